import PyProof.Rows.All
import Wide.All
import OpenK.AllK
import Wide.FinOn
import HandS.ForMost
import HandS.TupSets
import HandS.Conv
import HandS.Strs
import HandS.SortInts
import HandS.IsInst
import HandS.TupAny
import HandS.TupLen
import HandS.TupMul
import HandS.Deep
import HandS.Evl
import KE.GoesEnum
import KE.KDictDisplayH
import HandS.ExcInit
import HandS.ExcOwn
import HandS.ExcField
import HandS.TryOnly
import HandS.ForExc
import HandS.Small
import HandS.Property
import HandS.Lambda
import HandS.Nested
import KE.KDflt
import HandS.EndOwn
import HandS.NestedK
import HandS.Codes
import HandS.FStr
import HandS.WideBits
import PyProof.StrBlock2
import HandS.SortKw
import KE.SortCalls
import KE.SortData
import KE.SortKeyHeap
import KE.KSortKey
import HandS.Zip
import KE.DataMinMax
import HandS.Comp
import HandS.Exc
import PyProof.CompFree
import HandS.DictComp
import PyProof.Rows.StrJoinRep
import PySem.Challenge.RW_lockturns_k12_whole_texts
set_option Elab.async false
set_option linter.all false
set_option maxRecDepth 100000
set_option maxHeartbeats 4000000
/-! enumerate over a tuple, in a for -/
namespace LtR
open PySem PyProof.Rows
open AutoSeq1 (wpAny_loadPart')
theorem meets_enum1 {v : Value} {o : Obj} {H : Heap → Prop} (B : Begins v o H) :
    Meets (Builtin.«enumerate.__new__» ⟨[.type "enumerate", v], []⟩) (fun _ R s => H s.heap ∧
      R (.ok (.ret (.ref (s.heap.push o).objs.size))) { s with heap := (s.heap.push o).push { cls := .type "enumerate", data := .fields #[.none, .bool false, .ref s.heap.objs.size, rawInt 0, .none, .none] } }) :=
  .of_wp fun prog w A R s h => by
    obtain ⟨hp, g, d, tk, os⟩ := s
    obtain ⟨h1, h⟩ := h
    have hsub := sub_enumerate
    have q1 : ∀ {A' : Around} {E : Value → Shared → Prop} {Q : Value → Shared → Prop}, Q (.ref hp.objs.size) ⟨hp.push o, g, d, tk, os⟩ → wpAny (model prog w) A' (pyIter v) Q E ⟨hp, g, d, tk, os⟩ :=
      fun q => B.iter prog w _ _ ⟨hp, g, d, tk, os⟩ _ h1 q
    wp_walk using q1
    refine wpAny_stack_any fun st => wpAny_pure ?_
    split
    · rename_i c _ _ _ _ _
      cases (c == Value.type "enumerate")
      · wp_walk using q1
        exact ⟨_, rfl, h⟩
      · wp_walk using q1
        exact ⟨_, rfl, h⟩
    · wp_walk using q1
      exact ⟨_, rfl, h⟩
section
variable {prog : Program} {w : World} {A : Around} {E : Value → Shared → Prop} {s : Shared}
theorem enum1_begins {v : Value} {o : Obj} {H : Heap → Prop} {Q : Value → Shared → Prop} (B : Begins v o H) (h1 : H s.heap)
    (h : ∀ h', IsEnum h' (s.heap.objs.size + 1) s.heap.objs.size 0 .none → h'.get? s.heap.objs.size = some o → h'.objs.size = s.heap.objs.size + 2 →
      (∀ b o, s.heap.get? b = some o → h'.get? b = some o) → Q (.ref (s.heap.objs.size + 1)) { s with heap := h' }) :
    wpAny (model prog w) A (call (.type "enumerate") [v]) Q E s := by
  refine callType_new F.called_enumerate (by decide) (F.typeCall_enumerate_1 _) (F.newCall_enumerate_1 _) (fun obj => F.args_object_init_2 obj _) F.entry_enumerate_new
    (meets_enum1 B) ⟨h1, ?_⟩
  have hz : (s.heap.push o).objs.size = s.heap.objs.size + 1 := Heap.size_push ..
  show _ ∧ _
  rw [hz]
  have he : IsEnum ((s.heap.push o).push { cls := .type "enumerate", data := .fields #[.none, .bool false, .ref s.heap.objs.size, rawInt 0, .none, .none] }) (s.heap.objs.size + 1) s.heap.objs.size 0 .none := by
    have := Heap.get?_push_size (s.heap.push o) (o := { cls := .type "enumerate", data := .fields #[.none, .bool false, .ref s.heap.objs.size, rawInt 0, .none, .none] }) rfl
    rw [hz] at this; exact this
  refine ⟨⟨_, he, rfl⟩, h _ he (Heap.get?_push_of_some _ (Heap.get?_push_size _ B.free)) (by rw [Heap.size_push, hz]) fun b o x => Heap.get?_push_of_some _ (Heap.get?_push_of_some _ x)⟩
end
end LtR
namespace L2
open PySem PySem.Spec PyProof.Rows
/-- the tuple at a as it stands at each turn, each item in a new pair -/
def Itet (K : PySem.W.Frag) (a : Addr) : It :=
  ⟨fun i H => ∃ (xs : List V) (x : V), SqT K H a xs ∧ xs[i]? = some x, fun i H v H' => ∃ T x, v = .ref T ∧ H T = none ∧ H' = upd H T (.tup [.int (i : Nat), x]) ∧ ∀ xs, SqT K H a xs → xs[i]? = some x, fun i H => ∃ xs : List V, SqT K H a xs ∧ xs.length = i⟩
theorem turn_enumT {P : Program} {w : World} {K : PySem.W.Frag} {elts : List Expr} {kk : Nat} {tpos : Pos} (a e it : Addr) (hae : a ≠ e) (hai : a ≠ it) :
    Turn P w K (.Tuple elts kk tpos) (Itet K a) [e, it] e (fun i h => (∃ old, IsEnum h e it ((i : Nat) : Int) old) ∧ h.IsTupleIter it a i ∧ e ≠ it) where
  mem := by simp
  obj := fun i h st b hb => by
    obtain ⟨⟨old, he⟩, ⟨o, ho, hc, hd⟩, _⟩ := st
    have e' : b = e ∨ b = it := by simpa using hb
    rcases e' with z | z
    · rw [z]; exact ⟨_, he, fun v q => nomatch q⟩
    · rw [z]; exact ⟨o, ho, fun v q => by rw [hd] at q; cases q⟩
  keep := fun i h h' st k => let ⟨⟨old, he⟩, hi, hne⟩ := st; ⟨⟨old, k e (by simp) _ he⟩, hi.at fun o q => k it (by simp) o q, hne⟩
  item := by
    intro X hP hw hK hc i pins s σ H E I hf st hg
    subst hP hw hK
    obtain ⟨⟨old, he⟩, hit, hne⟩ := st
    obtain ⟨xs, x, hq, hx⟩ := hg
    obtain ⟨its, rv, p, hz⟩ := I.tuple hq
    obtain ⟨u, hu, ru⟩ := rv.get hx
    have hel : e < s.heap.objs.size := Heap.lt_size he
    have hil : it < s.heap.objs.size := by obtain ⟨_, q, _⟩ := hit; exact Heap.lt_size q
    have hu' : its.toArray[i]? = some u := by simpa using hu
    have hlt : i < its.toArray.size := (Array.getElem?_eq_some_iff.mp hu').1
    refine wpAny_pyNext_enum_itemD (Draws.tuple (prog := X.prog) (w := X.w) (A := X.A.in1) (I.ok.hd hc) it a hai its.toArray) he ⟨hit, (show s.heap.IsTuple a its.toArray from p)⟩ hlt hne (by simp [hne, Ne.symm hae]) fun x' h' tk hP ho hst' hT hsz hk => ?_
    have ex : x' = u := Option.some.inj ((show its.toArray[i]? = some x' from hP).symm.trans hu')
    subst ex
    obtain ⟨hit', hp'⟩ := hst'
    refine ⟨_, rfl, wpAny_letOwnedTupleGo_enum (s := { s with heap := h', toks := tk + 1 }) ho fun h'' he' sb => ?_⟩
    have hT2 : h''.get? s.heap.objs.size = some { cls := .type "tuple", data := .seq #[.int i tk, x'] } := (sb.2 _ (Nat.ne_of_gt hel)).trans hT
    have new : ObjOk X.prog X.w (upd H s.heap.objs.size (.tup [.int (i : Nat), x])) h'' s.heap.objs.size (.tup [.int (i : Nat), x]) :=
      ⟨by show 2 ≤ sizeLine; decide, [.int i tk, x'], .cons ⟨_, rfl⟩ (.cons ru .nil), ⟨_, hT2, rfl, _, rfl⟩⟩
    have I1 : Inv X pins σ (upd H s.heap.objs.size (.tup [.int (i : Nat), x])) { s with heap := h'', toks := tk + 1 } :=
      I.turnedNew (ch := [e, it]) (fun b ob hb q => (sb.2 b (fun z => hb (by simp [z]))).trans (hk b ob (fun z => hb (by simp [z])) (fun z => hb (by simp [z])) q)) hf (Nat.le_refl _) new
    refine ⟨.ref s.heap.objs.size, _, I1, rfl, ⟨_, x, rfl, I.hok.fresh (Nat.le_refl _), rfl, fun ys hy => by rw [I.tuple_inj hy hq]; exact hx⟩, ⟨⟨x', ?_⟩, hit'.at fun o q => (sb.2 it (Ne.symm hne)).trans q, hne⟩, fun b hb => ?_⟩
    · have e1 : ((i + 1 : Nat) : Int) = (i : Int) + 1 := by omega
      rw [e1]; exact he'
    · have hb' : b < s.heap.objs.size := by
        have e' : b = e ∨ b = it := by simpa using hb
        rcases e' with z | z
        · rw [z]; exact hel
        · rw [z]; exact hil
      rw [upd_ne (Nat.ne_of_lt hb')]
      exact (hf b hb).1
  done := by
    intro X hP hw hK hc i pins s σ H E I hf st hg
    subst hP hw hK
    obtain ⟨⟨old, he⟩, hit, hne⟩ := st
    obtain ⟨xs, hq, hx⟩ := hg
    obtain ⟨its, rv, p, hz⟩ := I.tuple hq
    obtain ⟨f0, f1, f2, f3, f4, f5⟩ := hf it (by simp)
    have hl := rv.length
    have hn : its.toArray.size = i := by simp; omega
    exact wpAny_pyNext_enum_endD (Draws.tuple (prog := X.prog) (w := X.w) (A := X.A.in1) (I.ok.hd hc) it a hai its.toArray) he (show s.heap.IsTupleIter it a its.toArray.size ∧ s.heap.IsTuple a its.toArray from ⟨by rw [hn]; exact hit, p⟩) fun h' eb => ⟨rfl, I.turned (t' := s.toks) (fun b o hb q => eb b o hb q) f0 f1 f3 f4 f5⟩
  self := fun A i s Q E st h => let ⟨⟨_, he⟩, _⟩ := st; wpAny_pyIter_enum he h
def iEnumT (K : PySem.W.Frag) (ta : TA) : TI := fun σ H R => ta σ H fun vs H1 => ∃ a xs, vs = [.ref a] ∧ SqT K H1 a xs ∧ R (Itet K a) H1
theorem pi_enumT {X : Cx} {e : Expr} {ta : TA} {p pos tpos : Pos} {elts : List Expr} {kk : Nat} (hg : Gl X "enumerate") (hm : X.mg "enumerate" = none) (ha : PA X [e] ta) (hs : starEach [e] X.env = [(false, eval e X.env)] := by rfl) :
    PI X (.Tuple elts kk tpos) (.Call (.Name "enumerate" p) [e] [] pos) (iEnumT X.K ta) := by
  refine ⟨fun pins s σ H R I h => ?_⟩
  refine Call_ (ld_blt I hg hm boot_enumerate (PyProof.Rows.callWith_type1 (thn (ha.run pos pins s σ H _ I h) fun us s1 ⟨vs, H1, I1, r1, q1⟩ => ?_) hs rfl))
  obtain ⟨a, xs, ex, hq, q⟩ := q1
  subst ex
  cases r1 with
  | cons r rr =>
    cases rr
    cases r
    obtain ⟨its, rv, p', hz⟩ := I1.tuple hq
    have hal : a < s1.heap.objs.size := by obtain ⟨_, e, _⟩ := p'; exact Heap.lt_size e
    refine LtR.enum1_begins (begins_tuple a its.toArray) (show s1.heap.IsTuple a its.toArray from p') fun h' he hit hsz hk => wpAny_pyIter_enum he ?_
    have I2 : Inv X pins σ H1 { s1 with heap := h' } := I1.kept (t' := s1.toks) hk
    refine ⟨s1.heap.objs.size + 1, [s1.heap.objs.size + 1, s1.heap.objs.size], _, _, H1, rfl, I2, turn_enumT a (s1.heap.objs.size + 1) s1.heap.objs.size (Nat.ne_of_lt (Nat.lt_succ_of_lt hal)) (Nat.ne_of_lt hal), ⟨⟨.none, he⟩, ⟨_, hit, rfl, rfl⟩, Nat.succ_ne_self _⟩, fun b hb => ?_, q⟩
    have e' : b = s1.heap.objs.size + 1 ∨ b = s1.heap.objs.size := by simpa using hb
    have hle : s1.heap.objs.size ≤ b := by
      rcases e' with z | z
      · rw [z]; exact Nat.le_add_right _ _
      · rw [z]; exact Nat.le_refl _
    exact I1.fpOk hle (I1.hok.fresh hle)
end L2

set_option Elab.async false
set_option linter.all false
set_option maxRecDepth 100000
set_option maxHeartbeats 4000000
/-! sorted of a dict whose keys are tuples of ints; sorted of a tuple of ints; tuple.index of ints; {tuple: v} -/
namespace L2
open PySem PySem.Spec PyProof.Rows
section
variable {X : Cx}
/-- t.index(i), the first place -/
theorem mt_tup_indexI : MtR X "tuple.index" (fun x xs H Q => ∃ p, ∃ ys : List Int, ∃ z j, x = .ref p ∧ xs = [.int z] ∧ SqT X.K H p (ys.map V.int) ∧ ys[j]? = some z ∧ (∀ m, m < j → ys[m]? ≠ some z) ∧ Q (.int (j : Nat)) H) := by
  intro pins s σ H x xs v us Q I rx rs h
  obtain ⟨p, ys, z, j, rfl, rfl, hq, hy, hno, q⟩ := h
  cases rx
  obtain ⟨u, rfl, t, rfl⟩ := vals1 rs
  obtain ⟨its, r, pl, hz⟩ := I.tuple hq
  obtain ⟨⟨cls, dd, dt, sl⟩, ho, hc, n, hd⟩ := pl
  simp only at hc hd
  subst hc
  subst hd
  have hl : its.toArray.size = ys.length := by rw [List.size_toArray, ← r.length, List.length_map]
  have hj : j < its.toArray.size := by rw [hl]; exact (List.getElem?_eq_some_iff.mp hy).1
  have at' : ∀ (m : Nat) (hm : m < its.toArray.size), ∃ y t', ys[m]? = some y ∧ its.toArray[m] = Value.int y t' := fun m hm => by
    have hm' : m < ys.length := by rw [← hl]; exact hm
    obtain ⟨w, hw, t', hw'⟩ := r.get (i := m) (x := .int ys[m]) (by simp [hm'])
    refine ⟨ys[m], t', List.getElem?_eq_getElem hm', ?_⟩
    have e := (List.getElem?_eq_some_iff.mp hw).2
    rw [← hw', ← e]
    simp
  have flat : (ys.map V.int).all flatV = true := by
    rw [List.all_map]
    exact List.all_eq_true.mpr fun _ _ => rfl
  refine call_meets PySem.F.slot_tuple_index ⟨_, ho, rfl⟩ PySem.F.entry_tuple_index (PySem.F.args_tuple_index_2 _ _) (TI.tuple_indexAt p its.toArray n dd sl (.int z t) (eqU (.int z)) j hj ?_ ?_)
    ⟨ho, fun w hw => mem_eqAt (x := .int z) ⟨t, rfl⟩ rfl r flat w (by simpa using hw), ⟨.int (j : Nat), H, I.tok _, ⟨_, rfl⟩, q⟩⟩
  · obtain ⟨y, t', h1, h2⟩ := at' j hj
    rw [hy] at h1
    cases h1
    rw [h2]
    show (z == z) = true
    exact beq_self_eq_true z
  · intro m hm hmj
    obtain ⟨y, t', h1, h2⟩ := at' m hm
    rw [h2]
    show (y == z) = false
    exact beq_eq_false_iff_ne.mpr fun e => hno m hmj (e ▸ h1)
/-- sorted(d), d a dict with fewer than 64 keys, all tuples of dd ints in [0, B) -/
def rSortDT (d : Nat) (B : Int) : List V → Hp → VK → Prop := fun vs H Q => ∃ (a : Addr) (kvs : List (List Key × V)) (ks : List (List Int)), vs = [V.ref a] ∧ Rd H a (.dT kvs) ∧ kvs.map (·.1) = ks.map (fun k => k.map Sum.inl) ∧ ks.length < 64 ∧ (∀ k ∈ ks, k.length = d ∧ TS.Bd B k) ∧
  ∀ (bs : List Addr) (ks' : List (List Int)) (p : Addr), ks'.Perm ks → ks'.Pairwise (fun x y => TS.code B x ≤ TS.code B y) → Paired (fun (b : Addr) k => H b = some (.tup (k.map V.int))) bs ks' → H p = none → Q (.ref p) (upd H p (.lst (bs.map V.ref)))
theorem kV_ints (k : List Int) : (k.map (Sum.inl : Int → Key)).map kV = k.map V.int := by
  rw [List.map_map]
  rfl
def refA : Value → Addr
  | .ref a => a
  | _ => 0
theorem keys_perm {H : Hp} : ∀ {kvs : List (List Key × V)} {xs : List (List Key × Addr × Value)} {ks : List (List Int)}, KT H kvs xs → kvs.map (·.1) = ks.map (fun k => k.map Sum.inl) →
    Paired (fun (u : Value) (k : List Int) => ∃ b, u = .ref b ∧ H b = some (.tup (k.map V.int))) (xs.map fun x => Value.ref x.2.1) ks
  | _, _, [], .nil, _ => .nil
  | _, _, [], .cons _ _, e => by simp at e
  | _, _, _ :: _, .nil, e => by simp at e
  | p :: ps, q :: qs, k :: ks, .cons h t, e => by
    rw [List.map_cons, List.map_cons] at e
    injection e with e1 e2
    refine .cons ⟨q.2.1, rfl, ?_⟩ (keys_perm t e2)
    have z := h.2.1
    rw [e1, kV_ints] at z
    exact z
theorem paired_map_eq {β γ : Type} {F : β → γ → Prop} {f : β → γ} (h : ∀ u k, F u k → f u = k) : ∀ {us : List β} {ks : List γ}, Paired F us ks → us.map f = ks
  | _, _, .nil => rfl
  | _, _, .cons r t => by rw [List.map_cons, h _ _ r, paired_map_eq h t]
theorem paired_mem_left {β γ : Type} {F : β → γ → Prop} : ∀ {us : List β} {ks : List γ}, Paired F us ks → ∀ u ∈ us, ∃ k ∈ ks, F u k
  | _, _, .nil, u, h => by cases h
  | _, _, .cons r t, u, h => by
    rcases List.mem_cons.mp h with e | h
    · subst e
      exact ⟨_, List.mem_cons_self, r⟩
    · obtain ⟨k, hk, f⟩ := paired_mem_left t u h
      exact ⟨k, List.mem_cons_of_mem _ hk, f⟩
theorem paired_of_map {β γ δ : Type} {F : γ → δ → Prop} {f : β → γ} {g : β → δ} : ∀ {us : List β}, (∀ u ∈ us, F (f u) (g u)) → Paired F (us.map f) (us.map g)
  | [], _ => .nil
  | u :: us, h => .cons (h u List.mem_cons_self) (paired_of_map fun v hv => h v (List.mem_cons_of_mem _ hv))
theorem cr_sortDT {d : Nat} {B : Int} (hc : X.calm = true) (hd1 : 1 ≤ d) : CallR X (.builtin "sorted") (rSortDT d B) := by
  intro pins s σ H xs us Q I r q
  obtain ⟨a, kvs, ks, rfl, hd, hks, h64, hB, q⟩ := q
  obtain ⟨u, eu, rx⟩ := vals1 r
  subst eu
  cases rx
  obtain ⟨z, lo, kx, pr, o, es, ep, ho, hx, hdt, he, hn⟩ := (show ObjOk X.prog X.w H s.heap a (.dT kvs) from hd.ok I.hok)
  have l1 : es.size = kx.length := size_of_entries he
  have l2 : kvs.length = kx.length := Paired.length pr
  refine Calls.call_function_entry PyProof.Rows.kind_sorted PyProof.Rows.plain_sorted PyProof.Rows.entry_sorted (PyProof.Rows.args_sorted1 _) ?_
  unfold Builtin.«sorted»
  refine wpAny_bind (m := checkCount "sorted" 1 1 _) (wpAny_pure ?_)
  refine wpAny_bind (PySem.W.kdu_collect (A := X.A.in1) (kdl_raw lo hx hdt) (I.ok.hd hc) ho (by omega) fun h' tk acc hk hacc => ?_)
  have ea : acc.toList = kx.map fun x => Value.ref x.2.1 := by
    have hl : acc.toList.length = kx.length := by rw [Array.length_toList, hacc.1]; exact l1
    apply List.ext_getElem?
    intro j
    rw [List.getElem?_map]
    cases hj : acc.toList[j]? with
    | none =>
      have h1 := List.getElem?_eq_none_iff.mp hj
      rw [List.getElem?_eq_none (by omega)]
      all_goals rfl
    | some v =>
      obtain ⟨en, hen, hv⟩ := hacc.2 j v (by rw [← Array.getElem?_toList]; exact hj)
      have qe := entry_at he j
      rw [hen] at qe
      cases hb : kx[j]? with
      | none =>
        rw [hb] at qe
        exact nomatch (show some en = none from qe)
      | some b =>
        rw [hb] at qe
        have e2 : en = entryOfKey (tupleKind (mixKind X.prog X.w)) b := Option.some.inj qe
        rw [hv, e2]
        all_goals rfl
  have I1 : Inv X pins σ H { s with heap := h', toks := tk } := I.kept hk
  have prk := keys_perm pr hks
  rw [← ea] at prk
  generalize acc.toList = vs at prk
  have hvl : vs.length = ks.length := Paired.length prk
  have tup : ∀ b (k : List Int), H b = some (.tup (k.map V.int)) → TS.TupInts h' (.ref b) k := fun b k e => tupI_raw I1 (SqT.of e)
  have hin : ∀ v ∈ vs, ∃ b k, k ∈ ks ∧ v = .ref b ∧ H b = some (.tup (k.map V.int)) := fun v hv => by
    obtain ⟨k, hk', b, e1, e2⟩ := paired_mem_left prk v hv
    exact ⟨b, k, hk', e1, e2⟩
  have hmap : vs.map (TS.intsOf h') = ks := paired_map_eq (fun u k h => by
    obtain ⟨b, e1, e2⟩ := h
    subst e1
    exact (tup b k e2).ints) prk
  refine wpAny_bind (wpAny_newList ?_ (by rw [hvl, sizeLine_eq]; omega))
  have hoL : (h'.push (seqObj "list" vs.toArray 0)).get? h'.objs.size = some (seqObj "list" vs.toArray 0) := Heap.get?_push_size _ rfl
  show wpAny _ _ _ _ _ { s with heap := h'.push (seqObj "list" vs.toArray 0), toks := tk }
  have keep : ∀ b u, h'.get? b = some u → (h'.push (seqObj "list" vs.toArray 0)).get? b = some u := fun b u e => Heap.get?_push_of_some _ e
  have I2 : Inv X pins σ H { s with heap := h'.push (seqObj "list" vs.toArray 0), toks := tk } := I1.kept (t' := tk) keep
  have tup2 : ∀ b (k : List Int), H b = some (.tup (k.map V.int)) → TS.TupInts (h'.push (seqObj "list" vs.toArray 0)) (.ref b) k := fun b k e => tupI_raw I2 (SqT.of e)
  have x : TS.TupsOk (h'.push (seqObj "list" vs.toArray 0)) d B vs := fun v hv => by
    obtain ⟨b, k, hk', e1, e2⟩ := hin v hv
    subst e1
    exact ⟨k, tup2 b k e2, (hB k hk').1, (hB k hk').2⟩
  refine wpAny_bind (wpAny_holding (TS.call_sort_tups (s := { s with heap := h'.push (seqObj "list" vs.toArray 0), toks := tk }) hoL (by rw [hvl]; exact h64) hd1 x fun out a1 a2 => ?_))
  obtain ⟨c, hcc⟩ := PyProof.Rows.sortedHeap_at (vs := vs) (out := out) hoL
  have hin' : ∀ v ∈ out.toList, ∃ b k, k ∈ ks ∧ v = .ref b ∧ H b = some (.tup (k.map V.int)) := fun v hv => hin v (a1.mem_iff.mp hv)
  have intz : ∀ v ∈ out.toList, TS.intsOf (h'.push (seqObj "list" vs.toArray 0)) v = TS.intsOf h' v := fun v hv => by
    obtain ⟨b, k, _, e1, e2⟩ := hin' v hv
    subst e1
    rw [(tup2 b k e2).ints, (tup b k e2).ints]
  have hn' : H h'.objs.size = none := I1.hok.fresh (Nat.le_refl _)
  have vr : Vals ((out.toList.map refA).map V.ref) out.toList := by
    have e : out.toList = (out.toList.map refA).map Value.ref := by
      rw [List.map_map]
      refine (List.map_id' out.toList).symm.trans (List.map_congr_left fun v hv => ?_)
      obtain ⟨b, k, _, e1, e2⟩ := hin' v hv
      subst e1
      rfl
    have z := vals_refs (out.toList.map refA)
    rw [← e] at z
    exact z
  have hlen : ((out.toList.map refA).map V.ref).length ≤ sizeLine := by
    rw [List.length_map, List.length_map, a1.length_eq, hvl, sizeLine_eq]
    omega
  refine wpAny_pure ⟨_, rfl, .ref h'.objs.size, upd H h'.objs.size (.lst ((out.toList.map refA).map V.ref)), I1.laid (t' := tk) (fun b u e => ?_) (Nat.le_refl _) ⟨hlen, out.toList, c, vr, hcc⟩, rfl, ?_⟩
  · have hlt : b < h'.objs.size := Heap.lt_size e
    show (PyProof.Rows.sortedHeap (h'.push (seqObj "list" vs.toArray 0)) h'.objs.size vs out).get? b = some u
    rw [PyProof.Rows.sortedHeap_old (Nat.ne_of_lt hlt) (by rw [PyProof.Rows.size_push']; exact Nat.lt_succ_of_lt hlt)]
    exact Heap.get?_push_of_some _ e
  · refine q (out.toList.map refA) (out.toList.map (TS.intsOf h')) h'.objs.size ?_ ?_ ?_ hn'
    · have z := a1.map (TS.intsOf h')
      rw [hmap] at z
      exact z
    · refine List.pairwise_map.mpr (List.Pairwise.imp_of_mem (fun {u v} hu hv h => ?_) a2)
      rw [← intz u hu, ← intz v hv]
      exact h
    · refine paired_of_map fun v hv => ?_
      obtain ⟨b, k, _, e1, e2⟩ := hin' v hv
      subst e1
      rw [(tup b k e2).ints]
      exact e2
/-- sorted(t), t a tuple of fewer than 64 ints -/
def rSortIT (K : PySem.W.Frag) : List V → Hp → VK → Prop := fun vs H Q => ∃ (a : Addr) (ns : List Int), vs = [V.ref a] ∧ SqT K H a (ns.map V.int) ∧ ns.length < 64 ∧
  ∀ (ns' : List Int) (p : Addr), ns'.Perm ns → ns'.Pairwise (· ≤ ·) → H p = none → Q (.ref p) (upd H p (.lst (ns'.map V.int)))
end
section
variable {prog : Program} {w : World} {A : Around} {E : Value → Shared → Prop} {s : Shared}
theorem collect_tup {l : Addr} {vs : List Value} {Q : List Value → Shared → Prop} (hl : s.heap.IsTuple l vs.toArray)
    (h : Q vs { s with heap := (s.heap.push (seqObj "list" #[] 0)).update s.heap.objs.size (Obj.mapSeq (· ++ vs.toArray)) }) (hsz : vs.length ≤ sizeLine) :
    wpAny (model prog w) A (collect (.ref l)) Q E s := by
  obtain ⟨o, ho, hc, n, hd⟩ := id hl
  unfold collect
  refine wpAny_bind (wpAny_runValue (codeAny_builtin entry_proto_collect' ?_))
  show wpAny _ _ (do again (.builtin "list.__iadd__" ⟨[← newList [], .ref l], []⟩)) _ _ s
  refine wpAny_bind (wpAny_newList (wpAny_pure ⟨Code.quiet_builtin _ (by decide +kernel), codeAny_builtin entry_list_iadd' ?_⟩))
  show wpAny _ _ (Builtin.List.listExtendWith (.ref s.heap.objs.size) (.ref l) (.ref s.heap.objs.size)) _ _ { s with heap := s.heap.push (seqObj "list" #[] 0) }
  unfold Builtin.List.listExtendWith
  have ho' : (s.heap.push (seqObj "list" #[] 0)).get? l = some o := Heap.get?_push_of_some _ ho
  refine wpAny_bind (wpAny_typeOf (T := "tuple") ⟨o, ho', hc⟩ ?_)
  have ht : (Value.type "tuple" == Value.type "tuple") = true := by rfl
  rw [if_pos (by rw [ht]; simp)]
  refine wpAny_bind (listItems_at ho' hd ?_)
  refine wpAny_bind (listItems_at (xs := #[]) (n := 0) (Heap.get?_push_size _ rfl) rfl ?_)
  rw [if_neg (by simp)]
  refine wpAny_bind (listUpdate_at (xs := #[]) (n := 0) (Heap.get?_push_size _ rfl) rfl ?_ (Nat.zero_le _) (by show (#[] ++ vs.toArray).size ≤ sizeLine + 1; simp only [Array.size_append, List.size_toArray, List.length_nil]; omega))
  refine wpAny_pure ?_
  show wpAny (model prog w) A (do
      let o ← load s.heap.objs.size
      match o.data with
      | .seq xs _ => pure xs.toList
      | _ => unsupported "internal:collect") Q E { s with heap := (s.heap.push (seqObj "list" #[] 0)).update s.heap.objs.size (Obj.mapSeq (· ++ vs.toArray)) }
  refine wpAny_bind (wpAny_load (get?_update_seq (Heap.get?_push_size _ rfl) _) ?_)
  show wpAny _ _ (pure ((#[] : Array Value) ++ vs.toArray).toList) Q E _
  rw [show ((#[] : Array Value) ++ vs.toArray).toList = vs by simp]
  exact wpAny_pure h
theorem sorted_tupI {l : Addr} {vs : List Value} {ns : List Int} {Q : Value → Shared → Prop} (hl : s.heap.IsTuple l vs.toArray) (hI : IntsAre vs ns) (h64 : vs.length < 64)
    (h : ∀ (out : Array Value) (ns' : List Int), IntsAre out.toList ns' → ns'.Perm ns → ns'.Pairwise (· ≤ ·) → Q (.ref (s.heap.objs.size + 1)) { s with heap := sortedAll s.heap vs out }) :
    wpAny (model prog w) A (call (.builtin "sorted") [.ref l]) Q E s := by
  refine Calls.call_function_entry kind_sorted plain_sorted entry_sorted (args_sorted1 _) ?_
  unfold Builtin.«sorted»
  refine wpAny_bind (m := checkCount "sorted" 1 1 _) (wpAny_pure ?_)
  refine wpAny_bind (collect_tup hl ?_ (by rw [sizeLine_eq]; omega))
  refine wpAny_bind (wpAny_newList ?_ (by rw [sizeLine_eq]; omega))
  have hsz : ((s.heap.push (seqObj "list" #[] 0)).update s.heap.objs.size (Obj.mapSeq (· ++ vs.toArray))).objs.size = s.heap.objs.size + 1 := by
    rw [Heap.size_update, size_push']
  have hoL : (((s.heap.push (seqObj "list" #[] 0)).update s.heap.objs.size (Obj.mapSeq (· ++ vs.toArray))).push (seqObj "list" vs.toArray 0)).get? (s.heap.objs.size + 1) = some (seqObj "list" vs.toArray 0) := by
    rw [← hsz]; exact Heap.get?_push_size _ rfl
  show wpAny _ _ _ _ _ { s with heap := ((s.heap.push (seqObj "list" #[] 0)).update s.heap.objs.size (Obj.mapSeq (· ++ vs.toArray))).push (seqObj "list" vs.toArray 0) }
  rw [hsz]
  refine wpAny_bind (wpAny_holding (wpAny_call_entry slot_list_sort ⟨_, hoL, rfl⟩ entry_list_sort (list_sort_tree hoL hI h64 fun out ns' a1 a2 a3 => ⟨_, rfl, ?_⟩) (args_list_sort _)))
  exact wpAny_pure ⟨_, rfl, h out ns' a1 a2 a3⟩
end
section
variable {X : Cx}
theorem cr_sortIT : CallR X (.builtin "sorted") (rSortIT X.K) := by
  intro pins s σ H vs us Q I r h
  obtain ⟨a, ns, rfl, hs, h64, q⟩ := h
  obtain ⟨its, rv, hl, _⟩ := I.tuple hs
  rw [Vals.ref1 r]
  have hi := rv.ints
  refine sorted_tupI hl hi (by rw [hi.length]; exact h64) fun out ns' h1 h2 h3 => ?_
  obtain ⟨ep, he'⟩ := PyProof.Rows.sortedAll_at s.heap its out
  have hlen : (ns'.map V.int).length ≤ sizeLine := by rw [List.length_map, h2.length_eq]; exact small64 h64
  exact ⟨.ref _, upd H (s.heap.objs.size + 1) (.lst (ns'.map V.int)), I.laid (t' := s.toks) (fun _ _ => PyProof.Rows.sortedAll_old) (Nat.le_succ _) ⟨hlen, out.toList, ep, vals_of_ints h1, he'⟩, rfl, q ns' _ h2 h3 (I.hok.fresh (Nat.le_succ _))⟩
/-- {k: v}, k a tuple of ints and texts -/
def tDispT (tk tv : TE) : TE := fun σ H Q => ∀ p, H p = none → tk σ (upd H p (.dT [])) fun x H1 => tv σ H1 fun y H2 => ∃ (b : Addr) (k : List Key), x = .ref b ∧ H2 p = some (.dT []) ∧ H2 b = some (.tup (k.map kV)) ∧ Q (.ref p) (upd H2 p (.dT [(k, y)]))
theorem pe_dispT {k v : Expr} {pos : Pos} {tk tv : TE} (hu : X.A.units + 1 < cLine) (hk : PE X k tk) (hv : PE X v tv) : PE X (.Dict [some k] [v] pos) (tDispT tk tv) := by
  refine ⟨fun pins s σ H Q I q => ?_⟩
  have hn := I.hok.fresh (Nat.le_refl s.heap.objs.size)
  have I1 := I.laid (a := s.heap.objs.size) (o := .dT []) (h' := s.heap.push { cls := .type "dict", data := .dict #[] }) (t' := s.toks) (fun _ _ q => Heap.get?_push_of_some _ q) (Nat.le_refl _) (dt_empty s.heap I.big)
  have hroom : (tupleKind (mixKind X.prog X.w)).room X.A := (show X.A.units < cLine by omega)
  rw [arm_eval_Dict, zip_pairTrees [some k] [v] X.env pos rfl rfl, dictDisplay_pairs (pairTrees [some k] [v] X.env pos) (by intro z; cases z) (by show 1 < 17; omega)]
  refine wpAny_bind (wpAny_standAt (wpAny_bind (wpAny_subDictH (knd := tupleKind (mixKind X.prog X.w)) (Q := fun d s' => wpAny (model X.prog X.w) X.A (pure (Value.ref d)) (EP X pins σ Q) X.xe s') hroom (by show 1 ≤ 15; omega) ?_)))
  refine pairTrees_cons_walk (thn (hk.run pins _ σ _ _ I1 (q _ hn)) fun u s1 ⟨x, H1, I2, rx, q1⟩ => thn (hv.run pins s1 σ H1 _ I2 q1) fun w2 s2 ⟨y, H2, I3, ry, q2⟩ => pairTrees_nil_walk ?_)
  obtain ⟨b, ks, rfl, hp, hb, qq⟩ := q2
  cases rx
  obtain ⟨z, hd, xs0, rel, dd⟩ := dt_of I3.hok hp
  cases rel
  refine ⟨[(ks, b, w2)], ⟨rfl, rfl, key_of I3.hok hb, trivial⟩, dd, fun h' tk' dd' hs => wpAny_pure ⟨.ref s.heap.objs.size, _, ?_, rfl, qq⟩⟩
  obtain ⟨o, es, ep, ho, h2, h3, h4, _, h5⟩ := dd'
  refine d_write I3 (by rw [hp]; exact True.intro) hs ⟨o, ho⟩ ⟨by show 1 ≤ sizeLine; decide, hd, [(ks, b, w2)], .cons ⟨rfl, ?_, ry⟩ .nil, o, es, ep, ho, h2, h3, h4, h5⟩
  rw [upd_ne (ne_of hb hp (fun z => nomatch z))]
  exact hb
end
end L2

set_option Elab.async false
set_option linter.all false
set_option maxRecDepth 100000
set_option maxHeartbeats 4000000
/-! the common ground: turns and locks in the heap, defs by name -/
namespace Lt
open PySem PySem.Spec PyProof.Rows L2
/-! ### heaps -/
theorem same_new {H : Hp} {p : Addr} {o : HO} (h : H p = none) : Same H (upd H p o) := fun b x e => by
  rw [upd_ne (ne_of_none e h)]
  exact e
/-- an object that H does not know may change -/
theorem same_mut {H H' : Hp} {p : Addr} {o : HO} (e : Same H H') (h : H p = none) : Same H (upd H' p o) := fun a u ha => by
  rw [upd_ne (ne_of_none ha h)]
  exact e a u ha
/-- the tuples stay -/
def Tm (H H' : Hp) : Prop := (∀ a xs, H a = some (.tup xs) → H' a = some (.tup xs)) ∧ ∀ a o xs, H a = some (.frz o (.tup xs)) → H' a = some (.frz o (.tup xs))
theorem Tm.refl (H : Hp) : Tm H H := ⟨fun _ _ h => h, fun _ _ _ h => h⟩
theorem Tm.trans {H H1 H2 : Hp} (a : Tm H H1) (b : Tm H1 H2) : Tm H H2 := ⟨fun c x h => b.1 c x (a.1 c x h), fun c o x h => b.2 c o x (a.2 c o x h)⟩
theorem Tm.of {H H' : Hp} (e : Same H H') : Tm H H' := ⟨fun a xs h => e a _ h, fun a o xs h => e a _ h⟩
/-- a tuple to be read: its object known or not -/
abbrev RT (H : Hp) (a : Addr) (xs : List V) : Prop := Rd H a (.tup xs)
theorem RT.tm {H H' : Hp} {a : Addr} {xs : List V} (h : RT H a xs) (e : Tm H H') : RT H' a xs := by
  rcases h with h | ⟨o, h⟩
  · exact .inl (e.1 _ _ h)
  · exact .inr ⟨o, e.2 _ _ _ h⟩
theorem RT.sm {H H' : Hp} {a : Addr} {xs : List V} (h : RT H a xs) (e : Same H H') : RT H' a xs := h.tm (.of e)
theorem RT.sq {K : PySem.W.Frag} {H : Hp} {a : Addr} {xs : List V} (h : RT H a xs) : SqT K H a xs := .inl h
/-- what is no tuple may change -/
theorem Tm.mut {H : Hp} {p : Addr} {o u : HO} (h : H p = some u) (hu : ∀ xs, u ≠ .tup xs) (hf : ∀ ob xs, u ≠ .frz ob (.tup xs)) : Tm H (upd H p o) :=
  ⟨fun a xs e => by rw [upd_ne (ne_of e h (fun z => hu xs z.symm))]; exact e, fun a ob xs e => by rw [upd_ne (ne_of e h (fun z => hf ob xs z.symm))]; exact e⟩
theorem Tm.lst {H : Hp} {p : Addr} {o : HO} {ys : List V} (h : H p = some (.lst ys)) : Tm H (upd H p o) := .mut h (fun _ z => nomatch z) fun _ _ z => nomatch z
theorem Tm.dT {H : Hp} {p : Addr} {o : HO} {ys : List (List Key × V)} (h : H p = some (.dT ys)) : Tm H (upd H p o) := .mut h (fun _ z => nomatch z) fun _ _ z => nomatch z
theorem Tm.new {H : Hp} {p : Addr} {o : HO} (h : H p = none) : Tm H (upd H p o) := .of (same_new h)

/-! ### turns: tuples of numbers -/
def nI (n : Nat) : V := .int (n : Int)
def nIs (t : List Nat) : List V := t.map nI
def TN (H : Hp) (v : V) (t : List Nat) : Prop := ∃ a, v = .ref a ∧ RT H a (nIs t)
/-- one that no dict refuses as a key -/
def TK (H : Hp) (v : V) (t : List Nat) : Prop := ∃ a, v = .ref a ∧ H a = some (.tup (nIs t))
theorem TK.tn {H : Hp} {v : V} {t : List Nat} (h : TK H v t) : TN H v t := let ⟨a, e, h⟩ := h; ⟨a, e, .inl h⟩
theorem TK.tm {H H' : Hp} {v : V} {t : List Nat} (e : Tm H H') (h : TK H v t) : TK H' v t := let ⟨a, ev, ha⟩ := h; ⟨a, ev, e.1 _ _ ha⟩
/-- a tuple of turns -/
def TT (H : Hp) (v : V) (ts : List (List Nat)) : Prop := ∃ a xs, v = .ref a ∧ H a = some (.tup xs) ∧ Paired (TN H) xs ts
/-- a list of turns at a -/
def LT (H : Hp) (a : Addr) (ts : List (List Nat)) : Prop := ∃ xs, H a = some (.lst xs) ∧ Paired (TN H) xs ts
theorem TN.tm {H H' : Hp} {v : V} {t : List Nat} (e : Tm H H') (h : TN H v t) : TN H' v t := let ⟨a, ev, ha⟩ := h; ⟨a, ev, ha.tm e⟩
theorem TNs.tm {H H' : Hp} (e : Tm H H') : ∀ {xs : List V} {ts : List (List Nat)}, Paired (TN H) xs ts → Paired (TN H') xs ts
  | _, _, .nil => .nil
  | _, _, .cons r t => .cons (r.tm e) (TNs.tm e t)
theorem TT.tm {H H' : Hp} {v : V} {t : List (List Nat)} (e : Tm H H') (h : TT H v t) : TT H' v t := let ⟨a, xs, ev, ha, p⟩ := h; ⟨a, xs, ev, e.1 _ _ ha, TNs.tm e p⟩
theorem LT.same {H H' : Hp} {v : Addr} {t : List (List Nat)} (e : Same H H') (h : LT H v t) : LT H' v t := let ⟨xs, ha, p⟩ := h; ⟨xs, e _ _ ha, TNs.tm (.of e) p⟩
theorem nIs_len (t : List Nat) : (nIs t).length = t.length := List.length_map ..
theorem nIs_get (t : List Nat) (i : Nat) : (nIs t)[i]? = (t[i]?).map nI := List.getElem?_map ..
theorem nIs_int (t : List Nat) : nIs t = (t.map Int.ofNat).map V.int := by
  unfold nIs
  rw [List.map_map]
  rfl
theorem nIs_key (t : List Nat) : nIs t = (t.map fun n : Nat => (Sum.inl (Int.ofNat n) : Key)).map kV := by
  unfold nIs
  rw [List.map_map]
  rfl
theorem Paired.getL {α β : Type} {F : α → β → Prop} : ∀ {xs : List α} {ys : List β} {i : Nat} {x : α}, Paired F xs ys → xs[i]? = some x → ∃ y, ys[i]? = some y ∧ F x y
  | _, _, _, _, .nil, e => by simp at e
  | _, _, 0, _, .cons r _, e => by simp at e; subst e; exact ⟨_, rfl, r⟩
  | _, _, i + 1, x, .cons _ t, e => by
    obtain ⟨u, h1, h2⟩ := Paired.getL (i := i) (x := x) t (by simpa using e)
    exact ⟨u, by simpa using h1, h2⟩
theorem Paired.getR {α β : Type} {F : α → β → Prop} : ∀ {xs : List α} {ys : List β} {i : Nat} {y : β}, Paired F xs ys → ys[i]? = some y → ∃ x, xs[i]? = some x ∧ F x y
  | _, _, _, _, .nil, e => by simp at e
  | _, _, 0, _, .cons r _, e => by simp at e; subst e; exact ⟨_, rfl, r⟩
  | _, _, i + 1, x, .cons _ t, e => by
    obtain ⟨u, h1, h2⟩ := Paired.getR (i := i) (y := x) t (by simpa using e)
    exact ⟨u, by simpa using h1, h2⟩
theorem Paired.app {α β : Type} {F : α → β → Prop} : ∀ {xs xs' : List α} {ys ys' : List β}, Paired F xs ys → Paired F xs' ys' → Paired F (xs ++ xs') (ys ++ ys')
  | _, _, _, _, .nil, h => h
  | _, _, _, _, .cons r t, h => .cons r (Paired.app t h)
theorem Paired.one {α β : Type} {F : α → β → Prop} {x : α} {y : β} (h : F x y) : Paired F [x] [y] := .cons h .nil
theorem Paired.tk {α β : Type} {F : α → β → Prop} : ∀ (n : Nat) {xs : List α} {ys : List β}, Paired F xs ys → Paired F (xs.take n) (ys.take n)
  | 0, _, _, _ => .nil
  | _ + 1, _, _, .nil => .nil
  | n + 1, _, _, .cons r t => .cons r (Paired.tk n t)
theorem Paired.dr {α β : Type} {F : α → β → Prop} : ∀ (n : Nat) {xs : List α} {ys : List β}, Paired F xs ys → Paired F (xs.drop n) (ys.drop n)
  | 0, _, _, h => h
  | _ + 1, _, _, .nil => .nil
  | n + 1, _, _, .cons r t => Paired.dr n t

/-! ### data for == and in -/
def dN (n : Nat) : PyData := .int (n : Int)
def dT (t : List Nat) : PyData := .tuple (t.map dN)
theorem dp_nats {K : PySem.W.Frag} {H : Hp} : ∀ t : List Nat, DpAll K H (nIs t) (t.map dN)
  | [] => .nil
  | n :: t => .cons (.int _) (dp_nats t)
theorem TN.dp {K : PySem.W.Frag} {H : Hp} {v : V} {t : List Nat} (h : TN H v t) : Dp K H v (dT t) := by
  obtain ⟨a, rfl, ha⟩ := h
  exact .tup ha.sq (dp_nats t)
theorem TNs.dp {K : PySem.W.Frag} {H : Hp} : ∀ {xs : List V} {ts : List (List Nat)}, Paired (TN H) xs ts → DpAll K H xs (ts.map dT)
  | _, _, .nil => .nil
  | _, _, .cons r t => .cons r.dp (TNs.dp t)
theorem TT.dp {K : PySem.W.Frag} {H : Hp} {v : V} {ts : List (List Nat)} (h : TT H v ts) : Dp K H v (.tuple (ts.map dT)) := by
  obtain ⟨a, xs, rfl, ha, p⟩ := h
  exact .tup (SqT.of ha) (TNs.dp p)
theorem LT.dp {K : PySem.W.Frag} {H : Hp} {a : Addr} {ts : List (List Nat)} (h : LT H a ts) : Dp K H (.ref a) (.list (ts.map dT)) := by
  obtain ⟨xs, ha, p⟩ := h
  exact .lst (SqL.of ha) (TNs.dp p)
theorem eqvAll_map {α : Type} [DecidableEq α] {f : α → PyData} (h : ∀ x y, PyData.eqv (f x) (f y) = decide (x = y)) : ∀ xs ys : List α, PyData.eqvAll (xs.map f) (ys.map f) = decide (xs = ys)
  | [], [] => by simp [PyData.eqvAll]
  | [], _ :: _ => by simp [PyData.eqvAll]
  | _ :: _, [] => by simp [PyData.eqvAll]
  | x :: xs, y :: ys => by
    rw [List.map_cons, List.map_cons, PyData.eqvAll, h, eqvAll_map h xs ys]
    by_cases e1 : x = y <;> by_cases e2 : xs = ys <;> simp [e1, e2]
theorem eqv_dN (a b : Nat) : PyData.eqv (dN a) (dN b) = decide (a = b) := by
  show ((a : Int) == (b : Int)) = decide (a = b)
  by_cases e : a = b
  · subst e; simp
  · rw [decide_eq_false e]
    exact beq_eq_false_iff_ne.mpr (by omega)
theorem eqv_dT (s t : List Nat) : PyData.eqv (dT s) (dT t) = decide (s = t) := by
  show PyData.eqvAll (s.map dN) (t.map dN) = _
  exact eqvAll_map eqv_dN s t
theorem eqv_dTT (s t : List (List Nat)) : PyData.eqv (.tuple (s.map dT)) (.tuple (t.map dT)) = decide (s = t) := by
  show PyData.eqvAll (s.map dT) (t.map dT) = _
  exact eqvAll_map eqv_dT s t
theorem depth_nats : ∀ t : List Nat, PyData.depthAll (t.map dN) = 0
  | [] => rfl
  | n :: t => by
    show max (PyData.depth (dN n)) (PyData.depthAll (t.map dN)) = 0
    rw [depth_nats t]
    rfl
theorem can_nats : ∀ t : List Nat, PyData.canLayAll0 (t.map dN) = true
  | [] => rfl
  | n :: t => by
    show (PyData.canLay0 (dN n) && PyData.canLayAll0 (t.map dN)) = true
    rw [can_nats t]
    rfl
theorem depth_turns : ∀ t : List (List Nat), PyData.depthAll (t.map dT) ≤ 1
  | [] => Nat.zero_le _
  | n :: t => by
    show max (PyData.depthAll (n.map dN) + 1) (PyData.depthAll (t.map dT)) ≤ 1
    rw [depth_nats n]
    have := depth_turns t
    omega
theorem can_turns : ∀ t : List (List Nat), PyData.canLayAll0 (t.map dT) = true
  | [] => rfl
  | n :: t => by
    show (PyData.canLayAll0 (n.map dN) && PyData.canLayAll0 (t.map dT)) = true
    rw [can_turns t, can_nats n]
    rfl
theorem sh_T (t : List Nat) : SeqAt.shaped (dT t) = true := by
  show (PyData.canLayAll0 (t.map dN) && decide (PyData.depthAll (t.map dN) + 1 ≤ 64)) = true
  rw [can_nats, depth_nats]
  rfl
theorem sh_TT (t : List (List Nat)) : SeqAt.shaped (.tuple (t.map dT)) = true := by
  show (PyData.canLayAll0 (t.map dT) && decide (PyData.depthAll (t.map dT) + 1 ≤ 64)) = true
  have := depth_turns t
  rw [can_turns, decide_eq_true (by omega)]
  rfl
theorem sh_LT (t : List (List Nat)) : SeqAt.shaped (.list (t.map dT)) = true := sh_TT t
theorem any_dT (ts : List (List Nat)) (t : List Nat) : ((ts.map dT).any fun z => PyData.eqv z (dT t)) = decide (t ∈ ts) := by
  induction ts with
  | nil => simp
  | cons a ts ih =>
    rw [List.map_cons, List.any_cons, ih, eqv_dT]
    by_cases e : a = t
    · subst e; simp
    · have e' : ¬ t = a := fun z => e z.symm
      simp [e, e']

/-! ### defs by name -/
section
variable (P : Program) (w : World) (K : PySem.W.Frag) (mg : Str → Option Value) (base : Heap)
/-- the def x of the module's top keeps the promise sp -/
def Has (CX : CXT) (k : Nat) (x : Str) (ps : List Str) (sp : Sp) : Prop :=
  ∃ (f : Addr) (fd : FuncData), mg x = some (.ref f) ∧ PySem.W.keepIn K (.ref f) = true ∧ Binds K fd ps [] ∧ FnOk P w K mg base CX k f fd ps sp
/-- the def x of the module's top is the statement st -/
def Top (x : Str) (st : Stmt) (ps : List Str) : Prop := ∃ (f : Addr) (fd : FuncData), mg x = some (.ref f) ∧ Fun K x x st f fd ∧ Binds K fd ps []
end
section
variable {P : Program} {w : World} {K : PySem.W.Frag} {mg : Str → Option Value} {base : Heap}
theorem Has.mono {CX : CXT} {j k : Nat} {x : Str} {ps : List Str} {sp : Sp} (h : Has P w K mg base CX j x ps sp) (l : j ≤ k) : Has P w K mg base CX k x ps sp :=
  let ⟨f, fd, a, b, c, d⟩ := h
  ⟨f, fd, a, b, c, d.mono l⟩
theorem Has.imp {CX : CXT} {k : Nat} {x : Str} {ps : List Str} {sp sp' : Sp} (h : Has P w K mg base CX k x ps sp) (i : ∀ vs H Q E, sp' vs H Q E → sp vs H Q E) : Has P w K mg base CX k x ps sp' :=
  let ⟨f, fd, a, b, c, d⟩ := h
  ⟨f, fd, a, b, c, d.imp i⟩
/-- THE RULE for a def that raises nothing -/
theorem Top.ok {x : Str} {st : Stmt} {N ps : List Str} {k : Nat} {sp : Sp} (T : Top K mg x st ps) (S : FnScope N ps (defScope st)) (len : ∀ vs H Q E, sp vs H Q E → vs.length = ps.length)
    (hbody : ∀ (f : Addr) (cdv : Value) (A : Around) (outer : List Env) (s : Shared) (H : Hp) (vs : List V) (Q : VK) (E : XK), Room k (A.deeper (envOfC x (defScope st) s.heap.objs.size f cdv)) → sp vs H Q E →
      ∃ t, PSs (cxOf CX0 P w K mg base N x (defScope st) f cdv A outer s H E).nox (defBody st) t ∧ t { nx := fun _ H' => Q .non H', rt := Q } (start N vs) H) : Has P w K mg base CX0 (k + 1) x ps sp := by
  obtain ⟨f, fd, hm, F, b⟩ := T
  exact ⟨f, fd, hm, F.kp, b, F.ok S len fun cdv A outer s H vs Q E hr h => hbody f cdv A outer s H vs Q E hr h⟩
end
/-- a call of such a def -/
theorem pe_has {X : Cx} {k : Nat} {x : Str} {ps : List Str} {sp : Sp} {e : Expr} {es : List Expr} {t : TA} {p pos : Pos} (h : Has X.prog X.w X.K X.mg X.base CX0 k x ps sp) (hr : Room k X.A) (hg : Gl X x) (ha : PA X (e :: es) t)
    (hdb : (x == ("__debug__" : Str)) = false := by decide) (he : starEach (e :: es) X.env = (false, eval e X.env) :: starEach es X.env := by rfl) (hpl : (backTo pos (starEach es X.env)).any (·.1) = false := by rfl) :
    PE X (.Call (.Name x p) (e :: es) [] pos) (tCall sp [] E0 t) := by
  obtain ⟨f, fd, hm, hk, hb, F⟩ := h
  exact pe_call F hr hg hm hk hb .nil pass0 ha hdb he hpl
end Lt

set_option Elab.async false
set_option linter.all false
set_option maxRecDepth 100000
set_option maxHeartbeats 4000000
/-! errors of the program's own -/
namespace L2
open PySem PySem.Spec PyProof.Rows
section
variable {X : Cx} {pos : Pos}
/-- X(), X an own exception class without own __init__ -/
theorem pmk_own0 {C : Addr} {bmB : List Value} {B newId initId : String} {x : Str} {p : Pos} (F : ExcBaseFacts B newId initId bmB) (q : PySem.W.excIn X.K C bmB newId = true) (gC : X.mg x = some (.ref C))
    (kC : PySem.W.keepIn X.K (.ref C) = true) (r : Raises X (.ref C)) (hg : Gl X x) (hdb : (x == ("__debug__" : Str)) = false := by decide) :
    PMk X (.Call (.Name x p) [] [] pos) (fun _ H Q => Q (.ref C) none H) := by
  intro pins s σ H Q I h
  refine wpAny_Call_Name_kw (ld_glob I hg gC ?_ hdb)
  refine PySem.W.callWith_K0 I.kIn kC ?_
  obtain ⟨bm, N, nm, qn, bs, hdct, sn, sub, ab, col, dd, k0, k1, k2, k3, k5, mN, hC, hN, hni, T⟩ := exc_obj I.kIn q
  exact wpAny_call_exc_subT F T hC hN hni (fun h' e hm => mk_of I hm r h (I.hok.gone hm.new)) (Nat.zero_le _)
end
end L2
namespace Lt
open PySem PySem.Spec PyProof.Rows L2
/-- __init__(self, f): self.f = f -/
def spInit (K : PySem.W.Frag) (fld : Str) : Sp := fun vs H Q _ => ∃ (a C : Addr) (v : V), vs = [.ref a, v] ∧ OexC K C ∧ PySem.W.findIn K (.ref C) fld = some none ∧ H a = some (exo a C none) ∧
  ∀ dx, H dx = none → dx ≠ a → Q .non (upd (upd H dx (exd dx [(fld, v)])) a (exo a C (some dx)))
section
variable (P : Program) (w : World) (K : PySem.W.Frag) (mg : Str → Option Value) (base : Heap)
/-- an own error class with the field fld, set by its __init__ -/
structure ErrI (x fld : Str) (C : Addr) : Prop where
  oex : OexC K C
  g : mg x = some (.ref C)
  no : PySem.W.findIn K (.ref C) fld = some none
  init : ∃ fI fd, PySem.W.findIn K (.ref C) "__init__" = some (some (.ref fI)) ∧ PySem.W.typeIn K (.ref fI) = some (.type "function") ∧ Binds K fd ["self", fld] [] ∧ FnOk P w K mg base CX0 1 fI fd ["self", fld] (spInit K fld)
  xf : XfC K C
  exm : PySem.W.exmOne K (.ref C) (.ref C) = some true
/-- one without -/
structure Err0 (x : Str) (C : Addr) : Prop where
  q : PySem.W.excIn K C [.type "ValueError", .type "Exception", .type "BaseException", .type "object"] "ValueError.__new__" = true
  g : mg x = some (.ref C)
  k : PySem.W.keepIn K (.ref C) = true
  exC : PySem.W.subIn K (.ref C) (.type "BaseException") = some true
  tyC : PySem.W.typeIn K (.ref C) = some (.type "type")
  exm : PySem.W.exmOne K (.ref C) (.ref C) = some true
end
/-- an error with its field lies behind H -/
def BadF (C : Addr) (fld : Str) (v : V) (H : Hp) (E : XK) : Prop := ∀ d H', Same H H' → H' d = some (.xd [(fld, v)]) → E (.ref C) (some d) H'
/-- an error without fields -/
def Bad0 (C : Addr) (H : Hp) (E : XK) : Prop := ∀ H', Same H H' → E (.ref C) none H'
theorem BadF.same {C : Addr} {fld : Str} {v : V} {H H' : Hp} {E : XK} (h : BadF C fld v H E) (s : Same H H') : BadF C fld v H' E := fun d H2 s2 => h d H2 (s.trans s2)
theorem Bad0.same {C : Addr} {H H' : Hp} {E : XK} (h : Bad0 C H E) (s : Same H H') : Bad0 C H' E := fun H2 s2 => h H2 (s.trans s2)
theorem mk_read {K : PySem.W.Frag} {C : Addr} {fld : Str} {v : V} {H1 : Hp} {Q : XK} (oex : OexC K C) (no : PySem.W.findIn K (.ref C) fld = some none) (h : BadF C fld v H1 Q) :
    [v].length ≤ 1000 ∧ ∀ a, H1 a = none → spInit K fld (.ref a :: ([v] ++ [])) (upd H1 a (exo a C none))
      (fun u H2 => u = .non ∧ ∃ (d : Addr) (fs : List (Str × V)), H2 a = some (exo a C (some d)) ∧ H2 d = some (exd d fs) ∧ H1 d = none ∧ Q (.ref C) (some d) (upd (del H2 a) d (.xd fs))) (fun _ _ _ => False) := by
  refine ⟨by show 1 ≤ 1000; omega, fun a ha => ⟨a, C, v, rfl, oex, no, upd_same, fun dx hdx hne => ⟨rfl, dx, [(fld, v)], upd_same, ?_, ?_, ?_⟩⟩⟩
  · rw [upd_ne hne, upd_same]
  · rw [upd_ne hne] at hdx
    exact hdx
  · rw [upd_ne hne] at hdx
    refine h dx _ (fun b o e => ?_) upd_same
    have h1 : b ≠ a := ne_of_none e ha
    have h2 : b ≠ dx := ne_of_none e hdx
    rw [upd_ne h2, del_ne h1, upd_ne h1, upd_ne h2, upd_ne h1]
    exact e
section
variable {X : Cx} {P : Program} {w : World} {K : PySem.W.Frag} {mg : Str → Option Value} {base : Heap}
/-- raise X(e) -/
theorem pmk_errI {x fld : Str} {C : Addr} {e : Expr} {ta : TA} {p pos : Pos} (T : ErrI X.prog X.w X.K X.mg X.base x fld C) (hr : Room 2 X.A) (hg : Gl X x) (ha : PA X [e] ta)
    (hdb : (x == ("__debug__" : Str)) = false := by decide) (he : starEach (e :: []) X.env = (false, eval e X.env) :: starEach [] X.env := by rfl) (hpl : (backTo pos (starEach [] X.env)).any (·.1) = false := by rfl) :
    PMk X (.Call (.Name x p) [e] [] pos) (tMkO C (spInit X.K fld) [] ta) := by
  obtain ⟨fI, fd, iC, tI, b, F⟩ := T.init
  exact pmk_oex T.oex iC tI F hr b .nil pass0 hg T.g ha hdb he hpl
theorem pmk_err0 {x : Str} {C : Addr} {p pos : Pos} (T : Err0 X.K X.mg x C) (hg : Gl X x) (hdb : (x == ("__debug__" : Str)) = false := by decide) :
    PMk X (.Call (.Name x p) [] [] pos) (fun _ H Q => Q (.ref C) none H) := pmk_own0 PySem.F.excBase_ValueError T.q T.g T.k (raises_own T.exC T.tyC) hg hdb
/-- THE RULE for a def that may raise -/
theorem Top.okX {x : Str} {st : Stmt} {N ps : List Str} {k : Nat} {sp : Sp} (T : Top K mg x st ps) (S : FnScope N ps (defScope st)) (len : ∀ vs H Q E, sp vs H Q E → vs.length = ps.length)
    (hbody : ∀ (f : Addr) (cdv : Value) (A : Around) (outer : List Env) (s : Shared) (H : Hp) (vs : List V) (Q : VK) (E : XK), Room k (A.deeper (envOfC x (defScope st) s.heap.objs.size f cdv)) → sp vs H Q E →
      ∃ t, PSs (cxOf (L2.CX P w) P w K mg base N x (defScope st) f cdv A outer s H E) (defBody st) t ∧ t { nx := fun _ H' => Q .non H', rt := Q } (start N vs) H) : Has P w K mg base (L2.CX P w) (k + 1) x ps sp := by
  obtain ⟨f, fd, hm, F, b⟩ := T
  exact ⟨f, fd, hm, F.kp, b, F.okX S len fun cdv A outer s H vs Q E hr h => hbody f cdv A outer s H vs Q E hr h⟩
/-- a call of a def that may raise, in a body that lets it out -/
theorem pe_hasX {k : Nat} {x : Str} {ps : List Str} {sp : Sp} {e : Expr} {es : List Expr} {t : TA} {p pos : Pos} {E : XK} (h : Has X.prog X.w X.K X.mg X.base (L2.CX X.prog X.w) k x ps sp) (hr : Room k X.A) (hg : Gl X x) (hx : Passes (L2.CX X.prog X.w) X E) (ha : PA X (e :: es) t)
    (hdb : (x == ("__debug__" : Str)) = false := by decide) (he : starEach (e :: es) X.env = (false, eval e X.env) :: starEach es X.env := by rfl) (hpl : (backTo pos (starEach es X.env)).any (·.1) = false := by rfl) :
    PE X (.Call (.Name x p) (e :: es) [] pos) (tCall sp [] E t) := by
  obtain ⟨f, fd, hm, hk, hb, F⟩ := h
  exact pe_call F hr hg hm hk hb .nil hx ha hdb he hpl
/-- the same where what is raised is caught around -/
theorem pe_hasS {k : Nat} {x : Str} {ps : List Str} {sp : Sp} {e : Expr} {es : List Expr} {t : TA} {p pos : Pos} {E : L2.St → XK} (h : Has X.prog X.w X.K X.mg X.base (L2.CX X.prog X.w) k x ps sp) (hr : Room k X.A) (hg : Gl X x) (hx : ∀ σ, PassesAt (L2.CX X.prog X.w) X σ (E σ)) (ha : PA X (e :: es) t)
    (hdb : (x == ("__debug__" : Str)) = false := by decide) (he : starEach (e :: es) X.env = (false, eval e X.env) :: starEach es X.env := by rfl) (hpl : (backTo pos (starEach es X.env)).any (·.1) = false := by rfl) :
    PE X (.Call (.Name x p) (e :: es) [] pos) (tCallS sp E t) := by
  obtain ⟨f, fd, hm, hk, hb, F⟩ := h
  exact pe_callS F hr hg hm hk hb hx ha hdb he hpl
end
/-- no error is wished for: the same def as one that raises nothing -/
theorem pe_hasL {X : Cx} {k : Nat} {x : Str} {ps : List Str} {sp : Sp} {e : Expr} {es : List Expr} {t : TA} {p pos : Pos} (h : Has X.prog X.w X.K X.mg X.base (L2.CX X.prog X.w) k x ps sp) (hr : Room k X.A) (hg : Gl X x) (ha : PA X (e :: es) t)
    (hdb : (x == ("__debug__" : Str)) = false := by decide) (he : starEach (e :: es) X.env = (false, eval e X.env) :: starEach es X.env := by rfl) (hpl : (backTo pos (starEach es X.env)).any (·.1) = false := by rfl) :
    PE X (.Call (.Name x p) (e :: es) [] pos) (tCall sp [] E0 t) := pe_hasX h hr hg passL ha hdb he hpl
end Lt

set_option linter.all false
set_option Elab.async false
/-! permutations as lists of numbers; the turns that given ones make -/
namespace Lt
def IsP (n : Nat) (t : List Nat) : Prop := t.Perm (List.range n)
instance (n : Nat) (t : List Nat) : Decidable (IsP n t) := inferInstanceAs (Decidable (t.Perm (List.range n)))
theorem IsP.len {n : Nat} {t : List Nat} (h : IsP n t) : t.length = n := by
  have e := List.Perm.length_eq h
  rw [List.length_range] at e
  exact e
theorem IsP.nd {n : Nat} {t : List Nat} (h : IsP n t) : t.Nodup := (List.Perm.nodup_iff h).mpr List.nodup_range
theorem IsP.mem {n : Nat} {t : List Nat} (h : IsP n t) {i : Nat} : i ∈ t ↔ i < n := (List.Perm.mem_iff h).trans List.mem_range
theorem IsP.lt {n : Nat} {t : List Nat} (h : IsP n t) : ∀ i ∈ t, i < n := fun i hi => h.mem.mp hi
theorem IsP.still (n : Nat) : IsP n (List.range n) := List.Perm.refl _
def prod (x y : List Nat) : List Nat := x.map fun i => y.getD i 0
theorem prod_len (x y : List Nat) : (prod x y).length = x.length := List.length_map ..
theorem map_getD_range : ∀ (y : List Nat), (List.range y.length).map (fun i => y.getD i 0) = y := fun y => by
  apply List.ext_getElem?
  intro i
  rw [List.getElem?_map]
  by_cases h : i < y.length
  · rw [List.getElem?_range h, Option.map_some, List.getD_eq_getElem?_getD, List.getElem?_eq_getElem h, Option.getD_some]
  · rw [List.getElem?_eq_none (by rw [List.length_range]; omega), List.getElem?_eq_none (by omega), Option.map_none]
theorem IsP.prod {n : Nat} {x y : List Nat} (hx : IsP n x) (hy : IsP n y) : IsP n (prod x y) := by
  have h : (Lt.prod x y).Perm ((List.range n).map fun i => y.getD i 0) := List.Perm.map _ hx
  have e := map_getD_range y
  rw [hy.len] at e
  rw [e] at h
  exact h.trans hy
theorem prod_still_l {n : Nat} {x : List Nat} (hx : x.length = n) : prod (List.range n) x = x := by
  subst hx
  exact map_getD_range x
theorem getD_range {n i : Nat} (h : i < n) : (List.range n).getD i 0 = i := by
  rw [List.getD_eq_getElem?_getD, List.getElem?_range h, Option.getD_some]
theorem prod_still_r {n : Nat} {x : List Nat} (hx : ∀ i ∈ x, i < n) : prod x (List.range n) = x := by
  unfold prod
  refine (List.map_congr_left (g := id) fun i hi => ?_).trans (List.map_id x)
  exact getD_range (hx i hi)
theorem prod_assoc {x y z : List Nat} (hx : ∀ i ∈ x, i < y.length) : prod (prod x y) z = prod x (prod y z) := by
  unfold prod
  rw [List.map_map]
  refine List.map_congr_left fun i hi => ?_
  show z.getD (y.getD i 0) 0 = (y.map fun i => z.getD i 0).getD i 0
  rw [List.getD_eq_getElem?_getD (l := y.map _), List.getElem?_map, List.getD_eq_getElem?_getD (l := y), List.getElem?_eq_getElem (hx i hi)]
  rfl
def inv (t : List Nat) : List Nat := (List.range t.length).map fun p => t.idxOf p
theorem inv_len (t : List Nat) : (inv t).length = t.length := by
  unfold inv
  rw [List.length_map, List.length_range]
theorem map_idxOf {t : List Nat} (h : t.Nodup) : t.map (fun p => t.idxOf p) = List.range t.length := by
  apply List.ext_getElem?
  intro i
  rw [List.getElem?_map]
  by_cases hi : i < t.length
  · rw [List.getElem?_range hi, List.getElem?_eq_getElem hi, Option.map_some, h.idxOf_getElem i hi]
  · rw [List.getElem?_eq_none (by omega), List.getElem?_eq_none (by rw [List.length_range]; omega), Option.map_none]
theorem IsP.inv {n : Nat} {t : List Nat} (h : IsP n t) : IsP n (inv t) := by
  have e := map_idxOf h.nd
  rw [h.len] at e
  have h2 : ((List.range n).map fun p => t.idxOf p).Perm (t.map fun p => t.idxOf p) := List.Perm.map _ (List.Perm.symm h)
  rw [e] at h2
  unfold IsP Lt.inv
  rw [h.len]
  exact h2
theorem prod_inv_r {n : Nat} {t : List Nat} (h : IsP n t) : prod t (inv t) = List.range n := by
  have e : prod t (inv t) = t.map fun p => t.idxOf p := by
    unfold prod
    refine List.map_congr_left fun p hp => ?_
    have hl : p < t.length := by rw [h.len]; exact h.lt p hp
    show ((List.range t.length).map fun p => t.idxOf p).getD p 0 = t.idxOf p
    rw [List.getD_eq_getElem?_getD, List.getElem?_map, List.getElem?_range hl]
    rfl
  rw [e, map_idxOf h.nd, h.len]
theorem prod_inv_l {n : Nat} {t : List Nat} (h : IsP n t) : prod (inv t) t = List.range n := by
  unfold prod inv
  rw [List.map_map, h.len]
  refine (List.map_congr_left (g := id) fun p hp => ?_).trans (List.map_id _)
  have hm : p ∈ t := h.mem.mpr (List.mem_range.mp hp)
  show t.getD (t.idxOf p) 0 = p
  rw [List.getD_eq_getElem?_getD, List.getElem?_eq_getElem (List.idxOf_lt_length_of_mem hm), Option.getD_some, List.getElem_idxOf]
theorem inv_unique {n : Nat} {a b : List Nat} (ha : IsP n a) (hb : IsP n b) (h : prod a b = List.range n) : b = inv a := by
  have h1 : prod (prod (inv a) a) b = prod (inv a) (prod a b) := prod_assoc fun i hi => by rw [ha.len]; exact ha.inv.lt i hi
  rw [prod_inv_l ha, h, prod_still_l hb.len, prod_still_r ha.inv.lt] at h1
  exact h1
theorem inv_prod {n : Nat} {a b : List Nat} (ha : IsP n a) (hb : IsP n b) : inv (prod a b) = prod (inv b) (inv a) := by
  refine (inv_unique (ha.prod hb) (hb.inv.prod ha.inv) ?_).symm
  rw [prod_assoc fun i hi => by rw [hb.len]; exact ha.lt i hi]
  rw [← prod_assoc (x := b) fun i hi => by rw [hb.inv.len]; exact hb.lt i hi, prod_inv_r hb, prod_still_l ha.inv.len, prod_inv_r ha]
/-! ### the turns that makers make, one behind another -/
abbrev W := List Nat × List Nat
/-- the words behind one turn with the makers gs, the first of which stands at place p -/
def grow (t w : List Nat) : List (List Nat) → Nat → List W → List W
  | [], _, L => L
  | g :: gs, p, L => grow t w gs (p + 1) (if prod t g ∈ L.map (·.1) then L else L ++ [(prod t g, w ++ [p])])
/-- the words when the first k have been gone through -/
def qq (gs : List (List Nat)) (n : Nat) : Nat → List W
  | 0 => [(List.range n, [])]
  | k + 1 => match (qq gs n k)[k]? with
    | none => qq gs n k
    | some (t, w) => grow t w gs 0 (qq gs n k)
theorem grow_pre (t w : List Nat) : ∀ (gs : List (List Nat)) (p : Nat) (L : List W), ∃ M, grow t w gs p L = L ++ M
  | [], _, L => ⟨[], (List.append_nil L).symm⟩
  | g :: gs, p, L => by
    show ∃ M, grow t w gs (p + 1) (if prod t g ∈ L.map (·.1) then L else L ++ [(prod t g, w ++ [p])]) = L ++ M
    split
    · exact grow_pre t w gs (p + 1) L
    · obtain ⟨M, e⟩ := grow_pre t w gs (p + 1) (L ++ [(prod t g, w ++ [p])])
      exact ⟨[(prod t g, w ++ [p])] ++ M, by rw [e, List.append_assoc]⟩
theorem qq_pre (gs : List (List Nat)) (n : Nat) : ∀ k, ∃ M, qq gs n (k + 1) = qq gs n k ++ M := fun k => by
  show ∃ M, (match (qq gs n k)[k]? with
    | none => qq gs n k
    | some (t, w) => grow t w gs 0 (qq gs n k)) = qq gs n k ++ M
  split
  · exact ⟨[], (List.append_nil _).symm⟩
  · exact grow_pre _ _ _ _ _
theorem qq_pre' (gs : List (List Nat)) (n k : Nat) : ∀ j, ∃ M, qq gs n (k + j) = qq gs n k ++ M
  | 0 => ⟨[], (List.append_nil _).symm⟩
  | j + 1 => by
    obtain ⟨M, e⟩ := qq_pre' gs n k j
    obtain ⟨M', e'⟩ := qq_pre gs n (k + j)
    exact ⟨M ++ M', by rw [← List.append_assoc, ← e, ← e']; rfl⟩
theorem qq_mono (gs : List (List Nat)) (n : Nat) {k m : Nat} (h : k ≤ m) : ∃ M, qq gs n m = qq gs n k ++ M := by
  obtain ⟨M, e⟩ := qq_pre' gs n k (m - k)
  rw [show k + (m - k) = m by omega] at e
  exact ⟨M, e⟩
/-- at the end nothing more comes -/
theorem qq_end (gs : List (List Nat)) (n : Nat) {k : Nat} (h : (qq gs n k).length ≤ k) : ∀ j, qq gs n (k + j) = qq gs n k
  | 0 => rfl
  | j + 1 => by
    have ih := qq_end gs n h j
    show (match (qq gs n (k + j))[k + j]? with
      | none => qq gs n (k + j)
      | some (t, w) => grow t w gs 0 (qq gs n (k + j))) = qq gs n k
    rw [ih, List.getElem?_eq_none (by omega)]
theorem qq_end' (gs : List (List Nat)) (n : Nat) {k m : Nat} (h : (qq gs n k).length ≤ k) (hm : k ≤ m) : qq gs n m = qq gs n k := by
  have e := qq_end gs n h (m - k)
  rw [show k + (m - k) = m by omega] at e
  exact e
theorem grow_keys (t w : List Nat) : ∀ (gs : List (List Nat)) (p : Nat) (L : List W) (x : List Nat), x ∈ (grow t w gs p L).map (·.1) ↔ x ∈ L.map (·.1) ∨ ∃ g ∈ gs, x = prod t g
  | [], _, L, x => by
    show x ∈ L.map (·.1) ↔ _
    simp
  | g :: gs, p, L, x => by
    show x ∈ (grow t w gs (p + 1) (if prod t g ∈ L.map (·.1) then L else L ++ [(prod t g, w ++ [p])])).map (·.1) ↔ _
    rw [grow_keys t w gs (p + 1)]
    split
    · rename_i h
      constructor
      · rintro (h1 | ⟨g', hg, e⟩)
        · exact .inl h1
        · exact .inr ⟨g', List.mem_cons_of_mem _ hg, e⟩
      · rintro (h1 | ⟨g', hg, e⟩)
        · exact .inl h1
        · rcases List.mem_cons.mp hg with z | hg
          · subst z
            rw [e]
            exact .inl h
          · exact .inr ⟨g', hg, e⟩
    · rw [List.map_append, List.mem_append]
      constructor
      · rintro ((h1 | h1) | ⟨g', hg, e⟩)
        · exact .inl h1
        · exact .inr ⟨g, List.mem_cons_self, List.mem_singleton.mp h1⟩
        · exact .inr ⟨g', List.mem_cons_of_mem _ hg, e⟩
      · rintro (h1 | ⟨g', hg, e⟩)
        · exact .inl (.inl h1)
        · rcases List.mem_cons.mp hg with z | hg
          · subst z
            exact .inl (.inr (List.mem_singleton.mpr e))
          · exact .inr ⟨g', hg, e⟩
theorem nodup_snoc {α : Type} {l : List α} {x : α} (h : l.Nodup) (hx : x ∉ l) : (l ++ [x]).Nodup :=
  List.nodup_append.mpr ⟨h, List.pairwise_singleton _ _, fun a ha b hb e => by
    rw [List.mem_singleton.mp hb] at e
    exact hx (e ▸ ha)⟩
theorem grow_nd (t w : List Nat) : ∀ (gs : List (List Nat)) (p : Nat) (L : List W), (L.map (·.1)).Nodup → ((grow t w gs p L).map (·.1)).Nodup
  | [], _, _, h => h
  | g :: gs, p, L, h => by
    refine grow_nd t w gs (p + 1) _ ?_
    split
    · exact h
    · rename_i hx
      rw [List.map_append]
      exact nodup_snoc h hx
theorem qq_nd (gs : List (List Nat)) (n : Nat) : ∀ k, ((qq gs n k).map (·.1)).Nodup
  | 0 => List.pairwise_singleton _ _
  | k + 1 => by
    show ((match (qq gs n k)[k]? with
      | none => qq gs n k
      | some (t, w) => grow t w gs 0 (qq gs n k)).map (fun x : W => x.1)).Nodup
    split
    · exact qq_nd gs n k
    · exact grow_nd _ _ _ _ _ (qq_nd gs n k)
/-- what the makers make -/
inductive Mk (gs : List (List Nat)) (n : Nat) : List Nat → Prop
  | still : Mk gs n (List.range n)
  | step {t g : List Nat} : Mk gs n t → g ∈ gs → Mk gs n (prod t g)
theorem Mk.isP {gs : List (List Nat)} {n : Nat} (hg : ∀ g ∈ gs, IsP n g) {t : List Nat} (h : Mk gs n t) : IsP n t := by
  induction h with
  | still => exact IsP.still n
  | step _ hm ih => exact ih.prod (hg _ hm)
theorem qq_mk (gs : List (List Nat)) (n : Nat) : ∀ k, ∀ t ∈ (qq gs n k).map (·.1), Mk gs n t
  | 0, t, h => by
    rw [List.mem_singleton.mp (show t ∈ [List.range n] from h)]
    exact .still
  | k + 1, t, h => by
    have ih := qq_mk gs n k
    have h' : t ∈ (match (qq gs n k)[k]? with
      | none => qq gs n k
      | some (t, w) => grow t w gs 0 (qq gs n k)).map (fun x : W => x.1) := h
    split at h'
    · exact ih t h'
    · rename_i t0 w0 e
      rcases (grow_keys t0 w0 gs 0 _ t).mp h' with z | ⟨g, hg, z⟩
      · exact ih t z
      · rw [z]
        exact .step (ih t0 (List.mem_map.mpr ⟨_, List.mem_of_getElem? e, rfl⟩)) hg
theorem qq_head (gs : List (List Nat)) (n k : Nat) : (List.range n, ([] : List Nat)) ∈ qq gs n k := by
  obtain ⟨M, e⟩ := qq_mono gs n (Nat.zero_le k)
  rw [e]
  exact List.mem_append.mpr (.inl (List.mem_singleton.mpr rfl))
/-- where the words are all gone through, they are all that is made -/
theorem qq_full {gs : List (List Nat)} {n k : Nat} (h : (qq gs n k).length ≤ k) : ∀ t, t ∈ (qq gs n k).map (·.1) ↔ Mk gs n t := fun t => by
  refine ⟨qq_mk gs n k t, fun m => ?_⟩
  induction m with
  | still => exact List.mem_map.mpr ⟨_, qq_head gs n k, rfl⟩
  | @step t g _ hg ih =>
    obtain ⟨⟨t', w'⟩, hm, e⟩ := List.mem_map.mp ih
    have e : t' = t := e
    subst e
    obtain ⟨i, hi, ei⟩ := List.getElem_of_mem hm
    -- position i was gone through at turn i
    have hk : i + 1 ≤ k := by omega
    obtain ⟨M, eM⟩ := qq_mono gs n hk
    obtain ⟨M0, eM0⟩ := qq_mono gs n (show i ≤ i + 1 by omega)
    by_cases hq : i < (qq gs n i).length
    · have g1 : (qq gs n i)[i]? = some (t', w') := by
        have z : (qq gs n k)[i]? = some (t', w') := by rw [List.getElem?_eq_getElem hi, ei]
        rw [eM, eM0, List.append_assoc, List.getElem?_append_left hq] at z
        exact z
      have g2 : qq gs n (i + 1) = grow t' w' gs 0 (qq gs n i) := by
        show (match (qq gs n i)[i]? with
          | none => qq gs n i
          | some (t, w) => grow t w gs 0 (qq gs n i)) = _
        rw [g1]
      rw [eM, List.map_append, List.mem_append]
      refine .inl ?_
      rw [g2]
      exact (grow_keys t' w' gs 0 _ _).mpr (.inr ⟨g, hg, rfl⟩)
    · have z := qq_end' gs n (show (qq gs n i).length ≤ i by omega) (show i ≤ k by omega)
      rw [z] at hi
      exact absurd hi hq
theorem nodup_len {α : Type} [DecidableEq α] : ∀ (l D : List α), l.Nodup → (∀ x ∈ l, x ∈ D) → l.length ≤ D.length
  | [], _, _, _ => Nat.zero_le _
  | x :: l, D, hn, hs => by
    obtain ⟨h1, h2⟩ := List.nodup_cons.mp hn
    have hx : x ∈ D := hs x List.mem_cons_self
    have ih := nodup_len l (D.erase x) h2 fun y hy => by
      have hne : y ≠ x := fun e => h1 (e ▸ hy)
      exact (List.mem_erase_of_ne hne).2 (hs y (List.mem_cons_of_mem _ hy))
    have e := List.length_erase_of_mem hx
    have hp : 0 < D.length := List.length_pos_of_mem hx
    show l.length + 1 ≤ D.length
    omega
/-- few turns are made: at most m -/
def Few (gs : List (List Nat)) (n m : Nat) : Prop := ∃ D : List (List Nat), D.length ≤ m ∧ ∀ t, Mk gs n t → t ∈ D
theorem Few.le {gs : List (List Nat)} {n m : Nat} (h : Few gs n m) {l : List (List Nat)} (hn : l.Nodup) (hl : ∀ t ∈ l, Mk gs n t) : l.length ≤ m := by
  obtain ⟨D, h1, h2⟩ := h
  exact Nat.le_trans (nodup_len l D hn fun t ht => h2 t (hl t ht)) h1
theorem Few.qq {gs : List (List Nat)} {n m : Nat} (h : Few gs n m) (k : Nat) : (qq gs n k).length ≤ m := by
  have z := h.le (qq_nd gs n k) (qq_mk gs n k)
  rw [List.length_map] at z
  exact z
end Lt

set_option Elab.async false
set_option linter.all false
set_option maxRecDepth 100000
set_option maxHeartbeats 4000000
namespace Lt
open PySem PySem.Spec PyProof.Rows L2
/-- the built-in names that the module leaves as they are -/
structure Bi (mg : Str → Option Value) : Prop where
  tuple : mg "tuple" = none
  list : mg "list" = none
  range : mg "range" = none
  len : mg "len" = none
  sorted : mg "sorted" = none
  enumerate : mg "enumerate" = none
  isinstance : mg "isinstance" = none
  all : mg "all" = none
  set : mg "set" = none
  int : mg "int" = none
  bool : mg "bool" = none
  str : mg "str" = none
/-! ### comprehensions -/
section
variable {K : PySem.W.Frag} {te : TE} {vs : List Nat} {σ : L2.St} {H1 : Hp} {D : Addr} {Qd : Hp → Prop} {β : Type} {j : Nat}
/-- what a comprehension's list holds after i turns -/
def Cm (H1 : Hp) (D : Addr) (R : Hp → V → β → Prop) (ys : List β) (i : Nat) (H : Hp) : Prop := Same H1 H ∧ ∃ zs, H D = some (.lst zs) ∧ Paired (R H) zs (ys.take i) ∧ zs.length ≤ i
theorem paired_mono {α γ : Type} {R R' : α → γ → Prop} (h : ∀ a b, R a b → R' a b) : ∀ {xs : List α} {ys : List γ}, Paired R xs ys → Paired R' xs ys
  | _, _, .nil => .nil
  | _, _, .cons r t => .cons (h _ _ r) (paired_mono h t)
theorem cm_turn {R : Hp → V → β → Prop} {ys : List β} {i : Nat} {H : Hp} {σ2 : L2.St} (mono : ∀ H H' v b, Tm H H' → R H v b → R H' v b) (hD : H1 D = none) (p : Cm H1 D R ys i H) (hi : i < 100000) {b : β} (hb : ys[i]? = some b)
    (he : ∀ H, Same H1 H → ∀ Q : VK, (∀ v H', Same H H' → R H' v b → Q v H') → te σ2 H Q) :
    te σ2 H fun y H4 => ∃ acc, H4 D = some (.lst acc) ∧ acc.length < sizeLine ∧ Cm H1 D R ys (i + 1) (upd H4 D (.lst (acc ++ [y]))) := by
  obtain ⟨sm, zs, hz, pr, hl⟩ := p
  refine he H sm _ fun v H4 s4 r => ?_
  have h4 := s4 _ _ hz
  have t4 : Tm H4 (upd H4 D (.lst (zs ++ [v]))) := Tm.lst h4
  refine ⟨zs, h4, Nat.lt_of_le_of_lt hl (Nat.lt_of_lt_of_le hi (by decide)), same_mut (sm.trans s4) hD, zs ++ [v], upd_same, ?_, by rw [List.length_append]; show zs.length + 1 ≤ i + 1; omega⟩
  rw [List.take_add_one, hb]
  exact Paired.app (paired_mono (fun a b q => mono _ _ _ _ ((Tm.of s4).trans t4) q) pr) (Paired.one (mono _ _ _ _ t4 r))
theorem lc_tupM {a : Addr} {xs : List V} (R : Hp → V → β → Prop) (ys : List β) (mono : ∀ H H' v b, Tm H H' → R H v b → R H' v b) (hx : SqT K H1 a xs) (hxK : ∀ H, Same H1 H → SqT K H a xs) (hz : xs.length ≤ 100000) (hy : ys.length = xs.length) (hD : H1 D = none)
    (hw : ∀ x, wipe ((wipe σ vs).set j (some x)) vs = wipe σ vs)
    (he : ∀ (i : Nat) (x : V) (b : β), xs[i]? = some x → ys[i]? = some b → ∀ H, Same H1 H → ∀ Q : VK, (∀ v H', Same H H' → R H' v b → Q v H') → te ((wipe σ vs).set j (some x)) H Q)
    (hd : ∀ H zs, Same H1 H → H D = some (.lst zs) → Paired (R H) zs ys → Qd H) :
    ∃ W : Nat → Nat → Hp → Prop, (∃ m, W 0 m (upd H1 D (.lst []))) ∧ ∀ i m H, W i m H →
      ((Itt K a).stop i H ∧ Qd H) ∨ ((Itt K a).go i H ∧ ∃ Nx : Hp → Prop, (∀ H', Nx H' → ∃ m', m' < m ∧ W (i + 1) m' H') ∧ ∀ x H', (Itt K a).yld i H x H' → gName j x (wipe σ vs) H' fun σ2 H2 => wipe σ2 vs = wipe σ vs ∧ tYes σ2 H2 fun b H3 =>
        if b = true then te σ2 H3 fun y H4 => ∃ acc, H4 D = some (.lst acc) ∧ acc.length < sizeLine ∧ Nx (upd H4 D (.lst (acc ++ [y]))) else Nx H3) :=
  lc_tup (xs := xs) (Cm H1 D R ys) ⟨same_new hD, [], upd_same, .nil, Nat.le_refl _⟩ (fun i H _ p => hxK H p.1)
    (fun i x H hi p => ⟨hw x, iteT (B := Cm H1 D R ys (i + 1) H) (by
      have hl := (List.getElem?_eq_some_iff.mp hi).1
      have hb : ys[i]? = some (ys[i]'(by omega)) := List.getElem?_eq_getElem (by omega)
      exact cm_turn mono hD p (by omega) hb (he i x _ hi hb))⟩)
    (fun H p => by
      obtain ⟨sm, zs, h1, pr, _⟩ := p
      rw [← hy, List.take_length] at pr
      exact hd H zs sm h1 pr)
theorem lc_listM {a : Addr} {xs : List V} (R : Hp → V → β → Prop) (ys : List β) (mono : ∀ H H' v b, Tm H H' → R H v b → R H' v b) (hxK : ∀ H, Same H1 H → SqL K H a xs) (hz : xs.length ≤ 100000) (hy : ys.length = xs.length) (hD : H1 D = none)
    (hw : ∀ x, wipe ((wipe σ vs).set j (some x)) vs = wipe σ vs)
    (he : ∀ (i : Nat) (x : V) (b : β), xs[i]? = some x → ys[i]? = some b → ∀ H, Same H1 H → ∀ Q : VK, (∀ v H', Same H H' → R H' v b → Q v H') → te ((wipe σ vs).set j (some x)) H Q)
    (hd : ∀ H zs, Same H1 H → H D = some (.lst zs) → Paired (R H) zs ys → Qd H) :
    ∃ W : Nat → Nat → Hp → Prop, (∃ m, W 0 m (upd H1 D (.lst []))) ∧ ∀ i m H, W i m H →
      ((Itl K a).stop i H ∧ Qd H) ∨ ((Itl K a).go i H ∧ ∃ Nx : Hp → Prop, (∀ H', Nx H' → ∃ m', m' < m ∧ W (i + 1) m' H') ∧ ∀ x H', (Itl K a).yld i H x H' → gName j x (wipe σ vs) H' fun σ2 H2 => wipe σ2 vs = wipe σ vs ∧ tYes σ2 H2 fun b H3 =>
        if b = true then te σ2 H3 fun y H4 => ∃ acc, H4 D = some (.lst acc) ∧ acc.length < sizeLine ∧ Nx (upd H4 D (.lst (acc ++ [y]))) else Nx H3) :=
  lc_list (xs := xs) (Cm H1 D R ys) ⟨same_new hD, [], upd_same, .nil, Nat.le_refl _⟩ (fun i H _ p => hxK H p.1)
    (fun i x H hi p => ⟨hw x, iteT (B := Cm H1 D R ys (i + 1) H) (by
      have hl := (List.getElem?_eq_some_iff.mp hi).1
      have hb : ys[i]? = some (ys[i]'(by omega)) := List.getElem?_eq_getElem (by omega)
      exact cm_turn mono hD p (by omega) hb (he i x _ hi hb))⟩)
    (fun H p => by
      obtain ⟨sm, zs, h1, pr, _⟩ := p
      rw [← hy, List.take_length] at pr
      exact hd H zs sm h1 pr)
theorem lc_rangeM {n : Nat} (R : Hp → V → β → Prop) (ys : List β) (mono : ∀ H H' v b, Tm H H' → R H v b → R H' v b) (hz : n ≤ 100000) (hy : ys.length = n) (hD : H1 D = none)
    (hw : ∀ x, wipe ((wipe σ vs).set j (some x)) vs = wipe σ vs)
    (he : ∀ (i : Nat) (b : β), i < n → ys[i]? = some b → ∀ H, Same H1 H → ∀ Q : VK, (∀ v H', Same H H' → R H' v b → Q v H') → te ((wipe σ vs).set j (some (.int ((0 : Int) + (i : Nat))))) H Q)
    (hd : ∀ H zs, Same H1 H → H D = some (.lst zs) → Paired (R H) zs ys → Qd H) :
    ∃ W : Nat → Nat → Hp → Prop, (∃ m, W 0 m (upd H1 D (.lst []))) ∧ ∀ i m H, W i m H →
      ((Itr 0 n).stop i H ∧ Qd H) ∨ ((Itr 0 n).go i H ∧ ∃ Nx : Hp → Prop, (∀ H', Nx H' → ∃ m', m' < m ∧ W (i + 1) m' H') ∧ ∀ x H', (Itr 0 n).yld i H x H' → gName j x (wipe σ vs) H' fun σ2 H2 => wipe σ2 vs = wipe σ vs ∧ tYes σ2 H2 fun b H3 =>
        if b = true then te σ2 H3 fun y H4 => ∃ acc, H4 D = some (.lst acc) ∧ acc.length < sizeLine ∧ Nx (upd H4 D (.lst (acc ++ [y]))) else Nx H3) :=
  lc_range (lo := 0) (n := n) (Cm H1 D R ys) ⟨same_new hD, [], upd_same, .nil, Nat.le_refl _⟩
    (fun i H hi p => ⟨hw _, iteT (B := Cm H1 D R ys (i + 1) H) (by
      have hb : ys[i]? = some (ys[i]'(by omega)) := List.getElem?_eq_getElem (by omega)
      exact cm_turn mono hD p (by omega) hb (he i _ hi hb))⟩)
    (fun H p => by
      obtain ⟨sm, zs, h1, pr, _⟩ := p
      rw [← hy, List.take_length] at pr
      exact hd H zs sm h1 pr)
end
/-- a new tuple of numbers -/
theorem tn_of {H : Hp} {zs : List V} {p : Addr} {t : List Nat} (h : H p = some (.tup zs)) (e : zs = nIs t) : TK H (.ref p) t := ⟨p, rfl, by rw [h, e]⟩
def RN (_ : Hp) (v : V) (n : Nat) : Prop := v = nI n
theorem RN.all {H : Hp} : ∀ {zs : List V} {t : List Nat}, Paired (RN H) zs t → zs = nIs t
  | _, _, .nil => rfl
  | _, _, .cons r t => by rw [(show _ = nI _ from r), RN.all t]; rfl
end Lt

set_option Elab.async false
set_option linter.all false
set_option maxRecDepth 100000
namespace Lt
open PySem PySem.Spec PyProof.Rows L2
def topS (i : Nat) : Stmt := PySem.Challenge.pw_lockturns_k12_whole_texts.main.body.getD i (.Pass ⟨0, 0, 0, 0⟩)
abbrev s_LockError : Stmt := topS 1
abbrev s_BadLock : Stmt := topS 2
abbrev s_BadRow : Stmt := topS 3
abbrev s_BadLine : Stmt := topS 4
abbrev s_TooMany : Stmt := topS 5
abbrev s_BadNumber : Stmt := topS 6
abbrev s_BadString : Stmt := topS 7
abbrev s_is_number : Stmt := topS 10
abbrev s_are_numbers : Stmt := topS 11
abbrev s_is_permutation : Stmt := topS 12
abbrev s_still_of : Stmt := topS 13
abbrev s_product_of : Stmt := topS 14
abbrev s_words_of : Stmt := topS 15
abbrev s_check_lock : Stmt := topS 20
abbrev s_made_words : Stmt := topS 21
abbrev s_is_turn : Stmt := topS 22
abbrev s_check_inputs : Stmt := topS 25
abbrev s_check_row : Stmt := topS 28
abbrev s_is_step : Stmt := topS 29
abbrev s_WordLine : Stmt := topS 31
abbrev s_write_lock : Stmt := topS 32
abbrev s_read_lock : Stmt := topS 33
abbrev s_write_row : Stmt := topS 34
abbrev s_read_row : Stmt := topS 35
abbrev s_told_step : Stmt := topS 36
abbrev s_check_text : Stmt := topS 37
abbrev s_spaced : Stmt := topS 38
abbrev s_words_in : Stmt := topS 39
abbrev s_worded_lines : Stmt := topS 40
abbrev s_law_taken : Stmt := topS 42
abbrev s_law_pick : Stmt := topS 43
abbrev s_law_alike : Stmt := topS 44
abbrev s_law_permutation : Stmt := topS 45
abbrev s_law_behind : Stmt := topS 46
abbrev s_law_span : Stmt := topS 47
abbrev s_law_known : Stmt := topS 48
abbrev s_law_lock : Stmt := topS 49
abbrev s_law_drawn_row : Stmt := topS 50
abbrev s_law_said_session : Stmt := topS 51
abbrev s_law_loose : Stmt := topS 52
abbrev s_law_bent : Stmt := topS 53
abbrev s_law_words : Stmt := topS 54
abbrev s_law_row_text : Stmt := topS 55
abbrev s_law : Stmt := topS 56
end Lt

set_option Elab.async false
set_option linter.all false
set_option maxRecDepth 100000
set_option maxHeartbeats 4000000
namespace Lt
open PySem PySem.Spec PyProof.Rows L2
section
variable {P : Program} {w : World} {K : PySem.W.Frag} {mg : Str → Option Value} {base : Heap}
/-! ### product_of -/
def spProd : Sp := fun vs H Q _ => ∃ (a b : V) (x y : List Nat), vs = [a, b] ∧ TN H a x ∧ TN H b y ∧ (∀ i ∈ x, i < y.length) ∧ x.length ≤ 1000 ∧ ∀ v H', Same H H' → TK H' v (prod x y) → Q v H'
theorem sc_product_of : FnScope ["one", "other", "place"] ["one", "other"] (defScope s_product_of) := ⟨rfl, rfl, rfl, by decide +kernel, rfl, by decide +kernel, by decide +kernel⟩
theorem has_product_of (T : Top K mg "product_of" s_product_of ["one", "other"]) (B : Bi mg) : Has P w K mg base CX0 1 "product_of" ["one", "other"] spProd := by
  refine T.ok sc_product_of (fun vs H Q E h => ?_) (fun f cdv A outer s H vs Q E hr h => ?_)
  · obtain ⟨a, b, x, y, rfl, _⟩ := h
    rfl
  · obtain ⟨a, b, x, y, rfl, ha, hb, hxy, hx, q⟩ := h
    refine ⟨_, pss_one (ps_ret (pe_tupleOf (by rfl) B.tuple (pe_lc (own := [("place", 2)]) (g := gName 2) (te := tOp (rIxT K) (tVar 1) (tVar 2)) (by rfl) sc_product_of.nd (pi_tup (pv 0)) (blkOk_by (own := [("place", 2)]) (N := ["one", "other", "place"]) (sc := defScope s_product_of) (by decide +kernel))
      (fun _ _ _ _ _ => pg_name (i := 2) sc_product_of.nd rfl (Or.inl rfl)) (fun _ _ _ _ _ => pts_nil) (fun _ _ _ _ _ => pe_ix ix_tup (pv 1) (pv 2) (fun _ _ => rfl))))), ?_⟩
    obtain ⟨pa, rfl, ea⟩ := ha
    obtain ⟨pb, rfl, eb⟩ := hb
    refine ⟨_, rfl, pa, rfl, ⟨_, ea.sq⟩, fun D hD => lc_tupM RN (prod x y) (fun _ _ _ _ _ r => r) (ea.sq) (fun H' sm => (ea.sm sm).sq) (by rw [nIs_len]; omega) (by rw [prod_len, nIs_len]) hD (fun x => rfl) (fun i v n hi hn H' sm Q' q' => ?_) (fun H' zs sm hz pr => ?_)⟩
    · rw [nIs_get] at hi
      obtain ⟨m, hm, rfl⟩ := Option.map_eq_some_iff.mp hi
      have hlt := hxy m (List.mem_of_getElem? hm)
      have e : n = y.getD m 0 := by
        have z : (prod x y)[i]? = some (y.getD m 0) := by
          unfold prod
          rw [List.getElem?_map, hm]
          rfl
        exact Option.some.inj (hn.symm.trans z)
      refine ⟨_, rfl, _, rfl, pb, _, _, nI n, rfl, rfl, (eb.sm sm).sq, atI_nat ?_, q' _ _ (Same.refl _) rfl⟩
      rw [nIs_get, e, List.getD_eq_getElem?_getD, List.getElem?_eq_getElem hlt]
      rfl
    · refine .inl ⟨D, zs, rfl, SqL.of hz, fun p hp => q _ _ (sm.trans (same_new hp)) (tn_of upd_same (RN.all pr))⟩
/-! ### still_of -/
def spStill : Sp := fun vs H Q _ => ∃ (n : Nat), vs = [nI n] ∧ n ≤ 1000 ∧ ∀ v H', Same H H' → TK H' v (List.range n) → Q v H'
theorem sc_still_of : FnScope ["size"] ["size"] (defScope s_still_of) := ⟨rfl, rfl, rfl, by decide +kernel, rfl, by decide +kernel, by decide +kernel⟩
theorem rgV_nat (n : Nat) : rgV 0 (n : Int) = nIs (List.range n) := by
  unfold rgV nIs
  have e : ((n : Int) - 0).toNat = n := by omega
  rw [e]
  refine List.map_congr_left fun i _ => ?_
  show V.int (0 + (i : Int)) = V.int (i : Int)
  rw [Int.zero_add]
theorem has_still_of (T : Top K mg "still_of" s_still_of ["size"]) (B : Bi mg) : Has P w K mg base CX0 1 "still_of" ["size"] spStill := by
  refine T.ok sc_still_of (fun vs H Q E h => ?_) (fun f cdv A outer s H vs Q E hr h => ?_)
  · obtain ⟨n, rfl, _⟩ := h
    rfl
  · obtain ⟨n, rfl, hn, q⟩ := h
    refine ⟨_, pss_one (ps_ret (pe_tupRg (by rfl) (by rfl) B.tuple (prg_1 (by rfl) B.range (pv 0)))), ?_⟩
    refine ⟨_, rfl, _, rfl, .of_le (by omega) (by omega) (by omega) (by omega), fun p hp => q _ _ (same_new hp) (tn_of upd_same (rgV_nat n))⟩
end
end Lt

set_option Elab.async false
set_option linter.all false
set_option maxRecDepth 100000
set_option maxHeartbeats 4000000
namespace Lt
open PySem PySem.Spec PyProof.Rows L2
/-! ### any plain value -/
mutual
inductive Rp (H : Hp) : V → PyData → Prop
  | non : Rp H .non .none
  | bl (b : Bool) : Rp H (.bl b) (.bool b)
  | int (i : Int) : Rp H (.int i) (.int i)
  | str (x : Str) : Rp H (.str x) (.str x)
  | lst {a : Addr} {xs : List V} {ds : List PyData} : H a = some (.lst xs) → RpAll H xs ds → Rp H (.ref a) (.list ds)
  | tup {a : Addr} {xs : List V} {ds : List PyData} : RT H a xs → RpAll H xs ds → Rp H (.ref a) (.tuple ds)
inductive RpAll (H : Hp) : List V → List PyData → Prop
  | nil : RpAll H [] []
  | cons {v : V} {vs : List V} {d : PyData} {ds : List PyData} : Rp H v d → RpAll H vs ds → RpAll H (v :: vs) (d :: ds)
end
mutual
theorem Rp.same {H H' : Hp} (e : Same H H') : ∀ (d : PyData) (v : V), Rp H v d → Rp H' v d
  | .none, _, .non => .non
  | .bool _, _, .bl b => .bl b
  | .int _, _, .int i => .int i
  | .str _, _, .str i => .str i
  | .list ds, _, .lst h a => .lst (e _ _ h) (RpAll.same e ds _ a)
  | .tuple ds, _, .tup h a => .tup (h.sm e) (RpAll.same e ds _ a)
theorem RpAll.same {H H' : Hp} (e : Same H H') : ∀ (ds : List PyData) (vs : List V), RpAll H vs ds → RpAll H' vs ds
  | [], _, .nil => .nil
  | d :: ds, _, .cons r t => .cons (Rp.same e d _ r) (RpAll.same e ds _ t)
end
mutual
theorem Rp.dp {K : PySem.W.Frag} {H : Hp} : ∀ (d : PyData) (v : V), Rp H v d → Dp K H v d
  | .none, _, .non => .non
  | .bool _, _, .bl b => .bl b
  | .int _, _, .int i => .int i
  | .str _, _, .str i => .str i
  | .list ds, _, .lst h a => .lst (SqL.of h) (RpAll.dp ds _ a)
  | .tuple ds, _, .tup h a => .tup h.sq (RpAll.dp ds _ a)
theorem RpAll.dp {K : PySem.W.Frag} {H : Hp} : ∀ (ds : List PyData) (vs : List V), RpAll H vs ds → DpAll K H vs ds
  | [], _, .nil => .nil
  | d :: ds, _, .cons r t => .cons (Rp.dp d _ r) (RpAll.dp ds _ t)
end
theorem RpAll.get {H : Hp} : ∀ {ds : List PyData} {vs : List V} {i : Nat} {v : V}, RpAll H vs ds → vs[i]? = some v → ∃ d, ds[i]? = some d ∧ Rp H v d
  | _, _, _, _, .nil, e => by simp at e
  | _, _, 0, _, .cons r _, e => by
    have e := Option.some.inj e
    subst e
    exact ⟨_, rfl, r⟩
  | _, _, i + 1, v, .cons _ t, e => by
    obtain ⟨d, h1, h2⟩ := RpAll.get (i := i) (v := v) t (by simpa using e)
    exact ⟨d, by simpa using h1, h2⟩
theorem RpAll.len {H : Hp} : ∀ {ds : List PyData} {vs : List V}, RpAll H vs ds → vs.length = ds.length
  | _, _, .nil => rfl
  | _, _, .cons _ t => by rw [List.length_cons, List.length_cons, RpAll.len t]
theorem rp_nats {H : Hp} : ∀ t : List Nat, RpAll H (nIs t) (t.map dN)
  | [] => .nil
  | n :: t => .cons (.int _) (rp_nats t)
theorem TN.rp {H : Hp} {v : V} {t : List Nat} (h : TN H v t) : Rp H v (dT t) := by
  obtain ⟨a, rfl, ha⟩ := h
  exact .tup ha (rp_nats t)
theorem TNs.rp {H : Hp} : ∀ {xs : List V} {ts : List (List Nat)}, Paired (TN H) xs ts → RpAll H xs (ts.map dT)
  | _, _, .nil => .nil
  | _, _, .cons r t => .cons r.rp (TNs.rp t)
theorem TT.rp {H : Hp} {v : V} {ts : List (List Nat)} (h : TT H v ts) : Rp H v (.tuple (ts.map dT)) := by
  obtain ⟨a, xs, rfl, ha, p⟩ := h
  exact .tup (.inl ha) (TNs.rp p)
def tyN : PyData → String
  | .none => "NoneType"
  | .bool _ => "bool"
  | .int _ => "int"
  | .str _ => "str"
  | .list _ => "list"
  | .tuple _ => "tuple"
  | .dict _ => "dict"
theorem rp_ty {K : PySem.W.Frag} {H : Hp} {v : V} {d : PyData} (h : Rp H v d) : TyX K H v (.type (tyN d)) := by
  cases h with
  | non => exact .base .non
  | bl b => exact .base (.bl b)
  | int b => exact .base (.int b)
  | str b => exact .base (.str b)
  | lst h _ => exact .base (.lst h)
  | tup h _ =>
    rcases h with h | ⟨o, h⟩
    · exact .base (.tup h)
    · exact .fTuple h
def isIntB : PyData → Bool
  | .int _ => true
  | .bool _ => true
  | _ => false
def isBl : PyData → Bool
  | .bool _ => true
  | _ => false
def isTup : PyData → Bool
  | .tuple _ => true
  | _ => false
def isLst : PyData → Bool
  | .list _ => true
  | _ => false
def isStr : PyData → Bool
  | .str _ => true
  | _ => false
def isNum : PyData → Bool
  | .int _ => true
  | _ => false
theorem kit_int : ∀ d : PyData, kitB (tyN d) "int" = some (isIntB d)
  | .none => (by decide +kernel : kitB "NoneType" "int" = some false)
  | .bool _ => (by decide +kernel : kitB "bool" "int" = some true)
  | .int _ => (by decide +kernel : kitB "int" "int" = some true)
  | .str _ => (by decide +kernel : kitB "str" "int" = some false)
  | .list _ => (by decide +kernel : kitB "list" "int" = some false)
  | .tuple _ => (by decide +kernel : kitB "tuple" "int" = some false)
  | .dict _ => (by decide +kernel : kitB "dict" "int" = some false)
theorem kit_bool : ∀ d : PyData, kitB (tyN d) "bool" = some (isBl d)
  | .none => (by decide +kernel : kitB "NoneType" "bool" = some false)
  | .bool _ => (by decide +kernel : kitB "bool" "bool" = some true)
  | .int _ => (by decide +kernel : kitB "int" "bool" = some false)
  | .str _ => (by decide +kernel : kitB "str" "bool" = some false)
  | .list _ => (by decide +kernel : kitB "list" "bool" = some false)
  | .tuple _ => (by decide +kernel : kitB "tuple" "bool" = some false)
  | .dict _ => (by decide +kernel : kitB "dict" "bool" = some false)
theorem kit_tup : ∀ d : PyData, kitB (tyN d) "tuple" = some (isTup d)
  | .none => (by decide +kernel : kitB "NoneType" "tuple" = some false)
  | .bool _ => (by decide +kernel : kitB "bool" "tuple" = some false)
  | .int _ => (by decide +kernel : kitB "int" "tuple" = some false)
  | .str _ => (by decide +kernel : kitB "str" "tuple" = some false)
  | .list _ => (by decide +kernel : kitB "list" "tuple" = some false)
  | .tuple _ => (by decide +kernel : kitB "tuple" "tuple" = some true)
  | .dict _ => (by decide +kernel : kitB "dict" "tuple" = some false)
theorem kit_lst : ∀ d : PyData, kitB (tyN d) "list" = some (isLst d)
  | .none => (by decide +kernel : kitB "NoneType" "list" = some false)
  | .bool _ => (by decide +kernel : kitB "bool" "list" = some false)
  | .int _ => (by decide +kernel : kitB "int" "list" = some false)
  | .str _ => (by decide +kernel : kitB "str" "list" = some false)
  | .list _ => (by decide +kernel : kitB "list" "list" = some true)
  | .tuple _ => (by decide +kernel : kitB "tuple" "list" = some false)
  | .dict _ => (by decide +kernel : kitB "dict" "list" = some false)
theorem kit_str : ∀ d : PyData, kitB (tyN d) "str" = some (isStr d)
  | .none => (by decide +kernel : kitB "NoneType" "str" = some false)
  | .bool _ => (by decide +kernel : kitB "bool" "str" = some false)
  | .int _ => (by decide +kernel : kitB "int" "str" = some false)
  | .str _ => (by decide +kernel : kitB "str" "str" = some true)
  | .list _ => (by decide +kernel : kitB "list" "str" = some false)
  | .tuple _ => (by decide +kernel : kitB "tuple" "str" = some false)
  | .dict _ => (by decide +kernel : kitB "dict" "str" = some false)
theorem rr_ty (n : String) : RelV (.ty n) (.type n) := rfl
section
variable {P : Program} {w : World} {K : PySem.W.Frag} {mg : Str → Option Value} {base : Heap}
/-! ### is_number -/
def spNum : Sp := fun vs H Q _ => ∃ (v : V) (d : PyData), vs = [v] ∧ Rp H v d ∧ Q (.bl (isNum d)) H
theorem sc_is_number : FnScope ["value"] ["value"] (defScope s_is_number) := ⟨rfl, rfl, rfl, by decide +kernel, rfl, by decide +kernel, by decide +kernel⟩
theorem has_is_number (T : Top K mg "is_number" s_is_number ["value"]) (B : Bi mg) : Has P w K mg base CX0 1 "is_number" ["value"] spNum := by
  refine T.ok sc_is_number (fun vs H Q E h => ?_) (fun f cdv A outer s H vs Q E hr h => ?_)
  · obtain ⟨v, d, rfl, _⟩ := h
    rfl
  · obtain ⟨v, d, rfl, hd, q⟩ := h
    refine ⟨_, pss_one (ps_ret (pe_and (pe_callB call_isi (by rfl) B.isinstance PyProof.Rows.boot_isinstance (pa_cons (pv 0) (pa_cons (pe_bltn (by rfl) B.int PyProof.Rows.boot_int (rr_ty "int")) pa_nil)))
      (pe_one (pe_not (pe_callB call_isi (by rfl) B.isinstance PyProof.Rows.boot_isinstance (pa_cons (pv 0) (pa_cons (pe_bltn (by rfl) B.bool PyProof.Rows.boot_bool (rr_ty "bool")) pa_nil))))))), ?_⟩
    refine ⟨_, rfl, v, .ty "int", _, _, isIntB d, rfl, .ty _, rp_ty hd, kit_ty (kit_int d), isIntB d, rfl, ite2 (fun h => ?_) (fun h => ?_)⟩
    · refine ⟨_, rfl, v, .ty "bool", _, _, isBl d, rfl, .ty _, rp_ty hd, kit_ty (kit_bool d), isBl d, rfl, ?_⟩
      have e : (!isBl d) = isNum d := by cases d <;> first | rfl | cases h
      show Q (.bl (!isBl d)) H
      rw [e]
      exact q
    · have e : false = isNum d := by cases d <;> first | rfl | exact absurd rfl h
      show Q (.bl false) H
      rw [e]
      exact q
end
end Lt

set_option Elab.async false
set_option linter.all false
set_option maxRecDepth 100000
set_option maxHeartbeats 4000000
namespace Lt
open PySem PySem.Spec PyProof.Rows L2
section
variable {P : Program} {w : World} {K : PySem.W.Frag} {mg : Str → Option Value} {base : Heap}
/-! ### are_numbers -/
def isNums : PyData → Bool
  | .tuple ds => ds.all isNum
  | _ => false
def spNums : Sp := fun vs H Q _ => ∃ (v : V) (d : PyData), vs = [v] ∧ Rp H v d ∧ (∀ ds, d = .tuple ds → ds.length ≤ 1000) ∧ ∀ H', Same H H' → Q (.bl (isNums d)) H'
theorem sc_are_numbers : FnScope ["value", "part"] ["value"] (defScope s_are_numbers) := ⟨rfl, rfl, rfl, by decide +kernel, rfl, by decide +kernel, by decide +kernel⟩
theorem bls_of : ∀ {zs : List V} {bs : List Bool}, Paired (fun v b => v = V.bl b) zs bs → zs = bs.map V.bl
  | _, _, .nil => rfl
  | _, _, .cons r t => by rw [r, bls_of t]; rfl
theorem has_are_numbers (T : Top K mg "are_numbers" s_are_numbers ["value"]) (B : Bi mg) (hN : Has P w K mg base CX0 1 "is_number" ["value"] spNum) : Has P w K mg base CX0 2 "are_numbers" ["value"] spNums := by
  refine T.ok sc_are_numbers (fun vs H Q E h => ?_) (fun f cdv A outer s H vs Q E hr h => ?_)
  · obtain ⟨v, d, rfl, _⟩ := h
    rfl
  · obtain ⟨v, d, rfl, hd, hl, q⟩ := h
    refine ⟨_, pss_one (ps_ret (pe_and (pe_callB call_isi (by rfl) B.isinstance PyProof.Rows.boot_isinstance (pa_cons (pv 0) (pa_cons (pe_bltn (by rfl) B.tuple PyProof.Rows.boot_tuple (rr_ty "tuple")) pa_nil)))
      (pe_one (pe_callB (cr_all (by rfl)) (by rfl) B.all PyProof.Rows.boot_all (pa_cons (pe_lc (own := [("part", 1)]) (g := gName 1) (te := tCall spNum [] E0 (tCons (tVar 1) tNil)) (by rfl) sc_are_numbers.nd (pi_tup (pv 0)) (blkOk_by (own := [("part", 1)]) (N := ["value", "part"]) (sc := defScope s_are_numbers) (by decide +kernel))
        (fun _ _ _ _ _ => pg_name (i := 1) sc_are_numbers.nd rfl (Or.inl rfl)) (fun _ _ _ _ _ => pts_nil) (fun _ _ _ _ _ => pe_has hN hr (by rfl) (pa_cons (pv 1) pa_nil))) pa_nil))))), ?_⟩
    refine ⟨_, rfl, v, .ty "tuple", _, _, isTup d, rfl, .ty _, rp_ty hd, kit_ty (kit_tup d), isTup d, rfl, ite2 (fun h => ?_) (fun h => ?_)⟩
    · cases hd with
      | @tup a xs ds ha hx =>
        have hlen := hl ds rfl
        have hxl := hx.len
        refine ⟨_, rfl, a, rfl, ⟨_, ha.sq⟩, fun D hD => lc_tupM (fun _ v b => v = V.bl b) (ds.map isNum) (fun _ _ _ _ _ r => r) (ha.sq) (fun H' sm => (ha.sm sm).sq) (by omega) (by rw [List.length_map, hxl]) hD (fun x => rfl) (fun i v n hi hn H' sm Q' q' => ?_) (fun H' zs sm hz pr => ?_)⟩
        · obtain ⟨d, e1, e2⟩ := hx.get hi
          rw [List.getElem?_map, e1] at hn
          have hn : isNum d = n := Option.some.inj hn
          exact ⟨_, rfl, v, d, rfl, Rp.same sm d _ e2, q' _ _ (Same.refl _) (by rw [hn])⟩
        · refine ⟨D, ds.map isNum, rfl, SqL.of (by rw [hz, bls_of pr]), ?_⟩
          have e : (ds.map isNum).all id = isNums (.tuple ds) := by rw [List.all_map]; rfl
          rw [e]
          exact q _ sm
      | non => cases h
      | bl => cases h
      | int => cases h
      | str => cases h
      | lst => cases h
    · have e : false = isNums d := by cases d <;> first | rfl | exact absurd rfl h
      show Q (.bl false) H
      rw [e]
      exact q _ (Same.refl _)
/-! ### is_permutation -/
def numOf : PyData → Int
  | .int i => i
  | _ => 0
def numsOf : PyData → List Int
  | .tuple ds => ds.map numOf
  | _ => []
def rangeI (n : Nat) : List Int := (List.range n).map Int.ofNat
def isPermD (d : PyData) (n : Nat) : Bool := isNums d && decide ((numsOf d).Perm (rangeI n))
def spPerm : Sp := fun vs H Q _ => ∃ (v : V) (d : PyData) (n : Nat), vs = [v, nI n] ∧ Rp H v d ∧ (∀ ds, d = .tuple ds → ds.length < 64) ∧ n < 64 ∧ ∀ H', Same H H' → Q (.bl (isPermD d n)) H'
theorem sc_is_permutation : FnScope ["value", "size"] ["value", "size"] (defScope s_is_permutation) := ⟨rfl, rfl, rfl, by decide +kernel, rfl, by decide +kernel, by decide +kernel⟩
theorem nums_vals {H : Hp} : ∀ {ds : List PyData} {xs : List V}, RpAll H xs ds → ds.all isNum = true → xs = (ds.map numOf).map V.int
  | _, _, .nil, _ => rfl
  | d :: ds, _, .cons r t, h => by
    rw [List.all_cons, Bool.and_eq_true] at h
    cases r with
    | int i => rw [nums_vals t h.2]; rfl
    | non => cases h.1
    | bl => cases h.1
    | str => cases h.1
    | lst => cases h.1
    | tup => cases h.1
theorem rgV_int (n : Nat) : rgV 0 (n : Int) = (rangeI n).map V.int := by
  unfold rgV rangeI
  have e : ((n : Int) - 0).toNat = n := by omega
  rw [e, List.map_map]
  refine List.map_congr_left fun i _ => ?_
  show V.int (0 + (i : Int)) = V.int (i : Int)
  rw [Int.zero_add]
theorem rangeI_sorted (n : Nat) : (rangeI n).Pairwise (· ≤ ·) := by
  unfold rangeI
  rw [List.pairwise_map]
  exact List.Pairwise.imp (fun {a b} h => Int.ofNat_le.mpr (Nat.le_of_lt h)) List.pairwise_lt_range
theorem dp_ints {K : PySem.W.Frag} {H : Hp} : ∀ t : List Int, DpAll K H (t.map V.int) (t.map PyData.int)
  | [] => .nil
  | n :: t => .cons (.int _) (dp_ints t)
theorem depth_ints : ∀ t : List Int, PyData.depthAll (t.map PyData.int) = 0
  | [] => rfl
  | n :: t => by
    show max (PyData.depth (.int n)) (PyData.depthAll (t.map PyData.int)) = 0
    rw [depth_ints t]
    rfl
theorem can_ints : ∀ t : List Int, PyData.canLayAll0 (t.map PyData.int) = true
  | [] => rfl
  | n :: t => by
    show (PyData.canLay0 (.int n) && PyData.canLayAll0 (t.map PyData.int)) = true
    rw [can_ints t]
    rfl
theorem sh_ints (t : List Int) : SeqAt.shaped (.list (t.map PyData.int)) = true := by
  show (PyData.canLayAll0 (t.map PyData.int) && decide (PyData.depthAll (t.map PyData.int) + 1 ≤ 64)) = true
  rw [can_ints, depth_ints]
  rfl
theorem eqv_ints (s t : List Int) : PyData.eqv (.list (s.map PyData.int)) (.list (t.map PyData.int)) = decide (s = t) := by
  show PyData.eqvAll (s.map PyData.int) (t.map PyData.int) = _
  refine eqvAll_map (fun x y => ?_) s t
  show (x == y) = decide (x = y)
  by_cases e : x = y
  · subst e; simp
  · rw [decide_eq_false e]
    exact beq_eq_false_iff_ne.mpr e
theorem has_is_permutation (T : Top K mg "is_permutation" s_is_permutation ["value", "size"]) (B : Bi mg) (hN : Has P w K mg base CX0 2 "are_numbers" ["value"] spNums) : Has P w K mg base CX0 3 "is_permutation" ["value", "size"] spPerm := by
  refine T.ok sc_is_permutation (fun vs H Q E h => ?_) (fun f cdv A outer s H vs Q E hr h => ?_)
  · obtain ⟨v, d, n, rfl, _⟩ := h
    rfl
  · obtain ⟨v, d, n, rfl, hd, hl, hn, q⟩ := h
    refine ⟨_, pss_one (ps_ret (pe_and (pe_has hN hr (by rfl) (pa_cons (pv 0) pa_nil))
      (pe_one (pe_cmpR (op_eqD hr.units) (pe_callB cr_sortIT (by rfl) B.sorted PyProof.Rows.boot_sorted (pa_cons (pv 0) pa_nil)) (pe_listRg (by rfl) (by rfl) B.list (prg_1 (by rfl) B.range (pv 1))) (nomark _))))), ?_⟩
    refine ⟨_, rfl, v, d, rfl, hd, (fun ds e => by have := hl ds e; omega), fun H1 s1 => ⟨isNums d, rfl, ite2 (fun h => ?_) (fun h => ?_)⟩⟩
    · cases hd with
      | @tup a xs ds ha hx =>
        have h : ds.all isNum = true := h
        have ex := nums_vals hx h
        have ha1 := ha.sm s1
        rw [ex] at ha1
        have hlen := hl ds rfl
        refine ⟨_, rfl, a, ds.map numOf, rfl, ha1.sq, by rw [List.length_map]; exact hlen, fun ns' p pm so hp => ?_⟩
        refine ⟨_, rfl, n, rfl, .of_le (by omega) (by omega) (by omega) (by omega), fun p2 hp2 => ?_⟩
        have e1 : upd (upd H1 p (.lst (ns'.map V.int))) p2 (.lst (rgV 0 n)) p = some (.lst (ns'.map V.int)) := by
          rw [upd_ne (fun z => by rw [← z, upd_same] at hp2; cases hp2), upd_same]
        refine ⟨.list (ns'.map PyData.int), .list ((rangeI n).map PyData.int), .lst (SqL.of e1) (dp_ints _), .lst (SqL.of (by rw [upd_same, rgV_int])) (dp_ints _), sh_ints _, sh_ints _, ?_⟩
        rw [eqv_ints]
        have e : decide (ns' = rangeI n) = isPermD (.tuple ds) n := by
          have hb : isNums (.tuple ds) = true := h
          unfold isPermD
          rw [hb, Bool.true_and]
          refine decide_eq_decide.mpr ⟨fun e => ?_, fun e => ?_⟩
          · rw [← e]
            exact pm.symm
          · exact List.Perm.eq_of_pairwise (fun x y _ _ h1 h2 => Int.le_antisymm h1 h2) so (rangeI_sorted n) (pm.trans e)
        rw [e]
        exact q _ ((s1.trans (same_new hp)).trans (same_new hp2))
      | non => cases h
      | bl => cases h
      | int => cases h
      | str => cases h
      | lst => cases h
    · have e : false = isPermD d n := by
        unfold isPermD
        have z : isNums d = false := by simpa using h
        rw [z]
        rfl
      show Q (.bl false) H1
      rw [e]
      exact q _ s1
end
end Lt

set_option Elab.async false
set_option linter.all false
set_option maxRecDepth 100000
set_option maxHeartbeats 4000000
namespace Lt
open PySem PySem.Spec PyProof.Rows L2
theorem for_enumT {K : PySem.W.Frag} {a : Addr} {xs : List V} {g : TG} {tb : TS} {D : Ends} {σ : L2.St} {H : Hp} (Pv : Nat → L2.St → Hp → Prop) (h0 : Pv 0 σ H) (hl : ∀ i σ H, i ≤ xs.length → Pv i σ H → SqT K H a xs)
    (hs : ∀ (i : Nat) (x : V) σ H T, xs[i]? = some x → Pv i σ H → H T = none → g (.ref T) σ (upd H T (.tup [nI i, x])) fun σ2 H2 => tb { D with nx := Pv (i + 1), ct := Pv (i + 1), bk := D.nx } σ2 H2) (hd : ∀ σ H, Pv xs.length σ H → D.nx σ H) :
    ∃ W : Nat → Nat → L2.St → Hp → Prop, (∃ m, W 0 m σ H) ∧ ∀ i m σ H, W i m σ H →
      ((Itet K a).stop i H ∧ D.nx σ H) ∨ ((Itet K a).go i H ∧ ∃ N : L2.St → Hp → Prop, (∀ σ' H', N σ' H' → ∃ m', m' < m ∧ W (i + 1) m' σ' H') ∧ ∀ x H', (Itet K a).yld i H x H' → g x σ H' fun σ2 H2 => tb { D with nx := N, ct := N, bk := D.nx } σ2 H2) := by
  refine ⟨fun i m σ H => m = xs.length - i ∧ i ≤ xs.length ∧ Pv i σ H, ⟨xs.length, by simp, Nat.zero_le _, h0⟩, ?_⟩
  rintro i m σ H ⟨rfl, hi, p⟩
  have q := hl i σ H hi p
  by_cases hlt : i < xs.length
  · refine .inr ⟨⟨xs, xs[i], q, by simp [hlt]⟩, Pv (i + 1), fun σ' H' p' => ⟨xs.length - (i + 1), by omega, rfl, hlt, p'⟩, fun x H' y => ?_⟩
    obtain ⟨T, z, rfl, hT, rfl, hz⟩ := y
    exact hs i z σ H T (hz xs q) p hT
  · have e : i = xs.length := by omega
    subst e
    exact .inl ⟨⟨xs, q, rfl⟩, hd σ H p⟩
section
variable {P : Program} {w : World} {K : PySem.W.Frag} {mg : Str → Option Value} {base : Heap}
/-! ### back_of -/
def spBack : Sp := fun vs H Q _ => ∃ (a : V) (t : List Nat) (n : Nat), vs = [a] ∧ TN H a t ∧ IsP n t ∧ n ≤ 1000 ∧ ∀ v H', Same H H' → TK H' v (inv t) → Q v H'
theorem rep_zero (n : Nat) : (List.replicate n [V.int 0]).flatten = nIs (List.replicate n 0) := by
  induction n with
  | zero => rfl
  | succ n ih => rw [List.replicate_succ, List.flatten_cons, ih]; rfl
theorem inv_of {n : Nat} {t acc : List Nat} (h : IsP n t) (hl : acc.length = n) (ha : ∀ (j p : Nat), t[j]? = some p → acc[p]? = some j) : acc = inv t := by
  apply List.ext_getElem?
  intro p
  by_cases hp : p < n
  · have hm : p ∈ t := h.mem.mpr hp
    have hj := List.idxOf_lt_length_of_mem hm
    have e := ha (t.idxOf p) p (by rw [List.getElem?_eq_getElem hj, List.getElem_idxOf])
    rw [e]
    unfold inv
    rw [List.getElem?_map, h.len, List.getElem?_range hp]
    rfl
  · rw [List.getElem?_eq_none (by omega), List.getElem?_eq_none (by rw [inv_len, h.len]; omega)]
theorem nIs_set (t : List Nat) (i n : Nat) : (nIs t).set i (nI n) = nIs (t.set i n) := by
  unfold nIs
  rw [List.map_set]
end
end Lt

set_option Elab.async false
set_option linter.all false
set_option maxRecDepth 100000
set_option maxHeartbeats 4000000
namespace Lt
open PySem PySem.Spec PyProof.Rows L2
/-! ### dicts from turns to words -/
def keyN (t : List Nat) : List Key := t.map fun n : Nat => (Sum.inl (Int.ofNat n) : Key)
theorem keyN_inj {s t : List Nat} (h : keyN s = keyN t) : s = t := by
  unfold keyN at h
  exact (List.map_inj_right (fun x y e => by injection e with e; exact Int.ofNat.inj e)).mp h
def DE (H : Hp) (kv : List Key × V) (tw : List Nat × List Nat) : Prop := kv.1 = keyN tw.1 ∧ TN H kv.2 tw.2
def DW (H : Hp) (d : Addr) (L : List (List Nat × List Nat)) : Prop := ∃ kvs, H d = some (.dT kvs) ∧ Paired (DE H) kvs L
theorem DEs.tm {H H' : Hp} (e : Tm H H') : ∀ {kvs : List (List Key × V)} {L : List (List Nat × List Nat)}, Paired (DE H) kvs L → Paired (DE H') kvs L
  | _, _, .nil => .nil
  | _, _, .cons r t => .cons ⟨r.1, r.2.tm e⟩ (DEs.tm e t)
theorem DW.tm {H H' : Hp} {d : Addr} {L : List (List Nat × List Nat)} (h : DW H d L) (e : Tm H H') (ed : H' d = H d) : DW H' d L := let ⟨kvs, h1, h2⟩ := h; ⟨kvs, ed.trans h1, DEs.tm e h2⟩
theorem DW.same {H H' : Hp} {d : Addr} {L : List (List Nat × List Nat)} (h : DW H d L) (e : Same H H') : DW H' d L := let ⟨kvs, h1, h2⟩ := h; ⟨kvs, e _ _ h1, DEs.tm (.of e) h2⟩
theorem dw_none {H : Hp} {t : List Nat} : ∀ {kvs : List (List Key × V)} {L : List (List Nat × List Nat)}, Paired (DE H) kvs L → t ∉ L.map (·.1) → valV kvs (keyN t) = none
  | _, _, .nil, _ => rfl
  | p :: ps, q :: qs, .cons r s, h => by
    have hne : ¬ p.1 = keyN t := fun e => h (by
      rw [List.map_cons]
      rw [r.1] at e
      rw [keyN_inj e]
      exact List.mem_cons_self)
    rw [valV_neg hne]
    exact dw_none s fun m => h (List.mem_cons_of_mem _ m)
theorem dw_some {H : Hp} {t w : List Nat} : ∀ {kvs : List (List Key × V)} {L : List (List Nat × List Nat)}, Paired (DE H) kvs L → (L.map (·.1)).Nodup → (t, w) ∈ L → ∃ v, valV kvs (keyN t) = some v ∧ TN H v w
  | _, _, .nil, _, h => by cases h
  | p :: ps, q :: qs, .cons r s, hn, h => by
    rw [List.map_cons] at hn
    obtain ⟨h1, h2⟩ := List.nodup_cons.mp hn
    rcases List.mem_cons.mp h with e | h
    · subst e
      exact ⟨p.2, valV_pos r.1, r.2⟩
    · have hne : ¬ p.1 = keyN t := fun e => h1 (by
        rw [r.1] at e
        rw [keyN_inj e]
        exact List.mem_map.mpr ⟨_, h, rfl⟩)
      rw [valV_neg hne]
      exact dw_some s h2 h
theorem dw_isSome {H : Hp} {t : List Nat} {kvs : List (List Key × V)} {L : List (List Nat × List Nat)} (p : Paired (DE H) kvs L) (hn : (L.map (·.1)).Nodup) : (valV kvs (keyN t)).isSome = decide (t ∈ L.map (·.1)) := by
  by_cases h : t ∈ L.map (·.1)
  · obtain ⟨⟨t', w⟩, hm, e⟩ := List.mem_map.mp h
    have e : t' = t := e
    subst e
    obtain ⟨v, hv, _⟩ := dw_some p hn hm
    rw [hv, decide_eq_true h]
    rfl
  · rw [dw_none p h, decide_eq_false h]
    rfl
theorem TK.key {H : Hp} {v : V} {t : List Nat} (h : TK H v t) : ∃ b, v = .ref b ∧ H b = some (.tup ((keyN t).map kV)) := by
  obtain ⟨b, e, hb⟩ := h
  exact ⟨b, e, by rw [hb, nIs_key]; rfl⟩
theorem TN.key {H : Hp} {v : V} {t : List Nat} (h : TN H v t) : ∃ b, v = .ref b ∧ RT H b ((keyN t).map kV) := by
  obtain ⟨b, e, hb⟩ := h
  refine ⟨b, e, ?_⟩
  have z : nIs t = (keyN t).map kV := by rw [nIs_key]; rfl
  rw [← z]
  exact hb
theorem LT.tm {H H' : Hp} {a : Addr} {ts : List (List Nat)} (h : LT H a ts) (e : Tm H H') (ea : H' a = H a) : LT H' a ts := let ⟨xs, h1, h2⟩ := h; ⟨xs, ea.trans h1, TNs.tm e h2⟩
/-! ### d[k], k in d: the key to be read -/
def GetR (H : Hp) (a : Addr) (kvs : List (List Key × V)) (k : List Key) (y : V) : Prop := ∃ b, y = .ref b ∧ Rd H a (.dT kvs) ∧ RT H b (k.map kV)
def tDGetR (td ty : TE) : TE := fun σ H Q => td σ H fun x H1 => ty σ H1 fun y H2 => ∃ a v kvs k b, x = .ref a ∧ y = .ref b ∧ Rd H2 a (.dT kvs) ∧ RT H2 b (k.map kV) ∧ valV kvs k = some v ∧ Q v H2
def tDInR (ty td : TE) : TE := fun σ H Q => ty σ H fun y H1 => td σ H1 fun x H2 => ∃ a kvs k b, x = .ref a ∧ y = .ref b ∧ Rd H2 a (.dT kvs) ∧ RT H2 b (k.map kV) ∧ Q (.bl (valV kvs k).isSome) H2
def tDNotInR (ty td : TE) : TE := fun σ H Q => ty σ H fun y H1 => td σ H1 fun x H2 => ∃ a kvs k b, x = .ref a ∧ y = .ref b ∧ Rd H2 a (.dT kvs) ∧ RT H2 b (k.map kV) ∧ Q (.bl (!(valV kvs k).isSome)) H2
theorem key_rd {P : Program} {w : World} {H : Hp} {h : Heap} {ks : List Key} {a : Addr} (ok : HOk P w H h) (e : RT H a (ks.map kV)) : (tupleKind (mixKind P w)).is h ks a := by
  have z : ObjOk P w H h a (.tup (ks.map kV)) := Rd.ok e ok
  obtain ⟨_, its, r, o, h1, h2, n, h3⟩ := z
  exact ⟨o, its.toArray, n, h1, h2, h3, by simpa using items_are r⟩
section
variable {X : Cx} {o i : Expr} {td ty : TE} {pos : Pos}
theorem pc_dinR (hu : X.A.units + 1 < cLine) (hi : PE X i ty) (ho : PE X o td) : PC X .In i o (tDInR ty td) := by
  refine ⟨fun pins s σ H Q I h => ?_⟩
  refine thn (hi.run pins s σ H _ I h) fun iv s1 ⟨y, H1, I1, ry, q1⟩ => thn (ho.run pins s1 σ H1 _ I1 q1) fun u s2 ⟨x, H2, I2, rx, a, kvs, k, b, ex, ey, hd, hb, q2⟩ => ?_
  subst ex ey
  obtain rfl : u = Value.ref a := rx
  obtain rfl : iv = Value.ref b := ry
  obtain ⟨z, hds, xs, rel, dd⟩ := dt_rd I2.hok hd
  refine wpAny_in_heap (tupleKind_room_in1 hu) (key_rd I2.hok hb) hds dd ?_
  have q := (rel.val k).isSome_eq
  rw [Option.isSome_map] at q
  rw [← q]
  exact ⟨.bl (valV kvs k).isSome, H2, I2.tok _, rfl, q2⟩
theorem pe_dgetR (hu : X.A.units + 1 < cLine) (ho : PE X o td) (hi : PE X i ty) (hs : NoSl i) : PE X (.Subscript o i pos) (tDGetR td ty) := by
  refine ⟨fun pins s σ H Q I h => ?_⟩
  refine subD_of PySem.F.slot_dict_getitem.lookup hs (thn (ho.run pins s σ H _ I h) fun u s1 ⟨x, H1, I1, rx, q1⟩ => thn (hi.run pins s1 σ H1 _ I1 q1) fun iv s2 ⟨y, H2, I2, ry, a, v, kvs, k, b, ex, ey, hd, hb, hv, q2⟩ => ?_)
  subst ex ey
  obtain rfl : u = Value.ref a := rx
  obtain rfl : iv = Value.ref b := ry
  obtain ⟨z, hds, xs, rel, dd⟩ := dt_rd I2.hok hd
  obtain ⟨w', hw, rw'⟩ := RelO.some_of (v := v) (o := (atKey xs k).map (·.2)) (by rw [← hv]; exact rel.val k)
  obtain ⟨p, hp, hp2⟩ := Option.map_eq_some_iff.mp hw
  have ht : s2.TypeIs (.ref a) "dict" := by
    obtain ⟨ob, _, _, h1, h2, _⟩ := dd
    exact ⟨ob, h1, h2.1⟩
  refine ⟨ht, wpAny_getItem_heap (tupleKind_room_in1 hu) (key_rd I2.hok hb) dd hp ?_⟩
  rw [hp2]
  exact ⟨v, H2, I2.tok _, rw', q2⟩
end
/-! ### the mirror's turns, maker by maker -/
theorem grow_app (t w : List Nat) : ∀ (xs ys : List (List Nat)) (p : Nat) (L : List (List Nat × List Nat)), grow t w (xs ++ ys) p L = grow t w ys (p + xs.length) (grow t w xs p L)
  | [], _, _, _ => rfl
  | x :: xs, ys, p, L => by
    show grow t w (xs ++ ys) (p + 1) _ = grow t w ys (p + (xs.length + 1)) (grow t w xs (p + 1) _)
    rw [grow_app t w xs ys (p + 1)]
    congr 1
    omega
theorem grow_next {t w : List Nat} {gs : List (List Nat)} {i : Nat} {g : List Nat} (h : gs[i]? = some g) (L : List (List Nat × List Nat)) :
    grow t w (gs.take (i + 1)) 0 L = if prod t g ∈ (grow t w (gs.take i) 0 L).map (·.1) then grow t w (gs.take i) 0 L else grow t w (gs.take i) 0 L ++ [(prod t g, w ++ [i])] := by
  have hl : i < gs.length := (List.getElem?_eq_some_iff.mp h).1
  have e : gs.take (i + 1) = gs.take i ++ [g] := by rw [List.take_add_one, h]; rfl
  rw [e, grow_app, List.length_take, Nat.min_eq_left (Nat.le_of_lt hl), Nat.zero_add]
  rfl
theorem grow_len (t w : List Nat) : ∀ (gs : List (List Nat)) (p : Nat) (L : List (List Nat × List Nat)), (grow t w gs p L).length ≤ L.length + gs.length
  | [], _, L => Nat.le_refl _
  | g :: gs, p, L => by
    have ih := grow_len t w gs (p + 1) (if prod t g ∈ L.map (·.1) then L else L ++ [(prod t g, w ++ [p])])
    show (grow t w gs (p + 1) _).length ≤ L.length + (gs.length + 1)
    split at ih
    · rename_i h
      rw [if_pos h]
      omega
    · rename_i h
      rw [if_neg h]
      rw [List.length_append] at ih
      have e : [(prod t g, w ++ [p])].length = 1 := rfl
      omega
theorem qq_len_le (gs : List (List Nat)) (n k : Nat) : ∀ i, (qq gs n (k + i)).length ≤ (qq gs n k).length + i * gs.length
  | 0 => by rw [Nat.zero_mul]; exact Nat.le_refl _
  | i + 1 => by
    have ih := qq_len_le gs n k i
    have e : (i + 1) * gs.length = i * gs.length + gs.length := Nat.succ_mul _ _
    show (match (qq gs n (k + i))[k + i]? with
      | none => qq gs n (k + i)
      | some (t, w) => grow t w gs 0 (qq gs n (k + i))).length ≤ _
    split
    · omega
    · rename_i t w _
      have := grow_len t w gs 0 (qq gs n (k + i))
      omega
/-- words[turn] + (place,) -/
theorem catA_tn {K : PySem.W.Frag} {H : Hp} {pw p : Addr} {w : List Nat} {j : Nat} {Q : VK} (hw : RT H pw (nIs w)) (hp : H p = some (.tup [nI j])) (hl : w.length ≤ 1000000) (q : ∀ v H', Same H H' → TN H' v (w ++ [j]) → Q v H') : rCatA K (.ref pw) (.ref p) H Q := by
  refine ⟨pw, p, nIs w, [nI j], rfl, rfl, hw.sq, SqT.of hp, ?_, fun e => ?_, fun _ e => (by cases e), fun _ _ p2 hp2 => ?_⟩
  · rw [nIs_len, sizeLine_eq]
    show w.length + 1 ≤ _
    omega
  · have e : w = [] := by
      cases w with
      | nil => rfl
      | cons a w => cases e
    subst e
    exact q _ _ (Same.refl _) ⟨p, rfl, .inl hp⟩
  · refine q _ _ (same_new hp2) ⟨p2, rfl, .inl ?_⟩
    rw [upd_same]
    unfold nIs
    rw [List.map_append]
    rfl
theorem grow_w (t w : List Nat) (m : Nat) : ∀ (gs : List (List Nat)) (p : Nat) (L : List (List Nat × List Nat)), w.length ≤ m → (∀ x ∈ L, x.2.length ≤ m + 1) → ∀ x ∈ grow t w gs p L, x.2.length ≤ m + 1
  | [], _, _, _, h, x, hx => h x hx
  | g :: gs, p, L, hw, h, x, hx => by
    refine grow_w t w m gs (p + 1) _ hw (fun y hy => ?_) x hx
    split at hy
    · exact h y hy
    · rcases List.mem_append.mp hy with z | z
      · exact h y z
      · rw [List.mem_singleton.mp z, List.length_append]
        show w.length + 1 ≤ m + 1
        omega
theorem qq_w (gs : List (List Nat)) (n : Nat) : ∀ k, ∀ x ∈ qq gs n k, x.2.length ≤ k
  | 0, x, h => by
    rw [List.mem_singleton.mp (show x ∈ [(List.range n, ([] : List Nat))] from h)]
    exact Nat.le_refl 0
  | k + 1, x, h => by
    have ih := qq_w gs n k
    have h' : x ∈ (match (qq gs n k)[k]? with
      | none => qq gs n k
      | some (t, w) => grow t w gs 0 (qq gs n k)) := h
    split at h'
    · exact Nat.le_succ_of_le (ih x h')
    · rename_i t w e
      exact grow_w t w k gs 0 _ (ih _ (List.mem_of_getElem? e)) (fun y hy => Nat.le_succ_of_le (ih y hy)) x h'
section
variable {P : Program} {w : World} {K : PySem.W.Frag} {mg : Str → Option Value} {base : Heap}
/-! ### bracket_of -/
def spBracket : Sp := fun vs H Q _ => ∃ (a b : V) (x y : List Nat) (n : Nat), vs = [a, b] ∧ TN H a x ∧ TN H b y ∧ IsP n x ∧ IsP n y ∧ n ≤ 1000 ∧ ∀ v H', Same H H' → TK H' v (prod (prod x y) (inv (prod y x))) → Q v H'
theorem pr_call {H : Hp} {a b : V} {x y : List Nat} {n : Nat} {Q : VK} (ha : TN H a x) (hb : TN H b y) (hx : IsP n x) (hy : IsP n y) (hn : n ≤ 1000) (q : ∀ v H', Same H H' → TK H' v (prod x y) → Q v H') : spProd [a, b] H Q E0 :=
  ⟨a, b, x, y, rfl, ha, hb, fun i hi => by rw [hy.len]; exact hx.lt i hi, by rw [hx.len]; exact hn, q⟩
/-! ### words_of -/
def Cn (mg : Str → Option Value) (x : Str) (i : Int) : Prop := ∃ t, mg x = some (.int i t)
def Wd (gs : List (List Nat)) (n : Nat) (L : List (List Nat × List Nat)) : Prop := ∃ a, L = qq gs n a ∧ a ≤ L.length ∧ (L.length = a ∨ 240 < L.length)
def spWords : Sp := fun vs H Q _ => ∃ (ms : V) (gs : List (List Nat)) (n : Nat), vs = [ms, nI n] ∧ TT H ms gs ∧ (∀ g ∈ gs, IsP n g) ∧ n ≤ 1000 ∧ gs.length ≤ 1000 ∧
  ∀ d H' L, Same H H' → H d = none → DW H' d L → Wd gs n L → Q (.ref d) H'
theorem sc_words_of : FnScope ["makers", "size", "still", "words", "level", "longer", "turn", "place", "maker", "led"] ["makers", "size"] (defScope s_words_of) := ⟨rfl, rfl, rfl, by decide +kernel, rfl, by decide +kernel, by decide +kernel⟩
/-- the state at the while: behind a positions -/
structure WS (H0 : Hp) (ms st : V) (n : Nat) (gs : List (List Nat)) (d : Addr) (a : Nat) (σ : L2.St) (H : Hp) : Prop where
  sl : ∃ lv x5 x6 x7 x8 x9, σ = [some ms, some (nI n), some st, some (.ref d), some (.ref lv), x5, x6, x7, x8, x9] ∧ LT H lv (((qq gs n a).map (·.1)).drop a)
  sm : Same H0 H
  dw : DW H d (qq gs n a)
  le : a ≤ (qq gs n a).length
  le2 : a ≤ 240
theorem qq_step {gs : List (List Nat)} {n a i : Nat} {M : List (List Nat × List Nat)} (e : qq gs n (a + i) = qq gs n a ++ M) {t w : List Nat} (h : (qq gs n a)[a + i]? = some (t, w)) : qq gs n (a + i + 1) = grow t w gs 0 (qq gs n (a + i)) := by
  have z : (qq gs n (a + i))[a + i]? = some (t, w) := by
    rw [e, List.getElem?_append_left (List.getElem?_eq_some_iff.mp h).1]
    exact h
  show (match (qq gs n (a + i))[a + i]? with
    | none => qq gs n (a + i)
    | some (t, w) => grow t w gs 0 (qq gs n (a + i))) = _
  rw [z]
theorem has_words_of (T : Top K mg "words_of" s_words_of ["makers", "size"]) (B : Bi mg) (C : Cn mg "MOST_TURNS" 240) (hS : Has P w K mg base CX0 1 "still_of" ["size"] spStill) (hP : Has P w K mg base CX0 1 "product_of" ["one", "other"] spProd) :
    Has P w K mg base CX0 2 "words_of" ["makers", "size"] spWords := by
  refine T.ok sc_words_of (fun vs H Q E h => ?_) (fun f cdv A outer s H vs Q E hr h => ?_)
  · obtain ⟨ms, gs, n, rfl, _⟩ := h
    rfl
  · obtain ⟨ms, gs, n, rfl, hms, hg, hn, hgl, q⟩ := h
    obtain ⟨tk, hC⟩ := C
    have hu := hu_of hr
    refine ⟨_, pss_cons (ps_set (i := 2) sc_words_of.nd rfl (Or.inl rfl) (pe_has hS hr (by rfl) (pa_cons (pv 1) pa_nil)))
      (pss_cons (ps_set (i := 3) sc_words_of.nd rfl (Or.inl rfl) (pe_dispT hu (pv 2) (pe_tup pa_nil)))
      (pss_cons (ps_set (i := 4) sc_words_of.nd rfl (Or.inl rfl) (pe_lst (pa_cons (pv 2) pa_nil)))
      (pss_cons (ps_while PassesOwn.never (PW.pt (pw_and (pt_truth (pv 4) (by intro _; rfl)) (pw_and1 (pt_cmpR op_le (pe_callB call_len_dT (by rfl) B.len PySem.boot_len (pa_cons (pv 3) pa_nil)) (pe_glob (v := .int 240) rfl hC ⟨_, rfl⟩) (nomark _)))))
        (pss_cons (ps_set (i := 5) sc_words_of.nd rfl (Or.inl rfl) (pe_lst pa_nil))
        (pss_cons (ps_for PassesOwn.never rfl (pi_list (pv 4)) (pg_name (i := 6) sc_words_of.nd rfl (Or.inl rfl))
          (pss_one (ps_for PassesOwn.never rfl (pi_enumT (by rfl) B.enumerate (pa_cons (pv 0) pa_nil)) (pg_tup rfl (pgs_cons (pg_name (i := 7) sc_words_of.nd rfl (Or.inl rfl)) (pgs_cons (pg_name (i := 8) sc_words_of.nd rfl (Or.inl rfl)) pgs_nil)))
            (pss_cons (ps_set (i := 9) sc_words_of.nd rfl (Or.inl rfl) (pe_has hP hr (by rfl) (pa_cons (pv 6) (pa_cons (pv 8) pa_nil))))
            (pss_one (ps_if (pt_cmp (pc_dnotin hu (pv 9) (pv 3)))
              (pss_cons (ps_dput hu (pv 3) (pv 9) (pe_op op_catA (pe_dgetR hu (pv 3) (pv 6) (fun _ _ => rfl)) (pe_tup (pa_cons (pv 7) pa_nil))) rfl)
              (pss_one (ps_expr (pe_bm PySem.F.plainAttrs_list PySem.F.slot_list_append PySem.F.type_list_append mt_append (pv 5) (pa_cons (pv 9) pa_nil)))))
              pss_nil))))))
        (pss_one (ps_set (i := 4) sc_words_of.nd rfl (Or.inl rfl) (pv 5))))))
      (pss_one (ps_ret (pv 3)))))), ?_⟩
    refine ⟨_, rfl, n, rfl, hn, fun st H1 s1 hst => ?_⟩
    refine fun d hd => ⟨_, rfl, ⟨Nat.zero_le _, fun p hp => ?_⟩⟩
    have hpd : p ≠ d := fun z => by rw [z, upd_same] at hp; cases hp
    have s2 : Same H1 (upd (upd H1 d (.dT [])) p (.tup [])) := (same_new hd).trans (same_new hp)
    obtain ⟨b, ebv, hb⟩ := (hst.tm (.of s2)).key
    subst ebv
    refine ⟨b, keyN (List.range n), rfl, by rw [upd_ne hpd.symm, upd_same], hb, ?_⟩
    refine ⟨_, rfl, by show 1 ≤ sizeLine; decide, fun lv hlv => ?_⟩
    have hd0 : H d = none := s1.free hd
    have s3 : Same H1 (upd (upd (upd H1 d (.dT [])) p (.tup [])) d (.dT [(keyN (List.range n), .ref p)])) := same_mut s2 hd
    have s4 : Same H1 (upd (upd (upd (upd H1 d (.dT [])) p (.tup [])) d (.dT [(keyN (List.range n), .ref p)])) lv (.lst [.ref b])) := s3.trans (same_new hlv)
    have hdl : d ≠ lv := fun z => by rw [← z, upd_same] at hlv; cases hlv
    have hpl : p ≠ lv := fun z => by rw [← z, upd_ne hpd, upd_same] at hlv; cases hlv
    have hst' : TN (upd (upd (upd (upd H1 d (.dT [])) p (.tup [])) d (.dT [(keyN (List.range n), .ref p)])) lv (.lst [.ref b])) (.ref b) (List.range n) := (hst.tm (.of s4)).tn
    refine ⟨fun m σ H' => ∃ a, m = 240 - a ∧ WS H ms (.ref b) n gs d a σ H', ⟨240, 0, rfl, ⟨⟨lv, none, none, none, none, none, rfl, [.ref b], upd_same, .cons hst' .nil⟩, s1.trans s4, ⟨[(keyN (List.range n), .ref p)], by rw [upd_ne hdl, upd_same], .cons ⟨rfl, p, rfl, .inl ?_⟩ .nil⟩, Nat.zero_le _, Nat.zero_le _⟩⟩, ?_⟩
    · rw [upd_ne hpl, upd_ne hpd, upd_same]
      rfl
    rintro m σ H' ⟨a, rfl, ⟨⟨lv, x5, x6, x7, x8, x9, rfl, xs, hlv', hxs⟩, sm, dw, le, le2⟩⟩
    have ret : (qq gs n a).length = a ∨ 240 < (qq gs n a).length → Q (.ref d) H' := fun h => q d H' _ sm hd0 dw ⟨a, rfl, le, h⟩
    have hxl : xs.length = (qq gs n a).length - a := by
      rw [Paired.length hxs, List.length_drop, List.length_map]
    refine ⟨_, rfl, !xs.isEmpty, .inl ⟨xs, SqL.of hlv', rfl⟩, ?_⟩
    refine ite2 (fun h => ?_) (fun h => ?_)
    rotate_left
    · refine iteF ⟨_, rfl, ret (.inl ?_)⟩
      cases xs with
      | nil => simp at hxl; omega
      | cons x xs => exact absurd rfl h
    obtain ⟨kvs, hkv, pkv⟩ := dw
    have hkl : kvs.length = (qq gs n a).length := Paired.length pkv
    refine ⟨_, rfl, d, kvs, rfl, hkv, _, _, rfl, rfl, _, rfl, ite2 (fun h2 => ?_) (fun h2 => ?_)⟩
    rotate_left
    · have h2 : ¬ ((kvs.length : Int) ≤ 240) := fun z => h2 (decide_eq_true z)
      exact ⟨_, rfl, ret (.inr (by omega))⟩
    have h2 : (kvs.length : Int) ≤ 240 := of_decide_eq_true h2
    have hpos : a < (qq gs n a).length := by
      cases xs with
      | nil => simp at h
      | cons x xs => rw [List.length_cons] at hxl; omega
    refine ⟨fun σ2 H2 => WS H ms (.ref b) n gs d (qq gs n a).length σ2 H2, fun σ2 H2 hw => ⟨240 - (qq gs n a).length, by omega, _, rfl, hw⟩, ?_⟩
    -- longer = []
    refine ⟨Nat.zero_le _, fun lg hlg => ?_⟩
    have hlg0 : H lg = none := sm.free hlg
    have sl := same_new (o := .lst []) hlg
    obtain ⟨pm, mxs, rfl, hpm, hmx⟩ := hms
    have hlvg : lv ≠ lg := ne_of_none hlv' hlg
    have hdg : d ≠ lg := ne_of_none hkv hlg
    have hlv0 : ∀ H2 : Hp, Same H' H2 → H2 lv = some (.lst xs) := fun H2 s => s _ _ hlv'
    refine ⟨_, rfl, lv, rfl, ⟨_, SqL.of (sl _ _ hlv')⟩, for_list (K := K) (a := lv) (xs := xs)
      (fun i σ2 H2 => ∃ y6 y7 y8 y9 M, σ2 = [some (.ref pm), some (nI n), some (.ref b), some (.ref d), some (.ref lv), some (.ref lg), y6, y7, y8, y9] ∧ Same H H2 ∧ qq gs n (a + i) = qq gs n a ++ M ∧ DW H2 d (qq gs n (a + i)) ∧ LT H2 lg (M.map (·.1)) ∧ H2 lv = some (.lst xs) ∧ Paired (TN H2) xs (((qq gs n a).map (·.1)).drop a))
      ⟨x6, x7, x8, x9, [], rfl, sm.trans sl, by rw [List.append_nil]; rfl, DW.same ⟨kvs, hkv, pkv⟩ sl, ⟨[], upd_same, .nil⟩, sl _ _ hlv', TNs.tm (.of sl) hxs⟩
      (fun i σ2 H2 _ ⟨_, _, _, _, _, _, _, _, _, _, h, _⟩ => SqL.of h) ?_ ?_⟩
    · rintro i x σ2 H2 hi ⟨y6, y7, y8, y9, M, rfl, sm2, eM, dw2, lt2, hlv2, hx2⟩
      obtain ⟨t, ht, htn⟩ := Paired.getL hx2 hi
      rw [List.getElem?_drop, List.getElem?_map] at ht
      obtain ⟨⟨t', w'⟩, hq, et⟩ := Option.map_eq_some_iff.mp ht
      have et : t' = t := et
      subst et
      have hstep := qq_step eM hq
      have htP : IsP n t' := Mk.isP hg (qq_mk gs n a t' (List.mem_map.mpr ⟨_, List.mem_of_getElem? hq, rfl⟩))
      refine ⟨_, rfl, pm, _, rfl, SqT.of (sm2 _ _ hpm), for_enumT (K := K) (xs := mxs)
        (fun j σ3 H3 => ∃ z7 z8 z9 M', σ3 = [some (.ref pm), some (nI n), some (.ref b), some (.ref d), some (.ref lv), some (.ref lg), some x, z7, z8, z9] ∧ Same H H3 ∧ grow t' w' (gs.take j) 0 (qq gs n (a + i)) = qq gs n a ++ M' ∧ DW H3 d (qq gs n a ++ M') ∧ LT H3 lg (M'.map (·.1)) ∧ H3 lv = some (.lst xs) ∧ Paired (TN H3) xs (((qq gs n a).map (·.1)).drop a))
        ⟨y7, y8, y9, M, rfl, sm2, eM, by rw [← eM]; exact dw2, lt2, hlv2, hx2⟩ (fun j σ3 H3 _ ⟨_, _, _, _, _, s, _⟩ => SqT.of (s _ _ hpm)) ?_ ?_⟩
      · rintro j y σ3 H3 T hj ⟨z7, z8, z9, M', rfl, sm3, eM', dw3, ⟨gz, hgz, pgz⟩, hlv3, hx3⟩ hT
        obtain ⟨g, hgj, hyg⟩ := Paired.getL hmx hj
        have hgP := hg g (List.mem_of_getElem? hgj)
        have sT := same_new (o := .tup [nI j, y]) hT
        refine ⟨T, _, rfl, SqT.of upd_same, rfl, nI j, _, rfl, y, _, rfl, rfl, ?_⟩
        obtain ⟨t2, ht2, htn3⟩ := Paired.getL hx3 hi
        rw [List.getElem?_drop, List.getElem?_map, hq] at ht2
        have ht2 : t' = t2 := Option.some.inj ht2
        subst ht2
        refine ⟨_, rfl, _, rfl, pr_call (htn3.tm (.of sT)) (hyg.tm (.of (sm3.trans sT))) htP hgP hn fun v H4 s4 hv => ?_⟩
        have s34 : Same H3 H4 := sT.trans s4
        have hvP := htP.prod hgP
        obtain ⟨b1, rfl, hb1⟩ := hv.key
        obtain ⟨kv4, hk4, pk4⟩ := dw3.same s34
        have hgz4 := s34 _ _ hgz
        have pgz4 := TNs.tm (.of s34) pgz
        have hlv4 := s34 _ _ hlv3
        have hx4 := TNs.tm (.of s34) hx3
        have hnd : ((qq gs n a ++ M').map (·.1)).Nodup := by rw [← eM']; exact grow_nd _ _ _ _ _ (qq_nd gs n (a + i))
        have hnx := grow_next (t := t') (w := w') hgj (qq gs n (a + i))
        rw [eM'] at hnx
        have sm4 : Same H H4 := sm3.trans s34
        refine ⟨_, rfl, _, rfl, d, _, rfl, DGet.t hk4 hb1, _, rfl, ?_⟩
        rw [dw_isSome pk4 hnd]
        by_cases hin : prod t' g ∈ (qq gs n a ++ M').map (·.1)
        · rw [if_pos hin] at hnx
          rw [decide_eq_true hin]
          exact iteF ⟨_, _, _, M', rfl, sm4, hnx, ⟨kv4, hk4, pk4⟩, ⟨gz, hgz4, pgz4⟩, hlv4, hx4⟩
        · rw [if_neg hin] at hnx
          rw [decide_eq_false hin]
          refine iteT ?_
          have hmem : (t', w') ∈ qq gs n a ++ M' := List.mem_append.mpr (.inl (List.mem_of_getElem? hq))
          obtain ⟨wv, hwv, hwn⟩ := dw_some pk4 hnd hmem
          obtain ⟨b2, rfl, hb2⟩ := (htn3.tm (.of s34)).key
          obtain ⟨pw, rfl, hpw⟩ := hwn
          have hwl : w'.length ≤ 240 := Nat.le_trans (qq_w gs n a _ (List.mem_of_getElem? hq)) le2
          refine ⟨_, rfl, _, rfl, d, .ref pw, kv4, _, _, rfl, rfl, .inl hk4, hb2, hwv, _, rfl, by show 1 ≤ sizeLine; decide, fun p hp => ?_⟩
          have s5 := same_new (o := .tup [nI j]) hp
          refine catA_tn (hpw.sm s5) upd_same (by omega) fun v5 H5 s6 hv5 => ?_
          have s45 := s5.trans s6
          have hk5 := s45 _ _ hk4
          have hkl4 : kv4.length = (grow t' w' (gs.take j) 0 (qq gs n (a + i))).length := by rw [Paired.length pk4, ← eM']
          have hsz : kv4.length ≤ 1000000 := by
            have h0 := grow_len t' w' (gs.take j) 0 (qq gs n (a + i))
            have h1 := qq_len_le gs n a i
            have h3 : i ≤ 240 := by
              have := (List.getElem?_eq_some_iff.mp hq).1
              omega
            have h4 : i * gs.length ≤ 240 * 1000 := Nat.mul_le_mul h3 hgl
            rw [List.length_take] at h0
            omega
          refine ⟨_, rfl, _, rfl, d, _, rfl, DPut.t hk5 (s45 _ _ hb1) (by rw [sizeLine_eq]; omega), ?_⟩
          rw [putK_new v5 (dw_none pk4 hin)]
          have t6 : Tm H5 (upd H5 d (.dT (kv4 ++ [(keyN (prod t' g), v5)]))) := Tm.dT hk5
          have hg6 : (upd H5 d (.dT (kv4 ++ [(keyN (prod t' g), v5)]))) lg = some (.lst gz) := by
            rw [upd_ne (ne_of hgz4 hk4 (fun z => nomatch z))]
            exact s45 _ _ hgz4
          have hgzl : gz.length ≤ kv4.length := by
            rw [Paired.length pgz, Paired.length pk4, List.length_map, List.length_append]
            omega
          refine ⟨_, rfl, .inl ⟨rfl, _, SqL.of hg6⟩, _, rfl, lg, _, _, rfl, rfl, hg6, by rw [sizeLine_eq]; omega, ?_⟩
          have t7 := Tm.lst (o := .lst (gz ++ [.ref b1])) hg6
          have tt := (Tm.of s45).trans (t6.trans t7)
          refine ⟨_, _, _, M' ++ [(prod t' g, w' ++ [j])], rfl, ?_, ?_, ⟨kv4 ++ [(keyN (prod t' g), v5)], ?_, ?_⟩, ⟨gz ++ [.ref b1], upd_same, ?_⟩, ?_, TNs.tm tt hx4⟩
          · exact same_mut (same_mut (sm4.trans s45) hd0) hlg0
          · rw [hnx, List.append_assoc]
          · rw [upd_ne hdg, upd_same]
          · rw [← List.append_assoc]
            exact Paired.app (DEs.tm tt pk4) (Paired.one ⟨rfl, hv5.tm (t6.trans t7)⟩)
          · rw [List.map_append]
            exact Paired.app (TNs.tm tt pgz4) (Paired.one (hv.tn.tm tt))
          · rw [upd_ne hlvg, upd_ne (ne_of hlv4 hk4 (fun z => nomatch z))]
            exact s45 _ _ hlv4
      · rintro σ3 H3 ⟨z7, z8, z9, M', rfl, sm3, eM', dw3, lt3, hlv3, hx3⟩
        have e : gs.take mxs.length = gs := by rw [Paired.length hmx, List.take_length]
        rw [e] at eM'
        refine ⟨_, _, _, _, M', rfl, sm3, ?_, ?_, lt3, hlv3, hx3⟩
        · show qq gs n (a + i + 1) = _
          rw [hstep, eM']
        · show DW H3 d (qq gs n (a + i + 1))
          rw [hstep, eM']
          exact dw3
    · rintro σ2 H2 ⟨y6, y7, y8, y9, M, rfl, sm2, eM, dw2, lt2, hlv2, hx2⟩
      have e : a + xs.length = (qq gs n a).length := by omega
      rw [e] at eM dw2
      refine ⟨_, rfl, ⟨⟨lg, _, _, _, _, _, rfl, ?_⟩, sm2, dw2, ?_, by omega⟩⟩
      · rw [eM, List.map_append, List.drop_append_of_le_length (by rw [List.length_map]; exact Nat.le_refl _), List.drop_of_length_le (by rw [List.length_map]; exact Nat.le_refl _), List.nil_append]
        exact lt2
      · rw [eM, List.length_append]
        omega
end
end Lt

set_option linter.all false
set_option Elab.async false
/-! powers of a turn; the whole of the turns -/
namespace Lt
def pw (n : Nat) (t : List Nat) : Nat → List Nat
  | 0 => List.range n
  | k + 1 => prod (pw n t k) t
theorem pw_isP {n : Nat} {t : List Nat} (h : IsP n t) : ∀ k, IsP n (pw n t k)
  | 0 => IsP.still n
  | k + 1 => (pw_isP h k).prod h
theorem pw_one {n : Nat} {t : List Nat} (h : IsP n t) : pw n t 1 = t := prod_still_l h.len
theorem pw_add {n : Nat} {t : List Nat} (h : IsP n t) (i : Nat) : ∀ k, pw n t (i + k) = prod (pw n t i) (pw n t k)
  | 0 => (prod_still_r (pw_isP h i).lt).symm
  | k + 1 => by
    show prod (pw n t (i + k)) t = prod (pw n t i) (prod (pw n t k) t)
    rw [pw_add h i k]
    exact prod_assoc fun j hj => by rw [(pw_isP h k).len]; exact (pw_isP h i).lt j hj
theorem prod_cancel {n : Nat} {a b : List Nat} (ha : IsP n a) (hb : IsP n b) (h : prod a b = a) : b = List.range n := by
  have h1 : prod (prod (inv a) a) b = prod (inv a) (prod a b) := prod_assoc fun i hi => by rw [ha.len]; exact ha.inv.lt i hi
  rw [h, prod_inv_l ha, prod_still_l hb.len] at h1
  exact h1
theorem Mk.prod {gs : List (List Nat)} {n : Nat} (hg : ∀ g ∈ gs, IsP n g) {a b : List Nat} (ha : Mk gs n a) (hb : Mk gs n b) : Mk gs n (prod a b) := by
  induction hb with
  | still => rw [prod_still_r (ha.isP hg).lt]; exact ha
  | @step t g ht hm ih =>
    rw [← prod_assoc (x := a) fun i hi => by rw [(ht.isP hg).len]; exact (ha.isP hg).lt i hi]
    exact .step ih hm
theorem Mk.pw {gs : List (List Nat)} {n : Nat} (hg : ∀ g ∈ gs, IsP n g) {t : List Nat} (h : Mk gs n t) : ∀ k, Mk gs n (pw n t k)
  | 0 => .still
  | k + 1 => (Mk.pw hg h k).prod hg h
/-- two of many places hold the same -/
theorem dup_of {α : Type} [DecidableEq α] (f : Nat → α) : ∀ m, ¬ ((List.range m).map f).Nodup → ∃ i j, i < j ∧ j < m ∧ f i = f j
  | 0, h => absurd List.Pairwise.nil h
  | m + 1, h => by
    by_cases hn : ((List.range m).map f).Nodup
    · rw [List.range_succ, List.map_append] at h
      by_cases hx : f m ∈ (List.range m).map f
      · obtain ⟨i, hi, e⟩ := List.mem_map.mp hx
        exact ⟨i, m, List.mem_range.mp hi, Nat.lt_succ_self m, e⟩
      · exact absurd (nodup_snoc hn hx) h
    · obtain ⟨i, j, h1, h2, e⟩ := dup_of f m hn
      exact ⟨i, j, h1, by omega, e⟩
theorem pw_back {gs : List (List Nat)} {n m : Nat} (hg : ∀ g ∈ gs, IsP n g) (hf : Few gs n m) {t : List Nat} (h : Mk gs n t) : ∃ N, 1 ≤ N ∧ N ≤ m ∧ pw n t N = List.range n := by
  have hnd : ¬ ((List.range (m + 1)).map (Lt.pw n t)).Nodup := fun hnd => by
    have z := hf.le hnd fun x hx => by
      obtain ⟨k, _, e⟩ := List.mem_map.mp hx
      rw [← e]
      exact h.pw hg k
    rw [List.length_map, List.length_range] at z
    omega
  obtain ⟨i, j, hij, hj, e⟩ := dup_of _ _ hnd
  have ht := h.isP hg
  refine ⟨j - i, by omega, by omega, ?_⟩
  have z := pw_add ht i (j - i)
  rw [show i + (j - i) = j by omega, ← e] at z
  exact prod_cancel (pw_isP ht i) (pw_isP ht _) z.symm
/-- the least of some numbers -/
theorem least_of {p : Nat → Prop} [DecidablePred p] : ∀ n, p n → ∃ k, k ≤ n ∧ p k ∧ ∀ j, j < k → ¬ p j := fun n => by
  induction n using Nat.strongRecOn with
  | _ n ih =>
    intro h
    by_cases hx : ∃ j, j < n ∧ p j
    · obtain ⟨j, hj, pj⟩ := hx
      obtain ⟨k, h1, h2, h3⟩ := ih j hj pj
      exact ⟨k, by omega, h2, h3⟩
    · exact ⟨n, Nat.le_refl n, h, fun j hj pj => hx ⟨j, hj, pj⟩⟩
theorem pw_least {gs : List (List Nat)} {n m : Nat} (hg : ∀ g ∈ gs, IsP n g) (hf : Few gs n m) {t : List Nat} (h : Mk gs n t) : ∃ N, 1 ≤ N ∧ N ≤ m ∧ pw n t N = List.range n ∧ ∀ j, 1 ≤ j → j < N → pw n t j ≠ List.range n := by
  obtain ⟨N, h1, h2, h3⟩ := pw_back hg hf h
  obtain ⟨k, hk1, ⟨hk2, hk3⟩, hk4⟩ := least_of (p := fun k => 1 ≤ k ∧ pw n t k = List.range n) N ⟨h1, h3⟩
  exact ⟨k, hk2, by omega, hk3, fun j hj1 hj2 e => hk4 j hj2 ⟨hj1, e⟩⟩
/-- all the words, the lock being small -/
@[irreducible] def LL (gs : List (List Nat)) (n : Nat) : List W := qq gs n 300
theorem LL_eq (gs : List (List Nat)) (n : Nat) : LL gs n = qq gs n 300 := by unfold LL; rfl
theorem LL_of {gs : List (List Nat)} {n m a : Nat} (hf : Few gs n m) (hm : m ≤ 240) (h : (qq gs n a).length = a) : qq gs n a = LL gs n := by
  have := hf.qq a
  rw [LL_eq]
  exact (qq_end' gs n (by omega) (by omega)).symm
theorem LL_len {gs : List (List Nat)} {n m : Nat} (hf : Few gs n m) : (LL gs n).length ≤ m := by
  rw [LL_eq]
  exact hf.qq 300
theorem LL_nd (gs : List (List Nat)) (n : Nat) : ((LL gs n).map (·.1)).Nodup := by
  rw [LL_eq]
  exact qq_nd gs n 300
theorem LL_mem {gs : List (List Nat)} {n m : Nat} (hf : Few gs n m) (hm : m ≤ 240) (t : List Nat) : t ∈ (LL gs n).map (·.1) ↔ Mk gs n t := by
  rw [LL_eq]
  exact qq_full (Nat.le_trans (hf.qq 300) (by omega)) t
end Lt

set_option Elab.async false
set_option linter.all false
set_option maxRecDepth 100000
set_option maxHeartbeats 4000000
namespace Lt
open PySem PySem.Spec PyProof.Rows L2
/-! ### what is a lock -/
def lenOf : PyData → Nat
  | .tuple ds => ds.length
  | _ => 0
def firstBad : List PyData → Nat → Nat → Option Nat
  | [], _, _ => none
  | d :: ds, n, i => if isPermD d n = true then firstBad ds n (i + 1) else some i
def lockBad : PyData → Option (Option Nat)
  | .tuple ds => if 1 ≤ ds.length ∧ ds.length ≤ 4 then (if isTup (ds.headD .none) = true ∧ 2 ≤ lenOf (ds.headD .none) ∧ lenOf (ds.headD .none) ≤ 9 then (firstBad ds (lenOf (ds.headD .none)) 0).map some else some (some 0)) else some none
  | _ => some none
def plV : Option Nat → V
  | none => .non
  | some i => nI i
def Sml (d : PyData) : Prop := ∀ ds, d = .tuple ds → ds.length ≤ 1000 ∧ ∀ e ∈ ds, ∀ es, e = .tuple es → es.length < 64
section
variable {P : Program} {w : World} {K : PySem.W.Frag} {mg : Str → Option Value} {base : Heap} {CL CM CT : Addr}
/-! ### check_lock -/
def spCheck (CL : Addr) : Sp := fun vs H Q E => ∃ (v : V) (d : PyData), vs = [v] ∧ Rp H v d ∧ Sml d ∧ (lockBad d = none → ∀ H', Same H H' → Q .non H') ∧ ∀ pl, lockBad d = some pl → BadF CL "place" (plV pl) H E
theorem sc_check_lock : FnScope ["lock", "place", "given"] ["lock"] (defScope s_check_lock) := ⟨rfl, rfl, rfl, by decide +kernel, rfl, by decide +kernel, by decide +kernel⟩
theorem has_check_lock (T : Top K mg "check_lock" s_check_lock ["lock"]) (B : Bi mg) (X1 : ErrI P w K mg base "BadLock" "place" CL) (C1 : Cn mg "MOST_GIVEN" 4) (C2 : Cn mg "FEWEST_PLACES" 2) (C3 : Cn mg "MOST_PLACES" 9)
    (hP : Has P w K mg base CX0 3 "is_permutation" ["value", "size"] spPerm) : Has P w K mg base (L2.CX P w) 4 "check_lock" ["lock"] (spCheck CL) := by
  refine T.okX sc_check_lock (fun vs H Q E h => ?_) (fun f cdv A outer s H vs Q E hr h => ?_)
  · obtain ⟨v, d, rfl, _⟩ := h
    rfl
  · obtain ⟨v, d, rfl, hd, hs, qg, qb⟩ := h
    obtain ⟨t1, e1⟩ := C1
    obtain ⟨t2, e2⟩ := C2
    obtain ⟨t3, e3⟩ := C3
    have hr2 : Room 2 _ := hr.mono (by decide)
    refine ⟨_, pss_cons (ps_if (PW.pt (pw_or (pt_not (pt_val (pe_callB call_isi (by rfl) B.isinstance PyProof.Rows.boot_isinstance (pa_cons (pv 0) (pa_cons (pe_bltn (by rfl) B.tuple PyProof.Rows.boot_tuple (rr_ty "tuple")) pa_nil)))))
          (pw_or1 (pt_not (pt_chain op_le op_le pe_int (pe_callB call_len_seq (by rfl) B.len PySem.boot_len (pa_cons (pv 0) pa_nil)) (pe_glob (v := .int 4) rfl e1 ⟨_, rfl⟩))))))
        (pss_one (ps_raise rfl (takes_of rfl rfl rfl rfl) (pmk_errI X1 hr2 (by rfl) (pa_cons pe_non pa_nil)))) pss_nil)
      (pss_cons (ps_if (PW.pt (pw_or (pt_not (pt_val (pe_callB call_isi (by rfl) B.isinstance PyProof.Rows.boot_isinstance (pa_cons (pe_ix ix_tup (pv 0) pe_int (fun _ _ => rfl)) (pa_cons (pe_bltn (by rfl) B.tuple PyProof.Rows.boot_tuple (rr_ty "tuple")) pa_nil)))))
          (pw_or1 (pt_not (pt_chain op_le op_le (pe_glob (v := .int 2) rfl e2 ⟨_, rfl⟩) (pe_callB call_len_seq (by rfl) B.len PySem.boot_len (pa_cons (pe_ix ix_tup (pv 0) pe_int (fun _ _ => rfl)) pa_nil)) (pe_glob (v := .int 9) rfl e3 ⟨_, rfl⟩))))))
        (pss_one (ps_raise rfl (takes_of rfl rfl rfl rfl) (pmk_errI X1 hr2 (by rfl) (pa_cons pe_int pa_nil)))) pss_nil)
      (pss_one (ps_for (passes_of rfl) rfl (pi_enumT (by rfl) B.enumerate (pa_cons (pv 0) pa_nil)) (pg_tup rfl (pgs_cons (pg_name (i := 1) sc_check_lock.nd rfl (Or.inl rfl)) (pgs_cons (pg_name (i := 2) sc_check_lock.nd rfl (Or.inl rfl)) pgs_nil)))
        (pss_one (ps_if (pt_not (pt_val (pe_has hP hr (by rfl) (pa_cons (pv 2) (pa_cons (pe_callB call_len_seq (by rfl) B.len PySem.boot_len (pa_cons (pe_ix ix_tup (pv 0) pe_int (fun _ _ => rfl)) pa_nil)) pa_nil)))))
          (pss_one (ps_raise rfl (takes_of rfl rfl rfl rfl) (pmk_errI X1 hr2 (by rfl) (pa_cons (pv 1) pa_nil)))) pss_nil))))), ?_⟩
    have bad : ∀ {pl : Option Nat} {H' : Hp}, lockBad d = some pl → Same H H' → BadF CL "place" (plV pl) H' E := fun e s => (qb _ e).same s
    by_cases hT : isTup d = true
    rotate_left
    · have e : lockBad d = some none := by cases d <;> first | rfl | exact absurd rfl hT
      have hF : isTup d = false := by simpa using hT
      refine ⟨_, rfl, v, .ty "tuple", _, _, isTup d, rfl, .ty _, rp_ty hd, kit_ty (kit_tup d), isTup d, rfl, ?_⟩
      rw [hF]
      exact mk_read X1.oex X1.no (bad e (Same.refl _))
    cases hd with
    | non => cases hT
    | bl => cases hT
    | int => cases hT
    | str => cases hT
    | lst => cases hT
    | @tup a xs ds ha hx =>
      have hxl := hx.len
      obtain ⟨hs1, hs2⟩ := hs ds rfl
      refine ⟨_, rfl, .ref a, .ty "tuple", _, _, true, rfl, .ty _, rp_ty (.tup ha hx), kit_ty (kit_tup (.tuple ds)), true, rfl, iteF ?_⟩
      have none_of : ¬ (1 ≤ ds.length ∧ ds.length ≤ 4) → lockBad (.tuple ds) = some none := fun h => by
        show (if 1 ≤ ds.length ∧ ds.length ≤ 4 then _ else _) = _
        rw [if_neg h]
      refine ⟨_, rfl, a, xs, rfl, .inr (ha.sq), 1, (xs.length : Int), rfl, rfl, _, rfl, ite2 (fun h1 => ⟨_, _, rfl, rfl, _, rfl, ite2 (fun h2 => ?_) (fun h2 => ?_)⟩) (fun h1 => ⟨_, rfl, ?_⟩)⟩
      · have h2 : ¬ ((xs.length : Int) ≤ 4) := fun z => by rw [decide_eq_true z] at h2; cases h2
        exact mk_read X1.oex X1.no (bad (none_of (by omega)) (Same.refl _))
      rotate_left
      · have h1 : ¬ ((1 : Int) ≤ (xs.length : Int)) := fun z => h1 (decide_eq_true z)
        exact mk_read X1.oex X1.no (bad (none_of (by omega)) (Same.refl _))
      have h2 : (xs.length : Int) ≤ 4 := by
        by_cases z : (xs.length : Int) ≤ 4
        · exact z
        · rw [decide_eq_false z] at h2
          exact absurd rfl h2
      have h1 : (1 : Int) ≤ (xs.length : Int) := of_decide_eq_true h1
      have hlen : 1 ≤ ds.length ∧ ds.length ≤ 4 := ⟨by omega, by omega⟩
      -- the first given turn
      cases hx with
      | nil => exact absurd hlen.1 (by decide)
      | @cons x xr dd dr r0 rr =>
      have hx : RpAll H (x :: xr) (dd :: dr) := .cons r0 rr
      have eLB : lockBad (.tuple (dd :: dr)) = if isTup dd = true ∧ 2 ≤ lenOf dd ∧ lenOf dd ≤ 9 then (firstBad (dd :: dr) (lenOf dd) 0).map some else some (some 0) := by
        show (if 1 ≤ (dd :: dr).length ∧ (dd :: dr).length ≤ 4 then _ else _) = _
        rw [if_pos hlen]
        rfl
      have zero_of : ¬ (isTup dd = true ∧ 2 ≤ lenOf dd ∧ lenOf dd ≤ 9) → lockBad (.tuple (dd :: dr)) = some (some 0) := fun h => by rw [eLB, if_neg h]
      have at0 : atI (x :: xr) 0 = some x := atI_nat (j := 0) rfl
      refine ⟨_, rfl, a, _, 0, x, rfl, rfl, ha.sq, at0, x, .ty "tuple", _, _, isTup dd, rfl, .ty _, rp_ty r0, kit_ty (kit_tup dd), isTup dd, rfl, ?_⟩
      by_cases hT2 : isTup dd = true
      rotate_left
      · have hF : isTup dd = false := by simpa using hT2
        rw [hF]
        exact mk_read (v := .int 0) X1.oex X1.no (bad (zero_of fun z => hT2 z.1) (Same.refl _))
      rw [hT2]
      refine iteF ?_
      cases r0 with
      | non => cases hT2
      | bl => cases hT2
      | int => cases hT2
      | str => cases hT2
      | lst => cases hT2
      | @tup b ys es hb hy =>
      have hyl := hy.len
      refine ⟨_, rfl, a, _, 0, .ref b, rfl, rfl, ha.sq, at0, b, ys, rfl, .inr (hb.sq), 2, (ys.length : Int), rfl, rfl, _, rfl, ite2 (fun h3 => ⟨_, _, rfl, rfl, _, rfl, ite2 (fun h4 => ?_) (fun h4 => ?_)⟩) (fun h3 => ⟨_, rfl, ?_⟩)⟩
      · have h4 : ¬ ((ys.length : Int) ≤ 9) := fun z => by rw [decide_eq_true z] at h4; cases h4
        exact mk_read (v := .int 0) X1.oex X1.no (bad (zero_of fun z => h4 (by have := z.2.2; show (ys.length : Int) ≤ 9; rw [hyl]; exact Int.ofNat_le.mpr this)) (Same.refl _))
      rotate_left
      · have h3 : ¬ ((2 : Int) ≤ (ys.length : Int)) := fun z => h3 (decide_eq_true z)
        exact mk_read (v := .int 0) X1.oex X1.no (bad (zero_of fun z => h3 (by have := z.2.1; show (2 : Int) ≤ (ys.length : Int); rw [hyl]; exact Int.ofNat_le.mpr this)) (Same.refl _))
      have h4 : (ys.length : Int) ≤ 9 := by
        by_cases z : (ys.length : Int) ≤ 9
        · exact z
        · rw [decide_eq_false z] at h4
          exact absurd rfl h4
      have h3 : (2 : Int) ≤ (ys.length : Int) := of_decide_eq_true h3
      rw [if_pos ⟨rfl, by show 2 ≤ es.length; omega, by show es.length ≤ 9; omega⟩] at eLB
      have eLB : lockBad (.tuple (.tuple es :: dr)) = (firstBad (.tuple es :: dr) es.length 0).map some := eLB
      refine ⟨_, rfl, a, _, rfl, ha.sq, for_enumT (K := K) (xs := .ref b :: xr) (fun i σ H' => ∃ y z, σ = [some (.ref a), y, z] ∧ Same H H' ∧ firstBad (.tuple es :: dr) es.length 0 = firstBad ((.tuple es :: dr).drop i) es.length i)
        ⟨none, none, rfl, Same.refl _, rfl⟩ (fun i σ H' _ ⟨_, _, _, s, _⟩ => (ha.sm s).sq) ?_ ?_⟩
      · rintro i u σ H' T hi ⟨y, z, rfl, sm, hfb⟩ hTn
        obtain ⟨du, hdu, hru⟩ := hx.get hi
        have sT := same_new (o := .tup [nI i, u]) hTn
        have sm' := sm.trans sT
        have hdrop : (PyData.tuple es :: dr).drop i = du :: (PyData.tuple es :: dr).drop (i + 1) := by
          obtain ⟨hl, e⟩ := List.getElem?_eq_some_iff.mp hdu
          rw [List.drop_eq_getElem_cons hl, e]
        rw [hdrop] at hfb
        refine ⟨T, _, rfl, SqT.of upd_same, rfl, nI i, _, rfl, u, _, rfl, rfl, ?_⟩
        refine ⟨_, rfl, _, rfl, a, _, 0, .ref b, rfl, rfl, (ha.sm sm').sq, at0, b, ys, rfl, .inr ((hb.sm sm').sq), u, du, es.length, by rw [hyl]; rfl, Rp.same sm' _ _ hru, fun es' e => ?_, by omega, fun H2 s2 => ?_⟩
        · exact hs2 du (List.mem_of_getElem? hdu) es' e
        refine ⟨isPermD du es.length, rfl, ?_⟩
        by_cases hp : isPermD du es.length = true
        · rw [hp]
          refine iteF ⟨_, _, rfl, sm'.trans s2, ?_⟩
          rw [hfb]
          show (if isPermD du es.length = true then _ else _) = _
          rw [if_pos hp]
        · have hF : isPermD du es.length = false := by simpa using hp
          rw [hF]
          refine iteT ⟨_, rfl, mk_read X1.oex X1.no (bad (pl := some i) ?_ (sm'.trans s2))⟩
          rw [eLB, hfb]
          rw [show firstBad (du :: List.drop (i + 1) (PyData.tuple es :: dr)) es.length i = some i from if_neg hp]
          rfl
      · rintro σ H' ⟨y, z, rfl, sm, hfb⟩
        refine qg ?_ H' sm
        rw [eLB, hfb, List.drop_of_length_le (by rw [hxl]; exact Nat.le_refl _)]
        rfl
end
end Lt

set_option Elab.async false
set_option linter.all false
set_option maxRecDepth 100000
set_option maxHeartbeats 4000000
namespace Lt
open PySem PySem.Spec PyProof.Rows L2
def GL (ls : List (List Nat)) (n : Nat) : Prop := 1 ≤ ls.length ∧ ls.length ≤ 4 ∧ 2 ≤ n ∧ n ≤ 9 ∧ ∀ g ∈ ls, IsP n g
/-- the argument lock: no lock, too great a one, or a lock of which k -/
def LockIn (CL CM : Addr) (v : V) (H : Hp) (E : XK) (k : List (List Nat) → Nat → Prop) : Prop := ∃ d, Rp H v d ∧ Sml d ∧ (∀ pl, lockBad d = some pl → BadF CL "place" (plV pl) H E) ∧
  (lockBad d = none → ∃ ls n, TT H v ls ∧ GL ls n ∧ (∀ L, Wd ls n L → 240 < L.length → BadF CM "most" (.int 240) H E) ∧ k ls n)
theorem LockIn.imp {CL CM : Addr} {v : V} {H : Hp} {E : XK} {k k' : List (List Nat) → Nat → Prop} (h : LockIn CL CM v H E k) (i : ∀ ls n, TT H v ls → GL ls n → k ls n → k' ls n) : LockIn CL CM v H E k' := by
  obtain ⟨d, h1, h2, h3, h4⟩ := h
  refine ⟨d, h1, h2, h3, fun e => ?_⟩
  obtain ⟨ls, n, a, b, c, q⟩ := h4 e
  exact ⟨ls, n, a, b, c, i ls n a b q⟩
theorem numsOf_dT (t : List Nat) : numsOf (dT t) = t.map Int.ofNat := by
  show (t.map dN).map numOf = _
  rw [List.map_map]
  rfl
theorem isNums_dT (t : List Nat) : isNums (dT t) = true := by
  show (t.map dN).all isNum = true
  rw [List.all_map]
  exact List.all_eq_true.mpr fun _ _ => rfl
theorem ofNat_inj : ∀ x y : Nat, Int.ofNat x = Int.ofNat y → x = y := fun _ _ e => Int.ofNat.inj e
theorem perm_ofNat {a b : List Nat} (h : (a.map Int.ofNat).Perm (b.map Int.ofNat)) : a.Perm b := by
  have z := h.map Int.toNat
  rw [List.map_map, List.map_map] at z
  have e : ∀ l : List Nat, l.map (Int.toNat ∘ Int.ofNat) = l := fun l => (List.map_congr_left (g := id) fun _ _ => rfl).trans (List.map_id l)
  rw [e, e] at z
  exact z
theorem isPermD_dT (t : List Nat) (n : Nat) : isPermD (dT t) n = decide (IsP n t) := by
  unfold isPermD
  rw [isNums_dT, Bool.true_and, numsOf_dT]
  exact decide_eq_decide.mpr ⟨fun h => perm_ofNat h, fun h => List.Perm.map _ h⟩
theorem firstBad_good {n : Nat} : ∀ (ls : List (List Nat)) (i : Nat), (∀ g ∈ ls, IsP n g) → firstBad (ls.map dT) n i = none
  | [], _, _ => rfl
  | g :: ls, i, h => by
    show (if isPermD (dT g) n = true then firstBad (ls.map dT) n (i + 1) else some i) = none
    rw [isPermD_dT, decide_eq_true (h g List.mem_cons_self), if_pos rfl]
    exact firstBad_good ls (i + 1) fun x hx => h x (List.mem_cons_of_mem _ hx)
theorem lockBad_good {ls : List (List Nat)} {n : Nat} (h : GL ls n) : lockBad (.tuple (ls.map dT)) = none := by
  obtain ⟨h1, h2, h3, h4, h5⟩ := h
  cases ls with
  | nil => exact absurd h1 (by decide)
  | cons g ls =>
    have hg := (h5 g List.mem_cons_self).len
    show (if 1 ≤ ((g :: ls).map dT).length ∧ ((g :: ls).map dT).length ≤ 4 then (if isTup (dT g) = true ∧ 2 ≤ lenOf (dT g) ∧ lenOf (dT g) ≤ 9 then (firstBad ((g :: ls).map dT) (lenOf (dT g)) 0).map some else some (some 0)) else some none) = none
    have e : lenOf (dT g) = n := by
      show (g.map dN).length = n
      rw [List.length_map, hg]
    rw [if_pos ⟨by rw [List.length_map]; exact h1, by rw [List.length_map]; exact h2⟩, e, if_pos ⟨rfl, h3, h4⟩, firstBad_good _ _ h5]
    rfl
theorem sml_good {ls : List (List Nat)} {n : Nat} (h : GL ls n) : Sml (.tuple (ls.map dT)) := by
  obtain ⟨h1, h2, h3, h4, h5⟩ := h
  intro ds e
  injection e with e
  subst e
  refine ⟨by rw [List.length_map]; omega, fun x hx es ee => ?_⟩
  obtain ⟨g, hg, rfl⟩ := List.mem_map.mp hx
  injection ee with ee
  subst ee
  rw [List.length_map, (h5 g hg).len]
  omega
theorem Few.wd {ls : List (List Nat)} {n m : Nat} (h : Few ls n m) (hm : m ≤ 240) {L : List (List Nat × List Nat)} (hL : Wd ls n L) : ∃ a, L = Lt.qq ls n a ∧ L.length = a ∧ L.length ≤ m := by
  obtain ⟨a, rfl, h1, h2⟩ := hL
  have h3 := h.qq a
  exact ⟨a, rfl, by omega, h3⟩
theorem lockIn_good {CL CM : Addr} {v : V} {H : Hp} {E : XK} {k : List (List Nat) → Nat → Prop} {ls : List (List Nat)} {n m : Nat} (ht : TT H v ls) (hg : GL ls n) (hf : Few ls n m) (hm : m ≤ 240) (q : k ls n) : LockIn CL CM v H E k :=
  ⟨_, ht.rp, sml_good hg, fun pl e => (by rw [lockBad_good hg] at e; cases e), fun _ => ⟨ls, n, ht, hg, fun L hL h => by
    obtain ⟨a, _, _, z⟩ := hf.wd hm hL
    omega, q⟩⟩
theorem TT.head {H : Hp} {v : V} {ls : List (List Nat)} {n : Nat} (h : TT H v ls) (hg : GL ls n) : ∃ a xs b, v = .ref a ∧ H a = some (.tup xs) ∧ Paired (TN H) xs ls ∧ atI xs 0 = some (.ref b) ∧ ∃ t, RT H b (nIs t) ∧ t.length = n := by
  obtain ⟨a, xs, rfl, ha, p⟩ := h
  cases p with
  | nil => exact absurd hg.1 (by decide)
  | @cons x t xr tr r rr =>
    obtain ⟨b, rfl, hb⟩ := r
    exact ⟨a, _, b, rfl, ha, .cons ⟨b, rfl, hb⟩ rr, atI_nat (j := 0) rfl, t, hb, (hg.2.2.2.2 t List.mem_cons_self).len⟩
section
variable {P : Program} {w : World} {K : PySem.W.Frag} {mg : Str → Option Value} {base : Heap} {CL CM CT : Addr}
/-! ### made_words -/
def spMade (CL CM : Addr) : Sp := fun vs H Q E => ∃ v, vs = [v] ∧ LockIn CL CM v H E (fun ls n => ∀ d H' L, Same H H' → H d = none → DW H' d L → Wd ls n L → L.length ≤ 240 → Q (.ref d) H')
theorem sc_made_words : FnScope ["lock", "made"] ["lock"] (defScope s_made_words) := ⟨rfl, rfl, rfl, by decide +kernel, rfl, by decide +kernel, by decide +kernel⟩
theorem has_made_words (T : Top K mg "made_words" s_made_words ["lock"]) (B : Bi mg) (X2 : ErrI P w K mg base "TooMany" "most" CM) (C1 : Cn mg "MOST_TURNS" 240)
    (hC : Has P w K mg base (L2.CX P w) 4 "check_lock" ["lock"] (spCheck CL)) (hW : Has P w K mg base CX0 2 "words_of" ["makers", "size"] spWords) : Has P w K mg base (L2.CX P w) 5 "made_words" ["lock"] (spMade CL CM) := by
  refine T.okX sc_made_words (fun vs H Q E h => ?_) (fun f cdv A outer s H vs Q E hr h => ?_)
  · obtain ⟨v, rfl, _⟩ := h
    rfl
  · obtain ⟨v, rfl, d, hd, hs, hb, hg⟩ := h
    obtain ⟨t1, e1⟩ := C1
    have hr2 : Room 2 _ := hr.mono (by decide)
    refine ⟨_, pss_cons (ps_expr (pe_hasX (E := E) hC hr (by rfl) (passes_call (takes_of rfl rfl rfl rfl) (fun _ _ _ _ h => h)) (pa_cons (pv 0) pa_nil)))
      (pss_cons (ps_set (i := 1) sc_made_words.nd rfl (Or.inl rfl) (pe_has hW hr2 (by rfl) (pa_cons (pv 0) (pa_cons (pe_callB call_len_seq (by rfl) B.len PySem.boot_len (pa_cons (pe_ix ix_tup (pv 0) pe_int (fun _ _ => rfl)) pa_nil)) pa_nil))))
      (pss_cons (ps_if (pt_cmpR op_gt (pe_callB call_len_dT (by rfl) B.len PySem.boot_len (pa_cons (pv 1) pa_nil)) (pe_glob (v := .int 240) rfl e1 ⟨_, rfl⟩) (nomark _))
        (pss_one (ps_raise rfl (takes_of rfl rfl rfl rfl) (pmk_errI X2 hr2 (by rfl) (pa_cons (pe_glob (v := .int 240) rfl e1 ⟨_, rfl⟩) pa_nil)))) pss_nil)
      (pss_one (ps_ret (pv 1))))), ?_⟩
    refine ⟨_, rfl, v, d, rfl, hd, hs, fun eg H1 s1 => ?_, hb⟩
    obtain ⟨ls, n, ht, hgl, hM, q⟩ := hg eg
    have ht1 := ht.tm (.of s1)
    obtain ⟨a, xs, b, rfl, ha, hp, h0, t, hbt, htl⟩ := ht1.head hgl
    refine ⟨_, rfl, _, rfl, a, xs, 0, .ref b, rfl, rfl, SqT.of ha, h0, b, _, rfl, .inr (hbt.sq), .ref a, ls, n, by rw [nIs_len, htl]; rfl, ht1, hgl.2.2.2.2, by have := hgl.2.2.2.1; omega, by have := hgl.2.1; omega, fun dd H2 L s2 hdd hdw hwd => ?_⟩
    obtain ⟨kvs, hk, pk⟩ := hdw
    have s12 := s1.trans s2
    refine ⟨_, rfl, dd, kvs, rfl, hk, _, _, rfl, rfl, _, rfl, ite2 (fun h => ?_) (fun h => ?_)⟩
    · have h : (240 : Int) < (kvs.length : Int) := of_decide_eq_true h
      have hl : kvs.length = L.length := Paired.length pk
      exact mk_read X2.oex X2.no ((hM L hwd (by omega)).same s12)
    · have h : ¬ ((240 : Int) < (kvs.length : Int)) := fun z => h (decide_eq_true z)
      have hl : kvs.length = L.length := Paired.length pk
      exact ⟨_, rfl, q dd H2 L s12 (s1.free hdd) ⟨kvs, hk, pk⟩ hwd (by omega)⟩
/-! ### is_turn, are_turns, check_turn -/
def keyI (ns : List Int) : List Key := ns.map Sum.inl
theorem keyN_I (t : List Nat) : keyN t = keyI (t.map Int.ofNat) := by
  unfold keyN keyI
  rw [List.map_map]
  rfl
theorem keyI_inj {s t : List Int} (h : keyI s = keyI t) : s = t := by
  unfold keyI at h
  exact (List.map_inj_right (fun x y e => by injection e)).mp h
abbrev numL (L : List (List Nat × List Nat)) : List (List Int) := L.map fun x : List Nat × List Nat => x.1.map Int.ofNat
theorem dw_isSomeK {H : Hp} {ns : List Int} : ∀ {kvs : List (List Key × V)} {L : List (List Nat × List Nat)}, Paired (DE H) kvs L → (valV kvs (keyI ns)).isSome = decide (ns ∈ numL L)
  | _, _, .nil => by simp [valV_nil]
  | p :: ps, q :: qs, .cons r s => by
    have ep : p.1 = keyI (q.1.map Int.ofNat) := by rw [r.1, keyN_I]
    show _ = decide (ns ∈ (q.1.map Int.ofNat) :: numL qs)
    by_cases e : p.1 = keyI ns
    · have e2 : q.1.map Int.ofNat = ns := keyI_inj (ep.symm.trans e)
      rw [valV_pos e, e2, decide_eq_true List.mem_cons_self]
      rfl
    · rw [valV_neg e, dw_isSomeK s]
      refine decide_eq_decide.mpr ⟨fun h => List.mem_cons_of_mem _ h, fun h => ?_⟩
      rcases List.mem_cons.mp h with z | z
      · rw [z] at e
        exact absurd ep e
      · exact z
def isTurnD (L : List (List Nat × List Nat)) (d : PyData) : Bool := isNums d && decide (numsOf d ∈ numL L)
theorem isTurnD_dT (L : List (List Nat × List Nat)) (t : List Nat) : isTurnD L (dT t) = decide (t ∈ L.map (·.1)) := by
  unfold isTurnD
  rw [isNums_dT, Bool.true_and, numsOf_dT]
  refine decide_eq_decide.mpr ⟨fun h => ?_, fun h => ?_⟩
  · obtain ⟨x, hx, e⟩ := List.mem_map.mp h
    rw [← (List.map_inj_right ofNat_inj).mp e]
    exact List.mem_map.mpr ⟨x, hx, rfl⟩
  · obtain ⟨x, hx, e⟩ := List.mem_map.mp h
    exact List.mem_map.mpr ⟨x, hx, by rw [e]⟩
def areTurnsD (L : List (List Nat × List Nat)) : PyData → Bool
  | .tuple ds => ds.all (isTurnD L)
  | _ => false
end
end Lt


set_option Elab.async false
set_option linter.all false
set_option maxRecDepth 100000
set_option maxHeartbeats 4000000
namespace Lt
open PySem PySem.Spec PyProof.Rows L2
section
variable {P : Program} {w : World} {K : PySem.W.Frag} {mg : Str → Option Value} {base : Heap} {CL CM CT : Addr}
def spIsTurn : Sp := fun vs H Q _ => ∃ (m : Addr) (L : List (List Nat × List Nat)) (v : V) (d : PyData), vs = [.ref m, v] ∧ DW H m L ∧ Rp H v d ∧ (∀ ds, d = .tuple ds → ds.length ≤ 1000) ∧ ∀ H', Same H H' → Q (.bl (isTurnD L d)) H'
theorem sc_is_turn : FnScope ["made", "value"] ["made", "value"] (defScope s_is_turn) := ⟨rfl, rfl, rfl, by decide +kernel, rfl, by decide +kernel, by decide +kernel⟩
theorem has_is_turn (T : Top K mg "is_turn" s_is_turn ["made", "value"]) (hN : Has P w K mg base CX0 2 "are_numbers" ["value"] spNums) : Has P w K mg base CX0 3 "is_turn" ["made", "value"] spIsTurn := by
  refine T.ok sc_is_turn (fun vs H Q E h => ?_) (fun f cdv A outer s H vs Q E hr h => ?_)
  · obtain ⟨m, L, v, d, rfl, _⟩ := h
    rfl
  · obtain ⟨m, L, v, d, rfl, hw, hd, hl, q⟩ := h
    have hu := hu_of hr
    refine ⟨_, pss_one (ps_ret (pe_and (pe_has hN hr (by rfl) (pa_cons (pv 1) pa_nil)) (pe_one (pe_cmp (pc_dinR hu (pv 1) (pv 0)) (by rfl))))), ?_⟩
    refine ⟨_, rfl, v, d, rfl, hd, hl, fun H1 s1 => ⟨isNums d, rfl, ite2 (fun h => ?_) (fun h => ?_)⟩⟩
    · cases hd with
      | @tup a xs ds ha hx =>
        have h : ds.all isNum = true := h
        have ha1 := ha.sm s1
        rw [nums_vals hx h] at ha1
        have ha2 : RT H1 a ((keyI (ds.map numOf)).map kV) := by unfold keyI; rw [kV_ints]; exact ha1
        obtain ⟨kvs, hk, pk⟩ := hw.same s1
        refine ⟨_, rfl, _, rfl, m, kvs, _, a, rfl, rfl, .inl hk, ha2, ?_⟩
        rw [dw_isSomeK pk]
        have e : decide (ds.map numOf ∈ numL L) = isTurnD L (.tuple ds) := by
          unfold isTurnD
          rw [show isNums (.tuple ds) = true from h, Bool.true_and]
          rfl
        rw [e]
        exact q _ s1
      | non => cases h
      | bl => cases h
      | int => cases h
      | str => cases h
      | lst => cases h
    · have e : false = isTurnD L d := by
        unfold isTurnD
        have z : isNums d = false := by simpa using h
        rw [z]
        rfl
      show Q (.bl false) H1
      rw [e]
      exact q _ s1
def spAreTurns : Sp := fun vs H Q _ => ∃ (m : Addr) (L : List (List Nat × List Nat)) (v : V) (d : PyData), vs = [.ref m, v] ∧ DW H m L ∧ Rp H v d ∧ Sml d ∧ ∀ H', Same H H' → Q (.bl (areTurnsD L d)) H'
end
end Lt

set_option Elab.async false
set_option linter.all false
set_option maxRecDepth 100000
set_option maxHeartbeats 1000000
namespace Lt
open PySem PySem.Spec PyProof.Rows L2
section
variable {P : Program} {w : World} {K : PySem.W.Frag} {mg : Str → Option Value} {base : Heap} {CT : Addr}
def spCheckTurn (CT : Addr) : Sp := fun vs H Q E => ∃ (m : Addr) (L : List (List Nat × List Nat)) (v : V) (d : PyData), vs = [.ref m, v] ∧ DW H m L ∧ Rp H v d ∧ (∀ ds, d = .tuple ds → ds.length ≤ 1000) ∧ (isTurnD L d = true → ∀ H', Same H H' → Q .non H') ∧ (isTurnD L d = false → Bad0 CT H E)
end
end Lt

set_option Elab.async false
set_option linter.all false
set_option maxRecDepth 100000
set_option maxHeartbeats 1000000
/-! is_step, are_bits -/
namespace Lt
open PySem PySem.Spec PyProof.Rows L2
/-- an int from 0 to k less 1 -/
def ownD (k : Nat) : PyData → Bool
  | .int i => decide (0 ≤ i) && decide (i < (k : Int))
  | _ => false
def stepD (L : List (List Nat × List Nat)) (k : Nat) : PyData → Bool
  | .tuple [a, b, c] => ownD k a && isTurnD L b && isTurnD L c
  | _ => false
/-- no long tuple within -/
def Sml3 (d : PyData) : Prop := ∀ ds, d = .tuple ds → ds.length ≤ 1000 ∧ ∀ e ∈ ds, ∀ es, e = .tuple es → es.length ≤ 1000
def bitD (d : PyData) : Bool := isNum d && decide (numOf d = 0 ∨ numOf d = 1)
def bitsD : PyData → Bool
  | .tuple ds => ds.all bitD
  | _ => false
theorem stepD_len {L : List (List Nat × List Nat)} {k : Nat} {ds : List PyData} (h : ds.length ≠ 3) : stepD L k (.tuple ds) = false := by
  match ds with
  | [] => rfl
  | [_] => rfl
  | [_, _] => rfl
  | [_, _, _] => exact absurd rfl h
  | _ :: _ :: _ :: _ :: _ => rfl
theorem three {H : Hp} {xs : List V} {ds : List PyData} (h : RpAll H xs ds) (h3 : ds.length = 3) : ∃ x1 x2 x3 a1 a2 a3, xs = [x1, x2, x3] ∧ ds = [a1, a2, a3] ∧ Rp H x1 a1 ∧ Rp H x2 a2 ∧ Rp H x3 a3 := by
  match ds, xs, h, h3 with
  | [a1, a2, a3], [x1, x2, x3], .cons r1 (.cons r2 (.cons r3 .nil)), _ => exact ⟨x1, x2, x3, a1, a2, a3, rfl, rfl, r1, r2, r3⟩
theorem stepD_no {L : List (List Nat × List Nat)} {k : Nat} {d : PyData} (h : isTup d = false) : stepD L k d = false := by
  cases d with
  | tuple ds => cases h
  | _ => rfl
theorem stepD_3 {L : List (List Nat × List Nat)} {k : Nat} {a b c : PyData} : stepD L k (.tuple [a, b, c]) = (ownD k a && isTurnD L b && isTurnD L c) := rfl
section
variable {P : Program} {w : World} {K : PySem.W.Frag} {mg : Str → Option Value} {base : Heap}
def spIsStep : Sp := fun vs H Q _ => ∃ (m : Addr) (L : List (List Nat × List Nat)) (k : Nat) (v : V) (d : PyData), vs = [.ref m, nI k, v] ∧ DW H m L ∧ Rp H v d ∧ Sml3 d ∧ ∀ H', Same H H' → Q (.bl (stepD L k d)) H'
theorem sc_is_step : FnScope ["made", "inputs", "value", "own", "no", "yes"] ["made", "inputs", "value"] (defScope s_is_step) := ⟨rfl, rfl, rfl, by decide +kernel, rfl, by decide +kernel, by decide +kernel⟩
theorem has_is_step (T : Top K mg "is_step" s_is_step ["made", "inputs", "value"]) (B : Bi mg) (hN : Has P w K mg base CX0 1 "is_number" ["value"] spNum) (hT : Has P w K mg base CX0 3 "is_turn" ["made", "value"] spIsTurn) : Has P w K mg base CX0 4 "is_step" ["made", "inputs", "value"] spIsStep := by
  refine T.ok sc_is_step (fun vs H Q E h => ?_) (fun f cdv A outer s H vs Q E hr h => ?_)
  · obtain ⟨m, L, k, v, d, rfl, _⟩ := h
    rfl
  · obtain ⟨m, L, k, v, d, rfl, hw, hd, hs, q⟩ := h
    have hr1 : Room 1 _ := hr.mono (by decide)
    refine ⟨_, pss_cons (ps_if (PW.pt (pw_or (pt_not (pt_val (pe_callB call_isi (by rfl) B.isinstance PyProof.Rows.boot_isinstance (pa_cons (pv 2) (pa_cons (pe_bltn (by rfl) B.tuple PyProof.Rows.boot_tuple (rr_ty "tuple")) pa_nil)))))
        (pw_or1 (pt_cmpR op_ne (pe_callB call_len_seq (by rfl) B.len PySem.boot_len (pa_cons (pv 2) pa_nil)) pe_int (nomark _))))) (pss_one (ps_ret pe_bl)) pss_nil)
      (pss_cons (ps_asg (pv 2) (pg_tup rfl (pgs_cons (pg_name (i := 3) sc_is_step.nd rfl (Or.inl rfl)) (pgs_cons (pg_name (i := 4) sc_is_step.nd rfl (Or.inl rfl)) (pgs_cons (pg_name (i := 5) sc_is_step.nd rfl (Or.inl rfl)) pgs_nil)))))
      (pss_one (ps_ret (pe_and (pe_has hN hr1 (by rfl) (pa_cons (pv 3) pa_nil)) (pe_and (pe_chain op_le op_lt pe_int (pv 3) (pv 1)) (pe_and (pe_has hT hr (by rfl) (pa_cons (pv 0) (pa_cons (pv 4) pa_nil))) (pe_one (pe_has hT hr (by rfl) (pa_cons (pv 0) (pa_cons (pv 5) pa_nil)))))))))), ?_⟩
    refine ⟨_, rfl, v, .ty "tuple", _, _, isTup d, rfl, .ty _, rp_ty hd, kit_ty (kit_tup d), isTup d, rfl, ?_⟩
    cases hd with
    | @tup a xs ds ha hx =>
      have hxl := hx.len
      obtain ⟨hs1, hs2⟩ := hs ds rfl
      refine iteF ⟨_, rfl, a, xs, rfl, .inr ha.sq, rfl, ?_⟩
      by_cases h3 : ds.length = 3
      · refine ⟨false, congrArg (fun b => V.bl (!b)) (decide_eq_true (by rw [hxl, h3]; rfl)), iteF ?_⟩
        obtain ⟨x1, x2, x3, a1, a2, a3, rfl, rfl, r1, r2, r3⟩ := three hx h3
        rw [stepD_3] at q
        · refine ⟨_, rfl, a, _, rfl, ha.sq, rfl, x1, _, rfl, x2, _, rfl, x3, _, rfl, rfl, ?_⟩
          have h2 := hs2 a2 (by simp)
          have h5 := hs2 a3 (by simp)
          refine ⟨_, rfl, x1, a1, rfl, r1, isNum a1, rfl, ?_⟩
          cases e1 : isNum a1 with
          | false =>
            refine iteF ?_
            have e : ownD k a1 = false := by cases a1 <;> first | rfl | cases e1
            rw [e] at q
            exact q _ (Same.refl _)
          | true =>
            refine iteT ?_
            cases r1 with
            | int i =>
              have eo : ∀ H' : Hp, Same H H' → Q (.bl (ownD k (.int i) && isTurnD L a2 && isTurnD L a3)) H' := q
              have eo' : ownD k (.int i) = (decide ((0 : Int) ≤ i) && decide (i < (k : Int))) := rfl
              rw [eo'] at eo
              refine ⟨_, rfl, 0, i, rfl, rfl, decide ((0 : Int) ≤ i), rfl, ?_⟩
              cases e0 : decide ((0 : Int) ≤ i) with
              | false =>
                rw [e0] at eo
                exact iteF ⟨false, rfl, iteF (eo _ (Same.refl _))⟩
              | true =>
                rw [e0] at eo
                refine iteT ⟨_, rfl, i, (k : Int), rfl, rfl, decide (i < (k : Int)), rfl, ?_⟩
                cases e2 : decide (i < (k : Int)) with
                | false =>
                  rw [e2] at eo
                  exact iteF (eo _ (Same.refl _))
                | true =>
                  rw [e2] at eo
                  refine iteT ⟨_, rfl, _, rfl, m, L, x2, a2, rfl, hw, r2, h2, fun H1 s1 => ⟨isTurnD L a2, rfl, ?_⟩⟩
                  cases e4 : isTurnD L a2 with
                  | false =>
                    rw [e4] at eo
                    exact iteF (eo _ s1)
                  | true =>
                    rw [e4] at eo
                    exact iteT ⟨_, rfl, _, rfl, m, L, x3, a3, rfl, hw.same s1, Rp.same s1 _ _ r3, h5, fun H2 s2 => eo _ (s1.trans s2)⟩
            | non => cases e1
            | bl => cases e1
            | str => cases e1
            | lst => cases e1
            | tup => cases e1
      · have h4 : ¬ V.int (xs.length : Int) = V.int 3 := fun z => by
          injection z with z
          omega
        refine ⟨true, congrArg (fun b => V.bl (!b)) (decide_eq_false h4), iteT ?_⟩
        rw [stepD_len h3] at q
        exact q _ (Same.refl _)
    | non =>
      rw [stepD_no rfl] at q
      exact iteT (q _ (Same.refl _))
    | bl =>
      rw [stepD_no rfl] at q
      exact iteT (q _ (Same.refl _))
    | int =>
      rw [stepD_no rfl] at q
      exact iteT (q _ (Same.refl _))
    | str =>
      rw [stepD_no rfl] at q
      exact iteT (q _ (Same.refl _))
    | lst =>
      rw [stepD_no rfl] at q
      exact iteT (q _ (Same.refl _))
/-! ### are_bits -/
def spAreBits : Sp := fun vs H Q _ => ∃ (v : V) (d : PyData), vs = [v] ∧ Rp H v d ∧ (∀ ds, d = .tuple ds → ds.length ≤ 1000) ∧ ∀ H', Same H H' → Q (.bl (bitsD d)) H'
theorem num_V {H : Hp} {v : V} {d : PyData} (h : Rp H v d) (hn : isNum d = true) : v = .int (numOf d) := by
  cases h <;> first | rfl | cases hn
theorem bitsD_nums {d : PyData} (h : isNums d = false) : bitsD d = false := by
  cases d with
  | tuple ds =>
    have h : ds.all isNum = false := h
    show ds.all bitD = false
    rw [List.all_eq_false] at h ⊢
    obtain ⟨x, hx, hn⟩ := h
    refine ⟨x, hx, fun z => hn ?_⟩
    unfold bitD at z
    rw [Bool.and_eq_true] at z
    exact z.1
  | _ => rfl
theorem nums_tup {d : PyData} (h : isNums d = true) : ∃ ds, d = .tuple ds ∧ ds.all isNum = true := by
  cases d with
  | tuple ds => exact ⟨ds, rfl, h⟩
  | _ => cases h
theorem in01 (i : Int) : inV (.int i) [.int 0, .int 1] = decide (i = 0 ∨ i = 1) := by
  show (((0 : Int) == i) || (((1 : Int) == i) || false)) = _
  rw [Bool.or_false, Bool.decide_or]
  congr 1
  · by_cases h : i = 0
    · subst h; rfl
    · rw [decide_eq_false h]; exact beq_eq_false_iff_ne.mpr (fun e => h e.symm)
  · by_cases h : i = 1
    · subst h; rfl
    · rw [decide_eq_false h]; exact beq_eq_false_iff_ne.mpr (fun e => h e.symm)
end
end Lt

set_option Elab.async false
set_option linter.all false
set_option maxRecDepth 100000
set_option maxHeartbeats 1000000
/-! class Dial -/
namespace Lt
open PySem PySem.Spec PyProof.Rows L2
def dF (m l : Addr) : List (Str × V) := [("_made", .ref m), ("_stood", .ref l)]
theorem dF_made (m l : Addr) : (dF m l).lookup ("_made" : Str) = some (.ref m) := rfl
theorem dF_stood (m l : Addr) : (dF m l).lookup ("_stood" : Str) = some (.ref l) := rfl
/-- a dial at p of the class at C: m its turns, l what it stood at -/
structure DialAt (H : Hp) (C p m l : Addr) (ls : List (List Nat)) (n : Nat) (past : List (List Nat)) : Prop where
  ins : ∃ dx, H p = some (.ins C dx (dF m l))
  made : DW H m (LL ls n)
  stood : ∃ xs, H l = some (.lst xs) ∧ Paired (TN H) xs past
  ok : ∀ t ∈ past, IsP n t
  ne : past ≠ []
theorem DialAt.same {H H' : Hp} {C p m l : Addr} {ls : List (List Nat)} {n : Nat} {past : List (List Nat)} (h : DialAt H C p m l ls n past) (s : Same H H') : DialAt H' C p m l ls n past :=
  ⟨let ⟨dx, e⟩ := h.ins; ⟨dx, s _ _ e⟩, h.made.same s, let ⟨xs, e, q⟩ := h.stood; ⟨xs, s _ _ e, TNs.tm (.of s) q⟩, h.ok, h.ne⟩
/-- its list has changed -/
theorem DialAt.put {H : Hp} {C p m l : Addr} {ls : List (List Nat)} {n : Nat} {past past' : List (List Nat)} {xs : List V} (h : DialAt H C p m l ls n past) (hx : Paired (TN H) xs past') (ok : ∀ t ∈ past', IsP n t) (ne : past' ≠ []) : DialAt (upd H l (.lst xs)) C p m l ls n past' := by
  obtain ⟨⟨dx, e⟩, hm, ⟨ys, hl, _⟩, _, _⟩ := h
  have tm : Tm H (upd H l (.lst xs)) := Tm.lst hl
  refine ⟨⟨dx, (upd_ne (ne_of e hl (fun z => nomatch z))).trans e⟩, ?_, ⟨xs, upd_same, TNs.tm tm hx⟩, ok, ne⟩
  obtain ⟨kvs, h1, h2⟩ := id hm
  exact hm.tm tm (upd_ne (ne_of h1 hl (fun z => nomatch z)))
theorem last_app {α : Type} {xs : List α} (h : xs ≠ []) : ∃ ys y, xs = ys ++ [y] := ⟨xs.dropLast, xs.getLast h, (List.dropLast_concat_getLast h).symm⟩
theorem paired_end {α β : Type} {F : α → β → Prop} : ∀ {xs : List α} {ys : List β} {y : β}, Paired F xs (ys ++ [y]) → ∃ xs' x, xs = xs' ++ [x] ∧ Paired F xs' ys ∧ F x y
  | _, [], _, .cons r .nil => ⟨[], _, rfl, .nil, r⟩
  | _, _ :: _, _, .cons r t => by
    obtain ⟨xs', x, rfl, p, q⟩ := paired_end t
    exact ⟨_ :: xs', x, rfl, .cons r p, q⟩
section
variable (P : Program) (w : World) (K : PySem.W.Frag) (mg : Str → Option Value) (base : Heap)
/-- the method m of the class at C keeps the promise sp -/
def HasM (CX : CXT) (k : Nat) (C : Addr) (m : Str) (ps : List Str) (sp : Sp) : Prop :=
  ∃ (f : Addr) (fd : FuncData), Meth K C m f ∧ Binds K fd ps [] ∧ FnOk P w K mg base CX k f fd ps sp
/-- a property of it -/
def HasP (CX : CXT) (k : Nat) (C : Addr) (m : Str) (sp : Sp) : Prop :=
  ∃ (p f : Addr) (fd : FuncData), PropOf K C m p f ∧ Binds K fd ["self"] [] ∧ FnOk P w K mg base CX k f fd ["self"] sp
/-- its __init__ -/
def HasI (CX : CXT) (k : Nat) (C : Addr) (x : Str) (ps : List Str) (sp : Sp) : Prop :=
  ∃ (f : Addr) (fd : FuncData), mg x = some (.ref C) ∧ L2.Mk K C f ∧ Binds K fd ps [] ∧ FnOk P w K mg base CX k f fd ps sp
structure MethF (C : Addr) (m q : Str) (st : Stmt) (ps : List Str) : Prop where
  f : ∃ (f : Addr) (fd : FuncData), Meth K C m f ∧ Binds K fd ps [] ∧ Fun K m q st f fd
structure PropF (C : Addr) (m q : Str) (st : Stmt) : Prop where
  f : ∃ (p f : Addr) (fd : FuncData), PropOf K C m p f ∧ Binds K fd ["self"] [] ∧ Fun K m q st f fd
structure InitF (C : Addr) (x : Str) (st : Stmt) (ps : List Str) : Prop where
  f : ∃ (f : Addr) (fd : FuncData), mg x = some (.ref C) ∧ L2.Mk K C f ∧ Binds K fd ps [] ∧ Fun K "__init__" (x ++ ".__init__") st f fd
end
section
variable {P : Program} {w : World} {K : PySem.W.Frag} {mg : Str → Option Value} {base : Heap}
theorem MethF.ok {C : Addr} {m q : Str} {st : Stmt} {N ps : List Str} {k : Nat} {sp : Sp} (T : MethF K C m q st ps) (S : FnScope N ps (defScope st)) (len : ∀ vs H Q E, sp vs H Q E → vs.length = ps.length)
    (hbody : ∀ (f : Addr) (cdv : Value) (A : Around) (outer : List Env) (s : Shared) (H : Hp) (vs : List V) (Q : VK) (E : XK), Room k (A.deeper (envOfC q (defScope st) s.heap.objs.size f cdv)) → sp vs H Q E →
      ∃ t, PSs (cxOf CX0 P w K mg base N q (defScope st) f cdv A outer s H E).nox (defBody st) t ∧ t { nx := fun _ H' => Q .non H', rt := Q } (start N vs) H) : HasM P w K mg base CX0 (k + 1) C m ps sp := by
  obtain ⟨f, fd, hm, b, F⟩ := T.f
  exact ⟨f, fd, hm, b, F.ok S len fun cdv A outer s H vs Q E hr h => hbody f cdv A outer s H vs Q E hr h⟩
theorem MethF.okX {C : Addr} {m q : Str} {st : Stmt} {N ps : List Str} {k : Nat} {sp : Sp} (T : MethF K C m q st ps) (S : FnScope N ps (defScope st)) (len : ∀ vs H Q E, sp vs H Q E → vs.length = ps.length)
    (hbody : ∀ (f : Addr) (cdv : Value) (A : Around) (outer : List Env) (s : Shared) (H : Hp) (vs : List V) (Q : VK) (E : XK), Room k (A.deeper (envOfC q (defScope st) s.heap.objs.size f cdv)) → sp vs H Q E →
      ∃ t, PSs (cxOf (L2.CX P w) P w K mg base N q (defScope st) f cdv A outer s H E) (defBody st) t ∧ t { nx := fun _ H' => Q .non H', rt := Q } (start N vs) H) : HasM P w K mg base (L2.CX P w) (k + 1) C m ps sp := by
  obtain ⟨f, fd, hm, b, F⟩ := T.f
  exact ⟨f, fd, hm, b, F.okX S len fun cdv A outer s H vs Q E hr h => hbody f cdv A outer s H vs Q E hr h⟩
theorem PropF.ok {C : Addr} {m q : Str} {st : Stmt} {N : List Str} {k : Nat} {sp : Sp} (T : PropF K C m q st) (S : FnScope N ["self"] (defScope st)) (len : ∀ vs H Q E, sp vs H Q E → vs.length = 1)
    (hbody : ∀ (f : Addr) (cdv : Value) (A : Around) (outer : List Env) (s : Shared) (H : Hp) (vs : List V) (Q : VK) (E : XK), Room k (A.deeper (envOfC q (defScope st) s.heap.objs.size f cdv)) → sp vs H Q E →
      ∃ t, PSs (cxOf CX0 P w K mg base N q (defScope st) f cdv A outer s H E).nox (defBody st) t ∧ t { nx := fun _ H' => Q .non H', rt := Q } (start N vs) H) : HasP P w K mg base CX0 (k + 1) C m sp := by
  obtain ⟨p, f, fd, hm, b, F⟩ := T.f
  exact ⟨p, f, fd, hm, b, F.ok S len fun cdv A outer s H vs Q E hr h => hbody f cdv A outer s H vs Q E hr h⟩
theorem InitF.okX {C : Addr} {x : Str} {st : Stmt} {N ps : List Str} {k : Nat} {sp : Sp} (T : InitF K mg C x st ps) (S : FnScope N ps (defScope st)) (len : ∀ vs H Q E, sp vs H Q E → vs.length = ps.length)
    (hbody : ∀ (f : Addr) (cdv : Value) (A : Around) (outer : List Env) (s : Shared) (H : Hp) (vs : List V) (Q : VK) (E : XK), Room k (A.deeper (envOfC (x ++ ".__init__") (defScope st) s.heap.objs.size f cdv)) → sp vs H Q E →
      ∃ t, PSs (cxOf (L2.CX P w) P w K mg base N (x ++ ".__init__") (defScope st) f cdv A outer s H E) (defBody st) t ∧ t { nx := fun _ H' => Q .non H', rt := Q } (start N vs) H) : HasI P w K mg base (L2.CX P w) (k + 1) C x ps sp := by
  obtain ⟨f, fd, hg, hm, b, F⟩ := T.f
  exact ⟨f, fd, hg, hm, b, F.okX S len fun cdv A outer s H vs Q E hr h => hbody f cdv A outer s H vs Q E hr h⟩
end
section
variable {X : Cx} {CX : CXT}
/-- calls of these, with what they raise -/
theorem pe_hasM {k : Nat} {C : Addr} {m : Str} {ps : List Str} {sp : Sp} {o e : Expr} {es : List Expr} {ta : TE} {t : TA} {ap pos : Pos} {E : XK} {pl : Sem Bool} (h : HasM X.prog X.w X.K X.mg X.base CX k C m ps sp) (c : Cls X.K C) (hr : Room k X.A) (hx : Passes CX X E) (ho : PE X o ta) (ha : PA X (e :: es) t)
    (he : starEach (e :: es) X.env = (false, eval e X.env) :: starEach es X.env := by rfl) (hpl : (backTo pos (starEach es X.env)).any (·.1) = false := by rfl)
    (ht : eval (.Call (.Attribute o m ap) (e :: es) [] pos) X.env = (do let ov ← eval o X.env; standAt ap.atName; let (f, first) ← holding [ov] (getMethod ov m pl); callWith pos f first (backTo pos (starEach (e :: es) X.env)) (backToKw pos (keywordEach [] X.env))) := by rfl) :
    PE X (.Call (.Attribute o m ap) (e :: es) [] pos) (tMeth C m sp [] E ta t) := by
  obtain ⟨f, fd, hm, hb, F⟩ := h
  exact pe_meth ho c hm F hr hb .nil hx ha he hpl ht
theorem pe_hasM0 {k : Nat} {C : Addr} {m : Str} {ps : List Str} {sp : Sp} {o : Expr} {ta : TE} {ap pos : Pos} {E : XK} {pl : Sem Bool} (h : HasM X.prog X.w X.K X.mg X.base CX k C m ps sp) (c : Cls X.K C) (hr : Room k X.A) (hx : Passes CX X E) (ho : PE X o ta)
    (ht : eval (.Call (.Attribute o m ap) [] [] pos) X.env = (do let ov ← eval o X.env; standAt ap.atName; let (f, first) ← holding [ov] (getMethod ov m pl); callWith pos f first (backTo pos (starEach [] X.env)) (backToKw pos (keywordEach [] X.env))) := by rfl) :
    PE X (.Call (.Attribute o m ap) [] [] pos) (tMeth C m sp [] E ta tNil) := by
  obtain ⟨f, fd, hm, hb, F⟩ := h
  exact pe_meth0 ho c hm F hr hb .nil hx ht
theorem pe_hasP {k : Nat} {C : Addr} {m : Str} {sp : Sp} {o : Expr} {ta : TE} {pos : Pos} {E : XK} (h : HasP X.prog X.w X.K X.mg X.base CX k C m sp) (c : Cls X.K C) (hr : Room (k + 1) X.A) (hx : Passes CX X.nox E) (ho : PE X o ta)
    (hab : attributeBase o m X.env (eval o X.env) = eval o X.env := by rfl) : PE X (.Attribute o m pos) (tProp C sp [] E ta) := by
  obtain ⟨p, f, fd, hm, hb, F⟩ := h
  exact pe_prop ho c hm F hr hb .nil hx hab
theorem pe_hasI {k : Nat} {C : Addr} {x : Str} {ps : List Str} {sp : Sp} {e : Expr} {es : List Expr} {t : TA} {p pos : Pos} {E : XK} (h : HasI X.prog X.w X.K X.mg X.base CX k C x ps sp) (hr : Room (k + 1) X.A) (hg : Gl X x) (hx : Passes CX X E) (ha : PA X (e :: es) t)
    (hdb : (x == ("__debug__" : Str)) = false := by decide) (he : starEach (e :: es) X.env = (false, eval e X.env) :: starEach es X.env := by rfl) (hpl : (backTo pos (starEach es X.env)).any (·.1) = false := by rfl) : PE X (.Call (.Name x p) (e :: es) [] pos) (tMake C sp [] E t) := by
  obtain ⟨f, fd, hm, hk, hb, F⟩ := h
  exact pe_make hk F hr hg hm hb .nil hx ha hdb he hpl
end
end Lt

set_option Elab.async false
set_option linter.all false
set_option maxRecDepth 100000
set_option maxHeartbeats 1000000
namespace Lt
open PySem PySem.Spec PyProof.Rows L2
/-! ### the row of draws -/
/-- all but the object at r is as it was -/
def StepR (r : Addr) (H H' : Hp) : Prop := ∀ a o, a ≠ r → H a = some o → H' a = some o
theorem StepR.refl (r : Addr) (H : Hp) : StepR r H H := fun _ _ _ h => h
theorem StepR.trans {r : Addr} {H H1 H2 : Hp} (a : StepR r H H1) (b : StepR r H1 H2) : StepR r H H2 := fun c o hc h => b c o hc (a c o hc h)
theorem StepR.of {r : Addr} {H H' : Hp} (e : Same H H') : StepR r H H' := fun a o _ h => e a o h
theorem StepR.put (r : Addr) (H : Hp) (o : HO) : StepR r H (upd H r o) := fun a u h e => by rw [upd_ne h]; exact e
structure Row4 (K : PySem.W.Frag) (H : Hp) (r sc : Addr) (ns : List Int) (a b c : Int) : Prop where
  at_ : H r = some (.lst [.ref sc, .int a, .int b, .int c])
  sc : SqL K H sc (ns.map V.int)
  a0 : 0 ≤ a
  b0 : 0 ≤ b
  b1 : b < 2147483647
def RowAt (K : PySem.W.Frag) (H : Hp) (r sc : Addr) (ns : List Int) : Prop := ∃ a b c, Row4 K H r sc ns a b c
theorem StepR.tm {K : PySem.W.Frag} {r sc : Addr} {ns : List Int} {H H' : Hp} (s : StepR r H H') (h : RowAt K H r sc ns) : Tm H H' := by
  obtain ⟨x, b, c, R⟩ := h
  exact ⟨fun a xs e => s a _ (ne_of e R.at_ (fun z => nomatch z)) e, fun a o xs e => s a _ (ne_of e R.at_ (fun z => nomatch z)) e⟩
theorem sq_upd {K : PySem.W.Frag} {H : Hp} {r sc x : Addr} {o : HO} {ns : List Int} {ys : List V} (hr : H r = some (.lst (.ref x :: ys))) (h : SqL K H sc (ns.map V.int)) : SqL K (upd H r o) sc (ns.map V.int) := by
  have key : ∀ u, H sc = some u → u = .lst (ns.map V.int) ∨ (∃ ob, u = .frz ob (.lst (ns.map V.int))) → upd H r o sc = some u := fun u hu hc => by
    refine (upd_ne (ne_of hu hr fun z => ?_)).trans hu
    rcases hc with e | ⟨ob, e⟩
    · rw [e] at z
      injection z with z
      cases ns with
      | nil => cases z
      | cons n ns => cases z
    · rw [e] at z
      cases z
  rcases h with (h | ⟨ob, h⟩) | h
  · exact .inl (.inl (key _ h (.inl rfl)))
  · exact .inl (.inr ⟨ob, key _ h (.inr ⟨ob, rfl⟩)⟩)
  · exact .inr h
theorem Row4.put {K : PySem.W.Frag} {H : Hp} {r sc : Addr} {ns : List Int} {a b c a' b' c' : Int} (h : Row4 K H r sc ns a b c) (h1 : 0 ≤ a') (h2 : 0 ≤ b') (h3 : b' < 2147483647) : Row4 K (upd H r (.lst [.ref sc, .int a', .int b', .int c'])) r sc ns a' b' c' :=
  ⟨upd_same, sq_upd h.at_ h.sc, h1, h2, h3⟩
theorem RowAt.step {K : PySem.W.Frag} {H H' : Hp} {r sc : Addr} {ns : List Int} (h : RowAt K H r sc ns) (s : Same H H') : RowAt K H' r sc ns := by
  obtain ⟨a, b, c, R⟩ := h
  exact ⟨a, b, c, s _ _ R.at_, Same.seq s R.sc, R.a0, R.b0, R.b1⟩
theorem RowAt.sq {K : PySem.W.Frag} {H : Hp} {r sc : Addr} {ns : List Int} (h : RowAt K H r sc ns) : SqL K H sc (ns.map V.int) := let ⟨_, _, _, R⟩ := h; R.sc
theorem RowAt.ne {K : PySem.W.Frag} {H : Hp} {r sc l : Addr} {ns : List Int} (h : RowAt K H r sc ns) (hl : H l = none) : r ≠ l := let ⟨_, _, _, R⟩ := h; ne_of_none R.at_ hl
/-- an object that was not there at H0, where the row stood, may change -/
theorem RowAt.mut {K : PySem.W.Frag} {H0 H : Hp} {r sc l : Addr} {o : HO} {ns : List Int} (h0 : RowAt K H0 r sc ns) (hl : H0 l = none) (h : RowAt K H r sc ns) : RowAt K (upd H l o) r sc ns := by
  have hr := h0.ne hl
  have s0 := h0.sq
  obtain ⟨a, b, c, R⟩ := h
  refine ⟨a, b, c, (upd_ne hr).trans R.at_, ?_, R.a0, R.b0, R.b1⟩
  rcases s0 with (s0 | ⟨ob, s0⟩) | s0
  · have hne : sc ≠ l := ne_of_none s0 hl
    rcases R.sc with (z | ⟨ob, z⟩) | z
    · exact .inl (.inl ((upd_ne hne).trans z))
    · exact .inl (.inr ⟨ob, (upd_ne hne).trans z⟩)
    · exact .inr z
  · have hne : sc ≠ l := ne_of_none s0 hl
    rcases R.sc with (z | ⟨ob, z⟩) | z
    · exact .inl (.inl ((upd_ne hne).trans z))
    · exact .inl (.inr ⟨ob, (upd_ne hne).trans z⟩)
    · exact .inr z
  · exact .inr s0
theorem StepR.mut {r l : Addr} {H0 H : Hp} {o : HO} (s : StepR r H0 H) (hl : H0 l = none) : StepR r H0 (upd H l o) := fun a u ha e => by
  rw [upd_ne (ne_of_none e hl)]
  exact s a u ha e
theorem StepR.free {r l : Addr} {H0 H : Hp} (s : StepR r H0 H) (hr : r ≠ l) (hl : H l = none) : H0 l = none := by
  cases e : H0 l with
  | none => rfl
  | some o =>
    rw [s l o (Ne.symm hr) e] at hl
    cases hl
section
variable {P : Program} {w : World} {K : PySem.W.Frag} {mg : Str → Option Value} {base : Heap}
def spTaken (K : PySem.W.Frag) : Sp := fun vs H Q _ => ∃ (r sc : Addr) (ns : List Int) (m : Nat), vs = [.ref r, nI m] ∧ RowAt K H r sc ns ∧ 1 ≤ m ∧ m ≤ 1000 ∧ ∀ x H', x < m → StepR r H H' → RowAt K H' r sc ns → Q (nI x) H'
theorem sc_law_taken : FnScope ["row", "many", "found", "cell"] ["row", "many"] (defScope s_law_taken) := ⟨rfl, rfl, rfl, by decide +kernel, rfl, by decide +kernel, by decide +kernel⟩
theorem fmod_nat {i : Int} {m : Nat} (h : 1 ≤ m) : ∃ x : Nat, x < m ∧ Int.fmod i (m : Int) = (x : Int) := by
  have h0 : (0 : Int) < (m : Int) := by omega
  rw [Int.fmod_eq_emod_of_nonneg i (Int.le_of_lt h0)]
  have h1 := Int.emod_nonneg i (show (m : Int) ≠ 0 by omega)
  have h2 := Int.emod_lt_of_pos i h0
  exact ⟨(i % m).toNat, by omega, by omega⟩
theorem has_law_taken (T : Top K mg "_law_taken" s_law_taken ["row", "many"]) (B : Bi mg) : Has P w K mg base CX0 1 "_law_taken" ["row", "many"] (spTaken K) := by
  refine T.ok sc_law_taken (fun vs H Q E h => ?_) (fun f cdv A outer s H vs Q E hr h => ?_)
  · obtain ⟨r, sc, ns, m, rfl, _⟩ := h
    rfl
  · obtain ⟨r, sc, ns, m, rfl, ⟨a, b, c, R⟩, hm1, hm2, q⟩ := h
    refine ⟨_, pss_cons (ps_if (pt_cmpR op_gt (pe_ix ix_list (pv 0) pe_int (fun _ _ => rfl)) pe_int (nomark _))
        (pss_cons (ps_set (i := 2) sc_law_taken.nd rfl (Or.inl rfl) (pe_op op_modN (pe_callTy call_int1 (by rfl) B.int PyProof.Rows.boot_int (pa_cons (pe_ix ix_list (pv 0) pe_int (fun _ _ => rfl)) pa_nil)) (pv 1)))
        (pss_cons (ps_asg (pe_op op_fdivN (pe_ix ix_list (pv 0) pe_int (fun _ _ => rfl)) (pv 1)) (pg_sub (pv 0) pe_int set_list))
        (pss_one (ps_ret (pv 2))))) pss_nil)
      (pss_cons (ps_asg (pe_op op_add (pe_ix ix_list (pv 0) pe_int (fun _ _ => rfl)) pe_int) (pg_sub (pv 0) pe_int set_list))
      (pss_cons (ps_if (pt_cmpR op_gt (pe_ix ix_list (pv 0) pe_int (fun _ _ => rfl)) (pe_callB call_len_seq (by rfl) B.len PySem.boot_len (pa_cons (pe_ix ix_list (pv 0) pe_int (fun _ _ => rfl)) pa_nil)) (nomark _))
        (pss_cons (ps_asg (pe_op op_modN (pe_callTy call_int1 (by rfl) B.int PyProof.Rows.boot_int (pa_cons (pe_op op_add (pe_op op_mul (pe_ix ix_list (pv 0) pe_int (fun _ _ => rfl)) pe_int) pe_int) pa_nil)) pe_int) (pg_sub (pv 0) pe_int set_list))
        (pss_one (ps_ret (pe_op op_modN (pe_callTy call_int1 (by rfl) B.int PyProof.Rows.boot_int (pa_cons (pe_op op_fdivN (pe_ix ix_list (pv 0) pe_int (fun _ _ => rfl)) pe_int) pa_nil)) (pv 1))))) pss_nil)
      (pss_cons (ps_set (i := 3) sc_law_taken.nd rfl (Or.inl rfl) (pe_ix ix_list (pe_ix ix_list (pv 0) pe_int (fun _ _ => rfl)) (pe_op op_sub (pe_ix ix_list (pv 0) pe_int (fun _ _ => rfl)) pe_int) (fun _ _ => rfl)))
      (pss_cons (ps_asg (pe_op op_modN (pe_callTy call_int1 (by rfl) B.int PyProof.Rows.boot_int (pa_cons (pe_op op_add (pe_op op_add (pe_op op_mul (pe_ix ix_list (pv 0) pe_int (fun _ _ => rfl)) pe_int) (pv 3)) pe_int) pa_nil)) pe_int) (pg_sub (pv 0) pe_int set_list))
      (pss_cons (ps_if (pt_cmpR op_ge (pv 3) (pe_op op_pow pe_int pe_int) (nomark _))
        (pss_one (ps_asg (pe_op op_fdivN (pv 3) (pv 1)) (pg_sub (pv 0) pe_int set_list))) pss_nil)
      (pss_one (ps_ret (pe_op op_modN (pe_callTy call_int1 (by rfl) B.int PyProof.Rows.boot_int (pa_cons (pv 3) pa_nil)) (pv 1))))))))), ?_⟩
    have hm0 : (m : Int) ≠ 0 := by omega
    have hmb : ((m : Int)).natAbs < 1073741824 := by omega
    have rd : ∀ {H a b c}, Row4 K H r sc ns a b c → SqL K H r [.ref sc, .int a, .int b, .int c] := fun R => SqL.of R.at_
    have a00 := R.a0
    have b00 := R.b0
    have b11 := R.b1
    have fin : ∀ i H', StepR r H H' → RowAt K H' r sc ns → Q (.int (Int.fmod i m)) H' := fun i H' st ra => by
      obtain ⟨x, hx, ex⟩ := fmod_nat (i := i) hm1
      rw [ex]
      exact q x H' hx st ra
    refine ⟨_, rfl, r, _, 3, .int c, rfl, rfl, rd R, rfl, c, 0, rfl, rfl, _, rfl, ite2 (fun hc => ?_) (fun hc => ?_)⟩
    · refine ⟨_, rfl, r, _, 3, .int c, rfl, rfl, rd R, rfl, .inl ⟨_, rfl, _, rfl, c, m, rfl, rfl, hm0, ?_⟩⟩
      refine ⟨_, rfl, r, _, 3, .int c, rfl, rfl, rd R, rfl, _, rfl, c, m, rfl, rfl, ⟨hm0, hmb⟩, _, rfl, r, _, 3, 3, rfl, rfl, R.at_, rfl, ?_⟩
      exact ⟨_, rfl, fin c _ (StepR.put _ _ _) ⟨a, b, _, R.put a00 b00 b11⟩⟩
    · have R1 := R.put (a' := a + 1) (b' := b) (c' := c) (by omega) b00 b11
      refine ⟨_, rfl, r, _, 1, .int a, rfl, rfl, rd R, rfl, a, 1, rfl, rfl, _, rfl, r, _, 1, 1, rfl, rfl, R.at_, rfl, ?_⟩
      refine ⟨_, rfl, r, _, 1, .int (a + 1), rfl, rfl, rd R1, rfl, _, rfl, r, _, 0, .ref sc, rfl, rfl, rd R1, rfl, sc, ns.map V.int, rfl, .inl R1.sc, a + 1, _, rfl, rfl, _, rfl, ite2 (fun h2 => ?_) (fun h2 => ?_)⟩
      · obtain ⟨y, hy, ey⟩ := fmod_nat (i := b * 48271 + 11) (m := 2147483647) (by decide)
        have ey' : Int.fmod (b * 48271 + 11) 2147483647 = (y : Int) := ey
        have R2 := R1.put (a' := a + 1) (b' := Int.fmod (b * 48271 + 11) 2147483647) (c' := c) (by omega) (by omega) (by omega)
        refine ⟨_, rfl, r, _, 2, .int b, rfl, rfl, rd R1, rfl, b, 48271, rfl, rfl, .inl ⟨by omega, by omega⟩, b * 48271, 11, rfl, rfl, .inl ⟨_, rfl, b * 48271 + 11, 2147483647, rfl, rfl, (show (2147483647 : Int) ≠ 0 by decide), _, rfl, r, _, 2, 2, rfl, rfl, R1.at_, rfl, ?_⟩⟩
        refine ⟨_, rfl, r, _, 2, .int _, rfl, rfl, rd R2, rfl, _, 7, rfl, rfl, ⟨by decide, by decide⟩, .inl ⟨_, rfl, _, rfl, _, m, rfl, rfl, hm0, ?_⟩⟩
        exact fin _ _ ((StepR.put _ _ _).trans (StepR.put _ _ _)) ⟨_, _, _, R2⟩
      · have h2 : ¬ (((ns.map V.int).length : Int) < a + 1) := fun z => h2 (decide_eq_true z)
        rw [List.length_map] at h2
        have hlt : a.toNat < ns.length := by omega
        have hat : atI (ns.map V.int) (a + 1 - 1) = some (.int ns[a.toNat]) := by
          have e : a + 1 - 1 = ((a.toNat : Nat) : Int) := by omega
          rw [e]
          refine atI_nat ?_
          rw [List.getElem?_map, List.getElem?_eq_getElem hlt]
          rfl
        generalize ns[a.toNat] = z at hat
        refine ⟨_, rfl, r, _, 0, .ref sc, rfl, rfl, rd R1, rfl, _, rfl, r, _, 1, .int (a + 1), rfl, rfl, rd R1, rfl, a + 1, 1, rfl, rfl, sc, _, a + 1 - 1, .int z, rfl, rfl, R1.sc, hat, ?_⟩
        obtain ⟨y, hy, ey⟩ := fmod_nat (i := b * 48271 + z + 11) (m := 2147483647) (by decide)
        have ey' : Int.fmod (b * 48271 + z + 11) 2147483647 = (y : Int) := ey
        have R2 := R1.put (a' := a + 1) (b' := Int.fmod (b * 48271 + z + 11) 2147483647) (c' := c) (by omega) (by omega) (by omega)
        refine ⟨_, rfl, r, _, 2, .int b, rfl, rfl, rd R1, rfl, b, 48271, rfl, rfl, .inl ⟨by omega, by omega⟩, _, rfl, b * 48271, z, rfl, rfl, b * 48271 + z, 11, rfl, rfl, .inl ⟨_, rfl, b * 48271 + z + 11, 2147483647, rfl, rfl, (show (2147483647 : Int) ≠ 0 by decide), _, rfl, r, _, 2, 2, rfl, rfl, R1.at_, rfl, ?_⟩⟩
        refine ⟨_, rfl, 10, 18, rfl, rfl, ⟨by decide, by decide, by decide⟩, z, _, rfl, rfl, _, rfl, ite2 (fun h3 => ?_) (fun h3 => ?_)⟩
        · refine ⟨_, rfl, _, rfl, z, m, rfl, rfl, ⟨hm0, hmb⟩, _, rfl, r, _, 3, 3, rfl, rfl, R2.at_, rfl, ?_⟩
          refine ⟨_, rfl, .inl ⟨_, rfl, _, rfl, _, m, rfl, rfl, hm0, ?_⟩⟩
          exact fin _ _ (((StepR.put _ _ _).trans (StepR.put _ _ _)).trans (StepR.put _ _ _)) ⟨_, _, _, R2.put (by omega) (by omega) (by omega)⟩
        · refine ⟨_, rfl, .inl ⟨_, rfl, _, rfl, _, m, rfl, rfl, hm0, ?_⟩⟩
          exact fin _ _ ((StepR.put _ _ _).trans (StepR.put _ _ _)) ⟨_, _, _, R2⟩
end
end Lt

set_option Elab.async false
set_option linter.all false
set_option maxRecDepth 100000
set_option maxHeartbeats 2000000
/-! lambdas in a body: made (with defaults or without), held by a name, called -/
namespace LmX
open PySem PySem.Spec PyProof.Rows L2 LamX NdefX
/-- the words of a lambda; the body stands beside -/
abbrev lmFd (F : NF) (e : Expr) (dV doc pm ctv : Value) : FuncData := PySem.W.kdv_fn F.name F.qual F.params (.expr e) F.scope F.cl dV doc pm (.ref F.c) ctv
def LmO (f : Addr) (F : NF) (e : Expr) (dV : Value) : HO :=
  .ext fun h => ∃ (od : Option Addr) (sl : Array (Option Value)) (doc pm ctv : Value), h.get? f = some (⟨.type "function", od, .func (lmFd F e dV doc pm ctv), sl⟩ : Obj)
theorem lmO_at {P : Program} {w : World} {H : Hp} {h : Heap} {f : Addr} {F : NF} {e : Expr} {dV : Value} (ok : HOk P w H h) (x : H f = some (LmO f F e dV)) :
    ∃ (od : Option Addr) (sl : Array (Option Value)) (doc pm ctv : Value), h.get? f = some (⟨.type "function", od, .func (lmFd F e dV doc pm ctv), sl⟩ : Obj) := (ok f _ x).1
abbrev lmF (q : Str) (params : Arguments) (scope : Scope) (cells : List (Str × Addr)) (c : Addr) : NF := ⟨"<lambda>", q, params, [], scope, cloFrom cells scope.names [], c⟩
section
variable {X : Cx} {pins : List (Addr × Obj)} {σ : L2.St} {H : Hp} {s : Shared}
theorem lm_laid {F : NF} {e : Expr} {dV doc pm ctv : Value} {t' : Nat} (I : Inv X pins σ H s) :
    Inv X pins σ (upd H s.heap.objs.size (LmO s.heap.objs.size F e dV)) { s with heap := s.heap.push { cls := .type "function", data := .func (lmFd F e dV doc pm ctv) }, toks := t' } := by
  have g : (s.heap.push ({ cls := .type "function", data := .func (lmFd F e dV doc pm ctv) } : Obj)).get? s.heap.objs.size = some { cls := .type "function", data := .func (lmFd F e dV doc pm ctv) } := Heap.get?_push_size _ rfl
  exact I.laid (fun _ _ q => Heap.get?_push_of_some _ q) (Nat.le_refl _) ⟨⟨none, #[], doc, pm, ctv, g⟩, ⟨_, g⟩, fun _ _ ⟨od, sl, d, p, t, z⟩ k => ⟨od, sl, d, p, t, k _ z⟩⟩
theorem lm_tail {T : List (Addr × Str)} {c P : Addr} {params : Arguments} {body : Expr} {scope : Scope} {pos : Pos} {dV : Value} {E Q : Value → Shared → Prop} (I : Inv X pins σ H s) (B : TabB X.base X.mg c P) (hc : X.env.code = .ref c)
    (hm : (P, X.env.qual ++ "<lambda>") ∈ T) (hu : ∀ p ∈ T, p.1 = P → p.2 = X.env.qual ++ "<lambda>") (hT : Tabs T H) (hf : ∀ y ∈ scope.names, y.2 = .free → ∃ c, X.env.cells.lookup y.1 = some c)
    (h : ∀ (f c' : Addr) (H1 : Hp) (s' : Shared), Inv X pins σ H1 s' → ExtN H H1 → Tabs T H1 → H f = none → H1 f = some (LmO f (lmF (X.env.qual ++ "<lambda>") params scope X.env.cells c') body dV) → H1 c' = some (CodeO c' (X.env.qual ++ "<lambda>")) → Q (.ref f) s') :
    wpAny (model X.prog X.w) X.A (makeTail "<lambda>" (X.env.qual ++ "<lambda>") params (.expr body) scope X.env dV .none none pos pos.line) Q E s := by
  obtain ⟨ps, tP, tr, am⟩ := hT _ hm
  have bmP := B.bm.keeps I.bk
  have gP : s.heap.get? P = some { cls := .none, data := .fields ps } := I.hok P _ tP
  rcases hk : codeAmong pos ps.toList with _ | cv
  · refine PySem.W.kdv_makeTail (closure_ok hf) I.ok.glob (I.mod.glob.keeps I.bk) hc (B.code.keeps I.bk) gP tr hk B.gP bmP fun c' ctv doc h' tk kx kge klt ⟨c2, oc, vs, t, e2, o2, d2, v2⟩ kt => ?_
    cases e2
    have frC : H c' = none := I.hok.fresh kge
    have J := inv_table (t' := tk) (more := #[rawInt pos.line, rawInt pos.col, .ref c']) I tP (fun b o nb q => kx b o nb q) kt kge ⟨oc, vs, t, o2, d2, v2⟩
    have ext : ExtN H (upd (upd H P (.tbl (ps ++ #[rawInt pos.line, rawInt pos.col, .ref c']))) c' (CodeO c' (X.env.qual ++ "<lambda>"))) := fun b o q nt => by
      have nP : b ≠ P := fun z => nt ps (Option.some.inj ((q.symm.trans (z ▸ rfl)).trans tP))
      exact (upd_ne (ne_of_none q frC)).trans ((upd_ne nP).trans q)
    have tabs : Tabs T (upd (upd H P (.tbl (ps ++ #[rawInt pos.line, rawInt pos.col, .ref c']))) c' (CodeO c' (X.env.qual ++ "<lambda>"))) := fun p hp => by
      have lst : (ps ++ #[rawInt pos.line, rawInt pos.col, .ref c']).toList = ps.toList ++ [rawInt pos.line, rawInt pos.col, .ref c'] := Array.toList_append ..
      rcases Classical.em (p.1 = P) with hb | hb
      · rw [hu p hp hb, hb]
        refine ⟨_, (upd_ne (ne_of_none tP frC)).trans upd_same, lst ▸ PySem.TriplesOk_snoc _ _ _ _ tr, fun p' cw hw => ?_⟩
        rcases among_app _ tr (lst ▸ hw) with z | z
        · exact (am p' cw z).imp fun c0 q => ⟨q.1, ext _ _ q.2 codeO_ne⟩
        · exact ⟨c', z, upd_same⟩
      · obtain ⟨qs, a1, a2, a3⟩ := hT p hp
        exact ⟨qs, (upd_ne (ne_of_none a1 frC)).trans ((upd_ne hb).trans a1), a2, fun p' cw hw => (a3 p' cw hw).imp fun c0 q => ⟨q.1, ext _ _ q.2 codeO_ne⟩⟩
    have new := J.hok.fresh (Nat.le_refl _)
    refine h h'.objs.size c' _ _ (lm_laid (F := lmF (X.env.qual ++ "<lambda>") params scope X.env.cells c') (t' := tk) J) (fun b o q nt => ?_) (tabs.ext fun b o q => ?_) (I.hok.fresh (Nat.le_trans kge (Nat.le_of_lt klt))) upd_same ?_
    · exact (upd_ne (ne_of_none (ext b o q nt) new)).trans (ext b o q nt)
    · exact (upd_ne (ne_of_none q new)).trans q
    · exact (upd_ne (Nat.ne_of_lt klt)).trans upd_same
  · obtain ⟨c', e, hco⟩ := am pos cv hk
    subst e
    refine PySem.W.kdv_makeTailHit (closure_ok hf) I.ok.glob (I.mod.glob.keeps I.bk) hc (B.code.keeps I.bk) gP tr hk bmP fun ctv doc h' tk kx ksz => ?_
    have J : Inv X pins σ H { s with heap := h', toks := tk } := I.kept kx
    have new : H h'.objs.size = none := J.hok.fresh (Nat.le_refl _)
    have st : ∀ b o, H b = some o → upd H h'.objs.size (LmO h'.objs.size (lmF (X.env.qual ++ "<lambda>") params scope X.env.cells c') body dV) b = some o := fun b o q => (upd_ne (ne_of_none q new)).trans q
    exact h h'.objs.size c' _ _ (lm_laid (F := lmF (X.env.qual ++ "<lambda>") params scope X.env.cells c') (t' := tk) J) (fun b o q _ => st b o q) (hT.ext st) new upd_same (st _ _ hco)
end
/-- lambda: body -/
def tLm0 (T : List (Addr × Str)) (mk : Addr → NF) (e : Expr) : TE := fun _ H Q => Tabs T H ∧ ∀ (f c' : Addr) (H1 : Hp), ExtN H H1 → Tabs T H1 → H f = none → H1 f = some (LmO f (mk c') e .none) → H1 c' = some (CodeO c' (mk c').qual) → Q (.ref f) H1
/-- lambda x=d: body -/
def tLm1 (T : List (Addr × Str)) (mk : Addr → NF) (e : Expr) (td : TE) : TE := fun σ H Q => td σ H fun v H0 => Tabs T H0 ∧ ∀ (p f c' : Addr) (H1 : Hp), ExtN H0 H1 → Tabs T H1 → H0 f = none → H1 f = some (LmO f (mk c') e (.ref p)) → H1 p = some (.tup [v]) → H1 c' = some (CodeO c' (mk c').qual) → Q (.ref f) H1
section
variable {X : Cx} {T : List (Addr × Str)} {c P : Addr} {params : Arguments} {body : Expr} {scope : Scope} {pos : Pos}
theorem lm_has (ok : X.Ok) (hf : ∀ y ∈ scope.names, y.2 = .free → X.env.scope.names.lookup y.1 = some .cell ∨ X.env.scope.names.lookup y.1 = some .free) : ∀ y ∈ scope.names, y.2 = .free → ∃ c, X.env.cells.lookup y.1 = some c :=
  fun y hy e => (hf y hy e).elim (fun z => ok.has _ (.inl z)) fun z => ok.has _ (.inr z)
theorem pe_lm0 (B : TabB X.base X.mg c P) (hc : X.env.code = .ref c) (hm : (P, X.env.qual ++ "<lambda>") ∈ T) (hu : ∀ p ∈ T, p.1 = P → p.2 = X.env.qual ++ "<lambda>")
    (hf : ∀ y ∈ scope.names, y.2 = .free → X.env.scope.names.lookup y.1 = some .cell ∨ X.env.scope.names.lookup y.1 = some .free) (hd : defaultsOf params X.env = ([], [])) :
    PE X (.Lambda params body scope pos) (tLm0 T (lmF (X.env.qual ++ "<lambda>") params scope X.env.cells) body) := by
  refine ⟨fun pins s σ H Q I h => PySem.W.kla_eval hd ?_⟩
  rw [makeFunction_eq]
  simp only [List.zip_nil_right, List.filterMap_nil, List.isEmpty_nil, if_true, pure_bind]
  exact lm_tail I B hc hm hu h.1 (lm_has I.ok hf) fun f c' H1 s' J k1 k2 k3 k4 k5 => ⟨V.ref f, H1, J, rfl, h.2 f c' H1 k1 k2 k3 k4 k5⟩
theorem pe_lm1 {d : Expr} {td : TE} (B : TabB X.base X.mg c P) (hc : X.env.code = .ref c) (hm : (P, X.env.qual ++ "<lambda>") ∈ T) (hu : ∀ p ∈ T, p.1 = P → p.2 = X.env.qual ++ "<lambda>")
    (hf : ∀ y ∈ scope.names, y.2 = .free → X.env.scope.names.lookup y.1 = some .cell ∨ X.env.scope.names.lookup y.1 = some .free) (hd : params.defaults = [d]) (hk : params.kw_defaults = []) (pd : PE X d td) :
    PE X (.Lambda params body scope pos) (tLm1 T (lmF (X.env.qual ++ "<lambda>") params scope X.env.cells) body td) := by
  refine ⟨fun pins s σ H Q I h => PySem.W.kdv_lam (by rw [hd]; rfl) hk ?_⟩
  rw [hd]
  refine PySem.W.kdv_all1 (thn (pd.run pins s σ H _ I h) fun u s1 ⟨v, H0, J, r, hT, q⟩ => PySem.W.kdv_all0 ?_)
  rw [makeFunction_eq]
  simp only [List.zip_nil_right, List.filterMap_nil, List.isEmpty_nil, List.isEmpty_cons, if_true, Bool.false_eq_true, if_false, pure_bind]
  refine wpAny_bind (wpAny_newTextTuple ?_)
  have fr : H0 s1.heap.objs.size = none := J.hok.fresh (Nat.le_refl _)
  have J2 := J.laid (t' := s1.toks) (h' := s1.heap.push { cls := .type "tuple", data := .seq [u].toArray }) (fun _ _ q => Heap.get?_push_of_some _ q) (Nat.le_refl _) (show ObjOk X.prog X.w _ _ _ (.tup [v]) from ⟨by rw [sizeLine_eq]; exact Nat.le_of_ble_eq_true rfl, [u], .cons r .nil, IsTup.new _ _⟩)
  have st : ∀ b o, H0 b = some o → upd H0 s1.heap.objs.size (.tup [v]) b = some o := fun b o e => (upd_ne (ne_of_none e fr)).trans e
  refine lm_tail J2 B hc hm hu (hT.ext st) (lm_has J2.ok hf) fun f c' H1 s' J3 k1 k2 k3 k4 k5 => ⟨V.ref f, H1, J3, rfl, q _ f c' H1 (fun b o e nt => k1 b o (st b o e) nt) k2 ?_ k4 (k1 _ _ upd_same fun _ z => by cases z) k5⟩
  unfold upd at k3
  split at k3
  · cases k3
  · exact k3
/-- x(), x a name that holds a function -/
theorem pe_ap0 {R : Addr → TE} {i : Nat} {x : Str} {p : Pos} (hrun : ∀ (f : Addr) (pins : List (Addr × Obj)) (s : Shared) (σ : L2.St) (H : Hp) (Q : VK), Inv X pins σ H s → R f σ H Q → PySem.W.FnAt f s.heap ∧ wpAny (model X.prog X.w) X.A (call (.ref f) []) (EP X pins σ Q) X.xe s)
    (hN : X.N[i]? = some x) (hv : Vis X.env.scope x) (hd : (x == ("__debug__" : Str)) = false := by decide) (hcd : (x == ("__classdict__" : Str)) = false := by decide) :
    PE X (.Call (.Name x p) [] [] pos) (fun σ H Q => ∃ f, σ[i]? = some (some (.ref f)) ∧ R f σ H Q) := by
  refine ⟨fun pins s σ H Q I ⟨f, hs, hR⟩ => wpAny_Call_Name_kw (thn ((pe_var (pos := p) hN hv hd hcd).run pins s σ H (fun v H1 => v = .ref f ∧ H1 = H) I ⟨.ref f, hs, rfl, rfl⟩) fun u s1 ⟨v, H1, J, r, e1, e2⟩ => ?_)⟩
  subst e1 e2
  obtain rfl : u = Value.ref f := r
  obtain ⟨fa, rn⟩ := hrun f pins s1 σ _ Q J hR
  exact PySem.W.callWith_F0 fa rn
/-- a lambda's run -/
theorem lm_run {CX : CXT} {pins : List (Addr × Obj)} {s : Shared} {σ : L2.St} {H : Hp} {Q : VK} {E : XK} {k : Nat} {f : Addr} {F : NF} {e : Expr} {dV : Value} {N ps fr : List Str} {us : List Value} {vs : List V} {js : List Nat} {tb : TE} (I : Inv X pins σ H s)
    (S : NScope N ps fr F.scope) (hf : H f = some (LmO f F e dV)) (hc : H F.c = some (CodeO F.c F.qual)) (hb : ∀ doc pm ctv, BindsTo s (lmFd F e dV doc pm ctv) ⟨[], []⟩ (ps.zip us)) (r : Vals vs us) (hl : vs.length = ps.length) (cp : Caps X F.cl fr js)
    (hr : Room (k + 1) X.A) (hx : PassesAt CX X σ E) (hbody : Room k (X.A.deeper (envF F f s.heap.objs.size)) → PE (ncx CX X.prog X.w X.K X.mg X.base N F f X.A X.stack s H E) e tb) (ht : tb (startF N vs (js.map (slotAt σ))) H Q) :
    PySem.W.FnAt f s.heap ∧ wpAny (model X.prog X.w) X.A (call (.ref f) []) (EP X pins σ Q) X.xe s := by
  obtain ⟨od, sl, doc, pm, ctv, ho⟩ := lmO_at I.hok hf
  refine ⟨⟨_, od, _, sl, ho⟩, ?_⟩
  have C := cells_of I cp
  have rc : codeAny (model X.prog X.w) X.A (.call (.ref f) ⟨[], []⟩) (CR CX X.stack X.prog X.w H s Q E) s := by
    refine PySem.W.kla_callFunE hr.depth ho rfl S.co S.gen rfl (codeO_at I.hok hc) (hb doc pm ctv _ _ _ _ ?_)
    refine wpAny_newFunctionEnv S.nocell (fun ⟨n, _⟩ hy => S.par n (List.of_mem_zip hy).1) (fun h₁ hns hsb => ⟨I.nolimit.fresh _ hsb, ?_⟩) S.kind
    show codeAny _ _ (.expr e (envF F f s.heap.objs.size)) _ _
    have kp : ∀ b o, s.heap.get? b = some o → h₁.get? b = some o := fun b o q => hsb.extBut b o (Nat.ne_of_lt (Heap.lt_size q)) (Heap.get?_push_of_some _ q)
    have J := inv_startN (CX := CX) (E := E) (f := f) (tk := s.toks + (ps.zip us).length) S hr.hd I.env0 hl r C hns kp
    refine PySem.W.kla_codeExpr (wpAny_mono ((hbody (hr.deeper _)).run [] _ _ H Q J ht) (fun v s' ⟨w', H', J', rv, q⟩ => ?_) fun e s' q => q)
    exact ⟨w', H', J'.os, J'.bare, J'.base, J'.hok, rv, q⟩
  refine wpAny_call (codeAny_mono rc fun o s' q => ?_)
  rcases o with e | fl
  · exact hx pins H s e s' I q
  · cases fl with
    | ret u => exact I.after q
    | next => exact q.elim
    | brk => exact q.elim
    | cont => exact q.elim
end
end LmX

set_option Elab.async false
set_option linter.all false
set_option maxRecDepth 100000
set_option maxHeartbeats 4000000
/-! several clauses «except X as n», one name n for all -/
namespace MaX
open PySem PySem.Spec PyProof.Rows L2
abbrev Cl := Value × (Addr → Value → Option Addr → TS)
/-- what the clauses wish of an error of the body -/
def wMA (K : PySem.W.Frag) (i : Nat) (Wo : WX) (D : Ends) : List Cl → WX
  | [] => Wo
  | u :: r => wAs K u.1 i u.2 (wMA K i Wo D r) D
inductive HAs (X : Cx) (n : Str) : List ExceptHandler → List Cl → Prop
  | nil : HAs X n [] []
  | cons {x : Str} {c : Value} {ts : Addr → Value → Option Addr → TS} {b : Stmt} {bs : List Stmt} {np q : Pos} {hds : List ExceptHandler} {l : List Cl} (hc : Names X x c)
      (su : ∀ (a : Addr) (o : Obj) (k : Value) (d : Option Addr) (pn : List (Addr × Obj)), Zc k d o → (∃ vs, o.data = .fields vs) → PSs (X.suite a ((a, o) :: pn)) (b :: bs) (ts a k d)) (r : HAs X n hds l) :
      HAs X n (.ExceptHandler (some (.Name x np)) (some n) (b :: bs) q :: hds) ((c, ts) :: l)
section
variable {X : Cx} {n : Str} {i : Nat} {bd : List Stmt} {h0 : ExceptHandler} {hds : List ExceptHandler} {l : List Cl} {p : Pos} {tb : WX → TS} {Wo : WX}
theorem ps_try_asM (hs : X.stack = X.env :: X.outer) (hf : X.env.frame = some X.env.locals) (hN : X.N.Nodup) (hi : X.N[i]? = some n) (hn : X.env.kindOf n = some .local) (tk : Takes X Wo)
    (hb : ∀ (W : WX) (pn : List (Addr × Obj)) (xe : Value → Shared → Prop), Takes (X.tr pn xe) W → PassesOwn (model X.prog X.w) X.A X.env xe → PSs (X.tr pn xe) bd (tb W)) (hh : HAs X n (h0 :: hds) l) :
    PS X (.Try bd (h0 :: hds) [] [] p) (fun D σ H => tb (wMA X.K i Wo D l) D σ H) := by
  refine ⟨fun pi s σ H D I h => wpAny_Try_except ?_⟩
  have ok := I.ok
  have frm : X.A.frames = some (X.env :: X.outer) := ok.frames.trans (congrArg some hs)
  have lo : Loc X.env.scope n := .inl hn
  refine wpAny_mono ((hb (wMA X.K i Wo D l) (X.pn ++ pi) (fun er s1 => wpAny (model X.prog X.w) X.A (noteFrame er X.env) (fun _ s2 => wpAny (model X.prog X.w) X.A (setFlight er none) (fun _ s3 => wpAny (model X.prog X.w) X.A (handleBy er X.env (h0 :: hds)) (SP X pi D) X.xe s3) X.xe s2) X.xe s1)
    (fun u t xx => ?_) PassesOwn.looking).run [] s σ H D (I.toTry _) h) (fun fl s1 hsp => ?_) (fun _ _ he => he)
  · obtain ⟨a, B, sJ, qs, σ1, H1, k, d, rfl, J0, nb, up, sk, na, os, ag, w⟩ := xx
    have J := J0.ofTry (X := X) ok
    have sk1 : Sky B (X.env :: X.outer) a (Zc k d) X.env.locals t.heap := hs ▸ sk
    show wpAny _ X.A (noteFrame (.ref a) X.env) _ _ _
    refine Sky.land Zc.steady frm hf sk1 fun h3 f3 u3 => ?_
    have J3 : Inv X pi σ1 H1 { t with heap := h3 } := J.landed nb f3.1 (up.trans u3) os ag
    obtain ⟨o3, v3, e3, z3, d3⟩ := f3.there
    have nfr : a ∉ frs (X.env :: X.outer) := fun hm => by
      obtain ⟨_, o', e', g⟩ := f3.2.2.1.mem hm
      cases e3.symm.trans e'
      exact g _ d3
    have nL : a ≠ X.env.locals := fun z => nfr (List.mem_filterMap.mpr ⟨X.env, .head _, hf.trans (congrArg some z.symm)⟩)
    have nF : a ∉ X.fs := fun hm => let ⟨e, he, g⟩ := List.mem_filterMap.mp hm; nfr (List.mem_filterMap.mpr ⟨e, .tail _ he, g⟩)
    have S3 := J3.suite e3 d3 na nL nF
    have go : ∀ {hs' : List ExceptHandler} {l' : List Cl}, HAs X n hs' l' → wMA X.K i Wo D l' k d σ1 H1 → wpAny (model X.prog X.w) X.A (handleBy (.ref a) X.env hs') (SP X pi D) X.xe { t with heap := h3 } := by
      intro hs' l' hk
      induction hk with
      | nil =>
        refine fun w => wpAny_handleBy_nil ?_
        obtain ⟨_, _, _, o, vs, T, _, _, he, _, hd, g1, _⟩ := id f3
        unfold PySem.passOn
        refine wpAny_bind (wpAny_field he hd g1 ?_)
        have nn : ¬ ((Value.ref T == Value.none) = true) := by simp
        rw [if_neg nn]
        have fin : wpAny (model X.prog X.w) X.A (setFlight (.ref a) X.env.frame) (fun _ s4 => wpAny (model X.prog X.w) X.A (throw (.ref a) : Sem Flow) (SP X pi D) X.xe s4) X.xe { t with heap := h3 } := hf ▸ HandSPX.setFlight_upZ f3 fun h4 g4 u4 => wpAny_throw (tk _ _ ⟨a, B, sJ, pi, σ1, H1, k, d, rfl, J, nb, (up.trans u3).trans u4, .inr (.inr (hs ▸ g4)), na, os, ag, w⟩)
        first | exact wpAny_bind fin | exact wpAny_bind (wpAny_pure (wpAny_bind fin))
      | @cons x c ts b bs np q hds2 l2 hc su r ih =>
        rintro ⟨bb, hb1, yes, no⟩
        refine wpAny_handleBy_cons (codeAny_handlers_test ?_) (fun q => nomatch q)
        have LM := PySem.W.exm_one (M := model X.prog X.w) (e := a) J3.kIn (fun A Q E s g q => wpAny_typeOf_ref (g _ _ e3) (z3.1.symm ▸ q)) hb1
        have tst : ∀ {Q : Value → Shared → Prop} {E : Value → Shared → Prop}, Q c { t with heap := h3 } → wpAny (model X.prog X.w) (X.A.mark (some (.ref a))) (eval (.Name x np) X.env) Q E { t with heap := h3 } := fun {Q E} g => by
          rcases hc with ⟨hg, dbg, hm | ⟨hm, hv, nnm⟩⟩
          · exact ld_glob (X := X.suite a ((a, o3) :: (X.pn ++ pi))) S3 hg hm g dbg
          · exact ld_blt (X := X.suite a ((a, o3) :: (X.pn ++ pi))) S3 hg hm hv g nnm dbg
        refine tst (LM.here ?_)
        cases bb with
        | false => exact ih (no rfl)
        | true =>
          refine codeAny_handlers_suite_as (HandSPX.lands_againZ f3 fun h4 f4 u4 => ?_)
          have J4 : Inv X pi σ1 H1 { t with heap := h4 } := J.landed nb f4.1 ((up.trans u3).trans u4) os ag
          obtain ⟨o4, v4, e4, z4, d4⟩ := f4.there
          refine store_ok (X := X.suite a ((a, o4) :: (X.pn ++ pi))) (v := .ref a) (J4.suite e4 d4 na nL nF) hN hi lo rfl (fun s5 S5 => ?_) (.inr hn)
          refine wpAny_mono ((su a o4 k d (X.pn ++ pi) z4 ⟨_, d4⟩).run [] s5 _ H1 _ S5 (yes rfl a na)) (fun f s6 g6 => ?_) (fun _ _ z => z.elim)
          have fin : ∀ {σ6 : L2.St} {H6 : Hp} {Q : Shared → Prop}, Inv (X.suite a ((a, o4) :: (X.pn ++ pi))) [] σ6 H6 s6 → (∀ s7, Inv X pi (σ6.set i none) H6 s7 → Q s7) →
              wpAny (model X.prog X.w) X.A (do bindName X.env n .none; unbindBehindTheSuite X.env n q) (fun _ s7 => Q s7) X.xe s6 := fun {_ _ _} S6 hq => gone_ok (S6.unsuite ok) hN hi hn hq
          cases f with
          | next => exact let ⟨_, _, S6, g⟩ := g6; fin S6 fun s7 J7 => ⟨_, _, J7, g⟩
          | brk => exact let ⟨_, _, S6, g⟩ := g6; fin S6 fun s7 J7 => ⟨_, _, J7, g⟩
          | cont => exact let ⟨_, _, S6, g⟩ := g6; fin S6 fun s7 J7 => ⟨_, _, J7, g⟩
          | ret u => exact let ⟨_, _, _, S6, rv, g⟩ := g6; fin S6 fun s7 J7 => ⟨_, _, _, J7, rv, g⟩
    exact go hh w
  · cases fl with
    | next => exact let ⟨σ', H', J', g⟩ := hsp; wpAny_execs_nil ⟨σ', H', J'.ofTry ok, g⟩
    | brk => exact let ⟨σ', H', J', g⟩ := hsp; ⟨σ', H', J'.ofTry ok, g⟩
    | cont => exact let ⟨σ', H', J', g⟩ := hsp; ⟨σ', H', J'.ofTry ok, g⟩
    | ret u => exact let ⟨v, σ', H', J', rv, g⟩ := hsp; ⟨v, σ', H', J'.ofTry ok, rv, g⟩
end
end MaX

set_option Elab.async false
set_option linter.all false
set_option maxRecDepth 100000
set_option maxHeartbeats 2000000
/-! lambdas of a law, the loop over them -/
namespace Lt
open PySem PySem.Spec PyProof.Rows L2 NdefX LamX LmX MaX
def lamP : Expr → Arguments
  | .Lambda a _ _ _ => a
  | _ => ⟨[], [], none, [], [], none, []⟩
def lamS : Expr → Scope
  | .Lambda _ _ s _ => s
  | _ => { kind := .function, names := [], isGenerator := false, isCoroutine := false, more := [] }
def lamB : Expr → Expr
  | .Lambda _ b _ _ => b
  | e => e
def noX : Expr := .Constant .none 0 ⟨0, 0, 0, 0⟩
/-- the i-th of a list, the first argument of a call, the right side of a sum -/
def itemX (i : Nat) : Expr → Expr
  | .List es _ => es.getD i noX
  | .Tuple es _ _ => es.getD i noX
  | _ => noX
def argX (i : Nat) : Expr → Expr
  | .Call _ es _ _ => es.getD i noX
  | _ => noX
def rightX : Expr → Expr
  | .BinOp _ _ r _ => r
  | _ => noX
/-- the value of an assignment, of an expression's statement, what a for goes over -/
def valX : Stmt → Expr
  | .Assign _ v _ => v
  | .Expr v _ => v
  | .For _ it _ _ _ => it
  | .If t _ _ _ => t
  | .Return (some v) _ => v
  | _ => noX
abbrev q_lam : Str := "law.<locals>." ++ "<lambda>"
theorem lmO_is {f : Addr} {F : NF} {e : Expr} {dV : Value} : (∀ xs, LmO f F e dV ≠ .lst xs) ∧ (∀ ps, LmO f F e dV ≠ .tbl ps) := ⟨fun xs z => (by unfold LmO at z; cases z), fun xs z => (by unfold LmO at z; cases z)⟩
theorem codeO_is {c : Addr} {q : Str} : (∀ xs, CodeO c q ≠ .lst xs) ∧ (∀ ps, CodeO c q ≠ .tbl ps) := ⟨fun xs z => (by unfold CodeO at z; cases z), fun xs z => (by unfold CodeO at z; cases z)⟩
theorem extN_tm {H H' : Hp} (e : ExtN H H') : Tm H H' := ⟨fun _ _ h => e _ _ h (fun _ z => nomatch z), fun _ _ _ h => e _ _ h (fun _ z => nomatch z)⟩
theorem extN_of {H H' : Hp} (e : Same H H') : ExtN H H' := fun a o h _ => e a o h
theorem RowAt.extN {K : PySem.W.Frag} {H H' : Hp} {r sc : Addr} {ns : List Int} (h : RowAt K H r sc ns) (e : ExtN H H') : RowAt K H' r sc ns := by
  obtain ⟨a, b, c, R⟩ := h
  refine ⟨a, b, c, e _ _ R.at_ (fun _ z => nomatch z), ?_, R.a0, R.b0, R.b1⟩
  rcases R.sc with (z | ⟨ob, z⟩) | z
  · exact .inl (.inl (e _ _ z (fun _ z => nomatch z)))
  · exact .inl (.inr ⟨ob, e _ _ z (fun _ z => nomatch z)⟩)
  · exact .inr z
theorem stepR_tml {l : Addr} {H H' : Hp} {xs : List V} (s : StepR l H H') (h : H l = some (.lst xs)) : Tm H H' :=
  ⟨fun a ys e => s a _ (ne_of e h (fun z => nomatch z)) e, fun a o ys e => s a _ (ne_of e h (fun z => nomatch z)) e⟩
/-- all but what is at a and at b stays -/
def Kp2 (a b : Addr) (H H' : Hp) : Prop := ∀ c o, c ≠ a → c ≠ b → H c = some o → H' c = some o
theorem Kp2.refl (a b : Addr) (H : Hp) : Kp2 a b H H := fun _ _ _ _ h => h
theorem Kp2.trans {a b : Addr} {H H1 H2 : Hp} (x : Kp2 a b H H1) (y : Kp2 a b H1 H2) : Kp2 a b H H2 := fun c o h1 h2 h => y c o h1 h2 (x c o h1 h2 h)
theorem Kp2.of {a b : Addr} {H H' : Hp} (e : Same H H') : Kp2 a b H H' := fun c o _ _ h => e c o h
theorem Kp2.l {a b : Addr} {H H' : Hp} (e : StepR a H H') : Kp2 a b H H' := fun c o h _ => e c o h
theorem Kp2.r {a b : Addr} {H H' : Hp} (e : StepR b H H') : Kp2 a b H H' := fun c o _ h => e c o h
theorem Kp2.tm {a b : Addr} {H H' : Hp} {xs ys : List V} (s : Kp2 a b H H') (h1 : H a = some (.lst xs)) (h2 : H b = some (.lst ys)) : Tm H H' :=
  ⟨fun c zs e => s c _ (ne_of e h1 (fun z => nomatch z)) (ne_of e h2 (fun z => nomatch z)) e, fun c o zs e => s c _ (ne_of e h1 (fun z => nomatch z)) (ne_of e h2 (fun z => nomatch z)) e⟩
/-- what is no list stays -/
theorem Kp2.at_ {a b c : Addr} {H H' : Hp} {xs ys : List V} {o : HO} (s : Kp2 a b H H') (h1 : H a = some (.lst xs)) (h2 : H b = some (.lst ys)) (h : H c = some o) (n : ∀ zs, o ≠ .lst zs) : H' c = some o :=
  s c o (ne_of h h1 (n _)) (ne_of h h2 (n _)) h
/-- a list elsewhere may change -/
theorem RowAt.far {K : PySem.W.Frag} {H H' : Hp} {l r sc : Addr} {ns : List Int} (h : RowAt K H r sc ns) (hr : r ≠ l) (hs : sc ≠ l) (s : StepR l H H') : RowAt K H' r sc ns := by
  obtain ⟨a, b, c, R⟩ := h
  refine ⟨a, b, c, s _ _ hr R.at_, ?_, R.a0, R.b0, R.b1⟩
  rcases R.sc with (z | ⟨ob, z⟩) | z
  · exact .inl (.inl (s _ _ hs z))
  · exact .inl (.inr ⟨ob, s _ _ hs z⟩)
  · exact .inr z
/-- .. or the script stands in what the top has written -/
theorem RowAt.far' {K : PySem.W.Frag} {H0 H H' : Hp} {l r sc : Addr} {ns : List Int} (h0 : RowAt K H0 r sc ns) (hl : H0 l = none) (h : RowAt K H r sc ns) (s : StepR l H H') : RowAt K H' r sc ns := by
  have hr := h0.ne hl
  have s0 := h0.sq
  obtain ⟨a, b, c, R⟩ := h
  refine ⟨a, b, c, s _ _ hr R.at_, ?_, R.a0, R.b0, R.b1⟩
  rcases s0 with (s0 | ⟨ob, s0⟩) | s0
  · have hs : sc ≠ l := ne_of_none s0 hl
    rcases R.sc with (z | ⟨ob, z⟩) | z
    · exact .inl (.inl (s _ _ hs z))
    · exact .inl (.inr ⟨ob, s _ _ hs z⟩)
    · exact .inr z
  · have hs : sc ≠ l := ne_of_none s0 hl
    rcases R.sc with (z | ⟨ob, z⟩) | z
    · exact .inl (.inl (s _ _ hs z))
    · exact .inl (.inr ⟨ob, s _ _ hs z⟩)
    · exact .inr z
  · exact .inr s0
theorem dflt_of {X : Cx} {pins : List (Addr × Obj)} {σ : L2.St} {H : Hp} {s : Shared} {p : Addr} {v : V} (I : Inv X pins σ H s) (h : H p = some (.tup [v])) : ∃ u o n, RelV v u ∧ s.heap.get? p = some o ∧ o.data = .seq #[u] n := by
  obtain ⟨_, its, r, o, ho, _, n, hd⟩ := I.hok p _ h
  cases r with
  | cons r t =>
    cases t
    exact ⟨_, o, n, r, ho, hd⟩
theorem exm_not {K : PySem.W.Frag} {S T : Addr} (h1 : PySem.W.subIn K (.ref S) (.type "BaseException") = some true) (h2 : PySem.W.isClsIn K S = true) (h3 : PySem.W.typeIn K (.ref S) = some (.type "type")) (h4 : PySem.W.subIn K (.ref T) (.ref S) = some false) : PySem.W.exmOne K (.ref T) (.ref S) = some false := by
  have i2 : (PySem.W.clsIn K S).isSome = true := h2
  have a : (if ((PySem.W.clsIn K S).isSome && PySem.W.typeIn K (.ref S) == some (.type "type")) = true then PySem.W.subIn K (.ref T) (.ref S) else none) = some false := by
    rw [if_pos (by rw [i2, h3]; rfl)]
    exact h4
  have b : (PySem.W.subIn K (.ref S) (.type "BaseException") == some true) = true := by
    rw [h1]
    rfl
  exact (if_pos b).trans a
theorem Tabs.rowX {K : PySem.W.Frag} {H H' : Hp} {r sc : Addr} {ns : List Int} {T : List (Addr × Str)} (ra : RowAt K H r sc ns) (s : StepR r H H') (h : Tabs T H) : Tabs T H' := fun p hp => by
  obtain ⟨x, y, z, R⟩ := ra
  obtain ⟨ps, h1, h2, h3⟩ := h p hp
  refine ⟨ps, s _ _ (ne_of h1 R.at_ (fun z => nomatch z)) h1, h2, fun pos cv hc => ?_⟩
  obtain ⟨c, e1, e2⟩ := h3 pos cv hc
  exact ⟨c, e1, s _ _ (ne_of e2 R.at_ (codeO_is.1 _)) e2⟩
end Lt

set_option Elab.async false
set_option linter.all false
set_option maxRecDepth 100000
set_option maxHeartbeats 2000000
namespace Lt
open PySem PySem.Spec PyProof.Rows L2 NdefX LamX LmX
/-- a name of a text -/
def Cs (mg : Str → Option Value) (x z : Str) : Prop := ∃ t, mg x = some (.str z t)
/-- a name of a tuple of texts -/
def Ct (K : PySem.W.Frag) (mg : Str → Option Value) (x : Str) (zs : List Str) : Prop := ∃ J : Addr, mg x = some (.ref J) ∧ ∀ H, SqT K H J (zs.map V.str)
def clsB : Stmt → List Stmt
  | .ClassDef _ _ _ b _ _ _ _ _ _ _ => b
  | _ => []
def initS (st : Stmt) : Stmt := (clsB st).getD 0 (.Pass ⟨0, 0, 0, 0⟩)
section
variable {P : Program} {w : World} {K : PySem.W.Frag} {mg : Str → Option Value} {base : Heap}
/-- a class's own line: an error is what «except» of its class names -/
theorem exm_own {S : Addr} (h1 : PySem.W.subIn K (.ref S) (.type "BaseException") = some true) (h2 : PySem.W.isClsIn K S = true) (h3 : PySem.W.typeIn K (.ref S) = some (.type "type")) (h4 : PySem.W.subIn K (.ref S) (.ref S) = some true) : PySem.W.exmOne K (.ref S) (.ref S) = some true := by
  have i2 : (PySem.W.clsIn K S).isSome = true := h2
  have a : (if ((PySem.W.clsIn K S).isSome && PySem.W.typeIn K (.ref S) == some (.type "type")) = true then PySem.W.subIn K (.ref S) (.ref S) else none) = some true := by
    rw [if_pos (by rw [i2, h3]; rfl)]
    exact h4
  have b : (PySem.W.subIn K (.ref S) (.type "BaseException") == some true) = true := by
    rw [h1]
    rfl
  exact (if_pos b).trans a
structure ErrFs (K : PySem.W.Frag) (mg : Str → Option Value) (x fld : Str) (C : Addr) (st : Stmt) : Prop where
  g : mg x = some (.ref C)
  cls : ∃ nm q N bs bm sn sub ab col dd k0 k1 k2 k3 k5, K.lookup C = some (excClassObj nm q C N bs bm true sn sub ab col dd k0 k1 k2 k3 k5 "ValueError.__new__") ∧ PySem.HandSPX.refsVE bm = true
  sa : PySem.W.findIn K (.ref C) "__setattr__" = some (some (.builtin "object.__setattr__"))
  ga : PySem.W.findIn K (.ref C) "__getattribute__" = some (some (.builtin "BaseException.__getattribute__"))
  gg : PySem.W.findIn K (.ref C) "__getattr__" = some none
  no : PySem.W.findIn K (.ref C) fld = some none
  kC : PySem.W.keepIn K (.ref C) = true
  eC : PySem.W.subIn K (.ref C) (.type "BaseException") = some true
  tC : PySem.W.typeIn K (.ref C) = some (.type "type")
  hC : PySem.W.hasDictIn K C = true
  iC : PySem.W.isClsIn K C = true
  sC : PySem.W.subIn K (.ref C) (.ref C) = some true
  init : ∃ fI fd, PySem.W.findIn K (.ref C) "__init__" = some (some (.ref fI)) ∧ PySem.W.typeIn K (.ref fI) = some (.type "function") ∧ Binds K fd ["self", fld] [] ∧ Fun K "__init__" (x ++ ".__init__") (initS st) fI fd
theorem ErrFs.errI {x fld : Str} {C : Addr} {st : Stmt} (F : ErrFs K mg x fld C st) (ok : ∀ {fI fd}, Fun K "__init__" (x ++ ".__init__") (initS st) fI fd → FnOk P w K mg base CX0 1 fI fd ["self", fld] (spInit K fld)) : ErrI P w K mg base x fld C := by
  obtain ⟨fI, fd, h1, h2, h3, h4⟩ := F.init
  exact ⟨⟨F.cls, F.sa, F.eC, F.tC, F.kC⟩, F.g, F.no, ⟨fI, fd, h1, h2, h3, ok h4⟩, ⟨F.ga, F.gg, F.eC, F.hC⟩, exm_own F.eC F.iC F.tC F.sC⟩
end
theorem top_mk {K : PySem.W.Frag} {h : Heap} {mg : Str → Option Value} {x : Str} {st : Stmt} {ps : List Str} {f : Addr} {oc kV doc pm cdv ct : Value} {od an : Option Addr} {osl : Array (Option Value)} (X : K.In h) (G : h.Ns mainGlobals mg)
    (a : PySem.W.nsIn K mainGlobals x = some (some (.ref f))) (l : K.lookup f = some ⟨oc, od, .func (PySem.W.fnOf x x (defArgs st) (defBody st) (defScope st) .none kV doc pm an cdv ct), osl⟩) (c : PySem.W.codeIn K cdv x = true) (k : PySem.W.keepIn K (.ref f) = true)
    (hb : ∀ (kV doc pm : Value) (an : Option Addr) (cdv ct : Value) (us : List Value), us.length = ps.length → bindArgs (PySem.W.fnOf x x (defArgs st) (defBody st) (defScope st) .none kV doc pm an cdv ct) ⟨us, []⟩ = pure (ps.zip us)) : Top K mg x st ps :=
  ⟨f, _, PySem.W.mg_of X G a, fun_mk l c k, (fun_mk l c k).binds hb⟩
abbrev TopX {K : PySem.W.Frag} {h : Heap} (_ : K.In h) (mg : Str → Option Value) (x : Str) (st : Stmt) (ps : List Str) : Prop := Top K mg x st ps
abbrev CtX {K : PySem.W.Frag} {h : Heap} (_ : K.In h) (mg : Str → Option Value) (x : Str) (zs : List Str) : Prop := Ct K mg x zs
abbrev ErrX {K : PySem.W.Frag} {h : Heap} (_ : K.In h) (mg : Str → Option Value) (x fld : Str) (C : Addr) (st : Stmt) : Prop := ErrFs K mg x fld C st
abbrev NoX {K : PySem.W.Frag} {h : Heap} (_ : K.In h) (mg : Str → Option Value) (x : Str) (C : Addr) : Prop := Err0 K mg x C
theorem cn_mk {K : PySem.W.Frag} {h : Heap} {mg : Str → Option Value} {x : Str} {i : Int} {v : Value} (X : K.In h) (G : h.Ns mainGlobals mg) (a : PySem.W.nsIn K mainGlobals x = some (some v)) (b : ∃ t, v = .int i t) : Cn mg x i := by
  obtain ⟨t, rfl⟩ := b
  exact ⟨t, PySem.W.mg_of X G a⟩
theorem cs_mk {K : PySem.W.Frag} {h : Heap} {mg : Str → Option Value} {x z : Str} {v : Value} (X : K.In h) (G : h.Ns mainGlobals mg) (a : PySem.W.nsIn K mainGlobals x = some (some v)) (b : ∃ t, v = .str z t) : Cs mg x z := by
  obtain ⟨t, rfl⟩ := b
  exact ⟨t, PySem.W.mg_of X G a⟩
theorem ct_mk {K : PySem.W.Frag} {h : Heap} {mg : Str → Option Value} {x : Str} {zs : List Str} {J : Addr} {o : Obj} (X : K.In h) (G : h.Ns mainGlobals mg) (a : PySem.W.nsIn K mainGlobals x = some (some (.ref J))) (l : K.lookup J = some o)
    (b : ∃ (its : Array Value) (n : Nat), o.cls = .type "tuple" ∧ o.data = .seq its n ∧ its.size ≤ sizeLine ∧ Vals (zs.map V.str) its.toList) : Ct K mg x zs := by
  obtain ⟨its, n, h1, h2, h3, h4⟩ := b
  exact ⟨J, PySem.W.mg_of X G a, fun H => .inr ⟨o, its, n, l, h1, h2, h3, h4⟩⟩
theorem init_mk {K : PySem.W.Frag} {x fld : Str} {C fI : Addr} {st : Stmt} {oc kV doc pm cdv ct : Value} {od an : Option Addr} {osl : Array (Option Value)} (a : PySem.W.findIn K (.ref C) "__init__" = some (some (.ref fI))) (t : PySem.W.typeIn K (.ref fI) = some (.type "function"))
    (l : K.lookup fI = some ⟨oc, od, .func (PySem.W.fnOf "__init__" (x ++ ".__init__") (defArgs (initS st)) (defBody (initS st)) (defScope (initS st)) .none kV doc pm an cdv ct), osl⟩) (c : PySem.W.codeIn K cdv (x ++ ".__init__") = true) (k : PySem.W.keepIn K (.ref fI) = true)
    (hb : ∀ (kV doc pm : Value) (an : Option Addr) (cdv ct : Value) (us : List Value), us.length = (["self", fld] : List Str).length → bindArgs (PySem.W.fnOf "__init__" (x ++ ".__init__") (defArgs (initS st)) (defBody (initS st)) (defScope (initS st)) .none kV doc pm an cdv ct) ⟨us, []⟩ = pure ((["self", fld] : List Str).zip us)) :
    ∃ fI fd, PySem.W.findIn K (.ref C) "__init__" = some (some (.ref fI)) ∧ PySem.W.typeIn K (.ref fI) = some (.type "function") ∧ Binds K fd ["self", fld] [] ∧ Fun K "__init__" (x ++ ".__init__") (initS st) fI fd :=
  ⟨fI, _, a, t, (fun_mk l c k).binds hb, fun_mk l c k⟩
theorem err_mk {K : PySem.W.Frag} {h : Heap} {mg : Str → Option Value} {x fld : Str} {C N : Addr} {st : Stmt} {nm q : Str} {bs bm sub : List Value} {sn : List Str} {ab : Bool} {col : Option Bool} {dd : Option Addr} {k0 k1 k2 k3 k5 : Option Value} (X : K.In h) (G : h.Ns mainGlobals mg)
    (a : PySem.W.nsIn K mainGlobals x = some (some (.ref C))) (xL : K.lookup C = some (excClassObj nm q C N bs bm true sn sub ab col dd k0 k1 k2 k3 k5 "ValueError.__new__")) (rv : PySem.HandSPX.refsVE bm = true)
    (sa : PySem.W.findIn K (.ref C) "__setattr__" = some (some (.builtin "object.__setattr__"))) (ga : PySem.W.findIn K (.ref C) "__getattribute__" = some (some (.builtin "BaseException.__getattribute__"))) (gg : PySem.W.findIn K (.ref C) "__getattr__" = some none) (no : PySem.W.findIn K (.ref C) fld = some none)
    (kC : PySem.W.keepIn K (.ref C) = true) (eC : PySem.W.subIn K (.ref C) (.type "BaseException") = some true) (tC : PySem.W.typeIn K (.ref C) = some (.type "type")) (hC : PySem.W.hasDictIn K C = true) (iC : PySem.W.isClsIn K C = true) (sC : PySem.W.subIn K (.ref C) (.ref C) = some true)
    {fI : Addr} {oc kV doc pm cdv ct : Value} {od an : Option Addr} {osl : Array (Option Value)} (i1 : PySem.W.findIn K (.ref C) "__init__" = some (some (.ref fI))) (i2 : PySem.W.typeIn K (.ref fI) = some (.type "function"))
    (i3 : K.lookup fI = some ⟨oc, od, .func (PySem.W.fnOf "__init__" (x ++ ".__init__") (defArgs (initS st)) (defBody (initS st)) (defScope (initS st)) .none kV doc pm an cdv ct), osl⟩) (i4 : PySem.W.codeIn K cdv (x ++ ".__init__") = true) (i5 : PySem.W.keepIn K (.ref fI) = true)
    (hb : ∀ (kV doc pm : Value) (an : Option Addr) (cdv ct : Value) (us : List Value), us.length = (["self", fld] : List Str).length → bindArgs (PySem.W.fnOf "__init__" (x ++ ".__init__") (defArgs (initS st)) (defBody (initS st)) (defScope (initS st)) .none kV doc pm an cdv ct) ⟨us, []⟩ = pure ((["self", fld] : List Str).zip us)) : ∃ C, ErrFs K mg x fld C st :=
  ⟨C, PySem.W.mg_of X G a, ⟨_, _, _, _, _, _, _, _, _, _, _, _, _, _, _, xL, rv⟩, sa, ga, gg, no, kC, eC, tC, hC, iC, sC, init_mk i1 i2 i3 i4 i5 hb⟩
theorem no_mk {K : PySem.W.Frag} {h : Heap} {mg : Str → Option Value} {x : Str} {C : Addr} (X : K.In h) (G : h.Ns mainGlobals mg) (a : PySem.W.nsIn K mainGlobals x = some (some (.ref C)))
    (qx : PySem.W.excIn K C [.type "ValueError", .type "Exception", .type "BaseException", .type "object"] "ValueError.__new__" = true) (kC : PySem.W.keepIn K (.ref C) = true) (eC : PySem.W.subIn K (.ref C) (.type "BaseException") = some true) (tC : PySem.W.typeIn K (.ref C) = some (.type "type")) (iC : PySem.W.isClsIn K C = true)
    (sC : PySem.W.subIn K (.ref C) (.ref C) = some true) : ∃ C, Err0 K mg x C := ⟨C, qx, PySem.W.mg_of X G a, kC, eC, tC, exm_own eC iC tC sC⟩
abbrev ErrE {K : PySem.W.Frag} {h : Heap} (_ : K.In h) (mg : Str → Option Value) (x fld : Str) (st : Stmt) : Prop := ∃ C, ErrFs K mg x fld C st
abbrev NoE {K : PySem.W.Frag} {h : Heap} (_ : K.In h) (mg : Str → Option Value) (x : Str) : Prop := ∃ C, Err0 K mg x C

/-! ### methods, properties, __init__ -/
theorem meth_mk {K : PySem.W.Frag} {C f : Addr} {m q : Str} {st : Stmt} {ps : List Str} {oc kV doc pm cdv ct : Value} {od an : Option Addr} {osl : Array (Option Value)} (a : PySem.W.findIn K (.ref C) m = some (some (.ref f))) (i : PySem.W.isFn K (.ref f) = true)
    (l : K.lookup f = some ⟨oc, od, .func (PySem.W.fnOf m q (defArgs st) (defBody st) (defScope st) .none kV doc pm an cdv ct), osl⟩) (c : PySem.W.codeIn K cdv q = true) (k : PySem.W.keepIn K (.ref f) = true)
    (hb : ∀ (kV doc pm : Value) (an : Option Addr) (cdv ct : Value) (us : List Value), us.length = ps.length → bindArgs (PySem.W.fnOf m q (defArgs st) (defBody st) (defScope st) .none kV doc pm an cdv ct) ⟨us, []⟩ = pure (ps.zip us)) : MethF K C m q st ps :=
  ⟨⟨f, _, ⟨a, i, k⟩, (fun_mk l c k).binds hb, fun_mk l c k⟩⟩
theorem prop_mk {K : PySem.W.Frag} {C p f : Addr} {m q : Str} {st : Stmt} {rest : List Value} {oc kV doc pm cdv ct : Value} {od an : Option Addr} {osl : Array (Option Value)} (a : PySem.W.findIn K (.ref C) m = some (some (.ref p)))
    (g : PySem.W.specialIn K (.ref p) "__get__" = some (some (.builtin "property.__get__"))) (t : PySem.W.takesIn K (.ref p) = some true) (rc : PySem.W.recIn K p "property" = some (.ref f :: rest))
    (l : K.lookup f = some ⟨oc, od, .func (PySem.W.fnOf m q (defArgs st) (defBody st) (defScope st) .none kV doc pm an cdv ct), osl⟩) (c : PySem.W.codeIn K cdv q = true) (k : PySem.W.keepIn K (.ref f) = true)
    (hb : ∀ (kV doc pm : Value) (an : Option Addr) (cdv ct : Value) (us : List Value), us.length = (["self"] : List Str).length → bindArgs (PySem.W.fnOf m q (defArgs st) (defBody st) (defScope st) .none kV doc pm an cdv ct) ⟨us, []⟩ = pure ((["self"] : List Str).zip us)) : PropF K C m q st :=
  ⟨⟨p, f, _, ⟨a, g, t, rest, rc⟩, (fun_mk l c k).binds hb, fun_mk l c k⟩⟩
theorem cinit_mk {K : PySem.W.Frag} {mg : Str → Option Value} {C f : Addr} {x : Str} {st : Stmt} {ps : List Str} {oc kV doc pm cdv ct : Value} {od an : Option Addr} {osl : Array (Option Value)} (g : mg x = some (.ref C)) (mk : PySem.W.makesIn K C = true) (kc : PySem.W.keepIn K (.ref C) = true) (a : PySem.W.findIn K (.ref C) "__init__" = some (some (.ref f))) (i : PySem.W.isFn K (.ref f) = true)
    (l : K.lookup f = some ⟨oc, od, .func (PySem.W.fnOf "__init__" (x ++ ".__init__") (defArgs st) (defBody st) (defScope st) .none kV doc pm an cdv ct), osl⟩) (c : PySem.W.codeIn K cdv (x ++ ".__init__") = true) (k : PySem.W.keepIn K (.ref f) = true)
    (hb : ∀ (kV doc pm : Value) (an : Option Addr) (cdv ct : Value) (us : List Value), us.length = ps.length → bindArgs (PySem.W.fnOf "__init__" (x ++ ".__init__") (defArgs st) (defBody st) (defScope st) .none kV doc pm an cdv ct) ⟨us, []⟩ = pure (ps.zip us)) : InitF K mg C x st ps :=
  ⟨⟨f, _, g, ⟨mk, a, i, kc⟩, (fun_mk l c k).binds hb, fun_mk l c k⟩⟩
/-- the class at C stands under x -/
structure ClsA (K : PySem.W.Frag) (mg : Str → Option Value) (x : Str) (C : Addr) : Prop where
  g : mg x = some (.ref C)
  cl : Cls K C
  mks : PySem.W.makesIn K C = true
  kc : PySem.W.keepIn K (.ref C) = true
theorem cls_mk {K : PySem.W.Frag} {h : Heap} {mg : Str → Option Value} {x : Str} {C : Addr} (X : K.In h) (G : h.Ns mainGlobals mg) (a : PySem.W.nsIn K mainGlobals x = some (some (.ref C)))
    (pg : PySem.W.plainGet K C Str.empty = true) (hd : PySem.W.hasDictIn K C = true) (po : PySem.W.plainOver K C = true) (sa : PySem.W.findIn K (.ref C) "__setattr__" = some (some (.builtin "object.__setattr__"))) (mk : PySem.W.makesIn K C = true) (kc : PySem.W.keepIn K (.ref C) = true) : ∃ C, ClsA K mg x C :=
  ⟨C, ⟨PySem.W.mg_of X G a, ⟨pg, hd, po, sa⟩, mk, kc⟩⟩
theorem one_ref {K : PySem.W.Frag} {h : Heap} {mg : Str → Option Value} {x : Str} {C D : Addr} (X : K.In h) (G : h.Ns mainGlobals mg) (g : mg x = some (.ref C)) (a : PySem.W.nsIn K mainGlobals x = some (some (.ref D))) : D = C := by
  have e := (PySem.W.mg_of X G a).symm.trans g
  cases e
  rfl
theorem noattr_mk {K : PySem.W.Frag} {h : Heap} {mg : Str → Option Value} {x f : Str} {C D : Addr} (X : K.In h) (G : h.Ns mainGlobals mg) (g : mg x = some (.ref C)) (a : PySem.W.nsIn K mainGlobals x = some (some (.ref D))) (n : PySem.W.findIn K (.ref D) f = some none) : NoAttr K C f := one_ref X G g a ▸ n
theorem meth_at {K : PySem.W.Frag} {h : Heap} {mg : Str → Option Value} {x : Str} {C D f : Addr} {m q : Str} {st : Stmt} {ps : List Str} {oc kV doc pm cdv ct : Value} {od an : Option Addr} {osl : Array (Option Value)} (X : K.In h) (G : h.Ns mainGlobals mg) (g : mg x = some (.ref C)) (a0 : PySem.W.nsIn K mainGlobals x = some (some (.ref D)))
    (a : PySem.W.findIn K (.ref D) m = some (some (.ref f))) (i : PySem.W.isFn K (.ref f) = true) (l : K.lookup f = some ⟨oc, od, .func (PySem.W.fnOf m q (defArgs st) (defBody st) (defScope st) .none kV doc pm an cdv ct), osl⟩) (c : PySem.W.codeIn K cdv q = true) (k : PySem.W.keepIn K (.ref f) = true)
    (hb : ∀ (kV doc pm : Value) (an : Option Addr) (cdv ct : Value) (us : List Value), us.length = ps.length → bindArgs (PySem.W.fnOf m q (defArgs st) (defBody st) (defScope st) .none kV doc pm an cdv ct) ⟨us, []⟩ = pure (ps.zip us)) : MethF K C m q st ps := one_ref X G g a0 ▸ meth_mk a i l c k hb
theorem prop_at {K : PySem.W.Frag} {h : Heap} {mg : Str → Option Value} {x : Str} {C D p f : Addr} {m q : Str} {st : Stmt} {rest : List Value} {oc kV doc pm cdv ct : Value} {od an : Option Addr} {osl : Array (Option Value)} (X : K.In h) (G : h.Ns mainGlobals mg) (g : mg x = some (.ref C)) (a0 : PySem.W.nsIn K mainGlobals x = some (some (.ref D)))
    (a : PySem.W.findIn K (.ref D) m = some (some (.ref p))) (gt : PySem.W.specialIn K (.ref p) "__get__" = some (some (.builtin "property.__get__"))) (t : PySem.W.takesIn K (.ref p) = some true) (rc : PySem.W.recIn K p "property" = some (.ref f :: rest))
    (l : K.lookup f = some ⟨oc, od, .func (PySem.W.fnOf m q (defArgs st) (defBody st) (defScope st) .none kV doc pm an cdv ct), osl⟩) (c : PySem.W.codeIn K cdv q = true) (k : PySem.W.keepIn K (.ref f) = true)
    (hb : ∀ (kV doc pm : Value) (an : Option Addr) (cdv ct : Value) (us : List Value), us.length = (["self"] : List Str).length → bindArgs (PySem.W.fnOf m q (defArgs st) (defBody st) (defScope st) .none kV doc pm an cdv ct) ⟨us, []⟩ = pure ((["self"] : List Str).zip us)) : PropF K C m q st := one_ref X G g a0 ▸ prop_mk a gt t rc l c k hb
theorem cinit_at {K : PySem.W.Frag} {h : Heap} {mg : Str → Option Value} {C D f : Addr} {x : Str} {st : Stmt} {ps : List Str} {oc kV doc pm cdv ct : Value} {od an : Option Addr} {osl : Array (Option Value)} (X : K.In h) (G : h.Ns mainGlobals mg) (A : ClsA K mg x C) (a0 : PySem.W.nsIn K mainGlobals x = some (some (.ref D))) (a : PySem.W.findIn K (.ref D) "__init__" = some (some (.ref f))) (i : PySem.W.isFn K (.ref f) = true)
    (l : K.lookup f = some ⟨oc, od, .func (PySem.W.fnOf "__init__" (x ++ ".__init__") (defArgs st) (defBody st) (defScope st) .none kV doc pm an cdv ct), osl⟩) (c : PySem.W.codeIn K cdv (x ++ ".__init__") = true) (k : PySem.W.keepIn K (.ref f) = true)
    (hb : ∀ (kV doc pm : Value) (an : Option Addr) (cdv ct : Value) (us : List Value), us.length = ps.length → bindArgs (PySem.W.fnOf "__init__" (x ++ ".__init__") (defArgs st) (defBody st) (defScope st) .none kV doc pm an cdv ct) ⟨us, []⟩ = pure (ps.zip us)) : InitF K mg C x st ps := cinit_mk A.g A.mks A.kc (one_ref X G A.g a0 ▸ a) i l c k hb
abbrev NoAttrX {K : PySem.W.Frag} {h : Heap} (_ : K.In h) (C : Addr) (f : Str) : Prop := NoAttr K C f
abbrev ExmNoX {K : PySem.W.Frag} {h : Heap} (_ : K.In h) (C D : Addr) : Prop := PySem.W.exmOne K (.ref C) (.ref D) = some false
abbrev ClsE {K : PySem.W.Frag} {h : Heap} (_ : K.In h) (mg : Str → Option Value) (x : Str) : Prop := ∃ C, ClsA K mg x C
abbrev InitFX {K : PySem.W.Frag} {h : Heap} (_ : K.In h) (mg : Str → Option Value) (C : Addr) (x : Str) (st : Stmt) (ps : List Str) : Prop := InitF K mg C x st ps
abbrev PropFX {K : PySem.W.Frag} {h : Heap} (_ : K.In h) (C : Addr) (m q : Str) (st : Stmt) : Prop := PropF K C m q st
abbrev MethFX {K : PySem.W.Frag} {h : Heap} (_ : K.In h) (C : Addr) (m q : Str) (st : Stmt) (ps : List Str) : Prop := MethF K C m q st ps
/-- one error is no other -/
theorem exm_no {K : PySem.W.Frag} {h : Heap} {mg : Str → Option Value} {x y : Str} {C1 C2 S T : Addr} (X : K.In h) (G : h.Ns mainGlobals mg) (e1 : mg x = some (.ref C1)) (e2 : mg y = some (.ref C2)) (a1 : PySem.W.nsIn K mainGlobals x = some (some (.ref T))) (a2 : PySem.W.nsIn K mainGlobals y = some (some (.ref S)))
    (h1 : PySem.W.subIn K (.ref S) (.type "BaseException") = some true) (h2 : PySem.W.isClsIn K S = true) (h3 : PySem.W.typeIn K (.ref S) = some (.type "type")) (h4 : PySem.W.subIn K (.ref T) (.ref S) = some false) : PySem.W.exmOne K (.ref C1) (.ref C2) = some false := by
  rw [← one_ref X G e1 a1, ← one_ref X G e2 a2]
  exact exm_not h1 h2 h3 h4
/-! ### a law with lambdas -/
def spLam (K : PySem.W.Frag) (Pt : Addr) : Sp := fun vs H Q _ => ∃ (l : Addr) (ns : List Int), vs = [.ref l] ∧ SqL K H l (ns.map V.int) ∧ Tabs [(Pt, q_lam)] H ∧ ∀ H', Q (.bl true) H'
theorem lam_fn {P : Program} {w : World} {K : PySem.W.Frag} {mg : Str → Option Value} {base : Heap} {c Pt : Addr} {lvl : Nat} {N : List Str} {st : Stmt} (S : FnScope N ["script"] (defScope st)) {fa : Addr} {oc dV kV doc pm ct : Value} {an od : Option Addr} {osl : Array (Option Value)}
    (lk : K.lookup fa = some ⟨oc, od, .func (PySem.W.fnOf "law" "law" (defArgs st) (defBody st) (defScope st) dV kV doc pm an (.ref c) ct), osl⟩) (hcd : PySem.W.codeIn K (.ref c) "law" = true)
    (hall : ∀ (A : Around) (outer : List Env) (s0 : Shared) (H0 : Hp) (E0' : XK), Room lvl (cxOf CX0 P w K mg base N "law" (defScope st) fa (.ref c) A outer s0 H0 E0').A → ∃ t, PSs (cxOf CX0 P w K mg base N "law" (defScope st) fa (.ref c) A outer s0 H0 E0') (defBody st) t ∧ ∀ (D : Ends) (H : Hp) (vs : List V) (Q : VK), D.rt = Q → spLam K Pt vs H Q C8.E0 → t D (start N vs) H) :
    FnOk P w K mg base CX0 (lvl + 1) fa (PySem.W.fnOf "law" "law" (defArgs st) (defBody st) (defScope st) dV kV doc pm an (.ref c) ct) ["script"] (spLam K Pt) := by
  refine fn_of lk hcd S (fun vs H Q E h => ?_) fun A outer s H vs Q E hr h => ?_
  · obtain ⟨l, ns, rfl, _⟩ := h
    rfl
  · obtain ⟨t, ht, qt⟩ := hall A outer s H E hr
    exact ⟨t, ht, qt _ H vs Q rfl h⟩
theorem lam_at {l : PySem.W.OpenLaw} {w : World} {K : PySem.W.Frag} {h : Heap} {mg : Str → Option Value} {lvl : Nat} {fa f c Pt : Addr} {oc kV doc pm ct e : Value} {an od dd : Option Addr} {osl sl : Array (Option Value)} {vs : Array Value} {N : List Str} {st : Stmt} (S : FnScope N ["script"] (defScope st)) (X : K.In h) (hfa : mg "law" = some (.ref fa)) (own : OwnTab K fa h)
    (G : h.Ns mainGlobals mg) (a : PySem.W.nsIn K mainGlobals "law" = some (some (.ref f)))
    (lk : K.lookup f = some ⟨oc, od, .func (PySem.W.fnOf "law" "law" (defArgs st) (defBody st) (defScope st) .none kV doc pm an (.ref c) ct), osl⟩) (hcd : PySem.W.codeIn K (.ref c) "law" = true)
    (lc : K.lookup c = some ⟨e, dd, .fields vs, sl⟩) (lp : vs[11]? = some (.ref Pt)) (hh : ∀ K' : PySem.W.Frag, K'.lookup c = some ⟨e, dd, .fields vs, sl⟩ → PySem.W.codeHdIn K' c Pt = true) (np : K.lookup Pt = none) (hb : ∀ s u, BindsTo s (PySem.W.fnOf "law" "law" (defArgs st) (defBody st) (defScope st) .none kV doc pm an (.ref c) ct) ⟨[u], []⟩ [("script", u)])
    (hall : ∀ (base : Heap), TabB base mg c Pt → ∀ (A : Around) (outer : List Env) (s0 : Shared) (H0 : Hp) (E0' : XK), Room lvl (cxOf CX0 l.prog w K mg base N "law" (defScope st) f (.ref c) A outer s0 H0 E0').A → ∃ t, PSs (cxOf CX0 l.prog w K mg base N "law" (defScope st) f (.ref c) A outer s0 H0 E0') (defBody st) t ∧ ∀ (D : Ends) (H : Hp) (vs : List V) (Q : VK), D.rt = Q → spLam K Pt vs H Q C8.E0 → t D (start N vs) H) :
    LawAtS l w K CX0 (lvl + 1) 63 "script" mg fa h := by
  have ef := hfa.symm.trans (PySem.W.mg_of X G a)
  cases ef
  refine ⟨_, [(c, Pt)], spLam K Pt, fun p hp => ?_, fun p hp => ?_, fun p hp => ?_, hb, fun H a ns _ _ hH hS => ⟨a, ns, rfl, hS, fun p hp => ?_, fun _ => rfl⟩, fun base _ _ hB => lam_fn S lk hcd (hall base (hB _ List.mem_cons_self))⟩
  · rw [List.mem_singleton.mp hp]
    exact own c Pt _ _ e dd vs sl lk rfl rfl lc lp
  · rw [List.mem_singleton.mp hp]
    exact np
  · rw [List.mem_singleton.mp hp]
    exact PySem.W.codeHd_of_K X (hh K lc)
  · rw [List.mem_singleton.mp hp]
    exact TabS.nil (hH _ List.mem_cons_self)
end Lt

set_option Elab.async false
set_option linter.all false
set_option maxRecDepth 100000
set_option maxHeartbeats 1000000
/-! formulas: words, what may stand, and the parser -/
namespace Lt
open PySem PySem.Spec PyProof.Rows L2
abbrev Tok := Nat × Str
def wNot : Str := "not"
def wOp : Str := "("
def wCl : Str := ")"
def wVoid : Str := ""
def joins : List Str := ["and", "or", "xor"]
inductive Nd
  | E
  | W
  | C
deriving DecidableEq
/-- what is wanted behind a word, none where it cannot stand -/
def stp (ns : List Str) : List Nd → Str → Option (List Nd)
  | [], _ => none
  | .E :: r, w => if w = wNot then some (.E :: r) else if w = wOp then some (.E :: .W :: .E :: .C :: r) else if w ∈ ns then some r else none
  | .W :: r, w => if w ∈ joins then some r else none
  | .C :: r, w => if w = wCl then some r else none
theorem stp_E {ns : List Str} {r : List Nd} {w : Str} : stp ns (.E :: r) w = if w = wNot then some (.E :: r) else if w = wOp then some (.E :: .W :: .E :: .C :: r) else if w ∈ ns then some r else none := rfl
theorem stp_W {ns : List Str} {r : List Nd} {w : Str} : stp ns (.W :: r) w = if w ∈ joins then some r else none := rfl
theorem stp_C {ns : List Str} {r : List Nd} {w : Str} : stp ns (.C :: r) w = if w = wCl then some r else none := rfl
/-- how many words stand, and what is wanted then -/
def mach (ns : List Str) : List Nd → List Str → Nat × List Nd
  | u, [] => (0, u)
  | u, w :: ws => match stp ns u w with
    | none => (0, u)
    | some u' => ((mach ns u' ws).1 + 1, (mach ns u' ws).2)
theorem mach_none {ns : List Str} {u : List Nd} {w : Str} {ws : List Str} (h : stp ns u w = none) : mach ns u (w :: ws) = (0, u) := by
  unfold mach
  rw [h]
theorem mach_some {ns : List Str} {u u' : List Nd} {w : Str} {ws : List Str} (h : stp ns u w = some u') : mach ns u (w :: ws) = ((mach ns u' ws).1 + 1, (mach ns u' ws).2) := by
  rw [mach, h]
/-- the parser: the words behind a formula, or the place of the word that cannot stand -/
def prs (ns : List Str) : Nat → Nat → List Tok → Except Nat (List Tok)
  | 0, _, _ => .error 0
  | _ + 1, _, [] => .error 0
  | f + 1, ar, (p, w) :: r =>
    if 20 < ar then .error p else if w ∈ ns then .ok r else if w = wNot then prs ns f (ar + 1) r else if w ≠ wOp then .error p else
      match prs ns f (ar + 1) r with
      | .error e => .error e
      | .ok [] => .error 0
      | .ok ((p2, w2) :: r2) => if w2 ∉ joins then .error p2 else
        match prs ns f (ar + 1) r2 with
        | .error e => .error e
        | .ok [] => .error 0
        | .ok ((p4, w4) :: r4) => if w4 ≠ wCl then .error p4 else .ok r4
def isOpen (w : Str) : Bool := decide (w = wNot) || decide (w = wOp)
def opens (ts : List Tok) : Nat := (ts.filter fun t => isOpen t.2).length
theorem opens_cons (t : Tok) (ts : List Tok) : opens (t :: ts) = (if isOpen t.2 = true then 1 else 0) + opens ts := by
  unfold opens
  rw [List.filter_cons]
  by_cases h : isOpen t.2 = true
  · rw [if_pos h, if_pos h, List.length_cons, Nat.add_comm]
  · rw [if_neg h, if_neg h, Nat.zero_add]
/-- behind all words stands the void one -/
def Ends1 (ts : List Tok) : Prop := ∃ r e, ts = r ++ [(e, wVoid)]
theorem Ends1.tl {t : Tok} {ts : List Tok} (h : Ends1 (t :: ts)) (ne : t.2 ≠ wVoid) : Ends1 ts := by
  obtain ⟨r, e, hr⟩ := h
  cases r with
  | nil =>
    injection hr with h1 _
    rw [h1] at ne
    exact absurd rfl ne
  | cons a r =>
    injection hr with _ h2
    exact ⟨r, e, h2⟩
theorem Ends1.ne {ts : List Tok} (h : Ends1 ts) : ts ≠ [] := by
  obtain ⟨r, e, rfl⟩ := h
  simp
/-- the names of inputs -/
structure Nms (ns : List Str) : Prop where
  noNot : wNot ∉ ns
  noOp : wOp ∉ ns
  noVoid : wVoid ∉ ns
theorem words_ne : wNot ≠ wVoid ∧ wOp ≠ wVoid ∧ wCl ≠ wVoid ∧ wVoid ∉ joins ∧ wNot ≠ wOp := by decide +kernel
/-- what the parser says, put against what may stand -/
def Agr (ns : List Str) (u : List Nd) (ts : List Tok) : Except Nat (List Tok) → Prop
  | .error p => ∃ t, ts[(mach ns (.E :: u) (ts.map (·.2))).1]? = some t ∧ t.1 = p ∧ (mach ns (.E :: u) (ts.map (·.2))).2 ≠ []
  | .ok r => Ends1 r ∧ ∃ k, r = ts.drop k ∧ opens r ≤ opens ts ∧ mach ns (.E :: u) (ts.map (·.2)) = (k + (mach ns u (r.map (·.2))).1, (mach ns u (r.map (·.2))).2)
theorem drop_get {α : Type} {l r : List α} {k n : Nat} {x : α} (h : r = l.drop k) (g : r[n]? = some x) : l[k + n]? = some x := by
  rw [h, List.getElem?_drop] at g
  exact g
theorem drop_tl {α : Type} {l r : List α} {k : Nat} {x : α} (h : x :: r = l.drop k) : r = l.drop (k + 1) := by
  have e : (l.drop k).tail = r := by rw [← h]; rfl
  rw [← e, List.tail_drop]
theorem m1 (x : Tok) (r : List Tok) : (x :: r).map (·.2) = x.2 :: r.map (·.2) := rfl
theorem isOpen_not {w : Str} (h : w = wNot) : isOpen w = true := by unfold isOpen; rw [decide_eq_true h]; rfl
theorem isOpen_op {w : Str} (h : w = wOp) : isOpen w = true := by unfold isOpen; rw [decide_eq_true h, Bool.or_true]
/-- the parser and what may stand -/
theorem prs_mach {ns : List Str} (N : Nms ns) : ∀ (f ar : Nat) (ts : List Tok) (u : List Nd), Ends1 ts → opens ts < f → ar + opens ts ≤ 20 → Agr ns u ts (prs ns f ar ts)
  | 0, _, _, _, _, h, _ => absurd h (Nat.not_lt_zero _)
  | f + 1, ar, [], _, h, _, _ => absurd rfl h.ne
  | f + 1, ar, (p, w) :: r, u, he, ho, ha => by
    rw [opens_cons] at ho ha
    rw [prs, if_neg (show ¬ 20 < ar by omega)]
    by_cases h1 : w ∈ ns
    · rw [if_pos h1]
      have n1 : w ≠ wNot := fun e => N.noNot (e ▸ h1)
      have n2 : w ≠ wOp := fun e => N.noOp (e ▸ h1)
      have n3 : w ≠ wVoid := fun e => N.noVoid (e ▸ h1)
      refine ⟨he.tl n3, 1, rfl, by rw [opens_cons]; omega, ?_⟩
      rw [m1, mach_some (u' := u) (by rw [stp_E, if_neg n1, if_neg n2, if_pos h1]), Nat.add_comm]
    · rw [if_neg h1]
      by_cases h2 : w = wNot
      · rw [if_pos h2]
        have hop := isOpen_not h2
        rw [if_pos hop] at ho ha
        have ih := prs_mach N f (ar + 1) r u (he.tl (by rw [h2]; exact words_ne.1)) (by omega) (by omega)
        have st : mach ns (.E :: u) (((p, w) :: r).map (·.2)) = ((mach ns (.E :: u) (r.map (·.2))).1 + 1, (mach ns (.E :: u) (r.map (·.2))).2) := by
          rw [m1, mach_some (u' := .E :: u) (by rw [stp_E, if_pos h2])]
        cases hp : prs ns f (ar + 1) r with
        | error e =>
          rw [hp] at ih
          obtain ⟨t, h3, h4, h5⟩ := ih
          refine ⟨t, ?_, h4, ?_⟩
          · rw [st]; exact h3
          · rw [st]; exact h5
        | ok r1 =>
          rw [hp] at ih
          obtain ⟨h3, k, h4, h5, h6⟩ := ih
          refine ⟨h3, k + 1, h4, by rw [opens_cons, if_pos hop]; omega, ?_⟩
          rw [st, h6]
          exact Prod.ext (Nat.add_right_comm _ _ _) rfl
      · rw [if_neg h2]
        by_cases h3 : w = wOp
        · rw [if_neg (fun z => z h3)]
          have hop := isOpen_op h3
          rw [if_pos hop] at ho ha
          have e1 := he.tl (show w ≠ wVoid by rw [h3]; exact words_ne.2.1)
          have ih := prs_mach N f (ar + 1) r (.W :: .E :: .C :: u) e1 (by omega) (by omega)
          have st : mach ns (.E :: u) (((p, w) :: r).map (·.2)) = ((mach ns (.E :: .W :: .E :: .C :: u) (r.map (·.2))).1 + 1, (mach ns (.E :: .W :: .E :: .C :: u) (r.map (·.2))).2) := by
            rw [m1, mach_some (u' := .E :: .W :: .E :: .C :: u) (by rw [stp_E, if_neg h2, if_pos h3])]
          cases hp : prs ns f (ar + 1) r with
          | error e =>
            rw [hp] at ih
            obtain ⟨t, h4, h5, h6⟩ := ih
            refine ⟨t, ?_, h5, ?_⟩
            · rw [st]; exact h4
            · rw [st]; exact h6
          | ok r1 =>
            rw [hp] at ih
            obtain ⟨e2, k, h4, h5, h6⟩ := ih
            rw [h6] at st
            cases r1 with
            | nil => exact absurd rfl e2.ne
            | cons t2 r2 =>
              obtain ⟨p2, w2⟩ := t2
              dsimp only
              by_cases h7 : w2 ∈ joins
              · rw [if_neg (fun z => z h7)]
                have e3 := e2.tl (show w2 ≠ wVoid from fun e => words_ne.2.2.2.1 (e ▸ h7))
                have o3 : opens r2 ≤ opens ((p2, w2) :: r2) := by rw [opens_cons]; omega
                have ih2 := prs_mach N f (ar + 1) r2 (.C :: u) e3 (by omega) (by omega)
                rw [m1 (p2, w2) r2, mach_some (u' := .E :: .C :: u) (by rw [stp_W, if_pos h7])] at st
                have k2 := drop_tl h4
                cases hp2 : prs ns f (ar + 1) r2 with
                | error e =>
                  rw [hp2] at ih2
                  obtain ⟨t, h8, h9, h10⟩ := ih2
                  refine ⟨t, ?_, h9, ?_⟩
                  · rw [st]
                    have := drop_get k2 h8
                    show ((p, w) :: r)[k + (_ + 1) + 1]? = _
                    rw [List.getElem?_cons_succ, ← Nat.add_assoc, Nat.add_right_comm]
                    exact this
                  · rw [st]; exact h10
                | ok r3 =>
                  rw [hp2] at ih2
                  obtain ⟨e4, k3, h8, h9, h10⟩ := ih2
                  rw [h10] at st
                  cases r3 with
                  | nil => exact absurd rfl e4.ne
                  | cons t4 r4 =>
                    obtain ⟨p4, w4⟩ := t4
                    dsimp only
                    have k4 : (p4, w4) :: r4 = r.drop (k + 1 + k3) := by rw [h8, k2, List.drop_drop]
                    by_cases h11 : w4 = wCl
                    · rw [if_neg (fun z => z h11)]
                      rw [m1 (p4, w4) r4, mach_some (u' := u) (by rw [stp_C, if_pos h11])] at st
                      have o4 : opens r4 ≤ opens ((p4, w4) :: r4) := by rw [opens_cons]; omega
                      refine ⟨e4.tl (show w4 ≠ wVoid by rw [h11]; exact words_ne.2.2.1), k + 1 + k3 + 1 + 1, drop_tl k4, by rw [opens_cons]; omega, ?_⟩
                      rw [st]
                      refine Prod.ext ?_ rfl
                      show k + (k3 + (_ + 1) + 1) + 1 = k + 1 + k3 + 1 + 1 + _
                      omega
                    · rw [if_pos h11]
                      rw [m1 (p4, w4) r4, mach_none (by rw [stp_C, if_neg h11])] at st
                      refine ⟨(p4, w4), ?_, rfl, ?_⟩
                      · rw [st]
                        have := drop_get (n := 0) k4 rfl
                        show ((p, w) :: r)[k + (k3 + 0 + 1) + 1]? = _
                        rw [List.getElem?_cons_succ, show k + (k3 + 0 + 1) = k + 1 + k3 + 0 by omega]
                        exact this
                      · rw [st]; exact List.cons_ne_nil _ _
              · rw [if_pos h7]
                rw [m1 (p2, w2) r2, mach_none (by rw [stp_W, if_neg h7])] at st
                refine ⟨(p2, w2), ?_, rfl, ?_⟩
                · rw [st]
                  have := drop_get (n := 0) h4 rfl
                  show ((p, w) :: r)[k + 0 + 1]? = _
                  rw [List.getElem?_cons_succ]
                  exact this
                · rw [st]; exact List.cons_ne_nil _ _
        · rw [if_pos h3]
          have st : mach ns (.E :: u) (((p, w) :: r).map (·.2)) = (0, .E :: u) := by
            rw [m1, mach_none (by rw [stp_E, if_neg h2, if_neg h3, if_neg h1])]
          refine ⟨(p, w), ?_, rfl, ?_⟩
          · rw [st]; rfl
          · rw [st]; exact List.cons_ne_nil _ _
end Lt

set_option Elab.async false
set_option linter.all false
set_option maxRecDepth 100000
set_option maxHeartbeats 1000000
/-! the words of a text -/
namespace Lt
open PySem PySem.Spec PyProof.Rows L2
def runS : Str := "abcdefghijklmnopqrstuvwxyz0123456789"
/-- text[a:b] -/
def cut (T : List Nat) (a b : Nat) : Str := ⟨((T.drop a).take (b - a)).toArray⟩
def flush (T : List Nat) (st : List Tok × Nat) (p : Nat) : List Tok := if st.2 < p then st.1 ++ [(st.2, cut T st.2 p)] else st.1
def lexStep (T : List Nat) (st : List Tok × Nat) (p c : Nat) : List Tok × Nat :=
  if c ∈ runS.cps.toList then st else (if c = 32 then flush T st p else flush T st p ++ [(p, ⟨#[c]⟩)], p + 1)
def lexFrom (T : List Nat) : List Tok × Nat → Nat → List Nat → List Tok × Nat
  | st, _, [] => st
  | st, p, c :: cs => lexFrom T (lexStep T st p c) (p + 1) cs
theorem lex_nil {T : List Nat} {st : List Tok × Nat} {p : Nat} : lexFrom T st p [] = st := by rw [lexFrom]
theorem lex_cons {T : List Nat} {st : List Tok × Nat} {p c : Nat} {cs : List Nat} : lexFrom T st p (c :: cs) = lexFrom T (lexStep T st p c) (p + 1) cs := by rw [lexFrom]
theorem lex_app {T : List Nat} : ∀ {a b : List Nat} {st : List Tok × Nat} {p : Nat}, lexFrom T st p (a ++ b) = lexFrom T (lexFrom T st p a) (p + a.length) b
  | [], b, st, p => by rw [List.nil_append, lex_nil]; rfl
  | c :: a, b, st, p => by
    rw [List.cons_append, lex_cons, lex_cons, lex_app (a := a), List.length_cons, Nat.add_assoc, Nat.add_comm 1 a.length]
theorem flush_at {T : List Nat} {F : List Tok} {p : Nat} : flush T (F, p) p = F := by
  unfold flush
  rw [if_neg (Nat.lt_irrefl _)]
theorem lex_sp {T : List Nat} {st : List Tok × Nat} {p : Nat} : lexFrom T st p [32] = (flush T st p, p + 1) := by
  rw [lex_cons, lex_nil]
  unfold lexStep
  rw [if_neg (show (32 : Nat) ∉ runS.cps.toList by decide +kernel), if_pos rfl]
theorem lex_sps {T : List Nat} : ∀ {n : Nat} {st : List Tok × Nat} {p : Nat}, lexFrom T st p (List.replicate (n + 1) 32) = (flush T st p, p + (n + 1))
  | 0, st, p => lex_sp
  | n + 1, st, p => by
    rw [show List.replicate (n + 1 + 1) 32 = [32] ++ List.replicate (n + 1) 32 from rfl, lex_app, lex_sp, lex_sps, List.length_singleton, flush_at, Nat.add_assoc p, Nat.add_comm 1]
theorem lex_run {T : List Nat} : ∀ {w : List Nat} {st : List Tok × Nat} {p : Nat}, (∀ c ∈ w, c ∈ runS.cps.toList) → lexFrom T st p w = st
  | [], st, p, _ => lex_nil
  | c :: w, st, p, h => by
    rw [lex_cons]
    unfold lexStep
    rw [if_pos (h c (List.mem_cons_self ..)), lex_run fun x hx => h x (List.mem_cons_of_mem _ hx)]
def wX0 : Str := "X0"
/-- the program's words of one word of the law -/
def flat (t : Tok) : List Tok := if t.2 = wX0 then [(t.1, ("X" : Str)), (t.1 + 1, ("0" : Str))] else [t]
/-- what words there are -/
def WdT (w : Str) : Prop := (w.cps.toList ≠ [] ∧ ∀ c ∈ w.cps.toList, c ∈ runS.cps.toList) ∨ (∃ c, w = ⟨#[c]⟩ ∧ c ∉ runS.cps.toList ∧ c ≠ 32) ∨ w = wX0
theorem cut_at {A w B : List Nat} : cut (A ++ w ++ B) A.length (A.length + w.length) = ⟨w.toArray⟩ := by
  unfold cut
  rw [List.append_assoc, List.drop_left, Nat.add_sub_cancel_left, List.take_left]
theorem lex_word {A B : List Nat} {w : Str} {F : List Tok} (h : WdT w) :
    let T := A ++ w.cps.toList ++ B
    flush T (lexFrom T (F, A.length) A.length w.cps.toList) (A.length + w.cps.toList.length) = F ++ flat (A.length, w) := by
  dsimp only
  rcases h with ⟨h1, h2⟩ | ⟨c, rfl, h1, h2⟩ | rfl
  · rw [lex_run h2]
    unfold flush
    rw [if_pos (Nat.lt_add_of_pos_right (List.length_pos_iff.mpr h1)), cut_at]
    unfold flat
    have n : w ≠ wX0 := fun e => by
      subst e
      exact absurd (h2 88 (by decide +kernel)) (by decide +kernel)
    rw [if_neg n]
  · show flush (A ++ [c] ++ B) (lexFrom (A ++ [c] ++ B) (F, A.length) A.length [c]) (A.length + 1) = _
    rw [lex_cons, lex_nil]
    unfold lexStep
    rw [if_neg h1, if_neg h2, flush_at, flush_at]
    unfold flat
    have n : (⟨#[c]⟩ : Str) ≠ wX0 := fun e => by
      have h5 : (1 : Nat) = wX0.cps.size := congrArg (fun z : Str => z.cps.size) e
      exact absurd h5 (by decide +kernel)
    rw [if_neg n]
  · have e0 : wX0.cps.toList = [88, 48] := by decide +kernel
    rw [e0]
    rw [lex_cons, lex_cons, lex_nil]
    have s1 : lexStep (A ++ [88, 48] ++ B) (F, A.length) A.length 88 = (F ++ [(A.length, ⟨#[88]⟩)], A.length + 1) := by
      unfold lexStep
      rw [if_neg (show (88 : Nat) ∉ runS.cps.toList by decide +kernel), if_neg (by decide), flush_at]
    rw [s1]
    have s2 : lexStep (A ++ [88, 48] ++ B) (F ++ [(A.length, ⟨#[88]⟩)], A.length + 1) (A.length + 1) 48 = (F ++ [(A.length, ⟨#[88]⟩)], A.length + 1) := by
      unfold lexStep
      rw [if_pos (show (48 : Nat) ∈ runS.cps.toList by decide +kernel)]
    rw [s2]
    unfold flush flat
    rw [if_pos rfl, if_pos (show A.length + 1 < A.length + [88, 48].length from Nat.lt_succ_self _)]
    have c1 := cut_at (A := A ++ [88]) (w := [48]) (B := B)
    have e1 : A ++ [88] ++ [48] ++ B = A ++ [88, 48] ++ B := by simp
    rw [e1, List.length_append] at c1
    show F ++ [(A.length, ⟨#[88]⟩)] ++ [(A.length + 1, cut (A ++ [88, 48] ++ B) (A.length + [88].length) (A.length + [88].length + [48].length))] = _
    rw [c1, List.append_assoc]
    have x1 : ("X" : Str) = ⟨#[88]⟩ := by decide +kernel
    have x2 : ("0" : Str) = ⟨[48].toArray⟩ := by decide +kernel
    rw [x1, x2]
    rfl
/-- a text as the law makes it, and its words with their places -/
inductive Bt : List Nat → List Tok → Prop
  | nil : Bt [] []
  | snoc {T : List Nat} {P : List Tok} {w : Str} {n : Nat} : Bt T P → WdT w → Bt (T ++ List.replicate (n + 1) 32 ++ w.cps.toList) (P ++ [(T.length + (n + 1), w)])
theorem Bt.lex {T : List Nat} {P : List Tok} (h : Bt T P) : ∀ R, flush (T ++ R) (lexFrom (T ++ R) ([], 0) 0 T) T.length = P.flatMap flat := by
  induction h with
  | nil => intro R; rw [lex_nil]; rfl
  | @snoc T P w n h hw ih =>
    intro R
    rw [lex_app, lex_app, lex_sps]
    have e1 : T ++ List.replicate (n + 1) 32 ++ w.cps.toList ++ R = T ++ (List.replicate (n + 1) 32 ++ w.cps.toList ++ R) := by simp only [List.append_assoc]
    have e2 := ih (List.replicate (n + 1) 32 ++ w.cps.toList ++ R)
    rw [← e1] at e2
    rw [Nat.zero_add, e2]
    have l1 : (T ++ List.replicate (n + 1) 32).length = T.length + (n + 1) := by rw [List.length_append, List.length_replicate]
    have := lex_word (A := T ++ List.replicate (n + 1) 32) (B := R) (F := P.flatMap flat) hw
    dsimp only at this
    rw [l1] at this
    rw [Nat.zero_add, l1, List.length_append, l1, this, List.flatMap_append]
    rw [List.flatMap_cons, List.flatMap_nil, List.append_nil]
/-- and with one more space behind, or none -/
theorem Bt.all {T : List Nat} {P : List Tok} (h : Bt T P) (m : Nat) (hm : m < 2) : flush (T ++ List.replicate m 32) (lexFrom (T ++ List.replicate m 32) ([], 0) 0 (T ++ List.replicate m 32)) (T ++ List.replicate m 32).length = P.flatMap flat := by
  match m, hm with
  | 0, _ =>
    have := h.lex []
    rw [show List.replicate 0 32 = [] from rfl, List.append_nil] at *
    exact this
  | 1, _ =>
    have := h.lex [32]
    show flush (T ++ [32]) (lexFrom (T ++ [32]) ([], 0) 0 (T ++ [32])) (T ++ [32]).length = _
    rw [lex_app, lex_sp, Nat.zero_add, this, List.length_append]
    exact flush_at
/-! ### the law's words and the program's -/
/-- X0 and its first sign can't stand, nor the void word -/
theorem stp_bad {ns : List Str} (h1 : wX0 ∉ ns) : ∀ u, stp ns u wX0 = none
  | [] => rfl
  | .E :: r => by rw [stp_E, if_neg (by decide +kernel), if_neg (by decide +kernel), if_neg h1]
  | .W :: r => by rw [stp_W, if_neg (by decide +kernel)]
  | .C :: r => by rw [stp_C, if_neg (by decide +kernel)]
theorem stp_badX {ns : List Str} (h1 : ("X" : Str) ∉ ns) : ∀ u, stp ns u ("X" : Str) = none
  | [] => rfl
  | .E :: r => by rw [stp_E, if_neg (by decide +kernel), if_neg (by decide +kernel), if_neg h1]
  | .W :: r => by rw [stp_W, if_neg (by decide +kernel)]
  | .C :: r => by rw [stp_C, if_neg (by decide +kernel)]
theorem stp_void {ns : List Str} (h1 : wVoid ∉ ns) : ∀ u, stp ns u wVoid = none
  | [] => rfl
  | .E :: r => by rw [stp_E, if_neg (by decide +kernel), if_neg (by decide +kernel), if_neg h1]
  | .W :: r => by rw [stp_W, if_neg (by decide +kernel)]
  | .C :: r => by rw [stp_C, if_neg (by decide +kernel)]
/-- the words as the program has them -/
def toks (P : List Tok) (e : Nat) : List Tok := P.flatMap flat ++ [(e, wVoid)]
theorem toks_cons {t : Tok} {P : List Tok} {e : Nat} : toks (t :: P) e = flat t ++ toks P e := by
  unfold toks
  rw [List.flatMap_cons, List.append_assoc]
theorem toks_mach {ns : List Str} (N : Nms ns) (h1 : wX0 ∉ ns) (h2 : ("X" : Str) ∉ ns) (e : Nat) : ∀ (P : List Tok) (u : List Nd),
    mach ns u ((toks P e).map (·.2)) = mach ns u (P.map (·.2)) ∧
    (mach ns u (P.map (·.2))).1 ≤ P.length ∧
    ∀ t, (toks P e)[(mach ns u (P.map (·.2))).1]? = some t →
      if (mach ns u (P.map (·.2))).1 < P.length then P[(mach ns u (P.map (·.2))).1]?.map (·.1) = some t.1 ∧ (mach ns u (P.map (·.2))).1 < (toks P e).length - 1
      else t.1 = e ∧ (mach ns u (P.map (·.2))).1 = (toks P e).length - 1
  | [], u => by
    have a : mach ns u ((toks [] e).map (·.2)) = (0, u) := mach_none (stp_void N.noVoid u)
    have b : mach ns u (([] : List Tok).map (·.2)) = (0, u) := by rw [List.map_nil, mach]
    refine ⟨a.trans b.symm, by rw [b]; exact Nat.le_refl _, fun t ht => ?_⟩
    rw [b] at ht ⊢
    rw [if_neg (show ¬ ((0 : Nat), u).1 < ([] : List Tok).length from Nat.lt_irrefl _)]
    injection ht with ht
    exact ⟨by rw [← ht], rfl⟩
  | t0 :: P, u => by
    cases hs : stp ns u t0.2 with
    | none =>
      have b : mach ns u ((t0 :: P).map (·.2)) = (0, u) := mach_none hs
      rw [b]
      rw [toks_cons]
      unfold flat
      by_cases hx : t0.2 = wX0
      · rw [if_pos hx]
        refine ⟨mach_none (stp_badX h2 u), Nat.zero_le _, fun t ht => ?_⟩
        injection ht with ht
        rw [if_pos (show ((0 : Nat), u).1 < (t0 :: P).length from Nat.succ_pos _)]
        refine ⟨by rw [← ht]; rfl, ?_⟩
        show 0 < ([_, _] ++ toks P e).length - 1
        rw [List.length_append]
        exact Nat.lt_of_lt_of_le Nat.zero_lt_one (by simp only [List.length_cons, List.length_nil]; omega)
      · rw [if_neg hx]
        refine ⟨mach_none hs, Nat.zero_le _, fun t ht => ?_⟩
        injection ht with ht
        rw [if_pos (show ((0 : Nat), u).1 < (t0 :: P).length from Nat.succ_pos _)]
        refine ⟨by rw [← ht]; rfl, ?_⟩
        unfold toks
        simp only [List.length_append, List.length_cons, List.length_nil]
        omega
    | some u' =>
      have hx : t0.2 ≠ wX0 := fun z => by rw [z, stp_bad h1] at hs; cases hs
      obtain ⟨i1, i2, i3⟩ := toks_mach N h1 h2 e P u'
      have b : mach ns u ((t0 :: P).map (·.2)) = ((mach ns u' (P.map (·.2))).1 + 1, (mach ns u' (P.map (·.2))).2) := mach_some hs
      have ft : toks (t0 :: P) e = t0 :: toks P e := by rw [toks_cons]; unfold flat; rw [if_neg hx]; rfl
      rw [b, ft]
      refine ⟨by rw [m1, mach_some hs, i1], Nat.succ_le_succ i2, fun t ht => ?_⟩
      have ht' : (toks P e)[(mach ns u' (P.map (·.2))).1]? = some t := ht
      have i4 := i3 t ht'
      have pos : 0 < (toks P e).length := by unfold toks; simp only [List.length_append, List.length_cons, List.length_nil]; omega
      by_cases hl : (mach ns u' (P.map (·.2))).1 < P.length
      · rw [if_pos hl] at i4
        rw [if_pos (show (mach ns u' (P.map (·.2))).1 + 1 < (t0 :: P).length from Nat.succ_lt_succ hl)]
        refine ⟨i4.1, ?_⟩
        have := i4.2
        simp only [List.length_cons]
        omega
      · rw [if_neg hl] at i4
        rw [if_neg (show ¬ (mach ns u' (P.map (·.2))).1 + 1 < (t0 :: P).length from fun z => hl (Nat.lt_of_succ_lt_succ z))]
        refine ⟨i4.1, ?_⟩
        have := i4.2
        simp only [List.length_cons]
        omega
end Lt

set_option Elab.async false
set_option linter.all false
set_option maxRecDepth 100000
set_option maxHeartbeats 4000000
/-! enumerate over a str, in a for -/
namespace L2
open PySem PySem.Spec PyProof.Rows
/-- the signs of a str, each in a new pair with its place -/
def Ites (x : Str) : It :=
  ⟨fun i _ => i < x.cps.size, fun i H v H' => ∃ T c, v = .ref T ∧ H T = none ∧ H' = upd H T (.tup [.int (i : Nat), .str ⟨#[c]⟩]) ∧ x.cps[i]? = some c, fun i _ => x.cps.size = i⟩
theorem turn_enumS {P : Program} {w : World} {K : PySem.W.Frag} {elts : List Expr} {kk : Nat} {tpos : Pos} (x : Str) (t : Tok) (e it : Addr) :
    Turn P w K (.Tuple elts kk tpos) (Ites x) [e, it] e (fun i h => (∃ old, IsEnum h e it ((i : Nat) : Int) old) ∧ h.IsStrIter it (strIterType x) x t i ∧ e ≠ it) where
  mem := by simp
  obj := fun i h st b hb => by
    obtain ⟨⟨old, he⟩, ⟨o, ho, hc, hd⟩, _⟩ := st
    have e' : b = e ∨ b = it := by simpa using hb
    rcases e' with z | z
    · rw [z]; exact ⟨_, he, fun v q => nomatch q⟩
    · rw [z]; exact ⟨o, ho, fun v q => by rw [hd] at q; cases q⟩
  keep := fun i h h' st k => let ⟨⟨old, he⟩, ⟨o, ho, r⟩, hne⟩ := st; ⟨⟨old, k e (by simp) _ he⟩, ⟨o, k it (by simp) o ho, r⟩, hne⟩
  item := by
    intro X hP hw hK hc i pins s σ H E I hf st hg
    subst hP hw hK
    obtain ⟨⟨old, he⟩, hit, hne⟩ := st
    have hel : e < s.heap.objs.size := Heap.lt_size he
    have hil : it < s.heap.objs.size := by obtain ⟨_, q, _⟩ := hit; exact Heap.lt_size q
    refine wpAny_pyNext_enum_itemD (Draws.text (prog := X.prog) (w := X.w) (A := X.A.in1) (I.ok.hd hc) it x t) he hit (show i < x.cps.size from hg) hne (by simp [hne]) fun x' h' tk hP ho hst' hT hsz hk => ?_
    obtain ⟨c, u, hcx, ex⟩ := hP
    subst ex
    have hit' := hst'
    refine ⟨_, rfl, wpAny_letOwnedTupleGo_enum (s := { s with heap := h', toks := tk + 1 }) ho fun h'' he' sb => ?_⟩
    have hT2 : h''.get? s.heap.objs.size = some { cls := .type "tuple", data := .seq #[.int i tk, .str ⟨#[c]⟩ u] } := (sb.2 _ (Nat.ne_of_gt hel)).trans hT
    have new : ObjOk X.prog X.w (upd H s.heap.objs.size (.tup [.int (i : Nat), .str ⟨#[c]⟩])) h'' s.heap.objs.size (.tup [.int (i : Nat), .str ⟨#[c]⟩]) :=
      ⟨by show 2 ≤ sizeLine; decide, [.int i tk, .str ⟨#[c]⟩ u], .cons ⟨_, rfl⟩ (.cons ⟨_, rfl⟩ .nil), ⟨_, hT2, rfl, _, rfl⟩⟩
    have I1 : Inv X pins σ (upd H s.heap.objs.size (.tup [.int (i : Nat), .str ⟨#[c]⟩])) { s with heap := h'', toks := tk + 1 } :=
      I.turnedNew (ch := [e, it]) (fun b ob hb q => (sb.2 b (fun z => hb (by simp [z]))).trans (hk b ob (fun z => hb (by simp [z])) (fun z => hb (by simp [z])) q)) hf (Nat.le_refl _) new
    refine ⟨.ref s.heap.objs.size, _, I1, rfl, ⟨_, c, rfl, I.hok.fresh (Nat.le_refl _), rfl, hcx⟩, ⟨⟨.str ⟨#[c]⟩ u, ?_⟩, ?_, hne⟩, fun b hb => ?_⟩
    · have e1 : ((i + 1 : Nat) : Int) = (i : Int) + 1 := by omega
      rw [e1]; exact he'
    · obtain ⟨o, ho', r⟩ := hit'
      exact ⟨o, (sb.2 it (Ne.symm hne)).trans ho', r⟩
    · have hb' : b < s.heap.objs.size := by
        have e' : b = e ∨ b = it := by simpa using hb
        rcases e' with z | z
        · rw [z]; exact hel
        · rw [z]; exact hil
      rw [upd_ne (Nat.ne_of_lt hb')]
      exact (hf b hb).1
  done := by
    intro X hP hw hK hc i pins s σ H E I hf st hg
    subst hP hw hK
    obtain ⟨⟨old, he⟩, hit, hne⟩ := st
    obtain ⟨f0, f1, f2, f3, f4, f5⟩ := hf it (by simp)
    have hn : x.cps.size = i := hg
    exact wpAny_pyNext_enum_endD (Draws.text (prog := X.prog) (w := X.w) (A := X.A.in1) (I.ok.hd hc) it x t) he (show s.heap.IsStrIter it (strIterType x) x t x.cps.size by rw [hn]; exact hit) fun h' eb => ⟨rfl, I.turned (t' := s.toks) (fun b o hb q => eb b o hb q) f0 f1 f3 f4 f5⟩
  self := fun A i s Q E st h => let ⟨⟨_, he⟩, _⟩ := st; wpAny_pyIter_enum he h
def iEnumS (ta : TA) : TI := fun σ H R => ta σ H fun vs H1 => ∃ x, vs = [.str x] ∧ R (Ites x) H1
theorem pi_enumS {X : Cx} {e : Expr} {ta : TA} {p pos tpos : Pos} {elts : List Expr} {kk : Nat} (hg : Gl X "enumerate") (hm : X.mg "enumerate" = none) (ha : PA X [e] ta) (hs : starEach [e] X.env = [(false, eval e X.env)] := by rfl) :
    PI X (.Tuple elts kk tpos) (.Call (.Name "enumerate" p) [e] [] pos) (iEnumS ta) := by
  refine ⟨fun pins s σ H R I h => ?_⟩
  refine Call_ (ld_blt I hg hm boot_enumerate (PyProof.Rows.callWith_type1 (thn (ha.run pos pins s σ H _ I h) fun us s1 ⟨vs, H1, I1, r1, q1⟩ => ?_) hs rfl))
  obtain ⟨x, ex, q⟩ := q1
  subst ex
  cases r1 with
  | cons r rr =>
    cases rr
    obtain ⟨t, rfl⟩ := r
    refine LtR.enum1_begins (begins_text x t) trivial fun h' he hit hsz hk => wpAny_pyIter_enum he ?_
    have I2 : Inv X pins σ H1 { s1 with heap := h' } := I1.kept (t' := s1.toks) hk
    refine ⟨s1.heap.objs.size + 1, [s1.heap.objs.size + 1, s1.heap.objs.size], _, _, H1, rfl, I2, turn_enumS x t (s1.heap.objs.size + 1) s1.heap.objs.size, ⟨⟨.none, he⟩, ⟨_, hit, rfl, rfl⟩, Nat.succ_ne_self _⟩, fun b hb => ?_, q⟩
    have e' : b = s1.heap.objs.size + 1 ∨ b = s1.heap.objs.size := by simpa using hb
    have hle : s1.heap.objs.size ≤ b := by
      rcases e' with z | z
      · rw [z]; exact Nat.le_add_right _ _
      · rw [z]; exact Nat.le_refl _
    exact I1.fpOk hle (I1.hok.fresh hle)
end L2

set_option Elab.async false
set_option linter.all false
set_option maxRecDepth 100000
set_option maxHeartbeats 1000000
/-! placed_words -/
namespace Lt
open PySem PySem.Spec PyProof.Rows L2
theorem for_enumS {x : Str} {g : TG} {tb : TS} {D : Ends} {σ : L2.St} {H : Hp} (Pv : Nat → L2.St → Hp → Prop) (h0 : Pv 0 σ H)
    (hs : ∀ (i c : Nat) σ H T, x.cps[i]? = some c → Pv i σ H → H T = none → g (.ref T) σ (upd H T (.tup [nI i, .str ⟨#[c]⟩])) fun σ2 H2 => tb { D with nx := Pv (i + 1), ct := Pv (i + 1), bk := D.nx } σ2 H2) (hd : ∀ σ H, Pv x.cps.size σ H → D.nx σ H) :
    ∃ W : Nat → Nat → L2.St → Hp → Prop, (∃ m, W 0 m σ H) ∧ ∀ i m σ H, W i m σ H →
      ((Ites x).stop i H ∧ D.nx σ H) ∨ ((Ites x).go i H ∧ ∃ N : L2.St → Hp → Prop, (∀ σ' H', N σ' H' → ∃ m', m' < m ∧ W (i + 1) m' σ' H') ∧ ∀ y H', (Ites x).yld i H y H' → g y σ H' fun σ2 H2 => tb { D with nx := N, ct := N, bk := D.nx } σ2 H2) := by
  refine ⟨fun i m σ H => m = x.cps.size - i ∧ i ≤ x.cps.size ∧ Pv i σ H, ⟨x.cps.size, by simp, Nat.zero_le _, h0⟩, ?_⟩
  rintro i m σ H ⟨rfl, hi, p⟩
  by_cases hlt : i < x.cps.size
  · refine .inr ⟨hlt, Pv (i + 1), fun σ' H' p' => ⟨x.cps.size - (i + 1), by omega, rfl, hlt, p'⟩, fun y H' yl => ?_⟩
    obtain ⟨T, c, rfl, hT, rfl, hc⟩ := yl
    exact hs i c σ H T hc p hT
  · have e : x.cps.size = i := by omega
    refine .inl ⟨e, hd σ H ?_⟩
    rw [e]
    exact p
/-- a name of the module, by its value -/
theorem pe_gc2 {X : Cx} {x : Str} {v : V} {pos : Pos} (hg : Gl X x) (h : ∃ u, X.mg x = some u ∧ RelV v u) (hd : (x == ("__debug__" : Str)) = false := by decide) : PE X (.Name x pos) (tC v) := by
  obtain ⟨u, hm, r⟩ := h
  exact pe_glob hg hm r hd
/-- a placed word -/
def RTk (H : Hp) (v : V) (t : Tok) : Prop := ∃ a, v = .ref a ∧ H a = some (.tup [nI t.1, .str t.2])
theorem RTk.tm {H H' : Hp} {v : V} {t : Tok} (e : Tm H H') (h : RTk H v t) : RTk H' v t := let ⟨a, e1, h⟩ := h; ⟨a, e1, e.1 _ _ h⟩
theorem RTks.tm {H H' : Hp} (e : Tm H H') : ∀ {xs : List V} {ts : List Tok}, Paired (RTk H) xs ts → Paired (RTk H') xs ts
  | _, _, .nil => .nil
  | _, _, .cons r t => .cons (r.tm e) (RTks.tm e t)
def LTk (H : Hp) (l : Addr) (ts : List Tok) : Prop := ∃ xs, H l = some (.lst xs) ∧ Paired (RTk H) xs ts
theorem LTk.same {H H' : Hp} {l : Addr} {ts : List Tok} (e : Same H H') (h : LTk H l ts) : LTk H' l ts := let ⟨xs, h1, h2⟩ := h; ⟨xs, e _ _ h1, RTks.tm (.of e) h2⟩
/-- the words of a text, behind them the void one -/
def lexWords (x : Str) : List Tok := toks' (flush x.cps.toList (lexFrom x.cps.toList ([], 0) 0 x.cps.toList) x.cps.toList.length) x.cps.toList.length
  where toks' (F : List Tok) (e : Nat) : List Tok := F ++ [(e, wVoid)]
theorem flush_len {T : List Nat} {st : List Tok × Nat} {p : Nat} : (flush T st p).length ≤ st.1.length + 1 := by
  unfold flush
  split
  · rw [List.length_append]; exact Nat.le_refl _
  · exact Nat.le_succ _
theorem lexStep_len {T : List Nat} {st : List Tok × Nat} {p c : Nat} : (lexStep T st p c).1.length ≤ st.1.length + 2 := by
  unfold lexStep
  have := flush_len (T := T) (st := st) (p := p)
  split
  · omega
  · dsimp only
    split
    · omega
    · rw [List.length_append, List.length_singleton]; omega
theorem lexFrom_len {T : List Nat} : ∀ {cs : List Nat} {st : List Tok × Nat} {p : Nat}, (lexFrom T st p cs).1.length ≤ st.1.length + 2 * cs.length
  | [], st, p => by rw [lex_nil]; exact Nat.le_refl _
  | c :: cs, st, p => by
    rw [lex_cons]
    have := lexFrom_len (T := T) (cs := cs) (st := lexStep T st p c) (p := p + 1)
    have := lexStep_len (T := T) (st := st) (p := p) (c := c)
    rw [List.length_cons]
    omega
theorem lexStep_at {T : List Nat} {st : List Tok × Nat} {p c : Nat} (h : st.2 ≤ p) : (lexStep T st p c).2 ≤ p + 1 := by
  unfold lexStep
  split
  · omega
  · exact Nat.le_refl _
theorem lexFrom_at {T : List Nat} : ∀ {cs : List Nat} {st : List Tok × Nat} {p : Nat}, st.2 ≤ p → (lexFrom T st p cs).2 ≤ p + cs.length
  | [], st, p, h => by rw [lex_nil]; exact h
  | c :: cs, st, p, h => by
    rw [lex_cons, List.length_cons]
    have := lexFrom_at (T := T) (cs := cs) (st := lexStep T st p c) (p := p + 1) (lexStep_at h)
    omega
theorem lex_take {T : List Nat} {i c : Nat} (h : T[i]? = some c) (st : List Tok × Nat) : lexFrom T st 0 (T.take (i + 1)) = lexStep T (lexFrom T st 0 (T.take i)) i c := by
  have hlt := (List.getElem?_eq_some_iff.mp h).1
  have e : T.take (i + 1) = T.take i ++ [c] := by
    rw [List.take_add_one, h]
    rfl
  rw [e, lex_app, lex_cons, lex_nil, List.length_take, Nat.min_eq_left (Nat.le_of_lt hlt), Nat.zero_add]
theorem cutS_nat (x : Str) (a b : Nat) (hb : b ≤ x.length) : L2.cutS x (some (a : Int)) (some (b : Int)) = cut x.cps.toList a b := by
  unfold L2.cutS cut
  rw [HT.sIx_nat, HT.sIx_nat, Nat.min_eq_left hb]
  by_cases ha : a ≤ x.length
  · rw [Nat.min_eq_left ha]
  · have h1 : x.cps.toList.length = x.length := Array.length_toList
    rw [Nat.min_eq_right (by omega), List.drop_eq_nil_of_le (by omega), List.drop_eq_nil_of_le (by omega), List.take_nil, List.take_nil]
theorem cutS_end (x : Str) (a : Nat) : L2.cutS x (some (a : Int)) none = cut x.cps.toList a x.cps.toList.length := by
  have h1 : x.cps.toList.length = x.length := Array.length_toList
  rw [h1, ← cutS_nat x a x.length (Nat.le_refl _)]
  unfold L2.cutS
  rw [HT.sIx_nat _ _ x.length, HT.sIx_none, Nat.min_self]
theorem add_tok {H H' : Hp} {l Tp : Addr} {vs : List V} {ts : List Tok} (t : Tok) (h0 : H l = none) (st : Same H H') (hv : H' l = some (.lst vs)) (pr : Paired (RTk H') vs ts) (hT : H' Tp = none) :
    (upd H' Tp (.tup [nI t.1, .str t.2])) l = some (.lst vs) ∧ Same H (upd (upd H' Tp (.tup [nI t.1, .str t.2])) l (.lst (vs ++ [.ref Tp]))) ∧
    Paired (RTk (upd (upd H' Tp (.tup [nI t.1, .str t.2])) l (.lst (vs ++ [.ref Tp])))) (vs ++ [.ref Tp]) (ts ++ [t]) := by
  have sT := same_new (o := .tup [nI t.1, .str t.2]) hT
  have h1 := sT _ _ hv
  refine ⟨h1, same_mut (st.trans sT) h0, Paired.app (RTks.tm ((Tm.of sT).trans (Tm.lst h1)) pr) (.cons ⟨Tp, rfl, ?_⟩ .nil)⟩
  rw [upd_ne (ne_of_none hv hT).symm]
  exact upd_same
theorem code_eq (c : Nat) : decide (V.str ⟨#[c]⟩ = V.str (" " : Str)) = decide (c = 32) := decide_eq_decide.mpr ⟨fun h => by
    injection h with h
    have e : (" " : Str) = ⟨#[32]⟩ := by decide +kernel
    rw [e] at h
    injection h with h
    injection h with h
    injection h with h,
  fun h => by rw [h]; exact congrArg V.str (by decide +kernel)⟩
section
variable {P : Program} {w : World} {K : PySem.W.Frag} {mg : Str → Option Value} {base : Heap}
def spWordsT : Sp := fun vs H Q _ => ∃ (x : Str), vs = [.str x] ∧ x.length ≤ 1000 ∧ ∀ l H', Same H H' → LTk H' l (lexWords x) → Q (.ref l) H'
end
end Lt

set_option Elab.async false
set_option linter.all false
set_option maxRecDepth 100000
set_option maxHeartbeats 1000000
/-! expected, tree_from -/
namespace Lt
open PySem PySem.Spec PyProof.Rows L2
theorem flat_strs (ws : List Str) : (ws.map V.str).all flatV = true := by
  rw [List.all_map]
  exact List.all_eq_true.mpr fun _ _ => rfl
theorem inV_strs (w : Str) (ws : List Str) : inV (.str w) (ws.map V.str) = decide (w ∈ ws) := by
  unfold inV
  rw [List.any_map]
  induction ws with
  | nil => rfl
  | cons a ws ih =>
    rw [List.any_cons, ih]
    show ((a == w) || _) = _
    by_cases h : a = w
    · subst h
      rw [beq_self_eq_true, Bool.true_or, decide_eq_true (List.mem_cons_self ..)]
    · rw [beq_eq_false_iff_ne.mpr h, Bool.false_or]
      exact decide_eq_decide.mpr ⟨fun m => List.mem_cons_of_mem _ m, fun m => by
        rcases List.mem_cons.mp m with e | m
        · exact absurd e.symm h
        · exact m⟩
theorem LTk.get {H : Hp} {l : Addr} {ts : List Tok} (h : LTk H l ts) {i : Nat} {t : Tok} (g : ts[i]? = some t) : ∃ xs T, H l = some (.lst xs) ∧ xs[i]? = some (.ref T) ∧ H T = some (.tup [nI t.1, .str t.2]) := by
  obtain ⟨xs, h1, h2⟩ := h
  obtain ⟨v, h3, a, rfl, h4⟩ := Paired.getR h2 g
  exact ⟨xs, a, h1, h3, h4⟩
section
variable {P : Program} {w : World} {K : PySem.W.Frag} {mg : Str → Option Value} {base : Heap} {CB : Addr}
def spExpected (K : PySem.W.Frag) (CB : Addr) : Sp := fun vs H Q E => ∃ (l W : Addr) (at_ : Nat) (ts : List Tok) (p : Nat) (z : Str) (ws : List Str), vs = [.ref l, nI at_, .ref W] ∧ LTk H l ts ∧ ts[at_]? = some (p, z) ∧ SqT K H W (ws.map V.str) ∧ (z ∈ ws → Q (.str z) H) ∧ (z ∉ ws → BadF CB "place" (nI p) H E)
end
end Lt

set_option Elab.async false
set_option linter.all false
set_option maxRecDepth 100000
set_option maxHeartbeats 1000000
/-! tree_from -/
namespace Lt
open PySem PySem.Spec PyProof.Rows L2
/-- a formula's tree over m inputs -/
inductive TreV (H : Hp) (m : Nat) : Nat → V → Prop
  | leaf {d i : Nat} : i < m → TreV H m d (nI i)
  | neg {d : Nat} {a : Addr} {v : V} : H a = some (.tup [.str wNot, v]) → TreV H m d v → TreV H m (d + 1) (.ref a)
  | two {d : Nat} {a : Addr} {j : Str} {v u : V} : H a = some (.tup [.str j, v, u]) → j ∈ joins → TreV H m d v → TreV H m d u → TreV H m (d + 1) (.ref a)
theorem TreV.same {H H' : Hp} {m d : Nat} {v : V} (e : Same H H') (h : TreV H m d v) : TreV H' m d v := by
  induction h with
  | leaf h => exact .leaf h
  | neg h _ ih => exact .neg (e _ _ h) ih
  | two h j _ _ i1 i2 => exact .two (e _ _ h) j i1 i2
theorem word_eq (a b : Str) : decide (V.str a = V.str b) = decide (a = b) := decide_eq_decide.mpr ⟨fun h => by injection h, fun h => by rw [h]⟩
theorem Ends1.get {ts : List Tok} {k : Nat} (h : Ends1 (ts.drop k)) : ∃ t, ts[k]? = some t := by
  have := List.length_pos_iff.mpr h.ne
  rw [List.length_drop] at this
  exact ⟨ts[k], List.getElem?_eq_getElem (by omega)⟩
theorem drop_at {ts : List Tok} {k : Nat} {t : Tok} (h : ts[k]? = some t) : ts.drop k = t :: ts.drop (k + 1) := by
  obtain ⟨hl, e⟩ := List.getElem?_eq_some_iff.mp h
  rw [← e, List.drop_eq_getElem_cons hl]
theorem first_ix {w : Str} : ∀ {ns : List Str}, w ∈ ns → ∃ j, j < ns.length ∧ ns[j]? = some w ∧ ∀ (m : Nat) (z : Str), m < j → ns[m]? = some z → z ≠ w
  | a :: ns, h => by
    by_cases e : a = w
    · exact ⟨0, Nat.succ_pos _, by rw [e]; rfl, fun m z hm => absurd hm (Nat.not_lt_zero _)⟩
    · have h' : w ∈ ns := by
        rcases List.mem_cons.mp h with z | z
        · exact absurd z.symm e
        · exact z
      obtain ⟨j, h1, h2, h3⟩ := first_ix h'
      refine ⟨j + 1, Nat.succ_lt_succ h1, h2, fun m z hm hz => ?_⟩
      cases m with
      | zero =>
        injection hz with hz
        rw [← hz]
        exact e
      | succ m => exact h3 m z (Nat.lt_of_succ_lt_succ hm) hz
section
variable {P : Program} {w : World} {K : PySem.W.Frag} {mg : Str → Option Value} {base : Heap} {CB : Addr}
def spTree (CB : Addr) (f : Nat) : Sp := fun vs H Q E => ∃ (n l : Addr) (at_ ar : Nat) (ns : List Str) (ts : List Tok), vs = [.ref n, .ref l, nI at_, nI ar] ∧ H n = some (.lst (ns.map V.str)) ∧ LTk H l ts ∧ Nms ns ∧
  Ends1 (ts.drop at_) ∧ opens (ts.drop at_) < f ∧ ar + opens (ts.drop at_) ≤ 20 ∧
  (∀ p, prs ns f ar (ts.drop at_) = .error p → BadF CB "place" (nI p) H E) ∧
  (∀ r, prs ns f ar (ts.drop at_) = .ok r → ∀ (a : Addr) (v : V) (k : Nat) (H' : Hp), Same H H' → H' a = some (.tup [v, nI k]) → TreV H' ns.length f v → ts.drop k = r → Q (.ref a) H')
/-- the names that tree_from reads -/
structure GlT (K : PySem.W.Frag) (mg : Str → Option Value) : Prop where
  most : ∃ u, mg "MOST_AROUND" = some u ∧ RelV (.int 20) u
  join : ∃ J : Addr, mg "JOINERS" = some (.ref J) ∧ ∀ H, SqT K H J (joins.map V.str)
end
end Lt

set_option Elab.async false
set_option linter.all false
set_option maxRecDepth 100000
set_option maxHeartbeats 1000000
/-! check_inputs, formula_tree -/
namespace Lt
open PySem PySem.Spec PyProof.Rows L2
/-- the name of an input -/
def xN (i : Nat) : Str := Str.empty ++ ("x" : Str) ++ Str.ofString (toString ((i : Nat) : Int))
def nmL (m : Nat) : List Str := (List.range m).map xN
theorem lexWords_ends (x : Str) : Ends1 (lexWords x) := ⟨_, _, rfl⟩
def RStr (_ : Hp) (v : V) (z : Str) : Prop := v = .str z
theorem RStr.all {H : Hp} : ∀ {zs : List V} {t : List Str}, Paired (RStr H) zs t → zs = t.map V.str
  | _, _, .nil => rfl
  | _, _, .cons r t => by rw [(show _ = V.str _ from r), RStr.all t]; rfl
theorem log_small {i : Nat} (h : i < 1000) : ((i : Nat) : Int).natAbs.log2 < 1920 := by
  rw [Int.natAbs_natCast]
  by_cases z : i = 0
  · subst z; decide +kernel
  · exact (Nat.log2_lt z).mpr (Nat.lt_of_lt_of_le h (by decide +kernel))
def tXn : TE := fun σ H Q => tJs [tC (.str "x"), tFmt (tVar 6)] Str.empty σ H fun out H1 => Q (.str out) H1
theorem xN_len : ∀ i, i < 6 → (Str.empty ++ ("x" : Str)).length ≤ 16777216 ∧ (xN i).length ≤ 16777216 := by decide +kernel
section
variable {P : Program} {w : World} {K : PySem.W.Frag} {mg : Str → Option Value} {base : Heap} {CB CN CS : Addr}
def spCheckIn : Sp := fun vs H Q _ => ∃ m : Nat, vs = [nI m] ∧ 1 ≤ m ∧ m ≤ 6 ∧ Q .non H
theorem sc_check_inputs : FnScope ["inputs"] ["inputs"] (defScope s_check_inputs) := ⟨rfl, rfl, rfl, by decide +kernel, rfl, by decide +kernel, by decide +kernel⟩
theorem has_check_inputs (T : Top K mg "check_inputs" s_check_inputs ["inputs"]) (G : ∃ u, mg "MOST_INPUTS" = some u ∧ RelV (.int 6) u) (X0 : Err0 K mg "BadNumber" CN) (hN : Has P w K mg base CX0 1 "is_number" ["value"] spNum) : Has P w K mg base (L2.CX P w) 3 "check_inputs" ["inputs"] spCheckIn := by
  refine T.okX sc_check_inputs (fun vs H Q E h => ?_) (fun f cdv A outer s H vs Q E hr h => ?_)
  · obtain ⟨m, rfl, _⟩ := h
    rfl
  · obtain ⟨m, rfl, h1, h6, q⟩ := h
    have hr1 : Room 1 _ := hr.mono (by decide)
    refine ⟨_, pss_one (ps_if (PW.pt (pw_or (pt_not (pt_val (pe_has hN hr1 (by rfl) (pa_cons (pv 0) pa_nil)))) (pw_or1 (pt_not (pt_chain op_le op_le pe_int (pv 0) (pe_gc2 (by rfl) G)))))) (pss_one (ps_raise rfl (takes_of rfl rfl rfl rfl) (pmk_err0 X0 (by rfl)))) pss_nil), ?_⟩
    refine ⟨_, rfl, nI m, .int m, rfl, .int _, true, rfl, iteF ⟨_, rfl, 1, (m : Int), rfl, rfl, true, congrArg V.bl (decide_eq_true (show (1 : Int) ≤ (m : Int) by omega)), iteT ⟨(m : Int), 6, rfl, rfl, true, congrArg V.bl (decide_eq_true (show (m : Int) ≤ 6 by omega)), iteF q⟩⟩⟩
def spFT (CB : Addr) : Sp := fun vs H Q E => ∃ (m : Nat) (x : Str), vs = [nI m, .str x] ∧ 1 ≤ m ∧ m ≤ 6 ∧ x.length ≤ 1000 ∧ Nms (nmL m) ∧ opens (lexWords x) ≤ 20 ∧
  (∀ p, prs (nmL m) 21 0 (lexWords x) = .error p → BadF CB "place" (nI p) H E) ∧
  (∀ r, prs (nmL m) 21 0 (lexWords x) = .ok r → (r.length < 2 → ∀ v H', Same H H' → TreV H' m 21 v → Q v H') ∧ ∀ t r', r = t :: r' → 2 ≤ r.length → BadF CB "place" (nI t.1) H E)
end
end Lt

set_option Elab.async false
set_option linter.all false
set_option maxRecDepth 100000
set_option maxHeartbeats 1000000
/-! tree_from of a formula that stands: the tree itself (for k04) -/
namespace Lt
open PySem PySem.Spec PyProof.Rows L2
inductive Fm
  | x (i : Nat)
  | no (f : Fm)
  | two (j : Str) (f g : Fm)
def Fm.spell : Fm → List Str
  | .x i => [xN i]
  | .no f => wNot :: f.spell
  | .two j f g => wOp :: (f.spell ++ (j :: (g.spell ++ [wCl])))
def Fm.deep : Fm → Nat
  | .x _ => 0
  | .no f => f.deep + 1
  | .two _ f g => max f.deep g.deep + 1
/-- over m inputs, joined by and, or, xor -/
def Fm.Ok (m : Nat) : Fm → Prop
  | .x i => i < m
  | .no f => f.Ok m
  | .two j f g => j ∈ joins ∧ f.Ok m ∧ g.Ok m
/-- the tree in the heap -/
def Fm.At (H : Hp) : Fm → V → Prop
  | .x i, v => v = nI i
  | .no f, v => ∃ a u, v = .ref a ∧ H a = some (.tup [.str wNot, u]) ∧ f.At H u
  | .two j f g, v => ∃ a u t, v = .ref a ∧ H a = some (.tup [.str j, u, t]) ∧ f.At H u ∧ g.At H t
theorem Fm.At.same {H H' : Hp} (e : Same H H') : ∀ {f : Fm} {v : V}, f.At H v → f.At H' v
  | .x _, _, h => h
  | .no _, _, ⟨a, u, h1, h2, h3⟩ => ⟨a, u, h1, e _ _ h2, Fm.At.same e h3⟩
  | .two _ _ _, _, ⟨a, u, t, h1, h2, h3, h4⟩ => ⟨a, u, t, h1, e _ _ h2, Fm.At.same e h3, Fm.At.same e h4⟩
theorem xN_inj : ∀ i, i < 6 → ∀ j, j < 6 → xN i = xN j → i = j := by decide +kernel
theorem nm_get {m i : Nat} (h : i < m) : (nmL m)[i]? = some (xN i) := by
  unfold nmL
  rw [List.getElem?_map, List.getElem?_range h]
  rfl
theorem nms_okE : ∀ m, m ≤ 6 → (wNot ∉ nmL m ∧ wOp ∉ nmL m ∧ wVoid ∉ nmL m) ∧ wX0 ∉ nmL m ∧ ("X" : Str) ∉ nmL m := by decide +kernel
section
variable {P : Program} {w : World} {K : PySem.W.Frag} {mg : Str → Option Value} {base : Heap} {CB : Addr}
def spTreeE (fu : Nat) : Sp := fun vs H Q _ => ∃ (n l : Addr) (at_ ar m : Nat) (ts : List Tok) (f : Fm) (rest : List Str), vs = [.ref n, .ref l, nI at_, nI ar] ∧ H n = some (.lst ((nmL m).map V.str)) ∧ m ≤ 6 ∧ LTk H l ts ∧ f.Ok m ∧ f.deep < fu ∧ ar + f.deep ≤ 20 ∧
  (ts.drop at_).map (·.2) = f.spell ++ rest ∧
  (∀ (a : Addr) (v : V) (k : Nat) (H' : Hp), Same H H' → H' a = some (.tup [v, nI k]) → f.At H' v → k = at_ + f.spell.length → Q (.ref a) H')
theorem tok_at {ts : List Tok} {k : Nat} {w0 : Str} {r : List Str} (h : (ts.drop k).map (·.2) = w0 :: r) : ∃ p, ts[k]? = some (p, w0) ∧ (ts.drop (k + 1)).map (·.2) = r := by
  cases hd : ts.drop k with
  | nil => rw [hd] at h; cases h
  | cons t ts' =>
    rw [hd] at h
    injection h with h1 h2
    refine ⟨t.1, ?_, ?_⟩
    · have := drop_get (n := 0) hd.symm rfl
      rw [← h1]
      exact this
    · have e := drop_tl hd.symm
      rw [← e]
      exact h2
end
end Lt

set_option Elab.async false
set_option linter.all false
set_option maxRecDepth 100000
set_option maxHeartbeats 1000000
/-! a comprehension over enumerate of a tuple -/
namespace Lt
open PySem PySem.Spec PyProof.Rows L2
theorem lc_enumM {K : PySem.W.Frag} {te : TE} {g : TG} {vs : List Nat} {σ : L2.St} {H1 : Hp} {D : Addr} {Qd : Hp → Prop} {β : Type} {j1 j2 : Nat} {a : Addr} {xs : List V} (R : Hp → V → β → Prop) (ys : List β)
    (mono : ∀ H H' v b, Tm H H' → R H v b → R H' v b) (hxK : ∀ H, Same H1 H → SqT K H a xs) (hz : xs.length ≤ 100000) (hy : ys.length = xs.length) (hD : H1 D = none)
    (hg : ∀ T x (i : Nat) σ H Q, H T = some (.tup [nI i, x]) → Q ((σ.set j1 (some (nI i))).set j2 (some x)) H → g (.ref T) σ H Q)
    (hw : ∀ x y, wipe (((wipe σ vs).set j1 x).set j2 y) vs = wipe σ vs)
    (he : ∀ (i : Nat) (x : V) (b : β), xs[i]? = some x → ys[i]? = some b → ∀ H, Same H1 H → ∀ Q : VK, (∀ v H', Same H H' → R H' v b → Q v H') → te (((wipe σ vs).set j1 (some (nI i))).set j2 (some x)) H Q)
    (hd : ∀ H zs, Same H1 H → H D = some (.lst zs) → Paired (R H) zs ys → Qd H) :
    ∃ W : Nat → Nat → Hp → Prop, (∃ m, W 0 m (upd H1 D (.lst []))) ∧ ∀ i m H, W i m H →
      ((Itet K a).stop i H ∧ Qd H) ∨ ((Itet K a).go i H ∧ ∃ Nx : Hp → Prop, (∀ H', Nx H' → ∃ m', m' < m ∧ W (i + 1) m' H') ∧ ∀ x H', (Itet K a).yld i H x H' → g x (wipe σ vs) H' fun σ2 H2 => wipe σ2 vs = wipe σ vs ∧ tYes σ2 H2 fun b H3 =>
        if b = true then te σ2 H3 fun y H4 => ∃ acc, H4 D = some (.lst acc) ∧ acc.length < sizeLine ∧ Nx (upd H4 D (.lst (acc ++ [y]))) else Nx H3) := by
  refine ⟨fun i m H => m = xs.length - i ∧ i ≤ xs.length ∧ Cm H1 D R ys i H, ⟨xs.length, by simp, Nat.zero_le _, same_new hD, [], upd_same, .nil, Nat.le_refl _⟩, ?_⟩
  rintro i m H ⟨rfl, hi, p⟩
  have q := hxK H p.1
  by_cases hlt : i < xs.length
  · refine .inr ⟨⟨xs, xs[i], q, by simp [hlt]⟩, Cm H1 D R ys (i + 1), fun H' p' => ⟨xs.length - (i + 1), by omega, rfl, hlt, p'⟩, fun y H' yl => ?_⟩
    obtain ⟨T, x, rfl, hT, rfl, hx⟩ := yl
    have hx := hx xs q
    have sT := same_new (o := .tup [V.int (i : Nat), x]) hT
    refine hg T x i _ _ _ upd_same ⟨hw _ _, iteT (B := Cm H1 D R ys (i + 1) (upd H T (.tup [V.int (i : Nat), x]))) ?_⟩
    have hb : ys[i]? = some (ys[i]'(by omega)) := List.getElem?_eq_getElem (by omega)
    obtain ⟨sm, zs, h1, pr, hl⟩ := p
    exact cm_turn mono hD ⟨sm.trans sT, zs, sT _ _ h1, paired_mono (fun a b r => mono _ _ _ _ (Tm.of sT) r) pr, hl⟩ (by omega) hb (he i x _ hx hb)
  · have e : i = xs.length := by omega
    subst e
    refine .inl ⟨⟨xs, q, rfl⟩, ?_⟩
    obtain ⟨sm, zs, h1, pr, _⟩ := p
    rw [← hy, List.take_length] at pr
    exact hd H zs sm h1 pr
end Lt

set_option Elab.async false
set_option linter.all false
set_option maxRecDepth 100000
set_option maxHeartbeats 1000000
/-! input_table, bits_of, worth_of -/
namespace Lt
open PySem PySem.Spec PyProof.Rows L2
def itab (m own : Nat) : List Nat := (List.range (2 ^ m)).map fun p => p / 2 ^ own % 2
theorem itab_len (m own : Nat) : (itab m own).length = 2 ^ m := by unfold itab; rw [List.length_map, List.length_range]
theorem itab_le {m own b : Nat} (h : b ∈ itab m own) : b ≤ 1 := by
  unfold itab at h
  obtain ⟨p, _, rfl⟩ := List.mem_map.mp h
  omega
/-- the numbers whose sum is a table's -/
def bitL (bs : List Nat) : List Int := (List.range bs.length).map fun i => (bs.getD i 0 : Int) * 2 ^ i
def RI (_ : Hp) (v : V) (n : Int) : Prop := v = .int n
theorem RI.all {H : Hp} : ∀ {zs : List V} {t : List Int}, Paired (RI H) zs t → zs = t.map V.int
  | _, _, .nil => rfl
  | _, _, .cons r t => by rw [(show _ = V.int _ from r), RI.all t]; rfl
theorem pow6 {m : Nat} (h : m ≤ 6) : 2 ^ m ≤ 64 := Nat.le_trans (Nat.pow_le_pow_right (by decide) h) (by decide)
section
variable {P : Program} {w : World} {K : PySem.W.Frag} {mg : Str → Option Value} {base : Heap}
def spITab : Sp := fun vs H Q _ => ∃ (m own : Nat), vs = [nI m, nI own] ∧ m ≤ 6 ∧ ∀ v H', Same H H' → TK H' v (itab m own) → Q v H'
def spBits : Sp := fun vs H Q _ => ∃ (v : V) (bs : List Nat), vs = [v] ∧ TK H v bs ∧ bs.length ≤ 64 ∧ (∀ b ∈ bs, b ≤ 1) ∧ ∀ H', Same H H' → Q (.int (bitL bs).sum) H'
def spWorth (m f : Nat) : Sp := fun vs H Q _ => ∃ (v : V) (l : Addr) (ns : List Int) (e : Int) (d : Nat), vs = [v, .ref l, .int e] ∧ TreV H m d v ∧ d < f ∧ H l = some (.lst (ns.map V.int)) ∧ ns.length = m ∧ ∀ i : Int, Q (.int i) H
end
end Lt

set_option Elab.async false
set_option linter.all false
set_option maxRecDepth 100000
set_option maxHeartbeats 1000000
/-! worth_of, exactly (for k04) -/
namespace Lt
open PySem PySem.Spec PyProof.Rows L2
def worthI (ns : List Int) (e : Int) : Fm → Int
  | .x i => ns.getD i 0
  | .no f => Builtin.bitXor e (worthI ns e f)
  | .two j f g => if j = ("and" : Str) then Builtin.bitAnd (worthI ns e f) (worthI ns e g) else if j = ("or" : Str) then Builtin.bitOr (worthI ns e f) (worthI ns e g) else Builtin.bitXor (worthI ns e f) (worthI ns e g)
section
variable {P : Program} {w : World} {K : PySem.W.Frag} {mg : Str → Option Value} {base : Heap}
def spWorthE (fu : Nat) : Sp := fun vs H Q _ => ∃ (v : V) (l : Addr) (ns : List Int) (e : Int) (g : Fm), vs = [v, .ref l, .int e] ∧ g.At H v ∧ g.deep < fu ∧ g.Ok ns.length ∧ H l = some (.lst (ns.map V.int)) ∧ Q (.int (worthI ns e g)) H
end
end Lt

set_option Elab.async false
set_option linter.all false
set_option maxRecDepth 100000
set_option maxHeartbeats 1000000
/-! the words of a text, without their places; what a formula comes to -/
namespace Lt
open PySem PySem.Spec PyProof.Rows L2
def isRun (c : Nat) : Bool := decide (c ∈ runS.cps.toList)
def flW (cur : List Nat) : List Str := if cur = [] then [] else [⟨cur.toArray⟩]
/-- the words that end within, and the run behind -/
def lexS : List Nat → List Nat → List Str × List Nat
  | cur, [] => ([], cur)
  | cur, c :: cs => if isRun c then lexS (cur ++ [c]) cs else (flW cur ++ (if c = 32 then [] else [⟨#[c]⟩]) ++ (lexS [] cs).1, (lexS [] cs).2)
theorem lexS_app : ∀ (a b cur : List Nat), lexS cur (a ++ b) = ((lexS cur a).1 ++ (lexS (lexS cur a).2 b).1, (lexS (lexS cur a).2 b).2)
  | [], b, cur => rfl
  | c :: a, b, cur => by
    rw [List.cons_append, lexS, lexS]
    by_cases h : isRun c = true
    · rw [if_pos h, if_pos h, lexS_app a b]
    · rw [if_neg h, if_neg h, lexS_app a b]
      simp only [List.append_assoc]
theorem lexS_run : ∀ {w cur : List Nat}, (∀ c ∈ w, isRun c = true) → lexS cur w = ([], cur ++ w)
  | [], cur, _ => by rw [List.append_nil]; rfl
  | c :: w, cur, h => by
    rw [lexS, if_pos (h c List.mem_cons_self), lexS_run fun x hx => h x (List.mem_cons_of_mem _ hx), List.append_assoc]
    rfl
theorem lexS_sps : ∀ n : Nat, lexS [] (List.replicate n 32) = ([], [])
  | 0 => rfl
  | n + 1 => by
    rw [List.replicate_succ, lexS, if_neg (by decide +kernel), lexS_sps n]
    rfl
theorem lexS_sp (cur : List Nat) (n : Nat) : lexS cur (List.replicate (n + 1) 32) = (flW cur, []) := by
  rw [List.replicate_succ, lexS, if_neg (by decide +kernel), lexS_sps n]
  simp
theorem isRun_iff {c : Nat} : isRun c = true ↔ c ∈ runS.cps.toList := by unfold isRun; exact decide_eq_true_iff
/-- the placed words' words -/
theorem lex_words {T : List Nat} : ∀ (rest done : List Nat) (st : List Tok × Nat) (cur : List Nat), T = done ++ rest → st.2 ≤ done.length → done.drop st.2 = cur →
    (flush T (lexFrom T st done.length rest) (done.length + rest.length)).map (·.2) = st.1.map (·.2) ++ ((lexS cur rest).1 ++ flW (lexS cur rest).2)
  | [], done, st, cur, hT, hl, hc => by
    rw [lex_nil, List.length_nil, Nat.add_zero]
    unfold flush
    show _ = _ ++ ([] ++ flW cur)
    rw [List.nil_append]
    unfold flW
    by_cases h : st.2 < done.length
    · rw [if_pos h, if_neg (by rw [← hc]; intro z; have := congrArg List.length z; rw [List.length_drop, List.length_nil] at this; omega), List.map_append]
      congr 1
      show [cut T st.2 done.length] = _
      unfold cut
      rw [hT, List.append_nil, hc, List.take_of_length_le (by rw [← hc, List.length_drop]; exact Nat.le_refl _)]
    · rw [if_neg h, if_pos (by rw [← hc]; exact List.drop_eq_nil_of_le (by omega)), List.append_nil]
  | c :: rest, done, st, cur, hT, hl, hc => by
    rw [lex_cons]
    have hT2 : T = (done ++ [c]) ++ rest := by rw [hT]; simp
    have l2 : (done ++ [c]).length = done.length + 1 := by simp
    have hcut : cut T st.2 done.length = ⟨cur.toArray⟩ := by
      unfold cut
      rw [hT, List.drop_append_of_le_length hl, hc, List.take_append_of_le_length (by rw [← hc, List.length_drop]; exact Nat.le_refl _), List.take_of_length_le (by rw [← hc, List.length_drop]; exact Nat.le_refl _)]
    have hfl : (flush T st done.length).map (·.2) = st.1.map (·.2) ++ flW cur := by
      unfold flush flW
      by_cases h : st.2 < done.length
      · rw [if_pos h, if_neg (by rw [← hc]; intro z; have := congrArg List.length z; rw [List.length_drop, List.length_nil] at this; omega), List.map_append]
        show _ ++ [cut T st.2 done.length] = _
        rw [hcut]
      · rw [if_neg h, if_pos (by rw [← hc]; exact List.drop_eq_nil_of_le (by omega)), List.append_nil]
    rw [lexS]
    by_cases h : c ∈ runS.cps.toList
    · rw [if_pos (isRun_iff.mpr h)]
      unfold lexStep
      rw [if_pos h]
      have := lex_words (T := T) rest (done ++ [c]) st (cur ++ [c]) hT2 (by rw [l2]; omega) (by rw [List.drop_append_of_le_length hl, hc])
      rw [l2] at this
      rw [List.length_cons, ← Nat.add_assoc, Nat.add_right_comm]
      exact this
    · rw [if_neg (fun z => h (isRun_iff.mp z))]
      unfold lexStep
      rw [if_neg h]
      have := lex_words (T := T) rest (done ++ [c]) (if c = 32 then flush T st done.length else flush T st done.length ++ [(done.length, ⟨#[c]⟩)], done.length + 1) [] hT2 (by rw [l2]; exact Nat.le_refl _) (by
        show (done ++ [c]).drop (done.length + 1) = []
        exact List.drop_eq_nil_of_le (by rw [l2]; exact Nat.le_refl _))
      rw [l2] at this
      rw [List.length_cons, ← Nat.add_assoc, Nat.add_right_comm, this]
      by_cases h32 : c = 32
      · simp only [if_pos h32]
        rw [hfl]
        simp only [List.append_assoc, List.nil_append]
      · simp only [if_neg h32]
        rw [List.map_append, hfl]
        simp only [List.append_assoc, List.map_cons, List.map_nil]
theorem lexWords_map (x : Str) : (lexWords x).map (·.2) = (lexS [] x.cps.toList).1 ++ flW (lexS [] x.cps.toList).2 ++ [wVoid] := by
  unfold lexWords lexWords.toks'
  rw [List.map_append]
  have := lex_words (T := x.cps.toList) x.cps.toList [] ([], 0) [] rfl (Nat.le_refl _) rfl
  rw [List.length_nil, Nat.zero_add] at this
  rw [this]
  rfl
/-! ### what a formula comes to -/
def evF : Fm → Nat → Nat
  | .x i, t => t / 2 ^ i % 2
  | .no f, t => 1 - evF f t
  | .two j f g, t => if j = ("and" : Str) then evF f t * evF g t else if j = ("or" : Str) then max (evF f t) (evF g t) else (evF f t + evF g t) % 2
theorem evF_le : ∀ (f : Fm) (t : Nat), evF f t ≤ 1
  | .x i, t => Nat.le_of_lt_succ (Nat.mod_lt _ (by decide))
  | .no f, t => Nat.sub_le ..
  | .two j f g, t => by
    have h1 := evF_le f t
    have h2 := evF_le g t
    unfold evF
    split
    · exact Nat.le_trans (Nat.mul_le_mul h1 h2) (by decide)
    · split
      · omega
      · omega
def tabF (m : Nat) (f : Fm) : List Nat := (List.range (2 ^ m)).map (evF f)
theorem tabF_len (m : Nat) (f : Fm) : (tabF m f).length = 2 ^ m := by unfold tabF; rw [List.length_map, List.length_range]
theorem tabF_le {m : Nat} {f : Fm} {b : Nat} (h : b ∈ tabF m f) : b ≤ 1 := by
  unfold tabF at h
  obtain ⟨t, _, rfl⟩ := List.mem_map.mp h
  exact evF_le f t
/-- the number of a table -/
def numB : List Nat → Nat
  | [] => 0
  | b :: bs => b + 2 * numB bs
theorem bitL_num : ∀ bs : List Nat, (bitL bs).sum = ((numB bs : Nat) : Int)
  | [] => rfl
  | b :: bs => by
    have e : bitL (b :: bs) = (b : Int) :: (bitL bs).map (fun z => 2 * z) := by
      unfold bitL
      rw [List.length_cons, List.range_succ_eq_map, List.map_cons, List.map_map, List.map_map]
      congr 1
      · show ((b : Nat) : Int) * 2 ^ 0 = _
        simp
      · refine List.map_congr_left fun i _ => ?_
        show (((b :: bs).getD (i + 1) 0 : Nat) : Int) * 2 ^ (i + 1) = 2 * (((bs.getD i 0 : Nat) : Int) * 2 ^ i)
        rw [List.getD_cons_succ, Int.pow_succ]
        have : ∀ a b : Int, a * (b * 2) = 2 * (a * b) := fun a b => by rw [← Int.mul_assoc, Int.mul_comm]
        exact this _ _
    have s : ∀ l : List Int, (l.map (fun z => 2 * z)).sum = 2 * l.sum := fun l => by
      induction l with
      | nil => rfl
      | cons a l ih => rw [List.map_cons, List.sum_cons, List.sum_cons, ih]; omega
    rw [e, List.sum_cons, s, bitL_num bs]
    show _ = ((b + 2 * numB bs : Nat) : Int)
    omega
theorem numB_bit : ∀ (bs : List Nat) (p : Nat), (∀ b ∈ bs, b ≤ 1) → numB bs / 2 ^ p % 2 = bs.getD p 0
  | [], p, _ => by simp [numB]
  | b :: bs, 0, h => by
    have := h b List.mem_cons_self
    show (b + 2 * numB bs) / 1 % 2 = b
    omega
  | b :: bs, p + 1, h => by
    have hb := h b List.mem_cons_self
    rw [List.getD_cons_succ, ← numB_bit bs p fun x hx => h x (List.mem_cons_of_mem _ hx), Nat.pow_succ, Nat.mul_comm, ← Nat.div_div_eq_div_mul]
    congr 2
    show (b + 2 * numB bs) / 2 = numB bs
    omega
theorem bit_xor (a b p : Nat) : (a ^^^ b) / 2 ^ p % 2 = (a / 2 ^ p % 2 + b / 2 ^ p % 2) % 2 := by
  have e := Nat.testBit_xor a b p
  rw [Nat.testBit_eq_decide_div_mod_eq, Nat.testBit_eq_decide_div_mod_eq, Nat.testBit_eq_decide_div_mod_eq] at e
  have h1 := Nat.mod_lt (a / 2 ^ p) (show 2 > 0 by decide)
  have h2 := Nat.mod_lt (b / 2 ^ p) (show 2 > 0 by decide)
  have h3 := Nat.mod_lt ((a ^^^ b) / 2 ^ p) (show 2 > 0 by decide)
  generalize a / 2 ^ p % 2 = x at *
  generalize b / 2 ^ p % 2 = y at *
  generalize (a ^^^ b) / 2 ^ p % 2 = z at *
  have hx : x = 0 ∨ x = 1 := by omega
  have hy : y = 0 ∨ y = 1 := by omega
  have hz : z = 0 ∨ z = 1 := by omega
  rcases hx with rfl | rfl <;> rcases hy with rfl | rfl <;> rcases hz with rfl | rfl <;> first | rfl | cases e
theorem bit_and (a b p : Nat) : (a &&& b) / 2 ^ p % 2 = (a / 2 ^ p % 2) * (b / 2 ^ p % 2) := by
  have e := Nat.testBit_and a b p
  rw [Nat.testBit_eq_decide_div_mod_eq, Nat.testBit_eq_decide_div_mod_eq, Nat.testBit_eq_decide_div_mod_eq] at e
  have h1 := Nat.mod_lt (a / 2 ^ p) (show 2 > 0 by decide)
  have h2 := Nat.mod_lt (b / 2 ^ p) (show 2 > 0 by decide)
  have h3 := Nat.mod_lt ((a &&& b) / 2 ^ p) (show 2 > 0 by decide)
  generalize a / 2 ^ p % 2 = x at *
  generalize b / 2 ^ p % 2 = y at *
  generalize (a &&& b) / 2 ^ p % 2 = z at *
  have hx : x = 0 ∨ x = 1 := by omega
  have hy : y = 0 ∨ y = 1 := by omega
  have hz : z = 0 ∨ z = 1 := by omega
  rcases hx with rfl | rfl <;> rcases hy with rfl | rfl <;> rcases hz with rfl | rfl <;> first | rfl | cases e
theorem bit_or (a b p : Nat) : (a ||| b) / 2 ^ p % 2 = max (a / 2 ^ p % 2) (b / 2 ^ p % 2) := by
  have e := Nat.testBit_or a b p
  rw [Nat.testBit_eq_decide_div_mod_eq, Nat.testBit_eq_decide_div_mod_eq, Nat.testBit_eq_decide_div_mod_eq] at e
  have h1 := Nat.mod_lt (a / 2 ^ p) (show 2 > 0 by decide)
  have h2 := Nat.mod_lt (b / 2 ^ p) (show 2 > 0 by decide)
  have h3 := Nat.mod_lt ((a ||| b) / 2 ^ p) (show 2 > 0 by decide)
  generalize a / 2 ^ p % 2 = x at *
  generalize b / 2 ^ p % 2 = y at *
  generalize (a ||| b) / 2 ^ p % 2 = z at *
  have hx : x = 0 ∨ x = 1 := by omega
  have hy : y = 0 ∨ y = 1 := by omega
  have hz : z = 0 ∨ z = 1 := by omega
  rcases hx with rfl | rfl <;> rcases hy with rfl | rfl <;> rcases hz with rfl | rfl <;> first | rfl | cases e
end Lt

set_option Elab.async false
set_option linter.all false
set_option maxRecDepth 100000
set_option maxHeartbeats 1000000
/-! table_of -/
namespace Lt
open PySem PySem.Spec PyProof.Rows L2
def leafL (m : Nat) : List Int := (List.range m).map fun own => (bitL (itab m own)).sum
section
variable {P : Program} {w : World} {K : PySem.W.Frag} {mg : Str → Option Value} {base : Heap} {CB : Addr}
def spTab (CB : Addr) : Sp := fun vs H Q E => ∃ (m : Nat) (x : Str), vs = [nI m, .str x] ∧ 1 ≤ m ∧ m ≤ 6 ∧ x.length ≤ 1000 ∧ Nms (nmL m) ∧ opens (lexWords x) ≤ 20 ∧
  (∀ p, prs (nmL m) 21 0 (lexWords x) = .error p → BadF CB "place" (nI p) H E) ∧
  (∀ r, prs (nmL m) 21 0 (lexWords x) = .ok r → (r.length < 2 → ∀ v H', Same H H' → Q v H') ∧ ∀ t r', r = t :: r' → 2 ≤ r.length → BadF CB "place" (nI t.1) H E)
end
end Lt

set_option Elab.async false
set_option linter.all false
set_option maxRecDepth 100000
set_option maxHeartbeats 1000000
/-! formula_tree and table_of, exactly -/
namespace Lt
open PySem PySem.Spec PyProof.Rows L2
theorem leafL_get {m i : Nat} (h : i < m) : (leafL m).getD i 0 = ((numB (itab m i) : Nat) : Int) := by
  unfold leafL
  rw [List.getD_eq_getElem?_getD, List.getElem?_map, List.getElem?_range h]
  exact bitL_num _
theorem pow_bit {K p : Nat} (h : p < K) : (2 ^ K - 1) / 2 ^ p % 2 = 1 := by
  have e := Nat.testBit_two_pow_sub_one K p
  rw [Nat.testBit_eq_decide_div_mod_eq, decide_eq_true h] at e
  exact of_decide_eq_true e
/-- a formula's number, bit by bit -/
theorem worth_bits (m : Nat) : ∀ f : Fm, f.Ok m → ∃ W : Nat, worthI (leafL m) (((2 ^ (2 ^ m) - 1 : Nat)) : Int) f = (W : Int) ∧ ∀ p, p < 2 ^ m → W / 2 ^ p % 2 = evF f p
  | .x i, ok => ⟨numB (itab m i), leafL_get ok, fun p hp => by
      rw [numB_bit _ _ fun b hb => itab_le hb]
      unfold itab
      rw [List.getD_eq_getElem?_getD, List.getElem?_map, List.getElem?_range hp]
      rfl⟩
  | .no f, ok => by
    obtain ⟨W, h1, h2⟩ := worth_bits m f ok
    refine ⟨(2 ^ (2 ^ m) - 1) ^^^ W, ?_, fun p hp => ?_⟩
    · rw [worthI, h1, Bits.bitXor_pp (Int.natCast_nonneg _) (Int.natCast_nonneg _), Int.toNat_natCast, Int.toNat_natCast]
    · rw [bit_xor, h2 p hp, pow_bit hp]
      show _ = 1 - evF f p
      have := evF_le f p
      omega
  | .two j f g, ok => by
    obtain ⟨hj, ok1, ok2⟩ := ok
    obtain ⟨V, h1, h2⟩ := worth_bits m f ok1
    obtain ⟨W, h3, h4⟩ := worth_bits m g ok2
    rw [worthI]
    unfold evF
    by_cases e1 : j = ("and" : Str)
    · refine ⟨V &&& W, ?_, fun p hp => ?_⟩
      · rw [if_pos e1, h1, h3, PyProof.Rows.bitAnd_pp (Int.natCast_nonneg _) (Int.natCast_nonneg _), Int.toNat_natCast, Int.toNat_natCast]
      · rw [if_pos e1, bit_and, h2 p hp, h4 p hp]
    · by_cases e2 : j = ("or" : Str)
      · refine ⟨V ||| W, ?_, fun p hp => ?_⟩
        · rw [if_neg e1, if_pos e2, h1, h3, Bits.bitOr_pp (Int.natCast_nonneg _) (Int.natCast_nonneg _), Int.toNat_natCast, Int.toNat_natCast]
        · rw [if_neg e1, if_pos e2, bit_or, h2 p hp, h4 p hp]
      · refine ⟨V ^^^ W, ?_, fun p hp => ?_⟩
        · rw [if_neg e1, if_neg e2, h1, h3, Bits.bitXor_pp (Int.natCast_nonneg _) (Int.natCast_nonneg _), Int.toNat_natCast, Int.toNat_natCast]
        · rw [if_neg e1, if_neg e2, bit_xor, h2 p hp, h4 p hp]
section
variable {P : Program} {w : World} {K : PySem.W.Frag} {mg : Str → Option Value} {base : Heap} {CB CS : Addr}
def spFTE : Sp := fun vs H Q E => ∃ (m : Nat) (x : Str) (f : Fm), vs = [nI m, .str x] ∧ 1 ≤ m ∧ m ≤ 6 ∧ x.length ≤ 1000 ∧ f.Ok m ∧ f.deep ≤ 20 ∧ (lexWords x).map (·.2) = f.spell ++ [wVoid] ∧ ∀ v H', Same H H' → f.At H' v → Q v H'
def spTabE : Sp := fun vs H Q E => ∃ (m : Nat) (x : Str) (f : Fm), vs = [nI m, .str x] ∧ 1 ≤ m ∧ m ≤ 6 ∧ x.length ≤ 1000 ∧ f.Ok m ∧ f.deep ≤ 20 ∧ (lexWords x).map (·.2) = f.spell ++ [wVoid] ∧ ∀ v H', Same H H' → TK H' v (tabF m f) → Q v H'
end
end Lt

set_option Elab.async false
set_option linter.all false
set_option maxRecDepth 100000
set_option maxHeartbeats 1000000
namespace Lt
open PySem PySem.Spec PyProof.Rows L2
section
variable {P : Program} {w : World} {K : PySem.W.Frag} {mg : Str → Option Value} {base : Heap}
/-! ### _law_pick, _law_is -/
def spPick (K : PySem.W.Frag) : Sp := fun vs H Q _ => ∃ (r l sc : Addr) (ns : List Int) (xs : List V), vs = [.ref r, .ref l] ∧ RowAt K H r sc ns ∧ H l = some (.lst xs) ∧ l ≠ r ∧ 1 ≤ xs.length ∧ xs.length ≤ 1000 ∧ ∀ x H', x ∈ xs → StepR r H H' → RowAt K H' r sc ns → Q x H'
theorem sc_law_pick : FnScope ["row", "things"] ["row", "things"] (defScope s_law_pick) := ⟨rfl, rfl, rfl, by decide +kernel, rfl, by decide +kernel, by decide +kernel⟩
theorem has_law_pick (T : Top K mg "_law_pick" s_law_pick ["row", "things"]) (B : Bi mg) (hT : Has P w K mg base CX0 1 "_law_taken" ["row", "many"] (spTaken K)) : Has P w K mg base CX0 2 "_law_pick" ["row", "things"] (spPick K) := by
  refine T.ok sc_law_pick (fun vs H Q E h => ?_) (fun f cdv A outer s H vs Q E hr h => ?_)
  · obtain ⟨r, l, sc, ns, xs, rfl, _⟩ := h
    rfl
  · obtain ⟨r, l, sc, ns, xs, rfl, ra, hl, hne, h1, h2, q⟩ := h
    refine ⟨_, pss_one (ps_ret (pe_ix ix_list (pv 1) (pe_has hT hr (by rfl) (pa_cons (pv 0) (pa_cons (pe_callB call_len_seq (by rfl) B.len PySem.boot_len (pa_cons (pv 1) pa_nil)) pa_nil))) (fun _ _ => rfl))), ?_⟩
    refine ⟨_, rfl, _, rfl, _, rfl, l, xs, rfl, .inl (SqL.of hl), r, sc, ns, xs.length, rfl, ra, h1, h2, fun x H' hx st ra' => ?_⟩
    exact ⟨l, xs, (x : Int), xs[x], rfl, rfl, SqL.of (st l _ hne hl), atI_nat (List.getElem?_eq_getElem hx), q _ H' (List.getElem_mem hx) st ra'⟩
end
end Lt

set_option Elab.async false
set_option linter.all false
set_option maxRecDepth 100000
set_option maxHeartbeats 1000000
/-! the law's formulas: _law_tree, _law_spelled -/
namespace Lt
open PySem PySem.Spec PyProof.Rows L2
/-- the law's name of an input -/
def xL (i : Nat) : Str := ("x" : Str) ++ Str.ofString (toString ((i : Nat) : Int))
theorem xL_xN : ∀ i, i < 6 → xL i = xN i := by decide +kernel
/-- a tree of the law's, and its words -/
inductive LTr (H : Hp) (m : Nat) : Nat → V → List Str → Prop
  | leaf {d i : Nat} {a : Addr} : H a = some (.tup [.str "x", nI i]) → i < m → LTr H m d (.ref a) [xL i]
  | neg {d : Nat} {a : Addr} {v : V} {ws : List Str} : H a = some (.tup [.str wNot, v]) → LTr H m d v ws → LTr H m (d + 1) (.ref a) (wNot :: ws)
  | two {d : Nat} {a : Addr} {j : Str} {v u : V} {ws us : List Str} : H a = some (.tup [.str j, v, u]) → j ∈ joins → LTr H m d v ws → LTr H m d u us → LTr H m (d + 1) (.ref a) ([wOp] ++ ws ++ [j] ++ us ++ [wCl])
theorem LTr.tm {H H' : Hp} {m d : Nat} {v : V} {ws : List Str} (e : Tm H H') (h : LTr H m d v ws) : LTr H' m d v ws := by
  induction h with
  | leaf h i => exact .leaf (e.1 _ _ h) i
  | neg h _ ih => exact .neg (e.1 _ _ h) ih
  | two h j _ _ i1 i2 => exact .two (e.1 _ _ h) j i1 i2
theorem Str_len (a b : Str) : (a ++ b).length = a.length + b.length := by
  show (a.cps ++ b.cps).size = _
  rw [Array.size_append]
  rfl
theorem ltr_len {H : Hp} {m d : Nat} {v : V} {ws : List Str} (h : LTr H m d v ws) : ws.length + 3 ≤ 2 ^ (d + 2) := by
  induction h with
  | @leaf d i a h hi =>
    have : 2 ^ 2 ≤ 2 ^ (d + 2) := Nat.pow_le_pow_right (by decide) (by omega)
    show 1 + 3 ≤ _
    omega
  | @neg d a v ws h _ ih =>
    have : 2 ^ (d + 1 + 2) = 2 * 2 ^ (d + 2) := by rw [Nat.pow_succ, Nat.mul_comm]
    rw [List.length_cons]
    omega
  | @two d a j v u ws us h j' _ _ i1 i2 =>
    have : 2 ^ (d + 1 + 2) = 2 * 2 ^ (d + 2) := by rw [Nat.pow_succ, Nat.mul_comm]
    simp only [List.length_append, List.length_cons, List.length_nil]
    omega
section
variable {P : Program} {w : World} {K : PySem.W.Frag} {mg : Str → Option Value} {base : Heap}
def spLTree (K : PySem.W.Frag) (f : Nat) : Sp := fun vs H Q _ => ∃ (r sc : Addr) (ns : List Int) (m d : Nat), vs = [.ref r, nI m, nI d] ∧ RowAt K H r sc ns ∧ 1 ≤ m ∧ m ≤ 6 ∧ d < f ∧ d ≤ 10 ∧ ∀ v ws H', StepR r H H' → RowAt K H' r sc ns → LTr H' m d v ws → Q v H'
def spSpell (f : Nat) : Sp := fun vs H Q _ => ∃ (z v : V) (m d : Nat) (ws : List Str), vs = [z, v] ∧ LTr H m d v ws ∧ m ≤ 6 ∧ d < f ∧ d ≤ 10 ∧ ∀ l H', Same H H' → H' l = some (.lst (ws.map V.str)) → Q (.ref l) H'
end
end Lt

set_option Elab.async false
set_option linter.all false
set_option maxRecDepth 100000
set_option maxHeartbeats 1000000
/-! _law_first -/
namespace Lt
open PySem PySem.Spec PyProof.Rows L2
theorem for_enumLT {K : PySem.W.Frag} {a : Addr} {xs : List V} {g : TG} {tb : TS} {D : Ends} {σ : L2.St} {H : Hp} (Pv : Nat → L2.St → Hp → Prop) (h0 : Pv 0 σ H) (hl : ∀ i σ H, i ≤ xs.length → Pv i σ H → SqL K H a xs)
    (hs : ∀ (i : Nat) (x : V) σ H T, xs[i]? = some x → Pv i σ H → H T = none → g (.ref T) σ (upd H T (.tup [nI i, x])) fun σ2 H2 => tb { D with nx := Pv (i + 1), ct := Pv (i + 1), bk := D.nx } σ2 H2) (hd : ∀ σ H, Pv xs.length σ H → D.nx σ H) :
    ∃ W : Nat → Nat → L2.St → Hp → Prop, (∃ m, W 0 m σ H) ∧ ∀ i m σ H, W i m σ H →
      ((Ite K a).stop i H ∧ D.nx σ H) ∨ ((Ite K a).go i H ∧ ∃ N : L2.St → Hp → Prop, (∀ σ' H', N σ' H' → ∃ m', m' < m ∧ W (i + 1) m' σ' H') ∧ ∀ x H', (Ite K a).yld i H x H' → g x σ H' fun σ2 H2 => tb { D with nx := N, ct := N, bk := D.nx } σ2 H2) := by
  refine ⟨fun i m σ H => m = xs.length - i ∧ i ≤ xs.length ∧ Pv i σ H, ⟨xs.length, by simp, Nat.zero_le _, h0⟩, ?_⟩
  rintro i m σ H ⟨rfl, hi, p⟩
  have q := hl i σ H hi p
  by_cases hlt : i < xs.length
  · refine .inr ⟨⟨xs, xs[i], q, by simp [hlt]⟩, Pv (i + 1), fun σ' H' p' => ⟨xs.length - (i + 1), by omega, rfl, hlt, p'⟩, fun x H' y => ?_⟩
    obtain ⟨T, z, rfl, hT, rfl, hz⟩ := y
    exact hs i z σ H T (hz xs q) p hT
  · have e : i = xs.length := by omega
    subst e
    exact .inl ⟨⟨xs, q, Nat.le_refl _⟩, hd σ H p⟩
def ndS : Nd → Str
  | .E => "E"
  | .W => "W"
  | .C => ")"
theorem dp_strs {K : PySem.W.Frag} {H : Hp} : ∀ ss : List Str, DpAll K H (ss.map V.str) (ss.map PyData.str)
  | [] => .nil
  | s :: ss => .cons (.str s) (dp_strs ss)
theorem depth_strs : ∀ ss : List Str, PyData.depthAll (ss.map PyData.str) = 0
  | [] => rfl
  | s :: ss => by
    show max (PyData.depth (.str s)) (PyData.depthAll (ss.map PyData.str)) = 0
    rw [depth_strs ss]
    rfl
theorem can_nds : ∀ u : List Nd, PyData.canLayAll0 ((u.map ndS).map PyData.str) = true
  | [] => rfl
  | n :: u => by
    show (PyData.canLay0 (.str (ndS n)) && PyData.canLayAll0 ((u.map ndS).map PyData.str)) = true
    rw [can_nds u, Bool.and_true]
    cases n <;> decide +kernel
theorem sh_nds (u : List Nd) : SeqAt.shaped (.list ((u.map ndS).map PyData.str)) = true := by
  show (PyData.canLayAll0 ((u.map ndS).map PyData.str) && decide (PyData.depthAll ((u.map ndS).map PyData.str) + 1 ≤ 64)) = true
  rw [can_nds, depth_strs]
  rfl
theorem eqv_nil (ss : List Str) : PyData.eqv (.list (ss.map PyData.str)) (.list []) = decide (ss = []) := by
  cases ss with
  | nil => rfl
  | cons s ss => rfl
theorem cut_tl (x : V) (xs : List V) : cutV (x :: xs) (some 1) none = xs := by
  unfold cutV
  rw [show (1 : Int) = ((1 : Nat) : Int) from rfl, HT.sIx_nat, HT.sIx_none, List.length_cons, Nat.min_eq_left (by omega)]
  show List.take (xs.length + 1 - 1) xs = xs
  rw [Nat.add_sub_cancel, List.take_length]
/-- what the law says of words -/
def dueAt (ns : List Str) (ws : List Str) : V := if (mach ns [.E] ws).1 < ws.length then nI (mach ns [.E] ws).1 else if (mach ns [.E] ws).2 = [] then .non else nI ws.length
section
variable {P : Program} {w : World} {K : PySem.W.Frag} {mg : Str → Option Value} {base : Heap}
def spFirst : Sp := fun vs H Q _ => ∃ (l : Addr) (m : Nat) (ws : List Str), vs = [.ref l, nI m] ∧ H l = some (.lst (ws.map V.str)) ∧ m ≤ 6 ∧ ws.length ≤ 1000 ∧ ∀ H', Same H H' → Q (dueAt (nmL m) ws) H'
end
end Lt

set_option Elab.async false
set_option linter.all false
set_option maxRecDepth 100000
set_option maxHeartbeats 1000000
/-! the law's words -/
namespace Lt
open PySem PySem.Spec PyProof.Rows L2
def sps (n : Nat) : Str := ⟨(List.replicate n 32).toArray⟩
theorem mul_sp : ∀ n : Nat, n ≤ 2 → Txt.mul (" " : Str) (n : Int) = sps n := by decide +kernel
theorem mulOk_sp (n : Nat) (h : n ≤ 2) : MulOk (" " : Str) (n : Int) := by
  have : n = 0 ∨ n = 1 ∨ n = 2 := by omega
  rcases this with rfl | rfl | rfl
  · exact ⟨by decide +kernel, fun h => absurd (by decide) h, fun h => absurd (by decide) h⟩
  · exact ⟨by decide +kernel, fun _ h => absurd h (by decide +kernel), fun _ h => absurd h (by decide +kernel)⟩
  · exact ⟨by decide +kernel, fun _ _ => by decide +kernel, fun _ _ => by decide +kernel⟩
def rSp : R2 := fun x y H Q => ∃ n : Nat, x = .str " " ∧ y = .int (n : Int) ∧ n ≤ 2 ∧ Q (.str (sps n)) H
theorem op_sp {X : Cx} : OpR X (binaryOp .Mult) rSp := by
  intro pins s σ H x y v u Q I rx ry h
  obtain ⟨n, rfl, rfl, hn, q⟩ := h
  obtain ⟨t, rfl⟩ := rx
  obtain ⟨t', rfl⟩ := ry
  refine SB.mul (mulOk_sp n hn) fun t' k => ⟨.str (sps n), H, I.tok _, ⟨t', ?_⟩, q⟩
  rw [mul_sp n hn]
/-- all words that the law can write -/
def allW : List Str := ["not", "and", "or", "xor", "(", ")", "x9", "x", "nor", "x00", "0", "+", "X0", xL 0, xL 1, xL 2, xL 3, xL 4, xL 5]
def wdB (w : Str) : Bool := (decide (w.cps.toList ≠ []) && w.cps.toList.all fun c => decide (c ∈ runS.cps.toList)) || (decide (w.cps.size = 1) && w.cps.toList.all fun c => decide (c ∉ runS.cps.toList) && decide (c ≠ 32)) || decide (w = wX0)
theorem wd_of {w : Str} (h : wdB w = true) : WdT w := by
  unfold wdB at h
  rw [Bool.or_eq_true, Bool.or_eq_true, Bool.and_eq_true, Bool.and_eq_true] at h
  rcases h with (⟨h1, h2⟩ | ⟨h1, h2⟩) | h
  · exact .inl ⟨of_decide_eq_true h1, fun c hc => of_decide_eq_true (List.all_eq_true.mp h2 c hc)⟩
  · obtain ⟨⟨a⟩⟩ := w
    have h1 : a.length = 1 := of_decide_eq_true h1
    match a, h1 with
    | [c], _ =>
      have h3 := List.all_eq_true.mp h2 c List.mem_cons_self
      rw [Bool.and_eq_true] at h3
      exact .inr (.inl ⟨c, rfl, of_decide_eq_true h3.1, of_decide_eq_true h3.2⟩)
  · exact .inr (.inr (of_decide_eq_true h))
theorem allW_ok : ∀ w ∈ allW, wdB w = true ∧ w.length ≤ 3 := by decide +kernel
theorem allW_x : ∀ i, i < 6 → xL i ∈ allW := by decide +kernel
def opW (ws : List Str) : Nat := (ws.filter isOpen).length
theorem opW_app (a b : List Str) : opW (a ++ b) = opW a + opW b := by unfold opW; rw [List.filter_append, List.length_append]
theorem opW_one (w : Str) : opW [w] ≤ 1 := by unfold opW; exact List.length_filter_le _ _
theorem opW_td (ws : List Str) (i : Nat) : opW (ws.take i) + opW (ws.drop i) = opW ws := by rw [← opW_app, List.take_append_drop]
theorem opW_dr (ws : List Str) (i : Nat) : opW (ws.drop (i + 1)) ≤ opW (ws.drop i) := by
  have := opW_td (ws.drop i) 1
  rw [List.drop_drop] at this
  omega
theorem xL_open : ∀ i, i < 6 → isOpen (xL i) = false := by decide +kernel
theorem ltr_all {H : Hp} {m d : Nat} {v : V} {ws : List Str} (hm : m ≤ 6) (h : LTr H m d v ws) : opW ws + 1 ≤ 2 ^ d ∧ ∀ w ∈ ws, w ∈ allW := by
  induction h with
  | @leaf d i a h hi =>
    have h1 : 1 ≤ 2 ^ d := Nat.one_le_two_pow
    refine ⟨?_, fun w hw => ?_⟩
    · have : opW [xL i] = 0 := by unfold opW; rw [List.filter_cons, xL_open i (by omega)]; rfl
      omega
    · rw [List.mem_singleton.mp hw]
      exact allW_x i (by omega)
  | @neg d a v ws h _ ih =>
    have : 2 ^ (d + 1) = 2 * 2 ^ d := by rw [Nat.pow_succ, Nat.mul_comm]
    have h1 : 1 ≤ 2 ^ d := Nat.one_le_two_pow
    have h2 := opW_app [wNot] ws
    have h3 := opW_one wNot
    refine ⟨?_, fun w hw => ?_⟩
    · show opW ([wNot] ++ ws) + 1 ≤ _
      omega
    · rcases List.mem_cons.mp hw with rfl | hw
      · exact by decide +kernel
      · exact ih.2 w hw
  | @two d a j v u ws us h hj _ _ i1 i2 =>
    have : 2 ^ (d + 1) = 2 * 2 ^ d := by rw [Nat.pow_succ, Nat.mul_comm]
    have h3 := opW_one wOp
    have h4 : opW [j] = 0 := by
      have : ∀ j ∈ joins, opW [j] = 0 := by decide +kernel
      exact this j hj
    have h5 : opW [wCl] = 0 := by decide +kernel
    refine ⟨?_, fun w hw => ?_⟩
    · simp only [opW_app]
      omega
    · simp only [List.mem_append, List.mem_singleton] at hw
      rcases hw with (((rfl | hw) | rfl) | hw) | rfl
      · exact by decide +kernel
      · exact i1.2 w hw
      · have : ∀ j ∈ joins, j ∈ allW := by decide +kernel
        exact this _ hj
      · exact i2.2 w hw
      · exact by decide +kernel
theorem open_no : ¬ isOpen ("X" : Str) = true ∧ ¬ isOpen ("0" : Str) = true ∧ ¬ isOpen wVoid = true := by decide +kernel
theorem opens_flat : ∀ P : List Tok, opens (P.flatMap flat) ≤ opW (P.map (·.2))
  | [] => Nat.le_refl _
  | t :: P => by
    have ih := opens_flat P
    rw [List.flatMap_cons, List.map_cons]
    have h1 := opW_app [t.2] (P.map (·.2))
    have h2 : opens (flat t ++ P.flatMap flat) = opens (flat t) + opens (P.flatMap flat) := by unfold opens; rw [List.filter_append, List.length_append]
    have h3 : opens (flat t) ≤ opW [t.2] := by
      unfold flat
      split
      · have e : opens [(t.1, ("X" : Str)), (t.1 + 1, ("0" : Str))] = 0 := by
          unfold opens
          rw [List.filter_cons, List.filter_cons, if_neg open_no.1, if_neg open_no.2.1]
          rfl
        omega
      · unfold opens opW
        rw [List.filter_cons, List.filter_cons]
        split <;> exact Nat.le_refl _
    show _ ≤ opW ([t.2] ++ P.map (·.2))
    omega
theorem opens_toks (P : List Tok) (e : Nat) : opens (toks P e) ≤ opW (P.map (·.2)) := by
  have h := opens_flat P
  have h2 : opens (toks P e) = opens (P.flatMap flat) + opens [(e, wVoid)] := by unfold toks opens; rw [List.filter_append, List.length_append]
  have h3 : opens [(e, wVoid)] = 0 := by unfold opens; rw [List.filter_cons, if_neg open_no.2.2]; rfl
  omega
theorem nms_ok : ∀ m, m ≤ 6 → (wNot ∉ nmL m ∧ wOp ∉ nmL m ∧ wVoid ∉ nmL m) ∧ wX0 ∉ nmL m ∧ ("X" : Str) ∉ nmL m := by decide +kernel
theorem lex_bt {T : List Nat} {P : List Tok} (h : Bt T P) (n : Nat) (hn : n < 2) {x : Str} (hx : x.cps.toList = T ++ List.replicate n 32) : lexWords x = toks P x.length := by
  have e : x.cps.toList.length = x.length := Array.length_toList
  unfold lexWords lexWords.toks'
  rw [hx, h.all n hn, ← hx, e]
  rfl
/-- what the program does with the law's text -/
theorem prog_law {m : Nat} (hm : m ≤ 6) {T : List Nat} {P : List Tok} (h : Bt T P) (n : Nat) (hn : n < 2) {x : Str} (hx : x.cps.toList = T ++ List.replicate n 32) (ho : opW (P.map (·.2)) ≤ 20) :
    let k := (mach (nmL m) [.E] (P.map (·.2))).1
    let u := (mach (nmL m) [.E] (P.map (·.2))).2
    let due : Option Nat := if k < P.length then P[k]?.map (·.1) else if u = [] then none else some x.length
    (∀ p, prs (nmL m) 21 0 (lexWords x) = .error p → due = some p) ∧
    (∀ r, prs (nmL m) 21 0 (lexWords x) = .ok r → (r.length < 2 → due = none) ∧ ∀ t r', r = t :: r' → 2 ≤ r.length → due = some t.1) := by
  dsimp only
  obtain ⟨⟨a1, a2, a3⟩, a4, a5⟩ := nms_ok m hm
  have N : Nms (nmL m) := ⟨a1, a2, a3⟩
  have eL := lex_bt h n hn hx
  have hop := opens_toks P x.length
  have A := prs_mach N 21 0 (lexWords x) [] (lexWords_ends x) (by rw [eL]; omega) (by rw [eL]; omega)
  obtain ⟨b1, b2, b3⟩ := toks_mach N a4 a5 x.length P [.E]
  rw [eL] at A ⊢
  refine ⟨fun p hp => ?_, fun r hp => ?_⟩
  · rw [hp] at A
    obtain ⟨t, c1, c2, c3⟩ := A
    rw [b1] at c1 c3
    have b4 := b3 t c1
    by_cases hl : (mach (nmL m) [.E] (P.map (·.2))).1 < P.length
    · rw [if_pos hl] at b4 ⊢
      rw [b4.1, c2]
    · rw [if_neg hl] at b4 ⊢
      rw [if_neg c3, ← b4.1, c2]
  · rw [hp] at A
    obtain ⟨c0, k, c1, _, c2⟩ := A
    have c3 : mach (nmL m) [] (r.map (·.2)) = (0, []) := by
      cases r with
      | nil => exact absurd rfl c0.ne
      | cons t r => exact mach_none rfl
    rw [c3, b1] at c2
    have ek : (mach (nmL m) [.E] (P.map (·.2))).1 = k := by rw [c2]; rfl
    have eu : (mach (nmL m) [.E] (P.map (·.2))).2 = [] := by rw [c2]
    have hr : r.length = (toks P x.length).length - k := by rw [c1, List.length_drop]
    have hpos := List.length_pos_iff.mpr c0.ne
    obtain ⟨t0, r0, er⟩ : ∃ t r', r = t :: r' := by
      cases r with
      | nil => exact absurd rfl c0.ne
      | cons t r => exact ⟨t, r, rfl⟩
    have hg : (toks P x.length)[k]? = some t0 := by
      rw [er] at c1
      exact drop_get (n := 0) c1 rfl
    rw [ek] at b3 ⊢
    have b4 := b3 t0 hg
    refine ⟨fun h2 => ?_, fun t r' e h2 => ?_⟩
    · by_cases hl : k < P.length
      · rw [if_pos hl] at b4
        have := b4.2
        omega
      · rw [if_neg hl, if_pos eu]
    · have et : t = t0 := by rw [er] at e; injection e with e _; exact e.symm
      by_cases hl : k < P.length
      · rw [if_pos hl] at b4 ⊢
        rw [b4.1, et]
      · rw [if_neg hl] at b4
        have := b4.2
        omega
end Lt

set_option Elab.async false
set_option linter.all false
set_option maxRecDepth 100000
set_option maxHeartbeats 2000000
/-! comprehensions whose parts draw from the row -/
namespace Lt
open PySem PySem.Spec PyProof.Rows L2
section
variable {K : PySem.W.Frag} {te : TE} {vs : List Nat} {σ : L2.St} {H1 : Hp} {D r sc : Addr} {ns : List Int} {Qd : Hp → Prop} {β : Type} {j : Nat}
def Cd (K : PySem.W.Frag) (r sc : Addr) (ns : List Int) (H1 : Hp) (D : Addr) (R : Hp → V → β → Prop) (ok : β → Prop) (i : Nat) (H : Hp) : Prop :=
  StepR r H1 H ∧ RowAt K H r sc ns ∧ ∃ zs bs, H D = some (.lst zs) ∧ Paired (R H) zs bs ∧ bs.length = i ∧ ∀ b ∈ bs, ok b
theorem cd_zero {R : Hp → V → β → Prop} {ok : β → Prop} (ra : RowAt K H1 r sc ns) (hD : H1 D = none) : Cd K r sc ns H1 D R ok 0 (upd H1 D (.lst [])) :=
  ⟨.of (same_new hD), ra.step (same_new hD), [], [], upd_same, .nil, rfl, fun _ h => nomatch h⟩
theorem cd_turn {R : Hp → V → β → Prop} {ok : β → Prop} {i : Nat} {H : Hp} {σ2 : L2.St} (mono : ∀ H H' v b, Tm H H' → R H v b → R H' v b) (ra1 : RowAt K H1 r sc ns) (hD : H1 D = none) (p : Cd K r sc ns H1 D R ok i H) (hi : i < 100000)
    (he : ∀ H, StepR r H1 H → RowAt K H r sc ns → ∀ Q : VK, (∀ v H' b, StepR r H H' → RowAt K H' r sc ns → R H' v b → ok b → Q v H') → te σ2 H Q) :
    te σ2 H fun y H4 => ∃ acc, H4 D = some (.lst acc) ∧ acc.length < sizeLine ∧ Cd K r sc ns H1 D R ok (i + 1) (upd H4 D (.lst (acc ++ [y]))) := by
  obtain ⟨st, ra, zs, bs, hz, pr, hl, hok⟩ := p
  refine he H st ra _ fun v H4 b st4 ra4 hr hb => ?_
  have hDr : D ≠ r := (ra1.ne hD).symm
  have h4 := st4 _ _ hDr hz
  have t4 : Tm H4 (upd H4 D (.lst (zs ++ [v]))) := Tm.lst h4
  have hzl := Paired.length pr
  refine ⟨zs, h4, by rw [hzl, hl]; exact Nat.lt_of_lt_of_le hi (by decide), (st.trans st4).mut hD, RowAt.mut ra1 hD ra4, zs ++ [v], bs ++ [b], upd_same, ?_, by rw [List.length_append, hl]; rfl, fun c hc => ?_⟩
  · exact Paired.app (paired_mono (fun a b q => mono _ _ _ _ ((st4.tm ra).trans t4) q) pr) (Paired.one (mono _ _ _ _ t4 hr))
  · rcases List.mem_append.mp hc with h | h
    · exact hok c h
    · rw [List.mem_singleton.mp h]
      exact hb
/-- over a range -/
theorem lc_rangeS {n : Nat} (R : Hp → V → β → Prop) (ok : β → Prop) (mono : ∀ H H' v b, Tm H H' → R H v b → R H' v b) (ra : RowAt K H1 r sc ns) (hz : n ≤ 100000) (hD : H1 D = none)
    (hw : ∀ x, wipe ((wipe σ vs).set j (some x)) vs = wipe σ vs)
    (he : ∀ (i : Nat), i < n → ∀ H, StepR r H1 H → RowAt K H r sc ns → ∀ Q : VK, (∀ v H' b, StepR r H H' → RowAt K H' r sc ns → R H' v b → ok b → Q v H') → te ((wipe σ vs).set j (some (.int ((0 : Int) + (i : Nat))))) H Q)
    (hd : ∀ H zs bs, StepR r H1 H → RowAt K H r sc ns → H D = some (.lst zs) → Paired (R H) zs bs → bs.length = n → (∀ b ∈ bs, ok b) → Qd H) :
    ∃ W : Nat → Nat → Hp → Prop, (∃ m, W 0 m (upd H1 D (.lst []))) ∧ ∀ i m H, W i m H →
      ((Itr 0 n).stop i H ∧ Qd H) ∨ ((Itr 0 n).go i H ∧ ∃ Nx : Hp → Prop, (∀ H', Nx H' → ∃ m', m' < m ∧ W (i + 1) m' H') ∧ ∀ x H', (Itr 0 n).yld i H x H' → gName j x (wipe σ vs) H' fun σ2 H2 => wipe σ2 vs = wipe σ vs ∧ tYes σ2 H2 fun b H3 =>
        if b = true then te σ2 H3 fun y H4 => ∃ acc, H4 D = some (.lst acc) ∧ acc.length < sizeLine ∧ Nx (upd H4 D (.lst (acc ++ [y]))) else Nx H3) :=
  lc_range (lo := 0) (n := n) (Cd K r sc ns H1 D R ok) (cd_zero ra hD)
    (fun i H hi p => ⟨hw _, iteT (B := Cd K r sc ns H1 D R ok (i + 1) H) (cd_turn mono ra hD p (by omega) (he i hi))⟩)
    (fun H p => by
      obtain ⟨st, ra', zs, bs, h1, pr, hl, hok⟩ := p
      exact hd H zs bs st ra' h1 pr hl hok)
/-- over a list that stays -/
theorem lc_listS {a : Addr} {xs : List V} (R : Hp → V → β → Prop) (ok : β → Prop) (mono : ∀ H H' v b, Tm H H' → R H v b → R H' v b) (ra : RowAt K H1 r sc ns) (hx : H1 a = some (.lst xs)) (har : a ≠ r) (hz : xs.length ≤ 100000) (hD : H1 D = none)
    (hw : ∀ x, wipe ((wipe σ vs).set j (some x)) vs = wipe σ vs)
    (he : ∀ (i : Nat) (x : V), xs[i]? = some x → ∀ H, StepR r H1 H → RowAt K H r sc ns → ∀ Q : VK, (∀ v H' b, StepR r H H' → RowAt K H' r sc ns → R H' v b → ok b → Q v H') → te ((wipe σ vs).set j (some x)) H Q)
    (hd : ∀ H zs bs, StepR r H1 H → RowAt K H r sc ns → H D = some (.lst zs) → Paired (R H) zs bs → bs.length = xs.length → (∀ b ∈ bs, ok b) → Qd H) :
    ∃ W : Nat → Nat → Hp → Prop, (∃ m, W 0 m (upd H1 D (.lst []))) ∧ ∀ i m H, W i m H →
      ((Itl K a).stop i H ∧ Qd H) ∨ ((Itl K a).go i H ∧ ∃ Nx : Hp → Prop, (∀ H', Nx H' → ∃ m', m' < m ∧ W (i + 1) m' H') ∧ ∀ x H', (Itl K a).yld i H x H' → gName j x (wipe σ vs) H' fun σ2 H2 => wipe σ2 vs = wipe σ vs ∧ tYes σ2 H2 fun b H3 =>
        if b = true then te σ2 H3 fun y H4 => ∃ acc, H4 D = some (.lst acc) ∧ acc.length < sizeLine ∧ Nx (upd H4 D (.lst (acc ++ [y]))) else Nx H3) :=
  lc_list (xs := xs) (Cd K r sc ns H1 D R ok) (cd_zero ra hD) (fun i H _ p => SqL.of (p.1 _ _ har hx))
    (fun i x H hi p => ⟨hw x, iteT (B := Cd K r sc ns H1 D R ok (i + 1) H) (by
      have hl := (List.getElem?_eq_some_iff.mp hi).1
      exact cd_turn mono ra hD p (by omega) (he i x hi))⟩)
    (fun H p => by
      obtain ⟨st, ra', zs, bs, h1, pr, hl, hok⟩ := p
      exact hd H zs bs st ra' h1 pr hl hok)
end
theorem rn_mono : ∀ (H H' : Hp) (v : V) (b : Nat), Tm H H' → RN H v b → RN H' v b := fun _ _ _ _ _ r => r
end Lt

set_option Elab.async false
set_option linter.all false
set_option maxRecDepth 100000
set_option maxHeartbeats 1000000
/-! k04: the law's trees and texts -/
namespace Lt
open PySem PySem.Spec PyProof.Rows L2
/-- the law's tree -/
def Fm.LAt (H : Hp) : Fm → V → Prop
  | .x i, v => ∃ a, v = .ref a ∧ H a = some (.tup [.str "x", nI i])
  | .no f, v => ∃ a u, v = .ref a ∧ H a = some (.tup [.str wNot, u]) ∧ f.LAt H u
  | .two j f g, v => ∃ a u t, v = .ref a ∧ H a = some (.tup [.str j, u, t]) ∧ f.LAt H u ∧ g.LAt H t
theorem Fm.LAt.tm {H H' : Hp} (e : Tm H H') : ∀ {f : Fm} {v : V}, f.LAt H v → f.LAt H' v
  | .x _, _, ⟨a, h1, h2⟩ => ⟨a, h1, e.1 _ _ h2⟩
  | .no _, _, ⟨a, u, h1, h2, h3⟩ => ⟨a, u, h1, e.1 _ _ h2, Fm.LAt.tm e h3⟩
  | .two _ _ _, _, ⟨a, u, t, h1, h2, h3, h4⟩ => ⟨a, u, t, h1, e.1 _ _ h2, Fm.LAt.tm e h3, Fm.LAt.tm e h4⟩
def spellOf (x : Str) : List Str := (lexS [] x.cps.toList).1 ++ flW (lexS [] x.cps.toList).2
theorem cps_app (a b : Str) : (a ++ b).cps.toList = a.cps.toList ++ b.cps.toList := Array.toList_append
theorem Str_assoc (a b c : Str) : a ++ b ++ c = a ++ (b ++ c) := by
  show (⟨(a.cps ++ b.cps) ++ c.cps⟩ : Str) = ⟨a.cps ++ (b.cps ++ c.cps)⟩
  rw [Array.append_assoc]
theorem sps_cps (n : Nat) : (sps n).cps.toList = List.replicate n 32 := rfl
theorem xN_run : ∀ i, i < 6 → ((xN i).cps.toList.all isRun = true ∧ (xN i).cps.toList ≠ []) := by decide +kernel
theorem lex_gap (n : Nat) (z : List Nat) : lexS [] (List.replicate n 32 ++ z) = lexS [] z := by
  rw [lexS_app, lexS_sps, List.nil_append]
theorem flW_run {w : Str} (h : w.cps.toList ≠ []) : flW w.cps.toList = [w] := by
  unfold flW
  rw [if_neg h]
theorem tx_leaf (g : Nat) {i : Nat} (hi : i < 6) : spellOf (sps g ++ xN i) = [xN i] := by
  unfold spellOf
  obtain ⟨h1, h2⟩ := xN_run i hi
  rw [cps_app, sps_cps, lex_gap, lexS_run fun c hc => List.all_eq_true.mp h1 c hc, List.nil_append, List.nil_append, flW_run h2]
theorem not_cps : ("not " : Str).cps.toList = wNot.cps.toList ++ [32] := by decide +kernel
theorem not_run : wNot.cps.toList.all isRun = true ∧ wNot.cps.toList ≠ [] := by decide +kernel
theorem lex_wsp {w : Str} (h1 : w.cps.toList.all isRun = true) (h2 : w.cps.toList ≠ []) (z : List Nat) : lexS [] (w.cps.toList ++ ([32] ++ z)) = (w :: (lexS [] z).1, (lexS [] z).2) := by
  rw [lexS_app, lexS_run fun c hc => List.all_eq_true.mp h1 c hc, lexS_app, show ([32] : List Nat) = List.replicate (0 + 1) 32 from rfl, lexS_sp, List.nil_append, List.nil_append, flW_run h2]
  rfl
theorem tx_not (g : Nat) (x : Str) : spellOf (sps g ++ ("not " : Str) ++ x) = wNot :: spellOf x := by
  unfold spellOf
  rw [cps_app, cps_app, sps_cps, List.append_assoc, lex_gap, not_cps, List.append_assoc, lex_wsp not_run.1 not_run.2]
  rfl
theorem op_cps : wOp.cps.toList = [40] ∧ wCl.cps.toList = [41] ∧ wOp = ⟨#[40]⟩ ∧ wCl = ⟨#[41]⟩ ∧ isRun 40 = false ∧ isRun 41 = false := by decide +kernel
theorem join_run {j : Str} (h : j ∈ joins) : j.cps.toList.all isRun = true ∧ j.cps.toList ≠ [] := by
  have : ∀ j ∈ joins, j.cps.toList.all isRun = true ∧ j.cps.toList ≠ [] := by decide +kernel
  exact this j h
theorem lexS_op (z : List Nat) : lexS [] ([40] ++ z) = (wOp :: (lexS [] z).1, (lexS [] z).2) := by
  show lexS [] (40 :: z) = _
  rw [lexS, if_neg (by rw [op_cps.2.2.2.2.1]; decide), op_cps.2.2.1]
  rfl
theorem tx_two (g : Nat) {j : Str} (hj : j ∈ joins) (x y : Str) : spellOf (sps g ++ wOp ++ x ++ (" " : Str) ++ j ++ (" " : Str) ++ y ++ sps g ++ wCl) = wOp :: (spellOf x ++ (j :: (spellOf y ++ [wCl]))) := by
  unfold spellOf
  obtain ⟨r1, r2⟩ := join_run hj
  have sp : (" " : Str).cps.toList = [32] := by decide +kernel
  simp only [cps_app, sps_cps, sp, op_cps.1, op_cps.2.1, List.append_assoc]
  rw [lex_gap, lexS_op, lexS_app]
  generalize lexS [] x.cps.toList = A
  obtain ⟨A1, A2⟩ := A
  have h32 : ∀ z, lexS A2 ([32] ++ z) = (flW A2 ++ (lexS [] z).1, (lexS [] z).2) := fun z => by
    rw [lexS_app, show ([32] : List Nat) = List.replicate (0 + 1) 32 from rfl, lexS_sp]
  simp only [h32]
  rw [lex_wsp r1 r2, lexS_app]
  generalize lexS [] y.cps.toList = C
  obtain ⟨C1, C2⟩ := C
  have hcl : ∀ cur, lexS cur [41] = (flW cur ++ [wCl], []) := fun cur => by
    rw [lexS, if_neg (by rw [op_cps.2.2.2.2.2]; decide), op_cps.2.2.2.1]
    show (flW cur ++ (if 41 = 32 then [] else [⟨#[41]⟩]) ++ [], []) = _
    rw [if_neg (by decide), List.append_nil]
  have hgc : lexS C2 (List.replicate g 32 ++ [41]) = (flW C2 ++ [wCl], []) := by
    cases g with
    | zero => exact hcl C2
    | succ g => rw [lexS_app, lexS_sp]; dsimp only; rw [hcl []]; rfl
  simp only [hgc]
  show wOp :: (A1 ++ (flW A2 ++ j :: (C1 ++ (flW C2 ++ [wCl])))) ++ flW [] = _
  simp [flW]
def capT (d : Nat) : Nat := 15 * 2 ^ d - 11
theorem capT_s (d : Nat) : 11 + 2 * capT d ≤ capT (d + 1) ∧ 6 + capT d ≤ capT (d + 1) ∧ 4 ≤ capT d := by
  unfold capT
  have := Nat.one_le_two_pow (n := d)
  rw [Nat.pow_succ]
  omega
section
variable {P : Program} {w : World} {K : PySem.W.Frag} {mg : Str → Option Value} {base : Heap}
def spLT (K : PySem.W.Frag) (fu : Nat) : Sp := fun vs H Q _ => ∃ (r sc : Addr) (ns : List Int) (m d : Nat), vs = [.ref r, nI m, nI d] ∧ RowAt K H r sc ns ∧ 1 ≤ m ∧ m ≤ 6 ∧ d < fu ∧ d ≤ 10 ∧
  ∀ (v : V) (H' : Hp) (f : Fm), f.Ok m → f.deep ≤ d → StepR r H H' → RowAt K H' r sc ns → f.LAt H' v → Q v H'
/-! ### _law_text -/
def spLTxt (K : PySem.W.Frag) (fu : Nat) : Sp := fun vs H Q _ => ∃ (r sc : Addr) (ns : List Int) (m d : Nat) (v : V) (f : Fm), vs = [.ref r, v] ∧ RowAt K H r sc ns ∧ m ≤ 6 ∧ f.Ok m ∧ f.deep ≤ d ∧ d < fu ∧ d ≤ 10 ∧ f.LAt H v ∧
  ∀ x H', StepR r H H' → RowAt K H' r sc ns → spellOf x = f.spell → x.length ≤ capT d → Q (.str x) H'
theorem sps_len (n : Nat) : (sps n).length = n := by
  show (List.replicate n 32).toArray.size = n
  rw [List.size_toArray, List.length_replicate]
theorem wlen1 : ("(" : Str).length = 1 ∧ (")" : Str).length = 1 ∧ (" " : Str).length = 1 ∧ ("not " : Str).length = 4 ∧ ("x" : Str).length = 1 := by decide +kernel
theorem join_len {j : Str} (h : j ∈ joins) : j.length ≤ 3 := by
  have : ∀ j ∈ joins, j.length ≤ 3 := by decide +kernel
  exact this j h
theorem xd_len : ∀ i, i < 6 → (Str.ofString (toString ((i : Nat) : Int))).length = 1 ∧ (("x" : Str) ++ Str.ofString (toString ((i : Nat) : Int))) = xN i := by decide +kernel
end
end Lt

set_option Elab.async false
set_option linter.all false
set_option maxRecDepth 100000
set_option maxHeartbeats 1000000
/-! the law's rows of bits, what its trees come to -/
namespace Lt
open PySem PySem.Spec PyProof.Rows L2
def bitsR (n t : Nat) : List Nat := (List.range n).map fun i => t / 2 ^ i % 2
def rowsB (n : Nat) : List (List Nat) := (List.range (2 ^ n)).map (bitsR n)
theorem bitsR_len (n t : Nat) : (bitsR n t).length = n := by unfold bitsR; rw [List.length_map, List.length_range]
theorem bitsR_le {n t b : Nat} (h : b ∈ bitsR n t) : b ≤ 1 := by
  unfold bitsR at h
  obtain ⟨i, _, rfl⟩ := List.mem_map.mp h
  omega
theorem bitsR_get {n t i : Nat} (h : i < n) : (bitsR n t)[i]? = some (t / 2 ^ i % 2) := by
  unfold bitsR
  rw [List.getElem?_map, List.getElem?_range h]
  rfl
theorem rowsB_len (n : Nat) : (rowsB n).length = 2 ^ n := by unfold rowsB; rw [List.length_map, List.length_range]
theorem rowsB_get {n t : Nat} (h : t < 2 ^ n) : (rowsB n)[t]? = some (bitsR n t) := by
  unfold rowsB
  rw [List.getElem?_map, List.getElem?_range h]
  rfl
theorem bitsR_succ (n t : Nat) : bitsR (n + 1) t = bitsR n t ++ [t / 2 ^ n % 2] := by
  unfold bitsR
  rw [List.range_succ, List.map_append]
  rfl
theorem bitsR_high (n t : Nat) : bitsR n (2 ^ n + t) = bitsR n t := by
  unfold bitsR
  refine List.map_congr_left fun i hi => ?_
  have hi := List.mem_range.mp hi
  obtain ⟨d, rfl⟩ : ∃ d, n = i + (d + 1) := ⟨n - i - 1, by omega⟩
  rw [Nat.pow_add, Nat.mul_add_div (Nat.two_pow_pos i), Nat.pow_succ]
  omega
theorem rowsB_succ (n : Nat) : rowsB (n + 1) = (rowsB n).map (· ++ [0]) ++ (rowsB n).map (· ++ [1]) := by
  unfold rowsB
  have e : 2 ^ (n + 1) = 2 ^ n + 2 ^ n := by rw [Nat.pow_succ]; omega
  rw [e, List.range_add, List.map_append, List.map_map, List.map_map, List.map_map]
  congr 1
  · refine List.map_congr_left fun t ht => ?_
    have ht := List.mem_range.mp ht
    show bitsR (n + 1) t = bitsR n t ++ [0]
    rw [bitsR_succ, Nat.div_eq_of_lt ht]
  · refine List.map_congr_left fun t ht => ?_
    have ht := List.mem_range.mp ht
    show bitsR (n + 1) (2 ^ n + t) = bitsR n t ++ [1]
    rw [bitsR_succ, bitsR_high, Nat.add_div_left _ (Nat.two_pow_pos n), Nat.div_eq_of_lt ht]
theorem bitsR_zero (n t : Nat) : bitsR n t = [] ↔ n = 0 := by
  constructor
  · intro h
    have := congrArg List.length h
    rw [bitsR_len] at this
    exact this
  · intro h
    subst h
    rfl
section
variable {P : Program} {w : World} {K : PySem.W.Frag} {mg : Str → Option Value} {base : Heap}
def LKb (H : Hp) (p : Addr) (ts : List (List Nat)) : Prop := ∃ xs, H p = some (.lst xs) ∧ Paired (TK H) xs ts
theorem TKbs.tm {H H' : Hp} (e : Tm H H') : ∀ {xs : List V} {ts : List (List Nat)}, Paired (TK H) xs ts → Paired (TK H') xs ts
  | _, _, .nil => .nil
  | _, _, .cons r t => .cons (r.tm e) (TKbs.tm e t)
theorem LKb.same {H H' : Hp} {p : Addr} {ts : List (List Nat)} (h : LKb H p ts) (s : Same H H') : LKb H' p ts := let ⟨xs, a, b⟩ := h; ⟨xs, s _ _ a, TKbs.tm (.of s) b⟩
def spLBits : Sp := fun vs H Q _ => ∃ m : Nat, vs = [nI m] ∧ m ≤ 6 ∧ ∀ p H', Same H H' → H p = none → LKb H' p (rowsB m) → Q (.ref p) H'
theorem rows_cap {n : Nat} (h : n ≤ 6) : (rowsB n).length ≤ 64 := by rw [rowsB_len]; exact pow6 h
/-- one side: bits and one more -/
theorem bits_side {j : Nat} {te : TE} {vs : List Nat} {σ : L2.St} {H1 : Hp} {D fl : Addr} {Qd : Hp → Prop} {n b : Nat} {xs : List V} (hx : H1 fl = some (.lst xs)) (px : Paired (TK H1) xs (rowsB n)) (hn : n ≤ 6) (hD : H1 D = none)
    (hw : ∀ x, wipe ((wipe σ vs).set j (some x)) vs = wipe σ vs)
    (hte : ∀ (x : V) (a : Addr) (t : List Nat) (H : Hp) (Q : VK), x = .ref a → H a = some (.tup (nIs t)) → t.length ≤ 10 → (∀ v H', Same H H' → TK H' v (t ++ [b]) → Q v H') → te ((wipe σ vs).set j (some x)) H Q)
    (hd : ∀ H zs, Same H1 H → H D = some (.lst zs) → Paired (TK H) zs ((rowsB n).map (· ++ [b])) → Qd H) :
    ∃ W : Nat → Nat → Hp → Prop, (∃ m, W 0 m (upd H1 D (.lst []))) ∧ ∀ i m H, W i m H →
      ((Itl K fl).stop i H ∧ Qd H) ∨ ((Itl K fl).go i H ∧ ∃ Nx : Hp → Prop, (∀ H', Nx H' → ∃ m', m' < m ∧ W (i + 1) m' H') ∧ ∀ x H', (Itl K fl).yld i H x H' → gName j x (wipe σ vs) H' fun σ2 H2 => wipe σ2 vs = wipe σ vs ∧ tYes σ2 H2 fun b H3 =>
        if b = true then te σ2 H3 fun y H4 => ∃ acc, H4 D = some (.lst acc) ∧ acc.length < sizeLine ∧ Nx (upd H4 D (.lst (acc ++ [y]))) else Nx H3) := by
  have hxl := Paired.length px
  have h64 := rows_cap hn
  refine lc_listM (xs := xs) (fun H v t => TK H v t) ((rowsB n).map (· ++ [b])) (fun H H' v t e r => TK.tm e r) (fun H s => SqL.of (s _ _ hx)) (by omega) (by rw [List.length_map, hxl]) hD hw (fun i x t hi ht H s Q q => ?_) hd
  obtain ⟨t0, h0, a, rfl, ha⟩ := Paired.getL px hi
  rw [List.getElem?_map, h0] at ht
  have ht : t0 ++ [b] = t := Option.some.inj ht
  subst ht
  have hl : t0.length ≤ 10 := by
    obtain ⟨t', _, e⟩ := List.mem_map.mp (List.mem_of_getElem? h0)
    rw [← e, bitsR_len]
    omega
  exact hte _ a t0 H _ rfl (s _ _ ha) hl q
end
end Lt

set_option Elab.async false
set_option linter.all false
set_option maxRecDepth 100000
set_option maxHeartbeats 1000000
/-! what the law's tree comes to on a row of bits -/
namespace Lt
open PySem PySem.Spec PyProof.Rows L2
def evL : Fm → List Nat → Nat
  | .x i, bs => bs.getD i 0
  | .no f, bs => 1 - evL f bs
  | .two j f g, bs => if j = ("and" : Str) then evL f bs * evL g bs else if j = ("or" : Str) then max (evL f bs) (evL g bs) else (evL f bs + evL g bs) % 2
theorem evL_bits {m t : Nat} : ∀ {f : Fm}, f.Ok m → evL f (bitsR m t) = evF f t
  | .x i, h => by
    have h : i < m := h
    show (bitsR m t).getD i 0 = t / 2 ^ i % 2
    rw [List.getD_eq_getElem?_getD, bitsR_get h]
    rfl
  | .no f, h => by
    show 1 - evL f _ = 1 - evF f t
    rw [evL_bits (f := f) h]
  | .two j f g, h => by
    obtain ⟨_, h1, h2⟩ := h
    unfold evL evF
    rw [evL_bits h1, evL_bits h2]
theorem evL_le {bs : List Nat} (hb : ∀ x ∈ bs, x ≤ 1) : ∀ f : Fm, evL f bs ≤ 1
  | .x i => by
    show bs.getD i 0 ≤ 1
    by_cases h : i < bs.length
    · rw [List.getD_eq_getElem?_getD, List.getElem?_eq_getElem h]
      exact hb _ (List.getElem_mem h)
    · rw [List.getD_eq_getElem?_getD, List.getElem?_eq_none (by omega)]
      exact Nat.zero_le _
  | .no f => Nat.sub_le ..
  | .two j f g => by
    have h1 := evL_le hb f
    have h2 := evL_le hb g
    unfold evL
    split
    · exact Nat.le_trans (Nat.mul_le_mul h1 h2) (by decide)
    · split
      · omega
      · omega
section
variable {X : Cx}
theorem op_modN2 : OpR X (binaryOp .Mod) (fun x y H Q => ∃ n m : Nat, x = .int (n : Int) ∧ y = .int (m : Int) ∧ 1 ≤ m ∧ Q (.int ((n % m : Nat) : Int)) H) := by
  intro pins s σ H x y v u Q I rx ry h
  obtain ⟨n, m, rfl, rfl, hm, q⟩ := h
  refine op_modN pins s σ H _ _ v u Q I rx ry ⟨_, _, rfl, rfl, by omega, ?_⟩
  have e : Int.fmod (n : Int) (m : Int) = ((n % m : Nat) : Int) := by rw [Int.fmod_eq_emod_of_nonneg _ (by omega), Int.natCast_emod]
  show Q (.int (Int.fmod (n : Int) (m : Int))) H
  rw [e]
  exact q
end
theorem val3 {j : Str} (hj : j ∈ joins) (u1 u2 u3 : V) : valV (mergeK [] [(.inr "and", u1), (.inr "or", u2), (.inr "xor", u3)]) (.inr j) = some (if j = ("and" : Str) then u1 else if j = ("or" : Str) then u2 else u3) := by
  have a1 : ("and" : Str) ≠ "or" := by decide +kernel
  have a2 : ("and" : Str) ≠ "xor" := by decide +kernel
  have a3 : ("or" : Str) ≠ "xor" := by decide +kernel
  have a4 : ("or" : Str) ≠ "and" := by decide +kernel
  have a5 : ("xor" : Str) ≠ "and" := by decide +kernel
  have a6 : ("xor" : Str) ≠ "or" := by decide +kernel
  have e : mergeK [] [((.inr "and" : Key), u1), (.inr "or", u2), (.inr "xor", u3)] = [(.inr "and", u1), (.inr "or", u2), (.inr "xor", u3)] := by
    simp only [mergeK, List.foldl_cons, List.foldl_nil, putK, List.any_nil, List.any_cons, Bool.false_eq_true, if_false, List.nil_append, Sum.inr.injEq, a1, a2, a3, decide_false, Bool.or_false, List.cons_append, List.singleton_append]
  rw [e]
  unfold valV
  unfold joins at hj
  rcases List.mem_cons.mp hj with rfl | hj
  · simp
  · rcases List.mem_cons.mp hj with rfl | hj
    · simp [a1, a4]
    · rcases List.mem_cons.mp hj with rfl | hj
      · simp [a2, a3, a5, a6]
      · cases hj
section
variable {P : Program} {w : World} {K : PySem.W.Frag} {mg : Str → Option Value} {base : Heap}
def spLW (fu : Nat) : Sp := fun vs H Q _ => ∃ (m : Nat) (b : Addr) (bs : List Nat) (v : V) (f : Fm), vs = [v, .ref b] ∧ bs.length = m ∧ (∀ x ∈ bs, x ≤ 1) ∧ H b = some (.tup (nIs bs)) ∧ f.Ok m ∧ f.deep < fu ∧ f.LAt H v ∧ ∀ H', Same H H' → Q (nI (evL f bs)) H'
end
end Lt

set_option Elab.async false
set_option linter.all false
set_option maxRecDepth 100000
set_option maxHeartbeats 1000000
/-! a comprehension with a test, over whatever is walked -/
namespace Lt
open PySem PySem.Spec PyProof.Rows L2
def Cf {β : Type} (H1 : Hp) (D : Addr) (R : Hp → V → β → Prop) (ys : List β) (i : Nat) (H : Hp) : Prop := Same H1 H ∧ ∃ zs, H D = some (.lst zs) ∧ Paired (R H) zs ys ∧ zs.length ≤ i
theorem lc_genF {J : It} {g : TG} {tt : L2.TT} {te : TE} {vs : List Nat} {σ : L2.St} {H1 : Hp} {D : Addr} {Qd : Hp → Prop} {β : Type} {n : Nat} (R : Hp → V → β → Prop) (p : Nat → Bool) (f : Nat → β) (mono : ∀ H H' v b, Tm H H' → R H v b → R H' v b) (hz : n ≤ 100000) (hD : H1 D = none)
    (hgo : ∀ i H, i < n → Same H1 H → J.go i H) (hst : ∀ H, Same H1 H → J.stop n H)
    (hs : ∀ i H x H', i < n → Same H1 H → J.yld i H x H' → Same H H' ∧ ∃ σ2, (∀ Kk : L2.St → Hp → Prop, Kk σ2 H' → g x (wipe σ vs) H' Kk) ∧ wipe σ2 vs = wipe σ vs ∧ (∀ Q, (∀ H3, Same H' H3 → Q (p i) H3) → tt σ2 H' Q) ∧
      (p i = true → ∀ H3, Same H' H3 → ∀ Q : VK, (∀ v H4, Same H3 H4 → R H4 v (f i) → Q v H4) → te σ2 H3 Q))
    (hd : ∀ H zs, Same H1 H → H D = some (.lst zs) → Paired (R H) zs (((List.range n).filter p).map f) → Qd H) :
    ∃ W : Nat → Nat → Hp → Prop, (∃ m, W 0 m (upd H1 D (.lst []))) ∧ ∀ i m H, W i m H →
      (J.stop i H ∧ Qd H) ∨ (J.go i H ∧ ∃ Nx : Hp → Prop, (∀ H', Nx H' → ∃ m', m' < m ∧ W (i + 1) m' H') ∧ ∀ x H', J.yld i H x H' → g x (wipe σ vs) H' fun σ2 H2 => wipe σ2 vs = wipe σ vs ∧ tt σ2 H2 fun b H3 =>
        if b = true then te σ2 H3 fun y H4 => ∃ acc, H4 D = some (.lst acc) ∧ acc.length < sizeLine ∧ Nx (upd H4 D (.lst (acc ++ [y]))) else Nx H3) := by
  refine ⟨fun i m H => m = n - i ∧ i ≤ n ∧ Cf H1 D R (((List.range i).filter p).map f) i H, ⟨n, by simp, Nat.zero_le _, same_new hD, [], upd_same, .nil, Nat.le_refl _⟩, ?_⟩
  rintro i m H ⟨rfl, hi, c⟩
  obtain ⟨sm, zs, h1, pr, hl⟩ := c
  by_cases hlt : i < n
  · refine .inr ⟨hgo i H hlt sm, Cf H1 D R (((List.range (i + 1)).filter p).map f) (i + 1), fun H' p' => ⟨n - (i + 1), by omega, rfl, hlt, p'⟩, fun x H' y => ?_⟩
    obtain ⟨s', σ2, hg, hw, ht, he⟩ := hs i H x H' hlt sm y
    refine hg _ ⟨hw, ht _ fun H3 s3 => ?_⟩
    have s13 := s'.trans s3
    cases hp : p i with
    | false =>
      rw [if_neg (by decide)]
      refine ⟨sm.trans s13, zs, s13 _ _ h1, ?_, by omega⟩
      rw [List.range_succ, List.filter_append]
      show Paired (R H3) zs ((List.filter p (List.range i) ++ List.filter p [i]).map f)
      rw [List.filter_cons_of_neg (by rw [hp]; decide), List.filter_nil, List.append_nil]
      exact paired_mono (fun a b r => mono _ _ _ _ (Tm.of s13) r) pr
    | true =>
      rw [if_pos rfl]
      refine he hp H3 s3 _ fun v H4 s4 r => ?_
      have s14 := s13.trans s4
      have h4 := s14 _ _ h1
      have t4 : Tm H4 (upd H4 D (.lst (zs ++ [v]))) := Tm.lst h4
      refine ⟨zs, h4, Nat.lt_of_le_of_lt hl (Nat.lt_of_lt_of_le (Nat.lt_of_lt_of_le hlt hz) (by decide)), same_mut (sm.trans s14) hD, zs ++ [v], upd_same, ?_, by rw [List.length_append]; show zs.length + 1 ≤ i + 1; omega⟩
      rw [List.range_succ, List.filter_append]
      show Paired _ _ ((List.filter p (List.range i) ++ List.filter p [i]).map f)
      rw [List.filter_cons_of_pos hp, List.filter_nil, List.map_append]
      exact Paired.app (paired_mono (fun a b q => mono _ _ _ _ ((Tm.of s14).trans t4) q) pr) (Paired.one (mono _ _ _ _ t4 r))
  · have e : i = n := by omega
    subst e
    exact .inl ⟨hst H sm, hd H zs sm h1 pr⟩
/-- over a range -/
theorem lc_rangeF {j : Nat} {tt : L2.TT} {te : TE} {vs : List Nat} {σ : L2.St} {H1 : Hp} {D : Addr} {Qd : Hp → Prop} {β : Type} {n : Nat} (R : Hp → V → β → Prop) (p : Nat → Bool) (f : Nat → β) (mono : ∀ H H' v b, Tm H H' → R H v b → R H' v b) (hz : n ≤ 100000) (hD : H1 D = none)
    (hw : ∀ x, wipe ((wipe σ vs).set j (some x)) vs = wipe σ vs)
    (ht : ∀ i H, i < n → Same H1 H → ∀ Q, (∀ H3, Same H H3 → Q (p i) H3) → tt ((wipe σ vs).set j (some (.int ((0 : Int) + (i : Nat))))) H Q)
    (he : ∀ i H, i < n → p i = true → Same H1 H → ∀ Q : VK, (∀ v H4, Same H H4 → R H4 v (f i) → Q v H4) → te ((wipe σ vs).set j (some (.int ((0 : Int) + (i : Nat))))) H Q)
    (hd : ∀ H zs, Same H1 H → H D = some (.lst zs) → Paired (R H) zs (((List.range n).filter p).map f) → Qd H) :
    ∃ W : Nat → Nat → Hp → Prop, (∃ m, W 0 m (upd H1 D (.lst []))) ∧ ∀ i m H, W i m H →
      ((Itr 0 n).stop i H ∧ Qd H) ∨ ((Itr 0 n).go i H ∧ ∃ Nx : Hp → Prop, (∀ H', Nx H' → ∃ m', m' < m ∧ W (i + 1) m' H') ∧ ∀ x H', (Itr 0 n).yld i H x H' → gName j x (wipe σ vs) H' fun σ2 H2 => wipe σ2 vs = wipe σ vs ∧ tt σ2 H2 fun b H3 =>
        if b = true then te σ2 H3 fun y H4 => ∃ acc, H4 D = some (.lst acc) ∧ acc.length < sizeLine ∧ Nx (upd H4 D (.lst (acc ++ [y]))) else Nx H3) :=
  lc_genF (J := Itr 0 n) R p f mono hz hD (fun i H hi _ => hi) (fun H _ => Nat.le_refl _) (fun i H x H' hi sm y => by
    obtain ⟨rfl, rfl⟩ := y
    exact ⟨Same.refl _, _, fun Kk q => q, hw _, fun Q q => ht i _ hi sm Q q, fun hp H3 s3 Q q => he i H3 hi hp (sm.trans s3) Q q⟩) hd
/-- over enumerate of a tuple -/
theorem lc_enumF {K : PySem.W.Frag} {g : TG} {tt : L2.TT} {te : TE} {vs : List Nat} {σ : L2.St} {H1 : Hp} {D a : Addr} {Qd : Hp → Prop} {β : Type} {j1 j2 : Nat} {xs : List V} (R : Hp → V → β → Prop) (p : Nat → Bool) (f : Nat → β) (mono : ∀ H H' v b, Tm H H' → R H v b → R H' v b)
    (hx : ∀ H, Same H1 H → SqT K H a xs) (hz : xs.length ≤ 100000) (hD : H1 D = none)
    (hg : ∀ T x (i : Nat) σ H Q, H T = some (.tup [nI i, x]) → Q ((σ.set j1 (some (nI i))).set j2 (some x)) H → g (.ref T) σ H Q)
    (hw : ∀ x y, wipe (((wipe σ vs).set j1 x).set j2 y) vs = wipe σ vs)
    (ht : ∀ i x H, xs[i]? = some x → Same H1 H → ∀ Q, (∀ H3, Same H H3 → Q (p i) H3) → tt (((wipe σ vs).set j1 (some (nI i))).set j2 (some x)) H Q)
    (he : ∀ i x H, xs[i]? = some x → p i = true → Same H1 H → ∀ Q : VK, (∀ v H4, Same H H4 → R H4 v (f i) → Q v H4) → te (((wipe σ vs).set j1 (some (nI i))).set j2 (some x)) H Q)
    (hd : ∀ H zs, Same H1 H → H D = some (.lst zs) → Paired (R H) zs (((List.range xs.length).filter p).map f) → Qd H) :
    ∃ W : Nat → Nat → Hp → Prop, (∃ m, W 0 m (upd H1 D (.lst []))) ∧ ∀ i m H, W i m H →
      ((Itet K a).stop i H ∧ Qd H) ∨ ((Itet K a).go i H ∧ ∃ Nx : Hp → Prop, (∀ H', Nx H' → ∃ m', m' < m ∧ W (i + 1) m' H') ∧ ∀ x H', (Itet K a).yld i H x H' → g x (wipe σ vs) H' fun σ2 H2 => wipe σ2 vs = wipe σ vs ∧ tt σ2 H2 fun b H3 =>
        if b = true then te σ2 H3 fun y H4 => ∃ acc, H4 D = some (.lst acc) ∧ acc.length < sizeLine ∧ Nx (upd H4 D (.lst (acc ++ [y]))) else Nx H3) :=
  lc_genF (J := Itet K a) (n := xs.length) R p f mono hz hD (fun i H hi s => ⟨xs, xs[i], hx H s, by simp [hi]⟩) (fun H s => ⟨xs, hx H s, rfl⟩) (fun i H x H' hi sm y => by
    obtain ⟨T, x, rfl, hT, rfl, hx2⟩ := y
    have hx2 := hx2 xs (hx H sm)
    have sT := same_new (o := .tup [V.int (i : Nat), x]) hT
    exact ⟨sT, _, fun Kk q => hg T x i _ _ _ upd_same q, hw _ _, fun Q q => ht i x _ hx2 (sm.trans sT) Q q, fun hp H3 s3 Q q => he i x H3 hx2 hp ((sm.trans sT).trans s3) Q q⟩) hd
end Lt

set_option Elab.async false
set_option linter.all false
set_option maxRecDepth 100000
set_option maxHeartbeats 1000000
/-! tasks.py: what is checked, the inputs and the parts of a table -/
namespace Lt
open PySem PySem.Spec PyProof.Rows L2
/-- a module's tuple of numbers -/
def Cti (K : PySem.W.Frag) (mg : Str → Option Value) (x : Str) (ns : List Int) : Prop := ∃ J : Addr, mg x = some (.ref J) ∧ ∀ H, SqT K H J (ns.map V.int)
def outD (d : PyData) : Prop := isNum d = false ∨ ∃ i, d = .int i ∧ ¬ ((1 : Int) ≤ i ∧ i ≤ 6)
def bitD01 (d : PyData) : Bool := isNum d && decide (numOf d = 0 ∨ numOf d = 1)
def tabLens : List Int := [2, 4, 8, 16, 32, 64]
def isTask : PyData → Bool
  | .tuple ds => ds.all bitD01 && tabLens.contains (ds.length : Int)
  | _ => false
/-- the inputs of a place -/
def insOf (t : Nat) : List Nat := (List.range 6).filter fun i => t / 2 ^ i % 2 == 1
section
variable {P : Program} {w : World} {K : PySem.W.Frag} {mg : Str → Option Value} {base : Heap} {CN CT : Addr}
def spCheckI (CN : Addr) : Sp := fun vs H Q E => ∃ (v : V) (d : PyData), vs = [v] ∧ Rp H v d ∧ ((∃ m : Nat, d = .int m ∧ 1 ≤ m ∧ m ≤ 6 ∧ Q .non H) ∨ (outD d ∧ Bad0 CN H E))
theorem has_check_inputs2 (T : Top K mg "check_inputs" s_check_inputs ["inputs"]) (G : ∃ u, mg "MOST_INPUTS" = some u ∧ RelV (.int 6) u) (X0 : Err0 K mg "BadNumber" CN) (hN : Has P w K mg base CX0 1 "is_number" ["value"] spNum) : Has P w K mg base (L2.CX P w) 3 "check_inputs" ["inputs"] (spCheckI CN) := by
  refine T.okX sc_check_inputs (fun vs H Q E h => ?_) (fun f cdv A outer s H vs Q E hr h => ?_)
  · obtain ⟨v, d, rfl, _⟩ := h
    rfl
  · obtain ⟨v, d, rfl, hd, cs⟩ := h
    have hr1 : Room 1 _ := hr.mono (by decide)
    refine ⟨_, pss_one (ps_if (PW.pt (pw_or (pt_not (pt_val (pe_has hN hr1 (by rfl) (pa_cons (pv 0) pa_nil)))) (pw_or1 (pt_not (pt_chain op_le op_le pe_int (pv 0) (pe_gc2 (by rfl) G)))))) (pss_one (ps_raise rfl (takes_of rfl rfl rfl rfl) (pmk_err0 X0 (by rfl)))) pss_nil), ?_⟩
    rcases cs with ⟨m, rfl, h1, h6, q⟩ | ⟨out, bad⟩
    · cases hd
      refine ⟨_, rfl, nI m, .int m, rfl, .int _, true, rfl, iteF ⟨_, rfl, 1, (m : Int), rfl, rfl, true, congrArg V.bl (decide_eq_true (show (1 : Int) ≤ (m : Int) by omega)), iteT ⟨(m : Int), 6, rfl, rfl, true, congrArg V.bl (decide_eq_true (show (m : Int) ≤ 6 by omega)), iteF q⟩⟩⟩
    · have go : E (.ref CN) none H := bad H (Same.refl _)
      rcases out with hn | ⟨i, rfl, hi⟩
      · exact ⟨_, rfl, v, d, rfl, hd, isNum d, rfl, by rw [hn]; exact iteT (iteT go)⟩
      · cases hd
        refine ⟨_, rfl, .int i, .int i, rfl, .int _, true, rfl, iteF ⟨_, rfl, 1, i, rfl, rfl, decide ((1 : Int) ≤ i), rfl, ?_⟩⟩
        by_cases h1 : (1 : Int) ≤ i
        · rw [decide_eq_true h1]
          exact iteT ⟨i, 6, rfl, rfl, false, congrArg V.bl (decide_eq_false fun z => hi ⟨h1, z⟩), iteT go⟩
        · rw [decide_eq_false h1]
          exact iteF ⟨false, rfl, iteT go⟩
def spCheckP (CN : Addr) : Sp := fun vs H Q E => ∃ v, vs = [v] ∧ flatV v = true ∧ ((inV v ([2, 3, 5, 7].map V.int) = true ∧ Q .non H) ∨ (inV v ([2, 3, 5, 7].map V.int) = false ∧ Bad0 CN H E))
def spCheckT (CT : Addr) : Sp := fun vs H Q E => ∃ (v : V) (d : PyData), vs = [v] ∧ Rp H v d ∧ (∀ ds, d = .tuple ds → ds.length ≤ 1000) ∧ ((isTask d = true ∧ ∀ H', Same H H' → Q .non H') ∨ (isTask d = false ∧ Bad0 CT H E))
theorem isTab_no {d : PyData} (h : isNums d = false) : isTask d = false := by
  cases d with
  | tuple ds =>
    have h : ds.all isNum = false := h
    show (ds.all bitD01 && _) = false
    rw [List.all_eq_false] at h
    obtain ⟨x, hx, hn⟩ := h
    have : ds.all bitD01 = false := by
      rw [List.all_eq_false]
      refine ⟨x, hx, fun z => hn ?_⟩
      unfold bitD01 at z
      rw [Bool.and_eq_true] at z
      exact z.1
    rw [this]
    rfl
  | _ => rfl
theorem in01' (i : Int) : inV (.int i) [.int 0, .int 1] = decide (i = 0 ∨ i = 1) := by
  show (((0 : Int) == i) || (((1 : Int) == i) || false)) = _
  rw [Bool.or_false, Bool.decide_or]
  congr 1
  · by_cases h : i = 0
    · subst h; rfl
    · rw [decide_eq_false h]; exact beq_eq_false_iff_ne.mpr (fun e => h e.symm)
  · by_cases h : i = 1
    · subst h; rfl
    · rw [decide_eq_false h]; exact beq_eq_false_iff_ne.mpr (fun e => h e.symm)
theorem num_V' {H : Hp} {v : V} {d : PyData} (h : Rp H v d) (hn : isNum d = true) : v = .int (numOf d) := by
  cases h <;> first | rfl | cases hn
theorem nums_tup' {d : PyData} (h : isNums d = true) : ∃ ds, d = .tuple ds ∧ ds.all isNum = true := by
  cases d with
  | tuple ds => exact ⟨ds, rfl, h⟩
  | _ => cases h
theorem inV_lens : ∀ (ns : List Int) (i : Int), inV (.int i) (ns.map V.int) = ns.contains i
  | [], i => rfl
  | n :: ns, i => by
    show ((n == i) || inV (.int i) (ns.map V.int)) = _
    rw [inV_lens ns i, List.contains_cons]
    congr 1
    exact Bool.beq_comm
theorem bls_of' {H : Hp} : ∀ {zs : List V} {bs : List Bool}, Paired (fun v b => v = V.bl b) zs bs → zs = bs.map V.bl
  | _, _, .nil => rfl
  | _, _, .cons r t => by rw [(show _ = V.bl _ from r), bls_of' (H := H) t]; rfl
end
end Lt

set_option Elab.async false
set_option linter.all false
set_option maxRecDepth 100000
set_option maxHeartbeats 4000000
/-! sorted of data that are alike, any length -/
namespace Lt
open PySem PySem.Spec PyProof.Rows L2
open PySem.W (EachIs AllAlike Sortable dataLe)
theorem each_of_paired {α β γ : Type} {R : α → β → Prop} {S : γ → α → Prop} : ∀ {xs : List α} {us : List γ} {bs : List β}, Paired R xs bs → Paired (fun x u => S u x) xs us → EachIs (fun u b => ∃ x, S u x ∧ R x b) us bs
  | _, _, _, .nil, .nil => .nil
  | _, _, _, .cons r t, .cons s u => .cons ⟨_, s, r⟩ (each_of_paired t u)
theorem each_mono {α β : Type} {R S : α → β → Prop} (h : ∀ a b, R a b → S a b) : ∀ {us : List α} {bs : List β}, EachIs R us bs → EachIs S us bs
  | _, _, .nil => .nil
  | _, _, .cons r t => .cons (h _ _ r) (each_mono h t)
/-- what the machine's list holds -/
theorem each_back {β : Type} {R : V → β → Prop} (hr : ∀ v b, R v b → ∃ p, v = .ref p) : ∀ {us : List Value} {bs : List β}, EachIs (fun u b => ∃ v, RelV v u ∧ R v b) us bs → ∃ vs, Vals vs us ∧ Paired R vs bs
  | _, _, .nil => ⟨[], .nil, .nil⟩
  | _, _, .cons ⟨v, rv, r⟩ t => let ⟨vs, h1, h2⟩ := each_back hr t; ⟨v :: vs, .cons rv h1, .cons r h2⟩
def rSortedD (K : PySem.W.Frag) : List V → Hp → VK → Prop := fun vs H Q => ∃ (a : Addr) (xs : List V) (β : Type) (bs : List β) (enc : β → PyData) (R : V → β → Prop), vs = [.ref a] ∧ SqL K H a xs ∧ Paired R xs bs ∧ (∀ v b, R v b → ∃ p, v = .ref p) ∧ (∀ v b, R v b → Dp K H v (enc b)) ∧
  AllAlike (bs.map enc) ∧ Sortable (bs.map enc) ∧ (∀ b ∈ bs, (enc b).depth ≤ 60) ∧ ∀ ys p, Paired R ys (bs.mergeSort (dataLe false enc)) → H p = none → Q (.ref p) (upd H p (.lst ys))
section
variable {X : Cx}
theorem cr_sortedD (hu : X.A.units + 64 < cLine) : CallR X (.builtin "sorted") (rSortedD X.K) := by
  intro pins s σ H vs us Q I r h
  obtain ⟨a, xs, β, bs, enc, R, rfl, hs, hp, hr, hd, hal, hk, hdep, q⟩ := h
  obtain ⟨its, rv, hl, hz⟩ := I.list hs
  obtain ⟨u, rfl, ru⟩ := vals1 r
  obtain rfl : u = Value.ref a := ru
  have e : EachIs (fun (u : Value) b => ∃ v, RelV v u ∧ R v b) its bs := each_of_paired (S := fun (u : Value) v => RelV v u) hp rv
  refine PySem.W.sorted_data (enc := enc) hl.isList e (each_mono (fun u b ⟨v, r1, r2⟩ => Dp.reads I (enc b) v u (hd v b r2) r1) e) hal hk (by rw [← e.length, ← rv.length]; exact hz) (fun b hb => by have := hdep b hb; omega) fun out ol oe => ?_
  obtain ⟨ys, y1, y2⟩ := each_back hr oe
  have hol : out.length ≤ sizeLine := by rw [ol, ← e.length, ← rv.length]; exact hz
  have hat := sortedAll_at s.heap its out.toArray
  refine ⟨.ref (s.heap.objs.size + 1), upd H (s.heap.objs.size + 1) (.lst ys), I.laid (t' := s.toks) (fun b o e => sortedAll_old e) (Nat.le_succ _) ⟨?_, out, ?_⟩, rfl, q ys _ y2 (I.hok.fresh (Nat.le_succ _))⟩
  · rw [y1.length]; exact hol
  · exact hat.elim fun n hn => ⟨n, y1, hn⟩
end
end Lt

set_option Elab.async false
set_option linter.all false
set_option maxRecDepth 100000
set_option maxHeartbeats 4000000
/-! sorted(xs, key=lambda x: (len(x[0]), x[0])), x[0] a tuple of numbers -/
namespace Lt
open PySem PySem.Spec PyProof.Rows L2 NdefX LamX LmX
open PySem.W (EachIs AllAlike Sortable dataLe KeyPure)
def keyE (x : Str) (j1 j2 k : Nat) (p1 p2 p3 p4 p5 p6 p7 p8 p9 : Pos) : Expr := .Tuple [.Call (.Name "len" p1) [.Subscript (.Name x p2) (.Constant (.int 0) j1 p3) p4] [] p5, .Subscript (.Name x p6) (.Constant (.int 0) j2 p7) p8] k p9
def keyD (t : List Nat) : PyData := .tuple [.int t.length, dT t]
theorem reads_nats {h : Heap} : ∀ {t : List Nat} {its : List Value}, Vals (nIs t) its → ReadsAll h its (t.map dN) []
  | [], _, .nil => .nil
  | n :: t, _, .cons r s => by
    obtain ⟨k, rfl⟩ := r
    exact .cons (.int _ _) (reads_nats s)
section
variable {X : Cx} {pins : List (Addr × Obj)} {σ : L2.St} {H : Hp} {s : Shared}
theorem name_at {x : Str} {i : Nat} {t : Addr} {E : Value → Shared → Prop} {Q : Value → Shared → Prop} {p1 : Pos} (I : Inv X pins σ H s) (hN : X.N[i]? = some x) (hv : Vis X.env.scope x) (hd : (x == ("__debug__" : Str)) = false) (hcd : (x == ("__classdict__" : Str)) = false) (hσ : σ[i]? = some (some (.ref t)))
    (h : Q (.ref t) s) : wpAny (model X.prog X.w) X.A (eval (.Name x p1) X.env) Q E s := by
  obtain ⟨m, hn, hl⟩ := I.loc
  obtain ⟨u, r, l⟩ := hl i x _ hN hσ hv
  obtain rfl : u = Value.ref t := r
  rcases l with ⟨hk, hm⟩ | ⟨hk | hk, c, hc, hcell⟩
  · exact wpAny_Name (wpAny_loadName_local I.ok.kind hk hn hm h) hd
  · exact wpAny_Name (wpAny_loadName_cell I.ok.kind hk hc hcell h) hd
  · exact wpAny_Name (wpAny_loadName_free I.ok.kind hk hc hcell h hcd) hd
theorem part_at {x : Str} {i : Nat} {t p : Addr} {w : V} {E : Value → Shared → Prop} {Q : Value → Shared → Prop} {j : Nat} {p1 p2 p3 : Pos} (I : Inv X pins σ H s) (hN : X.N[i]? = some x) (hv : Vis X.env.scope x) (hd : (x == ("__debug__" : Str)) = false) (hcd : (x == ("__classdict__" : Str)) = false) (hσ : σ[i]? = some (some (.ref t)))
    (ht : SqT X.K H t [.ref p, w]) (h : ∀ k, Q (.ref p) { s with toks := k }) : wpAny (model X.prog X.w) X.A (eval (.Subscript (.Name x p1) (.Constant (.int 0) j p2) p3) X.env) Q E s := by
  refine Subscript_ (name_at I hN hv hd hcd hσ (wpAny_Constant_int ?_))
  have I2 := I.tok (s.toks + 1)
  obtain ⟨its, r, pl, hz⟩ := I2.tuple ht
  have hl := r.length
  have l2 : its.length = 2 := hl.symm
  obtain ⟨u, e1, e2⟩ : ∃ u, its[0]? = some u ∧ L2.RelV (.ref p) u := r.get (i := 0) rfl
  obtain rfl : u = Value.ref p := e2
  exact subscriptTail_builtinR (x := .ref p) pl.typeIs slot_tuple_getitem.lookup (getItem_tuple (j := 0) pl (by decide) (by decide) (by rw [List.size_toArray, l2]; rfl) (by simpa using e1) ⟨rfl, h _⟩)
theorem key_body {x : Str} {i : Nat} {t p : Addr} {w : V} {tn : List Nat} {E : Value → Shared → Prop} {j1 j2 k : Nat} {p1 p2 p3 p4 p5 p6 p7 p8 p9 : Pos} (I : Inv X pins σ H s) (hN : X.N[i]? = some x) (hv : Vis X.env.scope x) (hd : (x == ("__debug__" : Str)) = false) (hcd : (x == ("__classdict__" : Str)) = false) (hσ : σ[i]? = some (some (.ref t)))
    (gl : Gl X ("len" : Str)) (ml : X.mg "len" = none) (ht : SqT X.K H t [.ref p, w]) (hp : SqT X.K H p (nIs tn)) : wpAny (model X.prog X.w) X.A (eval (keyE x j1 j2 k p1 p2 p3 p4 p5 p6 p7 p8 p9) X.env) (KeyPure (keyD tn) s) E s := by
  refine wpAny_Tuple_spliced ?_
  show wpAny _ _ (spliced ((false, eval (.Call (.Name "len" p1) [.Subscript (.Name x p2) (.Constant (.int 0) j1 p3) p4] [] p5) X.env) :: (false, eval (.Subscript (.Name x p6) (.Constant (.int 0) j2 p7) p8) X.env) :: [])) _ _ _
  refine Calls.spliced_cons (wpAny_Call_Name_kw (ld_blt I gl ml PySem.boot_len (PyProof.Rows.callWith_builtin1 ?_ (by rfl) (by rfl))))
  show wpAny _ _ (spliced ((false, eval (.Subscript (.Name x p2) (.Constant (.int 0) j1 p3) p4) X.env) :: [])) _ _ _
  refine Calls.spliced_cons (part_at I hN hv hd hcd hσ ht fun k1 => Calls.spliced_nil ?_)
  have I3 := I.tok k1
  obtain ⟨its, r, pl, hz⟩ := I3.tuple hp
  have hl := r.length
  rw [nIs_len] at hl
  have hs63 : (its.toArray.size : Int) < 2 ^ 63 := by
    rw [List.size_toArray]
    have h1 : its.length ≤ sizeLine := by rw [← r.length]; exact hz
    rw [sizeLine_eq] at h1
    omega
  refine PyProof.Rows.len_tuple pl hs63 ?_
  have I4 := (I3.tok (k1 + 1)).tok (k1 + 1 + 1)
  refine Calls.spliced_cons (part_at I4 hN hv hd hcd hσ ht fun k2 => Calls.spliced_nil ?_)
  have I5 := I4.tok k2
  obtain ⟨its5, r5, ⟨o5, ho5, hc5, n5, hd5⟩, _⟩ := I5.tuple hp
  refine ⟨by show 2 ≤ sizeLine; decide, _, k2, rfl, fun b o e => Heap.get?_push_of_some _ e, ?_⟩
  refine .tuple (Heap.get?_push_size _ rfl) rfl rfl ?_
  have e1 : its.toArray.size = tn.length := by rw [List.size_toArray, hl]
  have r2 := reads_nats (h := s.heap.push { cls := .type "tuple", data := .seq [Value.int (its.toArray.size : Int) (k1 + 1), Value.ref p].toArray }) r5
  rw [e1]
  refine .cons (.int _ _) (.cons (bs := []) (as := []) (.tuple (Heap.get?_push_of_some _ ho5) hc5 hd5 ?_) .nil)
  rw [e1] at r2
  exact (by simpa using r2)
end
theorem alike_nats : ∀ a b : List Nat, PySem.W.alikeAll (a.map dN) (b.map dN) = true
  | [], _ => by simp [PySem.W.alikeAll]
  | _ :: _, [] => by simp [PySem.W.alikeAll]
  | x :: a, y :: b => by
    rw [List.map_cons, List.map_cons, PySem.W.alikeAll, alike_nats a b]
    rfl
theorem alike_key (a b : List Nat) : PySem.W.alike (keyD a) (keyD b) = true := by
  show (true && (PySem.W.alikeAll (a.map dN) (b.map dN) && true)) = true
  rw [alike_nats]
  rfl
theorem depth_key (a : List Nat) : (keyD a).depth = 2 := by
  show max 0 (max (PyData.depthAll (a.map dN) + 1) 0) + 1 = 2
  rw [depth_nats]
  rfl
def rSortedK (K : PySem.W.Frag) (q : Str) (params : Arguments) (scope : Scope) (cells : List (Str × Addr)) (body : Expr) : List V → List V → Hp → VK → Prop := fun vs zs H Q => ∃ (a f c' : Addr) (xs : List V) (β : Type) (bs : List β) (key : β → List Nat) (R : V → β → Prop), vs = [.ref a] ∧ zs = [.ref f] ∧ SqL K H a xs ∧ Paired R xs bs ∧
  (∀ v b, R v b → ∃ t p w, v = .ref t ∧ SqT K H t [.ref p, w] ∧ SqT K H p (nIs (key b))) ∧ H f = some (LmO f (lmF q params scope cells c') body .none) ∧ H c' = some (CodeO c' q) ∧
  ∀ ys p, Paired R ys (bs.mergeSort (dataLe false fun b => keyD (key b))) → H p = none → Q (.ref p) (upd H p (.lst ys))
section
variable {X : Cx}
theorem cr_sortedK {q x : Str} {params : Arguments} {scope : Scope} {body : Expr} {N : List Str} {j1 j2 k : Nat} {p1 p2 p3 p4 p5 p6 p7 p8 p9 : Pos} (hb : body = keyE x j1 j2 k p1 p2 p3 p4 p5 p6 p7 p8 p9) (S : NScope N [x] [] scope) (hN : N[0]? = some x) (hd : (x == ("__debug__" : Str)) = false) (hcd : (x == ("__classdict__" : Str)) = false)
    (gl : scope.names.lookup ("len" : Str) = some .globalImplicit) (ml : X.mg "len" = none) (cp : X.Ok → Caps X (cloFrom X.env.cells scope.names []) [] []) (hr : Room 4 X.A)
    (hbi : ∀ (s : Shared) (F : NF) (doc pm ctv u : Value), F.params = params → BindsTo s (lmFd F body .none doc pm ctv) ⟨[u], []⟩ ([x].zip [u])) :
    CallRK X (.builtin "sorted") ["key"] (rSortedK X.K q params scope X.env.cells body) := by
  subst hb
  intro pins s σ H vs zs us ws Q I rv rz h
  obtain ⟨a, f, c', xs, β, bs, key, R, rfl, rfl, hs, hp, hR, hf, hc, qq⟩ := h
  obtain ⟨its, ri, hl, hz⟩ := I.list hs
  obtain ⟨u, rfl, ru⟩ := vals1 rv
  obtain rfl : u = Value.ref a := ru
  obtain ⟨u2, rfl, ru2⟩ := vals1 rz
  obtain rfl : u2 = Value.ref f := ru2
  have hu := hr.units
  have e : EachIs (fun (u : Value) b => ∃ v, RelV v u ∧ R v b) its bs := each_of_paired (S := fun (u : Value) v => RelV v u) hp ri
  have hbl : bs.length ≤ sizeLine := by rw [← e.length, ← ri.length]; exact hz
  show wpAny _ _ (call (.builtin "sorted") [.ref a] [(Str.ofString "key", .ref f)]) _ _ s
  refine PySem.W.sorted_key_data (b := false) (f := .ref f) (fun b => keyD (key b)) hl.isList e (fun d hd d' hd' => ?_) (.inl fun d hd => ?_) hbl (fun b _ => ?_) (PyProof.Rows.ksk_s1 _ _) (fun _ => PyProof.Rows.ksk_l1 _ _) (fun _ => PyProof.Rows.ksk_t1 _ _) (fun v b hv hb' h' tk kp => ?_) fun out c h' tk kp fr hat hol oe => ?_
  · obtain ⟨b, _, rfl⟩ := List.mem_map.mp hd
    obtain ⟨b', _, rfl⟩ := List.mem_map.mp hd'
    exact alike_key _ _
  · obtain ⟨b, _, rfl⟩ := List.mem_map.mp hd
    exact ⟨_, _, rfl⟩
  · have z := depth_key (key b)
    show X.A.units + 2 + (keyD (key b)).depth < cLine
    omega
  · obtain ⟨v', rv', hR'⟩ := hv
    obtain ⟨t, p, w, rfl, ht, hpp⟩ := hR v' b hR'
    obtain rfl : v = Value.ref t := rv'
    have I1 : Inv X pins σ H { s with heap := h', toks := tk } := I.kept kp
    obtain ⟨od, sl, doc, pm, ctv, ho⟩ := lmO_at I1.hok hf
    have C := cells_of I1 (cp I1.ok)
    have e0 := I1.env0.in1.in1
    have hr2 : Room 2 X.A.in1.in1 := hr.in1.in1
    have rc : codeAny (model X.prog X.w) X.A.in1.in1 (.call (.ref f) ⟨[.ref t], []⟩) (fun r s2 => match r with | .error _ => False | .ok (.ret u) => KeyPure (keyD (key b)) { s with heap := h', toks := tk } u s2 | .ok _ => False) { s with heap := h', toks := tk } := by
      refine PySem.W.kla_callFunE hr2.depth ho rfl S.co S.gen rfl (codeO_at I1.hok hc) (hbi _ _ doc pm ctv _ rfl _ _ _ _ ?_)
      refine wpAny_newFunctionEnv S.nocell (fun ⟨n, _⟩ hy => S.par n (List.of_mem_zip hy).1) (fun h₁ hns hsb => ⟨I1.nolimit.fresh _ hsb, ?_⟩) S.kind
      show codeAny _ _ (.expr (keyE x j1 j2 k p1 p2 p3 p4 p5 p6 p7 p8 p9) (envF (lmF q params scope X.env.cells c') f h'.objs.size)) _ _
      have kp1 : ∀ b o, h'.get? b = some o → h₁.get? b = some o := fun b o q => hsb.extBut b o (Nat.ne_of_lt (Heap.lt_size q)) (Heap.get?_push_of_some _ q)
      have J := inv_startN (CX := C8.CX0) (E := C8.E0) (f := f) (N := N) (F := lmF q params scope X.env.cells c') (vs := [V.ref t]) (us := [Value.ref t]) (tk := tk + ([x].zip [Value.ref t]).length) S hr2.hd e0 rfl (.cons rfl .nil) C hns kp1
      refine PySem.W.kla_codeExpr (wpAny_mono (key_body (i := 0) J hN (.inl (S.par x List.mem_cons_self)) hd hcd rfl gl ml ht hpp) (fun v s' hq => ?_) fun e s' hq => hq)
      obtain ⟨h2, tk2, e2, k2, r2⟩ := hq
      exact ⟨h2, tk2, e2, fun b o q => k2 b o (kp1 b o q), r2⟩
    refine wpAny_call (codeAny_mono rc fun o s' hq => ?_)
    rcases o with e | fl
    · exact hq.elim
    · cases fl with
      | ret u => exact hq
      | next => exact hq.elim
      | brk => exact hq.elim
      | cont => exact hq.elim
  · have hbr : ∀ v b, R v b → ∃ p, v = V.ref p := fun v b r => let ⟨t, _, _, e, _⟩ := hR v b r; ⟨t, e⟩
    obtain ⟨ys, y1, y2⟩ := each_back hbr oe
    refine ⟨.ref (s.heap.objs.size + 1), upd H (s.heap.objs.size + 1) (.lst ys), I.laid (t' := tk) kp (Nat.le_succ _) ⟨?_, out, c, y1, hat⟩, rfl, qq ys _ y2 (I.hok.fresh (Nat.le_succ _))⟩
    rw [y1.length, hol]; exact hbl
end
end Lt

set_option Elab.async false
set_option linter.all false
set_option maxRecDepth 100000
set_option maxHeartbeats 2000000
/-! zip of a list and a tuple; max(xs, default=None) -/
namespace Lt
open PySem PySem.Spec PyProof.Rows L2
/-- the list at a, the tuple at b -/
def ItzM (K : PySem.W.Frag) (a b : Addr) : It :=
  ⟨fun i H => ∃ (xs ys : List V) (x y : V), SqL K H a xs ∧ SqT K H b ys ∧ xs[i]? = some x ∧ ys[i]? = some y,
    fun i H v H' => ∃ T x y, v = .ref T ∧ H T = none ∧ H' = upd H T (.tup [x, y]) ∧ (∀ xs, SqL K H a xs → xs[i]? = some x) ∧ ∀ ys, SqT K H b ys → ys[i]? = some y,
    fun i H => ∃ xs ys : List V, SqL K H a xs ∧ SqT K H b ys ∧ i = min xs.length ys.length⟩
theorem turn_zipM {P : Program} {w : World} {K : PySem.W.Frag} {elts : List Expr} {kk : Nat} {tpos : Pos} {a b z TI TO i1 i2 : Addr} (S : ZipSep2 z TI TO i1 i2 [i1, a] [i2, b]) (ha : a ≠ i1) (hb : b ≠ i2) :
    Turn P w K (.Tuple elts kk tpos) (ItzM K a b) [z, TI, TO, i1, i2] z (fun i h => IsZip h z TI TO .none ∧ IsTupOf2 h TI (.ref i1) (.ref i2) ∧ (∃ x y, IsTupOf2 h TO x y) ∧ h.IsListIter i1 a i ∧ h.IsTupleIter i2 b i) where
  mem := by simp
  obj := fun i h st c hc => by
    obtain ⟨hz, hTI, ⟨x, y, hTO⟩, ⟨o1, e1, _, d1⟩, ⟨o2, e2, _, d2⟩⟩ := st
    have e' : c = z ∨ c = TI ∨ c = TO ∨ c = i1 ∨ c = i2 := by simpa using hc
    rcases e' with q | q | q | q | q
    · rw [q]; exact ⟨_, hz, fun v q => nomatch q⟩
    · rw [q]; exact ⟨_, hTI, fun v q => nomatch q⟩
    · rw [q]; exact ⟨_, hTO, fun v q => nomatch q⟩
    · rw [q]; exact ⟨o1, e1, fun v q => by rw [d1] at q; cases q⟩
    · rw [q]; exact ⟨o2, e2, fun v q => by rw [d2] at q; cases q⟩
  keep := fun i h h' st k => by
    obtain ⟨hz, hTI, ⟨x, y, hTO⟩, h1, h2⟩ := st
    exact ⟨k z (by simp) _ hz, k TI (by simp) _ hTI, ⟨x, y, k TO (by simp) _ hTO⟩, h1.at fun o q => k i1 (by simp) o q, h2.at fun o q => k i2 (by simp) o q⟩
  item := by
    intro X hP hw hK hc i pins s σ H E I hf st hg
    subst hP hw hK
    obtain ⟨hz, hTI, hTO, h1, h2⟩ := id st
    obtain ⟨xs, ys, x, y, hqx, hqy, hx, hy⟩ := hg
    obtain ⟨its, rv, p, _⟩ := I.list hqx
    obtain ⟨its2, rv2, p2, _⟩ := I.tuple hqy
    obtain ⟨u, hu, ru⟩ := rv.get hx
    obtain ⟨u2, hu2, ru2⟩ := rv2.get hy
    have hh : X.A.in1.handled = none := I.ok.hd hc
    have l1 := (List.getElem?_eq_some_iff.mp hu).1
    have l2 := (List.getElem?_eq_some_iff.mp hu2).1
    have W := WalksT.zipD2 (prog := X.prog) (w := X.w) (A := X.A) S (Draws.list hh i1 a ha its.toArray) (Draws.tuple hh i2 b hb its2.toArray)
    refine W.item i s _ E (by simp; omega) ⟨hz, hTI, hTO, ⟨h1, p.isList⟩, ⟨h2, p2⟩⟩ fun T vals h' tk hv hle hT mid kx => ⟨.ref T, rfl, W.go elts kk tpos i T _ _ E mid fun h'' st' k2 => ?_⟩
    obtain ⟨x1, x2, e1, e2, rfl⟩ := hv
    have hx1 : x1 = u := by
      have e1 : its.toArray[i]? = some x1 := e1
      rw [List.getElem?_toArray, hu] at e1
      exact (Option.some.inj e1).symm
    have hx2 : x2 = u2 := by
      have e2 : its2.toArray[i]? = some x2 := e2
      rw [List.getElem?_toArray, hu2] at e2
      exact (Option.some.inj e2).symm
    subst hx1 hx2
    have hTw := W.apart i T h' mid
    have hT2 : h''.IsTuple T #[x1, x2] := hT.at fun o e => k2 T o hTw e
    obtain ⟨z', TI', TO', ⟨h1', _⟩, ⟨h2', _⟩⟩ := st'
    have fr : H T = none := I.hok.fresh hle
    have sub : ∀ c, c ∉ [z, TI, TO, i1, i2] → c ∉ [z, TO, i1, i2] := fun c hc hm => hc (by
      have e' : c = z ∨ c = TO ∨ c = i1 ∨ c = i2 := by simpa using hm
      simp
      rcases e' with q | q | q | q <;> simp [q])
    have I1 : Inv X pins σ (upd H T (.tup [x, y])) { s with heap := h'', toks := tk } :=
      I.turnedNew (t' := tk) (ch := [z, TI, TO, i1, i2]) (fun c o hb q => k2 c o (sub c hb) (kx c o (sub c hb) q)) hf hle ⟨by show 2 ≤ sizeLine; decide, [x1, x2], .cons ru (.cons ru2 .nil), hT2⟩
    refine ⟨.ref T, _, I1, rfl, ⟨_, x, y, rfl, fr, rfl, fun l hl => by rw [I.list_inj hl hqx]; exact hx, fun l hl => by rw [I.tuple_inj hl hqy]; exact hy⟩, ⟨z', TI', TO', h1', h2'⟩, fun c hcm => ?_⟩
    have hlt : c < s.heap.objs.size := by
      obtain ⟨_, _, hTO⟩ := hTO
      have e' : c = z ∨ c = TI ∨ c = TO ∨ c = i1 ∨ c = i2 := by simpa using hcm
      rcases e' with q | q | q | q | q
      · rw [q]; exact Heap.lt_size hz
      · rw [q]; exact Heap.lt_size hTI
      · rw [q]; exact Heap.lt_size hTO
      · rw [q]; obtain ⟨_, e1, _⟩ := h1; exact Heap.lt_size e1
      · rw [q]; obtain ⟨_, e2, _⟩ := h2; exact Heap.lt_size e2
    rw [upd_ne (Nat.ne_of_lt (Nat.lt_of_lt_of_le hlt hle))]
    exact (hf c hcm).1
  done := by
    intro X hP hw hK hc i pins s σ H E I hf st hg
    subst hP hw hK
    obtain ⟨hz, hTI, hTO, h1, h2⟩ := id st
    obtain ⟨xs, ys, hqx, hqy, hend⟩ := hg
    obtain ⟨its, rv, p, _⟩ := I.list hqx
    obtain ⟨its2, rv2, p2, _⟩ := I.tuple hqy
    have hh : X.A.in1.handled = none := I.ok.hd hc
    have W := WalksT.zipD2 (prog := X.prog) (w := X.w) (A := X.A) S (Draws.list hh i1 a ha its.toArray) (Draws.tuple hh i2 b hb its2.toArray)
    have en : i = min its.toArray.size its2.toArray.size := by
      rw [List.size_toArray, List.size_toArray, ← rv.length, ← rv2.length]
      exact hend
    refine W.done s _ E ?_ fun h' tk kk => ⟨rfl, I.turnedL (t' := tk) (ch := [z, TI, TO, i1, i2]) (fun c o hb q => kk c o (fun hm => hb ?_) q) hf⟩
    · rw [← en]
      exact ⟨hz, hTI, hTO, ⟨h1, p.isList⟩, ⟨h2, p2⟩⟩
    · have e' : c = z ∨ c = TO ∨ c = i1 ∨ c = i2 := by simpa using hm
      simp
      rcases e' with q | q | q | q <;> simp [q]
  self := fun A i s Q E st h => wpAny_pyIter_zip st.1 h
def iZipM (K : PySem.W.Frag) (ta : TA) : TI := fun σ H R => ta σ H fun vs H1 => ∃ a b xs ys, vs = [.ref a, .ref b] ∧ SqL K H1 a xs ∧ SqT K H1 b ys ∧ R (ItzM K a b) H1
theorem pi_zipM {X : Cx} {e e2 : Expr} {ta : TA} {p pos tpos : Pos} {elts : List Expr} {kk : Nat} (hg : Gl X "zip") (hm : X.mg "zip" = none) (ha : PA X [e, e2] ta)
    (hs : starEach [e, e2] X.env = (false, eval e X.env) :: starEach [e2] X.env := by rfl) (hpl : (backTo pos (starEach [e2] X.env)).any (·.1) = false := by rfl) :
    PI X (.Tuple elts kk tpos) (.Call (.Name "zip" p) [e, e2] [] pos) (iZipM X.K ta) := by
  refine ⟨fun pins s σ H R I h => ?_⟩
  refine Call_ (ld_blt I hg hm PyProof.Rows.boot_zip (PyProof.Rows.callWith_type1 (thn (ha.run pos pins s σ H _ I h) fun us s1 ⟨vs, H1, I1, r1, q1⟩ => ?_) hs hpl))
  obtain ⟨a, b, xs, ys, ex, hqx, hqy, q⟩ := q1
  subst ex
  obtain ⟨v1, v2, rfl, e1, e2⟩ := vals2 r1
  obtain rfl : v1 = Value.ref a := e1
  obtain rfl : v2 = Value.ref b := e2
  obtain ⟨its, rv, p1, _⟩ := I1.list hqx
  obtain ⟨its2, rv2, p2, _⟩ := I1.tuple hqy
  obtain ⟨o2, ho2, _⟩ := id p2
  have la : a < s1.heap.objs.size := p1.lt
  have lb : b < s1.heap.objs.size := Heap.lt_size ho2
  refine zip_begins2 (begins_list a its.toArray) (begins_tuple b its2.toArray) p1.isList p2 fun h' hz hTI hTO g1 g2 hsz hk => wpAny_pyIter_zip hz ?_
  have I2 : Inv X pins σ H1 { s1 with heap := h' } := I1.kept (t' := s1.toks) hk
  have F : ∀ c, c ∈ [s1.heap.objs.size + 4, s1.heap.objs.size + 2, s1.heap.objs.size + 3, s1.heap.objs.size, s1.heap.objs.size + 1] → FpOk X pins H1 c := fun c hcm => by
    have e' : c = s1.heap.objs.size + 4 ∨ c = s1.heap.objs.size + 2 ∨ c = s1.heap.objs.size + 3 ∨ c = s1.heap.objs.size ∨ c = s1.heap.objs.size + 1 := by simpa using hcm
    have hle : s1.heap.objs.size ≤ c := by
      rcases e' with z | z | z | z | z
      · rw [z]; exact Nat.le_add_right _ _
      · rw [z]; exact Nat.le_add_right _ _
      · rw [z]; exact Nat.le_add_right _ _
      · rw [z]; exact Nat.le_refl _
      · rw [z]; exact Nat.le_add_right _ _
    exact I1.fpOk hle (I1.hok.fresh hle)
  exact ⟨s1.heap.objs.size + 4, [s1.heap.objs.size + 4, s1.heap.objs.size + 2, s1.heap.objs.size + 3, s1.heap.objs.size, s1.heap.objs.size + 1], _, _, H1, rfl, I2,
    turn_zipM (zip_sep2 (N := s1.heap.objs.size) (fp1 := [a]) (fp2 := [b]) (fun c hc => by rw [List.mem_singleton.mp hc]; exact la) (fun c hc => by rw [List.mem_singleton.mp hc]; exact lb)) (Nat.ne_of_lt la) (Nat.ne_of_lt (Nat.lt_succ_of_lt lb)),
    ⟨hz, hTI, ⟨_, _, hTO⟩, ⟨_, g1, rfl, rfl⟩, ⟨_, g2, rfl, rfl⟩⟩, F, q⟩
theorem for_zipM {K : PySem.W.Frag} {a b : Addr} {xs ys : List V} {g : TG} {tb : TS} {D : Ends} {σ : L2.St} {H : Hp} (hl : xs.length = ys.length) (Pv : Nat → L2.St → Hp → Prop) (h0 : Pv 0 σ H) (hq : ∀ i σ H, Pv i σ H → SqL K H a xs ∧ SqT K H b ys)
    (hs : ∀ (i : Nat) (x y : V) (T : Addr) (σ : L2.St) (H : Hp), xs[i]? = some x → ys[i]? = some y → Pv i σ H → H T = none → g (.ref T) σ (upd H T (.tup [x, y])) fun σ2 H2 => tb { D with nx := Pv (i + 1), ct := Pv (i + 1), bk := D.nx } σ2 H2) (hd : ∀ σ H, Pv xs.length σ H → D.nx σ H) :
    ∃ W : Nat → Nat → L2.St → Hp → Prop, (∃ m, W 0 m σ H) ∧ ∀ i m σ H, W i m σ H →
      ((ItzM K a b).stop i H ∧ D.nx σ H) ∨ ((ItzM K a b).go i H ∧ ∃ N : L2.St → Hp → Prop, (∀ σ' H', N σ' H' → ∃ m', m' < m ∧ W (i + 1) m' σ' H') ∧ ∀ v H', (ItzM K a b).yld i H v H' → g v σ H' fun σ2 H2 => tb { D with nx := N, ct := N, bk := D.nx } σ2 H2) := by
  refine ⟨fun i m σ H => m = xs.length - i ∧ i ≤ xs.length ∧ Pv i σ H, ⟨xs.length, rfl, Nat.zero_le _, h0⟩, ?_⟩
  rintro i m σ H ⟨rfl, hi, p⟩
  obtain ⟨qx, qy⟩ := hq i σ H p
  by_cases hlt : i < xs.length
  · refine .inr ⟨⟨xs, ys, _, _, qx, qy, List.getElem?_eq_getElem hlt, List.getElem?_eq_getElem (by omega)⟩, Pv (i + 1), fun σ' H' p' => ⟨xs.length - (i + 1), by omega, rfl, hlt, p'⟩, fun v H' y => ?_⟩
    obtain ⟨T, x', y', rfl, hT, rfl, f1, f2⟩ := y
    exact hs i x' y' T σ H (f1 xs qx) (f2 ys qy) p hT
  · have e : i = xs.length := by omega
    subst e
    exact .inl ⟨⟨xs, ys, qx, qy, by omega⟩, hd σ H p⟩
/-! ### max(xs, default=None) -/
def rMaxDN (K : PySem.W.Frag) : List V → List V → Hp → VK → Prop := fun vs zs H Q => ∃ (a : Addr) (ns : List Nat), vs = [.ref a] ∧ zs = [.non] ∧ SqL K H a (nIs ns) ∧ Q (if ns = [] then .non else nI (ns.foldl max 0)) H
theorem foldl_max_cast : ∀ (ns : List Nat) (n : Nat), (ns.map fun (k : Nat) => (k : Int)).foldl max (n : Int) = ((ns.foldl max n : Nat) : Int)
  | [], n => rfl
  | m :: ns, n => by
    rw [List.map_cons, List.foldl_cons, List.foldl_cons, ← foldl_max_cast ns (max n m)]
    congr 1
    omega
theorem alk_mx (ns : List Nat) : PySem.W.AlikeAll (ns.map dN) := ⟨fun x hx y hy => by
  obtain ⟨a, _, rfl⟩ := List.mem_map.mp hx
  obtain ⟨b, _, rfl⟩ := List.mem_map.mp hy
  rfl, fun x hx => by
  obtain ⟨a, _, rfl⟩ := List.mem_map.mp hx
  intro z
  cases z⟩
theorem dep_mx : ∀ ns : List Nat, PyData.depthAll (ns.map dN) = 0
  | [] => rfl
  | n :: ns => by
    show max 0 (PyData.depthAll (ns.map dN)) = 0
    rw [dep_mx ns]
    rfl
theorem map_dN (ns : List Nat) : ns.map dN = (ns.map fun (k : Nat) => (k : Int)).map PyData.int := by
  rw [List.map_map]
  rfl
theorem cr_maxDN {X : Cx} (hc : X.calm = true) (hu : X.A.units + 1 < cLine) : CallRK X (.builtin "max") [Str.ofString "default"] (rMaxDN X.K) := by
  intro pins s σ H vs zs us ws Q I r rz h
  obtain ⟨a, ns, rfl, rfl, hs, q⟩ := h
  obtain rfl := Vals.ref1 r
  obtain ⟨w1, rfl, e1⟩ := vals1 rz
  obtain rfl : w1 = Value.none := e1
  obtain ⟨its, rv, hl, _⟩ := I.list hs
  have hd := dep_mx ns
  refine PySem.W.max_list_default (xs := ns.map dN) (as := []) (I.ok.hd hc) hl.isList (reads_nats rv) (alk_mx ns) (by rw [hd]; exact hu) (fun e h' tk kp => ?_) fun y ys i v h' tk bs e hv rd kp => ?_
  · have e : ns = [] := List.map_eq_nil_iff.mp e
    rw [if_pos e] at q
    exact ⟨.non, H, I.kept kp, rfl, q⟩
  · cases ns with
    | nil => cases e
    | cons n ns =>
      rw [List.map_cons] at e
      injection e with e1 e2
      subst e1 e2
      rw [if_neg (fun z => by cases z)] at q
      have e3 : PySem.W.maxD (dN n) (ns.map dN) = .int (((n :: ns).foldl max 0 : Nat) : Int) := by
        rw [map_dN]
        refine (PySem.W.maxD_ints (n : Int) _).trans ?_
        rw [foldl_max_cast, List.foldl_cons, Nat.zero_max]
      rw [e3] at rd
      cases rd with
      | int => exact ⟨nI _, H, I.kept kp, ⟨_, rfl⟩, q⟩
end Lt

set_option Elab.async false
set_option linter.all false
set_option maxRecDepth 100000
set_option maxHeartbeats 1000000
/-! the order of a polynomial's parts -/
namespace Lt
open PySem PySem.Spec PyProof.Rows L2 PySem.W
def kcL : List Nat := [0, 1, 2, 7, 3, 8, 12, 22, 4, 9, 13, 23, 16, 26, 32, 42, 5, 10, 14, 24, 17, 27, 33, 43, 19, 29, 35, 45, 38, 48, 52, 57, 6, 11, 15, 25, 18, 28, 34, 44, 20, 30, 36, 46, 39, 49, 53, 58, 21, 31, 37, 47, 40, 50, 54, 59, 41, 51, 55, 60, 56, 61, 62, 63]
def kc (t : Nat) : Nat := kcL.getD t 0
abbrev Sg := Int ⊕ List Nat
def keyA (t : Nat) : List Sg := .inl 1 :: .inl (insOf t).length :: .inl 1 :: keyToks (dT (insOf t))
def diffIn : List Sg → List Sg → Bool
  | x :: r, y :: t => if x = y then diffIn r t else true
  | _, _ => false
theorem lex_in : ∀ {a b : List Sg} (x y : List Sg), diffIn a b = true → lexLt itemOrd (a ++ x) (b ++ y) = lexLt itemOrd a b
  | [], _, _, _, h => by cases h
  | _ :: _, [], _, _, h => by cases h
  | p :: a, q :: b, x, y, h => by
    rw [List.cons_append, List.cons_append]
    by_cases e : p = q
    · subst e
      unfold diffIn at h
      rw [if_pos rfl] at h
      rw [lex_self (O := itemOrd), lex_self (O := itemOrd)]
      exact lex_in x y h
    · rw [lex_diff (O := itemOrd) e, lex_diff (O := itemOrd) e]
def okPair (t u : Nat) : Bool := t == u || (diffIn (keyA t) (keyA u) && (lexLt itemOrd (keyA t) (keyA u) == decide (kc t < kc u)) && !(kc t == kc u))
theorem okAll : ((List.range 64).all fun t => (List.range 64).all fun u => okPair t u) = true := by decide +kernel
theorem ok_at {t u : Nat} (ht : t < 64) (hu : u < 64) (hn : t ≠ u) : diffIn (keyA t) (keyA u) = true ∧ lexLt itemOrd (keyA t) (keyA u) = decide (kc t < kc u) ∧ kc t ≠ kc u := by
  have h := List.all_eq_true.mp (List.all_eq_true.mp okAll t (List.mem_range.mpr ht)) u (List.mem_range.mpr hu)
  unfold okPair at h
  rw [Bool.or_eq_true] at h
  rcases h with h | h
  · exact absurd (by simpa using h) hn
  · simp only [Bool.and_eq_true, beq_iff_eq, Bool.not_eq_true', beq_eq_false_iff_ne] at h
    exact ⟨h.1.1, h.1.2, h.2⟩
theorem kc_inj {t u : Nat} (ht : t < 64) (hu : u < 64) (e : kc t = kc u) : t = u := by
  by_cases h : t = u
  · exact h
  · exact absurd e (ok_at ht hu h).2.2
/-- a key with the length and the part in front -/
theorem le_of_key {enc : Nat → PyData} {tl : Nat → List Sg} (he : ∀ t, keyToks (enc t) = keyA t ++ tl t) {t u : Nat} (ht : t < 64) (hu : u < 64) : dataLe false enc t u = decide (kc t ≤ kc u) := by
  show (!lexLt itemOrd (keyToks (enc u)) (keyToks (enc t))) = _
  by_cases h : u = t
  · subst h
    have : lexLt itemOrd (keyToks (enc u)) (keyToks (enc u)) = false := (listOrd itemOrd).irrefl _
    rw [this, decide_eq_true (Nat.le_refl _)]
    rfl
  · obtain ⟨h1, h2, h3⟩ := ok_at hu ht h
    rw [he, he, lex_in _ _ h1, h2, ← decide_not]
    congr 1
    exact propext Nat.not_lt
/-- the encodings of both sides -/
def encT (g : Nat → Int) (t : Nat) : PyData := .tuple [.int (insOf t).length, dT (insOf t), .int (g t)]
theorem encT_key (g : Nat → Int) (t : Nat) : keyToks (encT g t) = keyA t ++ [.inl 1, .inl (g t), .inl 0] := by
  show Sum.inl 1 :: (keyToks (.int (insOf t).length) ++ (Sum.inl 1 :: (keyToks (dT (insOf t)) ++ (Sum.inl 1 :: (keyToks (.int (g t)) ++ [Sum.inl 0]))))) = _
  show Sum.inl 1 :: Sum.inl _ :: Sum.inl 1 :: (keyToks (dT (insOf t)) ++ (Sum.inl 1 :: Sum.inl (g t) :: [Sum.inl 0])) = _
  rfl
theorem keyD_key (t : Nat) : keyToks (keyD (insOf t)) = keyA t ++ [.inl 0] := by
  show Sum.inl 1 :: (keyToks (.int (insOf t).length) ++ (Sum.inl 1 :: (keyToks (dT (insOf t)) ++ [Sum.inl 0]))) = _
  rfl
/-- sorted by such keys and chosen, or chosen and sorted -/
theorem sorted_alike {enc enc' : Nat → PyData} {tl tl' : Nat → List Sg} (he : ∀ t, keyToks (enc t) = keyA t ++ tl t) (he' : ∀ t, keyToks (enc' t) = keyA t ++ tl' t) (p : Nat → Bool) {N : Nat} (hN : N ≤ 64) :
    ((List.range N).mergeSort (dataLe false enc)).filter p = ((List.range N).filter p).mergeSort (dataLe false enc') := by
  have T1 := sortLe_total (listOrd itemOrd) false fun t => keyToks (enc t)
  have T2 := sortLe_total (listOrd itemOrd) false fun t => keyToks (enc' t)
  have m1 : ∀ x ∈ ((List.range N).mergeSort (dataLe false enc)).filter p, x < 64 := fun x hx => by
    have := List.mem_mergeSort.mp (List.mem_filter.mp hx).1
    have := List.mem_range.mp this
    omega
  have m2 : ∀ x ∈ ((List.range N).filter p).mergeSort (dataLe false enc'), x < 64 := fun x hx => by
    have := (List.mem_filter.mp (List.mem_mergeSort.mp hx)).1
    have := List.mem_range.mp this
    omega
  have p1 : (((List.range N).mergeSort (dataLe false enc)).filter p).Perm ((List.range N).filter p) := (List.mergeSort_perm _ _).filter p
  have p2 : (((List.range N).filter p).mergeSort (dataLe false enc')).Perm ((List.range N).filter p) := List.mergeSort_perm _ _
  have s1 : (((List.range N).mergeSort (dataLe false enc)).filter p).Pairwise (fun a b => kc a ≤ kc b) := by
    have h := (List.pairwise_mergeSort (le := dataLe false enc) T1.trans (fun a b => by rw [Bool.or_eq_true]; exact T1.total a b) (List.range N)).filter p
    exact h.imp_of_mem fun ha hb e => by
      rw [le_of_key he (m1 _ ha) (m1 _ hb)] at e
      exact of_decide_eq_true e
  have s2 : (((List.range N).filter p).mergeSort (dataLe false enc')).Pairwise (fun a b => kc a ≤ kc b) := by
    have h := List.pairwise_mergeSort (le := dataLe false enc') T2.trans (fun a b => by rw [Bool.or_eq_true]; exact T2.total a b) ((List.range N).filter p)
    exact h.imp_of_mem fun ha hb e => by
      rw [le_of_key he' (m2 _ ha) (m2 _ hb)] at e
      exact of_decide_eq_true e
  exact List.Perm.eq_of_pairwise (fun a b ha hb h1 h2 => kc_inj (m1 a ha) (m2 b hb) (Nat.le_antisymm h1 h2)) s1 s2 (p1.trans p2.symm)
end Lt

set_option Elab.async false
set_option linter.all false
set_option maxRecDepth 100000
set_option maxHeartbeats 1000000
/-! the factors of a polynomial: differences, one input after the other, and sums over what lies within -/
namespace Lt
open PySem PySem.Spec PyProof.Rows L2
/-- the program's: after the first k inputs -/
def Gm (p : Int) (f : Nat → Int) : Nat → Nat → Int
  | 0, t => f t
  | k + 1, t => if t / 2 ^ k % 2 = 1 then (Gm p f k t - Gm p f k (t - 2 ^ k)) % p else Gm p f k t
def Tw : Nat → (Nat → Int) → Nat → Int
  | 0, f, _ => f 0
  | k + 1, f, t => if t / 2 ^ k % 2 = 1 then Tw k (fun s => f (2 ^ k + s)) t - Tw k f t else Tw k f t
theorem bit_high {j k t : Nat} (h : j < k) : (2 ^ k + t) / 2 ^ j % 2 = t / 2 ^ j % 2 := by
  obtain ⟨d, rfl⟩ : ∃ d, k = j + (d + 1) := ⟨k - j - 1, by omega⟩
  rw [Nat.pow_add, Nat.mul_add_div (Nat.two_pow_pos j), Nat.pow_succ]
  omega
theorem Gm_shift (p : Int) : ∀ (k j : Nat) (f : Nat → Int) (t : Nat), k ≤ j → Gm p f k (2 ^ j + t) = Gm p (fun s => f (2 ^ j + s)) k t
  | 0, j, f, t, _ => rfl
  | k + 1, j, f, t, h => by
    unfold Gm
    rw [bit_high (show k < j by omega)]
    split
    · rename_i hb
      have hle : 2 ^ k ≤ t := by
        by_cases z : t < 2 ^ k
        · rw [Nat.div_eq_of_lt z] at hb; omega
        · omega
      have e : 2 ^ j + t - 2 ^ k = 2 ^ j + (t - 2 ^ k) := Nat.add_sub_assoc hle _
      rw [e, Gm_shift p k j f t (by omega), Gm_shift p k j f (t - 2 ^ k) (by omega)]
    · exact Gm_shift p k j f t (by omega)
theorem Tm_shift : ∀ (k j : Nat) (f : Nat → Int) (t : Nat), k ≤ j → Tw k f (2 ^ j + t) = Tw k f t
  | 0, j, f, t, _ => rfl
  | k + 1, j, f, t, h => by
    unfold Tw
    rw [bit_high (show k < j by omega), Tm_shift k j _ t (by omega), Tm_shift k j f t (by omega)]
theorem split_bit {k t : Nat} (ht : t < 2 ^ (k + 1)) (hb : t / 2 ^ k % 2 = 1) : ∃ u, u < 2 ^ k ∧ t = 2 ^ k + u := by
  have hp := Nat.two_pow_pos k
  have hle : 2 ^ k ≤ t := by
    by_cases z : t < 2 ^ k
    · rw [Nat.div_eq_of_lt z] at hb; omega
    · omega
  rw [Nat.pow_succ] at ht
  exact ⟨t - 2 ^ k, by omega, by omega⟩
theorem low_bit {k t : Nat} (ht : t < 2 ^ (k + 1)) (hb : ¬ t / 2 ^ k % 2 = 1) : t < 2 ^ k := by
  by_cases z : t < 2 ^ k
  · exact z
  · rw [Nat.pow_succ] at ht
    have h1 : t / 2 ^ k = 1 := by
      refine Nat.div_eq_of_lt_le (by omega) (by omega)
    rw [h1] at hb
    exact absurd rfl hb
theorem Gm_Tm (p : Int) : ∀ (k : Nat) (f : Nat → Int) (t : Nat), t < 2 ^ k → Gm p f k t % p = Tw k f t % p
  | 0, f, t, h => by
    have : t = 0 := by
      have : t < 1 := h
      omega
    subst this
    rfl
  | k + 1, f, t, h => by
    unfold Gm Tw
    split
    · rename_i hb
      obtain ⟨u, hu, rfl⟩ := split_bit h hb
      have e : 2 ^ k + u - 2 ^ k = u := by omega
      rw [e, Gm_shift p k k f u (Nat.le_refl _), Tm_shift k k _ u (Nat.le_refl _), Tm_shift k k f u (Nat.le_refl _), Int.emod_emod_of_dvd _ (Int.dvd_refl p), Int.sub_emod, Gm_Tm p k _ u hu, Gm_Tm p k f u hu, ← Int.sub_emod]
    · rename_i hb
      exact Gm_Tm p k f t (low_bit h hb)
theorem Gm_red {p : Int} {f : Nat → Int} (hp : 0 < p) (hf : ∀ t, 0 ≤ f t ∧ f t < p) : ∀ (k t : Nat), 0 ≤ Gm p f k t ∧ Gm p f k t < p
  | 0, t => hf t
  | k + 1, t => by
    unfold Gm
    split
    · exact ⟨Int.emod_nonneg _ (by omega), Int.emod_lt_of_pos _ hp⟩
    · exact Gm_red hp hf k t
theorem Gm_eq {p : Int} {f : Nat → Int} (hp : 0 < p) (hf : ∀ t, 0 ≤ f t ∧ f t < p) {k t : Nat} (ht : t < 2 ^ k) : Gm p f k t = Tw k f t % p := by
  obtain ⟨h1, h2⟩ := Gm_red hp hf k t
  rw [← Gm_Tm p k f t ht, Int.emod_eq_of_lt h1 h2]
/-! ### the law's sum -/
def subL (a b : List Nat) : Bool := (a.zip b).all fun q => decide (q.1 ≤ q.2)
def sgL (a b : List Nat) : Int := if ((b.sum : Nat) : Int) - ((a.sum : Nat) : Int) = 0 ∨ (((b.sum : Nat) : Int) - ((a.sum : Nat) : Int)) % 2 = 0 then 1 else 0 - 1
def tmL (f : Int) (a b : List Nat) : Int := if subL a b = true then f * sgL a b else 0
def tot (k : Nat) (f : Nat → Int) (t : Nat) : Int := ((List.range (2 ^ k)).map fun s => tmL (f s) (bitsR k s) (bitsR k t)).sum
theorem subL_app {a b : List Nat} {x y : Nat} (h : a.length = b.length) : subL (a ++ [x]) (b ++ [y]) = (subL a b && decide (x ≤ y)) := by
  unfold subL
  rw [List.zip_append h, List.all_append]
  show (_ && (decide (x ≤ y) && true)) = _
  rw [Bool.and_true]
theorem sum_snoc (a : List Nat) (x : Nat) : (a ++ [x]).sum = a.sum + x := by rw [List.sum_append]; simp
theorem sg_same {a b : List Nat} (x : Nat) : sgL (a ++ [x]) (b ++ [x]) = sgL a b := by
  unfold sgL
  rw [sum_snoc, sum_snoc]
  have e : (((b.sum + x : Nat) : Int)) - ((a.sum + x : Nat) : Int) = ((b.sum : Nat) : Int) - ((a.sum : Nat) : Int) := by omega
  rw [e]
theorem sg_flip {a b : List Nat} : sgL (a ++ [0]) (b ++ [1]) = 0 - sgL a b := by
  unfold sgL
  rw [sum_snoc, sum_snoc]
  split <;> split <;> omega
theorem sum_neg : ∀ (l : List Nat) (g : Nat → Int), (l.map fun s => 0 - g s).sum = 0 - (l.map g).sum
  | [], g => rfl
  | a :: l, g => by
    rw [List.map_cons, List.map_cons, List.sum_cons, List.sum_cons, sum_neg l g]
    omega
theorem sum_zero : ∀ (l : List Nat), (l.map fun _ => (0 : Int)).sum = 0
  | [] => rfl
  | a :: l => by rw [List.map_cons, List.sum_cons, sum_zero l]; rfl
theorem sum_congr {l : List Nat} {g h : Nat → Int} (e : ∀ s ∈ l, g s = h s) : (l.map g).sum = (l.map h).sum := by rw [List.map_congr_left e]
theorem tot_Tm : ∀ (k : Nat) (f : Nat → Int) (t : Nat), tot k f t = Tw k f t
  | 0, f, t => by
    show f 0 * 1 + 0 = f 0
    omega
  | k + 1, f, t => by
    have len : ∀ s, (bitsR k s).length = (bitsR k t).length := fun s => by rw [bitsR_len, bitsR_len]
    have e : 2 ^ (k + 1) = 2 ^ k + 2 ^ k := by rw [Nat.pow_succ]; omega
    unfold tot
    rw [e, List.range_add, List.map_append, List.sum_append, List.map_map, bitsR_succ k t]
    have h1 : ∀ s ∈ List.range (2 ^ k), bitsR (k + 1) s = bitsR k s ++ [0] := fun s hs => by
      rw [bitsR_succ, Nat.div_eq_of_lt (List.mem_range.mp hs)]
    have h2 : ∀ s ∈ List.range (2 ^ k), bitsR (k + 1) (2 ^ k + s) = bitsR k s ++ [1] := fun s hs => by
      rw [bitsR_succ, bitsR_high, Nat.add_div_left _ (Nat.two_pow_pos k), Nat.div_eq_of_lt (List.mem_range.mp hs)]
    unfold Tw
    have hbit : t / 2 ^ k % 2 = 0 ∨ t / 2 ^ k % 2 = 1 := by omega
    rcases hbit with hb | hb
    · rw [if_neg (by omega), hb, ← tot_Tm k f t]
      have e1 : ((List.range (2 ^ k)).map fun s => tmL (f s) (bitsR (k + 1) s) (bitsR k t ++ [0])).sum = tot k f t := sum_congr fun s hs => by
        rw [h1 s hs]
        unfold tmL
        rw [subL_app (len s), sg_same, decide_eq_true (Nat.le_refl 0), Bool.and_true]
      have e2 : ((List.range (2 ^ k)).map ((fun s => tmL (f s) (bitsR (k + 1) s) (bitsR k t ++ [0])) ∘ fun x => 2 ^ k + x)).sum = 0 := by
        rw [← sum_zero (List.range (2 ^ k))]
        refine sum_congr fun s hs => ?_
        show tmL (f (2 ^ k + s)) (bitsR (k + 1) (2 ^ k + s)) _ = 0
        rw [h2 s hs]
        unfold tmL
        rw [subL_app (len s), decide_eq_false (show ¬ 1 ≤ 0 by decide), Bool.and_false]
        rfl
      rw [e1, e2, Int.add_zero]
    · rw [if_pos hb, hb, ← tot_Tm k f t, ← tot_Tm k _ t]
      have e1 : ((List.range (2 ^ k)).map fun s => tmL (f s) (bitsR (k + 1) s) (bitsR k t ++ [1])).sum = 0 - tot k f t := by
        unfold tot
        rw [← sum_neg]
        refine sum_congr fun s hs => ?_
        rw [h1 s hs]
        unfold tmL
        rw [subL_app (len s), sg_flip, decide_eq_true (Nat.zero_le 1), Bool.and_true]
        split
        · rw [Int.mul_sub, Int.mul_zero]
        · rfl
      have e2 : ((List.range (2 ^ k)).map ((fun s => tmL (f s) (bitsR (k + 1) s) (bitsR k t ++ [1])) ∘ fun x => 2 ^ k + x)).sum = tot k (fun s => f (2 ^ k + s)) t := by
        unfold tot
        refine sum_congr fun s hs => ?_
        show tmL (f (2 ^ k + s)) (bitsR (k + 1) (2 ^ k + s)) _ = _
        rw [h2 s hs]
        unfold tmL
        rw [subL_app (len s), sg_same, decide_eq_true (Nat.le_refl 1), Bool.and_true]
      rw [e1, e2]
      omega
end Lt

set_option Elab.async false
set_option linter.all false
set_option maxRecDepth 100000
set_option maxHeartbeats 1000000
/-! tasks.py: inputs_of, part_of, factors_of -/
namespace Lt
open PySem PySem.Spec PyProof.Rows L2
theorem bits_pow : ∀ n, n ≤ 6 → Builtin.Int.intBits ((2 ^ n : Nat) : Int) = n + 1 := by decide +kernel
theorem bit_val (j i : Nat) : ((0 : Int) + (j : Nat)) / 2 ^ i % 2 ^ 1 = ((j / 2 ^ i % 2 : Nat) : Int) := by
  rw [Int.zero_add, Int.natCast_emod, Int.natCast_ediv, Int.natCast_pow]
  rfl
theorem tru_bit {K : PySem.W.Frag} {H : Hp} (j i : Nat) {z : Int} (e : z = ((j / 2 ^ i % 2 : Nat) : Int)) : TruV K (.int z) H (j / 2 ^ i % 2 == 1) := by
  subst e
  show (j / 2 ^ i % 2 == 1) = (((j / 2 ^ i % 2 : Nat) : Int) != 0)
  have h : j / 2 ^ i % 2 = 0 ∨ j / 2 ^ i % 2 = 1 := by omega
  rcases h with h | h <;> rw [h] <;> rfl
theorem bit_off {j i : Nat} (h : j / 2 ^ i % 2 = 1) : 2 ^ i ≤ j ∧ (j - 2 ^ i) / 2 ^ i % 2 = 0 := by
  have hp := Nat.two_pow_pos i
  have hle : 2 ^ i ≤ j := by
    by_cases z : j < 2 ^ i
    · rw [Nat.div_eq_of_lt z] at h; omega
    · omega
  obtain ⟨u, rfl⟩ : ∃ u, j = 2 ^ i + u := ⟨j - 2 ^ i, by omega⟩
  rw [Nat.add_div_left _ hp] at h
  refine ⟨hle, ?_⟩
  rw [Nat.add_sub_cancel_left]
  omega
/-- a list of numbers by their places -/
def Lf (N : Nat) (g : Nat → Int) : List V := (List.range N).map fun t => V.int (g t)
theorem Lf_len (N : Nat) (g : Nat → Int) : (Lf N g).length = N := by unfold Lf; rw [List.length_map, List.length_range]
theorem Lf_get {N j : Nat} {g : Nat → Int} (h : j < N) : (Lf N g)[j]? = some (V.int (g j)) := by
  unfold Lf
  rw [List.getElem?_map, List.getElem?_range h]
  rfl
theorem Lf_congr {N : Nat} {g h : Nat → Int} (e : ∀ t, t < N → g t = h t) : Lf N g = Lf N h := by
  unfold Lf
  exact List.map_congr_left fun t ht => by rw [e t (List.mem_range.mp ht)]
theorem Lf_set {N j : Nat} {g : Nat → Int} {v : Int} : (Lf N g).set j (V.int v) = Lf N fun t => if t = j then v else g t := by
  refine List.ext_getElem? fun k => ?_
  rw [List.getElem?_set, Lf_len]
  by_cases hk : k < N
  · rw [Lf_get hk, Lf_get hk]
    by_cases e : j = k
    · subst e
      rw [if_pos rfl, if_pos hk, if_pos rfl]
    · rw [if_neg e, if_neg (fun z => e z.symm)]
  · have h1 : ∀ g', (Lf N g')[k]? = none := fun g' => List.getElem?_eq_none (by rw [Lf_len]; omega)
    rw [h1, h1]
    by_cases e : j = k
    · rw [if_pos e, if_neg (by omega)]
    · rw [if_neg e]
/-- the numbers of a table, by place -/
def fT (bs : List Nat) (t : Nat) : Int := ((bs.getD t 0 : Nat) : Int)
theorem nIs_Lf (bs : List Nat) : nIs bs = Lf bs.length (fT bs) := by
  refine List.ext_getElem? fun k => ?_
  by_cases hk : k < bs.length
  · rw [Lf_get hk]
    unfold nIs fT
    rw [List.getElem?_map, List.getElem?_eq_getElem hk, List.getD_eq_getElem?_getD, List.getElem?_eq_getElem hk]
    rfl
  · rw [List.getElem?_eq_none (by unfold nIs; rw [List.length_map]; omega), List.getElem?_eq_none (by rw [Lf_len]; omega)]
section
variable {P : Program} {w : World} {K : PySem.W.Frag} {mg : Str → Option Value} {base : Heap}
def spInsOf : Sp := fun vs H Q _ => ∃ (v : V) (bs : List Nat) (n : Nat), vs = [v] ∧ TK H v bs ∧ bs.length = 2 ^ n ∧ n ≤ 6 ∧ Q (nI n) H
def spPart : Sp := fun vs H Q _ => ∃ t : Nat, vs = [nI t] ∧ ∀ v H', Same H H' → TK H' v (insOf t) → Q v H'
abbrev rShrN : R2 := fun x y H Q => ∃ (i : Int) (k : Nat), x = .int i ∧ y = .int (k : Int) ∧ Q (.int (i / 2 ^ k)) H
abbrev rAndM : R2 := fun x y H Q => ∃ (i : Int) (k : Nat), x = .int i ∧ y = .int (2 ^ k - 1) ∧ Q (.int (i % 2 ^ k)) H
def tBit (K : PySem.W.Frag) (i j : Nat) : L2.TT := fun σ H Q => (tOp rAndM (tOp rShrN (tVar i) (tVar j)) (tC (.int 1))) σ H fun x H' => ∃ k, TruV K x H' k ∧ Q k H'
def spFacs : Sp := fun vs H Q _ => ∃ (p : Nat) (v : V) (bs : List Nat) (n : Nat), vs = [nI p, v] ∧ 1 ≤ p ∧ TK H v bs ∧ bs.length = 2 ^ n ∧ n ≤ 6 ∧ ∀ l H', Same H H' → H l = none → H' l = some (.lst (Lf (2 ^ n) (Gm p (fT bs) n))) → Q (.ref l) H'
end
end Lt

set_option Elab.async false
set_option linter.all false
set_option maxRecDepth 100000
set_option maxHeartbeats 2000000
/-! a tuple once: t * 1 -/
namespace Lt
open PySem PySem.Spec PyProof.Rows L2
theorem tuple_mul1 (l : Addr) (items : Array Value) (n : Nat) (dd : Option Addr) (sl : Array (Option Value)) (u : PySem.Tok) :
    Meets (Builtin.«tuple.__mul__» ⟨[.ref l, .int 1 u], []⟩) (fun _ R s => s.heap.get? l = some { cls := .type "tuple", dict := dd, data := .seq items n, slots := sl } ∧ R (.ok (.ret (Value.ref l))) s) :=
  .of_wp fun prog w A R s h => by
    obtain ⟨hp, g, d, tk, os⟩ := s
    obtain ⟨hl, h⟩ := h
    have f1 := AutoSeq1.idx_int
    wp_walk using wpAny_loadPart' hl
    exact ⟨_, rfl, h⟩
def rRepA (K : PySem.W.Frag) : R2 := fun x y H Q => ∃ l k xs, x = .ref l ∧ y = .int k ∧ SqT K H l xs ∧ xs ≠ [] ∧ 1 ≤ k ∧ k ≤ 1000 ∧ xs.length ≤ 1000 ∧ (k = 1 → Q (.ref l) H) ∧ (2 ≤ k → ∀ p, H p = none → Q (.ref p) (upd H p (.tup (List.replicate k.toNat xs).flatten)))
theorem op_repA {X : Cx} : OpR X (binaryOp .Mult) (rRepA X.K) := by
  intro pins s σ H x y v u Q I rx ry h
  obtain ⟨l, k, xs, rfl, rfl, hT, hne, h1, h2, hz, q1, q2⟩ := h
  by_cases hk : k = 1
  · subst hk
    cases rx
    obtain ⟨t, rfl⟩ := ry
    obtain ⟨its, r, ⟨⟨cls, dd, data, sl⟩, ho, hc, n, hd⟩, hs⟩ := I.tuple hT
    simp only at hc hd
    subst hc hd
    exact wpAny_binaryOp_repeat_ref (T := "tuple") (U := "int") (by decide) ⟨_, ho, rfl⟩ (fun s' => typeIs_int s' 1 t) noFill_tuple_mul F.fills_int_mul F.slot_int_rmul repeat_tuple F.slot_int_index.lookup
      (call_meets F.slot_int_rmul (typeIs_int s 1 t) F.entry_int_rmul (F.args_int_rmul_2 _ _) (int_rmul_tuple 1 t l its.toArray n dd sl)
        ⟨ho, rfl, ⟨_, ho, rfl⟩, call_meets F.slot_tuple_mul ⟨_, ho, rfl⟩ F.entry_tuple_mul (F.args_tuple_mul_2 _ _) (tuple_mul1 l its.toArray n dd sl t) ⟨ho, ⟨.ref l, H, I, rfl, q1 rfl⟩⟩⟩)
  · exact op_repT pins s σ H _ _ v u Q I rx ry ⟨l, k, xs, rfl, rfl, hT, hne, by omega, h2, hz, q2 (by omega)⟩
end Lt

set_option Elab.async false
set_option linter.all false
set_option maxRecDepth 100000
set_option maxHeartbeats 2000000
/-! tasks.py: polynomial, degree, all_of -/
namespace Lt
open PySem PySem.Spec PyProof.Rows L2
/-- the factors of a table -/
def facG (p n : Nat) (bs : List Nat) (t : Nat) : Int := Gm p (fT bs) n t
/-- the places of a polynomial's parts, in its order -/
def polyL (p n : Nat) (bs : List Nat) : List Nat := ((List.range (2 ^ n)).mergeSort (PySem.W.dataLe false (encT (facG p n bs)))).filter fun t => facG p n bs t != 0
def partAt (g : Nat → Int) (H : Hp) (x : V) (t : Nat) : Prop := ∃ b pt, x = .ref b ∧ H b = some (.tup [.ref pt, .int (g t)]) ∧ H pt = some (.tup (nIs (insOf t)))
def tripAt (g : Nat → Int) (H : Hp) (x : V) (t : Nat) : Prop := ∃ b pt, x = .ref b ∧ H b = some (.tup [nI (insOf t).length, .ref pt, .int (g t)]) ∧ H pt = some (.tup (nIs (insOf t)))
def PolyAt (g : Nat → Int) (H : Hp) (v : V) (ts : List Nat) : Prop := ∃ a xs, v = .ref a ∧ H a = some (.tup xs) ∧ Paired (partAt g H) xs ts
theorem partAt.tm {g : Nat → Int} {H H' : Hp} {x : V} {t : Nat} (e : Tm H H') (h : partAt g H x t) : partAt g H' x t := let ⟨b, pt, e1, e2, e3⟩ := h; ⟨b, pt, e1, e.1 _ _ e2, e.1 _ _ e3⟩
theorem tripAt.tm {g : Nat → Int} {H H' : Hp} {x : V} {t : Nat} (e : Tm H H') (h : tripAt g H x t) : tripAt g H' x t := let ⟨b, pt, e1, e2, e3⟩ := h; ⟨b, pt, e1, e.1 _ _ e2, e.1 _ _ e3⟩
theorem PolyAt.same {g : Nat → Int} {H H' : Hp} {v : V} {ts : List Nat} (s : Same H H') (h : PolyAt g H v ts) : PolyAt g H' v ts :=
  let ⟨a, xs, e1, e2, e3⟩ := h; ⟨a, xs, e1, s _ _ e2, paired_mono (fun _ _ r => partAt.tm (.of s) r) e3⟩
def partD (g : Nat → Int) (t : Nat) : PyData := .tuple [dT (insOf t), .int (g t)]
theorem partAt.rp {g : Nat → Int} {H : Hp} {x : V} {t : Nat} (h : partAt g H x t) : Rp H x (partD g t) := by
  obtain ⟨b, pt, rfl, hb, hp⟩ := h
  exact .tup (.inl hb) (.cons (TN.rp ⟨pt, rfl, .inl hp⟩) (.cons (.int _) .nil))
theorem parts_rp {g : Nat → Int} {H : Hp} : ∀ {xs : List V} {ts : List Nat}, Paired (partAt g H) xs ts → RpAll H xs (ts.map (partD g))
  | _, _, .nil => .nil
  | _, _, .cons r t => .cons r.rp (parts_rp t)
theorem PolyAt.rp {g : Nat → Int} {H : Hp} {v : V} {ts : List Nat} (h : PolyAt g H v ts) : Rp H v (.tuple (ts.map (partD g))) := by
  obtain ⟨a, xs, rfl, ha, hx⟩ := h
  exact .tup (.inl ha) (parts_rp hx)
theorem tripAt.rp {g : Nat → Int} {H : Hp} {x : V} {t : Nat} (h : tripAt g H x t) : Rp H x (encT g t) := by
  obtain ⟨b, pt, rfl, hb, hp⟩ := h
  exact .tup (.inl hb) (.cons (.int _) (.cons (TN.rp ⟨pt, rfl, .inl hp⟩) (.cons (.int _) .nil)))
theorem alike_enc (g : Nat → Int) (t u : Nat) : PySem.W.alike (encT g t) (encT g u) = true := by
  show (true && (PySem.W.alikeAll ((insOf t).map dN) ((insOf u).map dN) && (true && true))) = true
  rw [alike_nats]
  rfl
theorem depth_enc (g : Nat → Int) (t : Nat) : (encT g t).depth ≤ 60 := by
  have h := dep_mx (insOf t)
  show max 0 (max (PyData.depthAll ((insOf t).map dN) + 1) (max 0 0)) + 1 ≤ 60
  rw [h]
  decide
theorem filter_at : ∀ (l : List Nat) (q : Nat → Bool), (((List.range l.length).filter fun i => q (l.getD i 0)).map fun i => l.getD i 0) = l.filter q
  | [], q => rfl
  | a :: l, q => by
    rw [List.length_cons, List.range_succ_eq_map, List.filter_cons, List.filter_map]
    have h := filter_at l q
    have e : ((List.filter ((fun i => q ((a :: l).getD i 0)) ∘ Nat.succ) (List.range l.length)).map Nat.succ).map (fun i => (a :: l).getD i 0) = l.filter q := by
      rw [List.map_map, ← h]
      rfl
    rw [List.filter_cons]
    show (if q a = true then _ else _ : List Nat).map _ = _
    split
    · rw [List.map_cons, e]
      rfl
    · exact e
theorem insOf_lt {t i : Nat} (h : i ∈ insOf t) : i < 6 := List.mem_range.mp (List.mem_filter.mp h).1
theorem insOf_len (t : Nat) : (insOf t).length ≤ 6 := Nat.le_trans (List.length_filter_le _ _) (by rw [List.length_range]; exact Nat.le_refl _)
section
variable {P : Program} {w : World} {K : PySem.W.Frag} {mg : Str → Option Value} {base : Heap} {CN CT : Addr}
def primes : List Nat := [2, 3, 5, 7]
/-- a good task -/
structure Tsk (p n : Nat) (bs : List Nat) : Prop where
  hp : p ∈ primes
  b1 : ∀ b ∈ bs, b ≤ 1
  len : bs.length = 2 ^ n
  n1 : 1 ≤ n
  n6 : n ≤ 6
def spPoly (CN CT : Addr) : Sp := fun vs H Q E => ∃ (pq tv : V) (d : PyData), vs = [pq, tv] ∧ flatV pq = true ∧ Rp H tv d ∧ (∀ ds, d = .tuple ds → ds.length ≤ 1000) ∧
  ((∃ p n bs, pq = nI p ∧ TK H tv bs ∧ d = dT bs ∧ Tsk p n bs ∧ ∀ v H', Same H H' → PolyAt (facG p n bs) H' v (polyL p n bs) → Q v H') ∨
   (inV pq ([2, 3, 5, 7].map V.int) = true ∧ isTask d = false ∧ Bad0 CT H E) ∨ (inV pq ([2, 3, 5, 7].map V.int) = false ∧ Bad0 CN H E))
theorem tsk_tab {p n : Nat} {bs : List Nat} (h : Tsk p n bs) : isTask (dT bs) = true := by
  show ((bs.map dN).all bitD01 && tabLens.contains (((bs.map dN).length : Nat) : Int)) = true
  rw [Bool.and_eq_true]
  constructor
  · rw [List.all_map, List.all_eq_true]
    intro b hb
    have := h.b1 b hb
    show (true && decide ((b : Int) = 0 ∨ (b : Int) = 1)) = true
    rw [Bool.true_and, decide_eq_true (by omega)]
  · rw [List.length_map, h.len]
    have : ∀ n, 1 ≤ n → n ≤ 6 → tabLens.contains ((2 ^ n : Nat) : Int) = true := by
      intro n h1 h6
      have : n = 1 ∨ n = 2 ∨ n = 3 ∨ n = 4 ∨ n = 5 ∨ n = 6 := by omega
      rcases this with rfl | rfl | rfl | rfl | rfl | rfl <;> rfl
    exact this n h.n1 h.n6
theorem prime_in {p : Nat} (h : p ∈ primes) : inV (nI p) ([2, 3, 5, 7].map V.int) = true ∧ 2 ≤ p ∧ p ≤ 7 := by
  unfold primes at h
  simp only [List.mem_cons, List.not_mem_nil, or_false] at h
  rcases h with rfl | rfl | rfl | rfl <;> exact ⟨rfl, by decide, by decide⟩
abbrev rLenS (K : PySem.W.Frag) : List V → Hp → VK → Prop := fun xs H Q => ∃ p ys, xs = [V.ref p] ∧ (SqL K H p ys ∨ SqT K H p ys) ∧ Q (.int ys.length) H
end
end Lt

set_option Elab.async false
set_option linter.all false
set_option maxRecDepth 100000
set_option maxHeartbeats 2000000
/-! tasks.py: degree, all_of -/
namespace Lt
open PySem PySem.Spec PyProof.Rows L2
def degV (ts : List Nat) : V := if ts = [] then .non else nI ((ts.map fun t => (insOf t).length).foldl max 0)
def allT (m : Nat) : List Nat := List.replicate (2 ^ m - 1) 0 ++ [1]
section
variable {P : Program} {w : World} {K : PySem.W.Frag} {mg : Str → Option Value} {base : Heap} {CN CT : Addr}
def spDeg (CN CT : Addr) : Sp := fun vs H Q E => ∃ (pq tv : V) (d : PyData), vs = [pq, tv] ∧ flatV pq = true ∧ Rp H tv d ∧ (∀ ds, d = .tuple ds → ds.length ≤ 1000) ∧
  ((∃ p n bs, pq = nI p ∧ TK H tv bs ∧ d = dT bs ∧ Tsk p n bs ∧ ∀ H', Same H H' → Q (degV (polyL p n bs)) H') ∨
   (inV pq ([2, 3, 5, 7].map V.int) = true ∧ isTask d = false ∧ Bad0 CT H E) ∨ (inV pq ([2, 3, 5, 7].map V.int) = false ∧ Bad0 CN H E))
theorem polyL_len (p n : Nat) (bs : List Nat) : (polyL p n bs).length ≤ 2 ^ n := by
  unfold polyL
  refine Nat.le_trans (List.length_filter_le _ _) ?_
  rw [List.length_mergeSort, List.length_range]
  exact Nat.le_refl _
def spAllOf (CN : Addr) : Sp := fun vs H Q E => ∃ (v : V) (d : PyData), vs = [v] ∧ Rp H v d ∧ ((∃ m : Nat, d = .int m ∧ 1 ≤ m ∧ m ≤ 6 ∧ ∀ u H', Same H H' → TK H' u (allT m) → Q u H') ∨ (outD d ∧ Bad0 CN H E))
theorem rep_flat (k : Nat) : (List.replicate k [V.int 0]).flatten = nIs (List.replicate k 0) := by
  induction k with
  | zero => rfl
  | succ k ih =>
    rw [List.replicate_succ, List.flatten_cons, ih, List.replicate_succ]
    rfl
end
end Lt

set_option Elab.async false
set_option linter.all false
set_option maxRecDepth 100000
set_option maxHeartbeats 2000000
/-! sum of a tuple of numbers -/
namespace Lt
open PySem PySem.Spec PyProof.Rows L2
def rSumT (K : PySem.W.Frag) : List V → Hp → VK → Prop := fun vs H Q => ∃ (a : Addr) (ns : List Nat), vs = [V.ref a] ∧ SqT K H a (nIs ns) ∧ Q (nI ns.sum) H
theorem preSum_nats {its : List Value} : ∀ (ns : List Nat) (k : Nat), k ≤ ns.length → preSum (fun i => ((ns.getD i 0 : Nat) : Int)) k = (((ns.take k).sum : Nat) : Int)
  | ns, 0, _ => by simp [preSum]
  | ns, k + 1, h => by
    show preSum (fun i => ((ns.getD i 0 : Nat) : Int)) k + ((ns.getD k 0 : Nat) : Int) = _
    rw [preSum_nats (its := its) ns k (by omega), List.take_add_one, List.sum_append, List.getElem?_eq_getElem (show k < ns.length by omega), List.getD_eq_getElem?_getD, List.getElem?_eq_getElem (show k < ns.length by omega)]
    simp
theorem cr_sumT {X : Cx} (hc : X.calm = true) : CallR X (.builtin "sum") (rSumT X.K) := by
  intro pins s σ H vs us Q I r h
  obtain ⟨a, ns, rfl, hs, q⟩ := h
  obtain rfl := Vals.ref1 r
  obtain ⟨its, rv, p, _⟩ := I.tuple hs
  have hlen : its.length = ns.length := by
    have := rv.length
    rw [nIs_len] at this
    exact this.symm
  obtain ⟨o, ho, hcl, hd⟩ := id p
  have hlt : a < s.heap.objs.size := Heap.lt_size ho
  refine call_sum_walkG (wpAny_pyIter_tuple p ?_)
  refine ⟨s.heap.objs.size, [s.heap.objs.size, a], [s.heap.objs.size], its.toArray.size, _, _, (fun i => ((ns.getD i 0 : Nat) : Int)), rfl, Walks.tuple (A := X.A.in1) (I.ok.hd hc) _ a (Nat.ne_of_lt hlt) its.toArray, ⟨⟨_, Heap.get?_push_size _ rfl, rfl, rfl⟩, (show s.heap.IsTuple a its.toArray from p).at fun o e => Heap.get?_push_of_some _ e⟩, fun b hb => ?_, fun i v hv => ?_, fun h' tk t' hk => ?_⟩
  · show b < (s.heap.push _).objs.size
    rw [Heap.size_push]
    have : b = s.heap.objs.size ∨ b = a := by simpa using hb
    rcases this with e | e
    · rw [e]; exact Nat.lt_succ_self _
    · rw [e]; exact Nat.lt_succ_of_lt hlt
  · have hv : its.toArray[i]? = some v := hv
    rw [List.getElem?_toArray] at hv
    have hi := (List.getElem?_eq_some_iff.mp hv).1
    obtain ⟨u, hu, ru⟩ := rv.get (i := i) (x := nI (ns.getD i 0)) (by rw [nIs_get, List.getElem?_eq_getElem (by omega), List.getD_eq_getElem?_getD, List.getElem?_eq_getElem (by omega)]; rfl)
    rw [hv] at hu
    cases hu
    exact ru
  · rw [List.size_toArray, hlen, preSum_nats (its := its) ns _ (Nat.le_refl _), List.take_length]
    have kept : ∀ b o, s.heap.get? b = some o → h'.get? b = some o := fun b o e => hk b o (fun hm => by
      have hm : b = s.heap.objs.size := by simpa using hm
      exact absurd (hm ▸ Heap.lt_size e) (Nat.lt_irrefl _)) (Heap.get?_push_of_some _ e)
    exact ⟨nI _, H, I.kept kept, ⟨_, rfl⟩, q⟩
end Lt

set_option Elab.async false
set_option linter.all false
set_option maxRecDepth 100000
set_option maxHeartbeats 2000000
/-! _law_parts: the pieces -/
namespace Lt
open PySem PySem.Spec PyProof.Rows L2 NdefX LamX LmX
/-- a def of the top whose code is known -/
def TopC (K : PySem.W.Frag) (mg : Str → Option Value) (x : Str) (st : Stmt) (ps : List Str) (c : Addr) : Prop := ∃ (f : Addr) (oc : Value) (od : Option Addr) (dV kV doc pm : Value) (an : Option Addr) (ct : Value) (osl : Array (Option Value)),
  mg x = some (.ref f) ∧ K.lookup f = some ⟨oc, od, .func (PySem.W.fnOf x x (defArgs st) (defBody st) (defScope st) dV kV doc pm an (.ref c) ct), osl⟩ ∧ PySem.W.codeIn K (.ref c) x = true ∧ PySem.W.keepIn K (.ref f) = true ∧ Binds K (PySem.W.fnOf x x (defArgs st) (defBody st) (defScope st) dV kV doc pm an (.ref c) ct) ps []
def kwV : Expr → Expr
  | .Call _ _ (k :: _) _ => k.value
  | _ => noX
abbrev q_lamP : Str := "_law_parts.<locals>." ++ "<lambda>"
abbrev parN : List Str := ["prime", "table", "rows", "found", "bits", "total", "own", "one", "small", "great", "at", "bit"]
/-- no one lies above -/
theorem sub_none : ∀ (a b : List Nat), a.length = b.length → ((((List.range a.length).filter fun k => decide (b.getD k 0 < a.getD k 0)) = []) ↔ subL a b = true)
  | [], [], _ => ⟨fun _ => rfl, fun _ => rfl⟩
  | x :: a, y :: b, h => by
    have ih := sub_none a b (by simpa using h)
    rw [List.length_cons, List.range_succ_eq_map, List.filter_cons, List.filter_map]
    have e : ((fun k => decide ((y :: b).getD k 0 < (x :: a).getD k 0)) ∘ Nat.succ) = fun k => decide (b.getD k 0 < a.getD k 0) := rfl
    have e2 : subL (x :: a) (y :: b) = (decide (x ≤ y) && subL a b) := rfl
    rw [e, e2, Bool.and_eq_true]
    show (if decide (y < x) = true then _ else _) = [] ↔ _
    by_cases hxy : y < x
    · rw [if_pos (decide_eq_true hxy)]
      exact ⟨fun z => (by cases z), fun z => absurd (of_decide_eq_true z.1) (by omega)⟩
    · rw [if_neg (by simpa using hxy), List.map_eq_nil_iff, ih]
      exact ⟨fun z => ⟨decide_eq_true (by omega), z⟩, fun z => z.2⟩
  | [], _ :: _, h => by cases h
  | _ :: _, [], h => by cases h
theorem insOf_low {n t : Nat} (hn : n ≤ 6) (ht : t < 2 ^ n) : (List.range n).filter (fun k => (bitsR n t).getD k 0 == 1) = insOf t := by
  unfold insOf
  have e : 6 = n + (6 - n) := by omega
  rw [e, List.range_add, List.filter_append]
  have h2 : List.filter (fun i => t / 2 ^ i % 2 == 1) ((List.range (6 - n)).map fun x => n + x) = [] := by
    rw [List.filter_eq_nil_iff]
    intro x hx
    obtain ⟨j, _, rfl⟩ := List.mem_map.mp hx
    have : t / 2 ^ (n + j) = 0 := Nat.div_eq_of_lt (Nat.lt_of_lt_of_le ht (Nat.pow_le_pow_right (by decide) (by omega)))
    rw [this]
    decide
  rw [h2, List.append_nil]
  refine List.filter_congr fun k hk => ?_
  have hk := List.mem_range.mp hk
  rw [List.getD_eq_getElem?_getD, bitsR_get hk]
  rfl
theorem sg_eq (a b : List Nat) : (if decide (V.int (Int.fmod (((b.sum : Nat) : Int) - ((a.sum : Nat) : Int)) 2) = V.int 0) = true then (1 : Int) else 0 - 1) = sgL a b := by
  unfold sgL
  rw [Int.fmod_eq_emod_of_nonneg _ (by decide)]
  by_cases h : (((b.sum : Nat) : Int) - ((a.sum : Nat) : Int)) % 2 = 0
  · rw [if_pos (decide_eq_true (by rw [h])), if_pos (.inr h)]
  · rw [if_neg (fun z => h (by have := of_decide_eq_true z; injection this)), if_neg (fun z => z.elim (fun y => h (by rw [y]; rfl)) h)]
/-- the sum over the first places -/
def psum (n : Nat) (f : Nat → Int) (t j : Nat) : Int := ((List.range j).map fun s => tmL (f s) (bitsR n s) (bitsR n t)).sum
theorem psum_succ (n : Nat) (f : Nat → Int) (t j : Nat) : psum n f t (j + 1) = psum n f t j + tmL (f j) (bitsR n j) (bitsR n t) := by
  unfold psum
  rw [List.range_succ, List.map_append, List.sum_append]
  simp
theorem fac_mod {p n : Nat} {bs : List Nat} {t : Nat} (tk : Tsk p n bs) (ht : t < 2 ^ n) : Int.fmod (psum n (fT bs) t (2 ^ n)) p = facG p n bs t := by
  obtain ⟨_, p2, p7⟩ := prime_in tk.hp
  have hf : ∀ t, 0 ≤ fT bs t ∧ fT bs t < (p : Int) := fun t => by
    unfold fT
    have : bs.getD t 0 ≤ 1 := by
      by_cases h : t < bs.length
      · rw [List.getD_eq_getElem?_getD, List.getElem?_eq_getElem h]
        exact tk.b1 _ (List.getElem_mem h)
      · rw [List.getD_eq_getElem?_getD, List.getElem?_eq_none (by omega)]
        exact Nat.zero_le _
    omega
  unfold facG
  rw [Gm_eq (by omega) hf ht, ← tot_Tm, Int.fmod_eq_emod_of_nonneg _ (by omega)]
  rfl
def PartsL (g : Nat → Int) (H : Hp) (l : Addr) (ts : List Nat) : Prop := ∃ xs, H l = some (.lst xs) ∧ Paired (partAt g H) xs ts
section
variable {P : Program} {w : World} {K : PySem.W.Frag} {mg : Str → Option Value} {base : Heap} {c2 P2 : Addr}
def tSub (K : PySem.W.Frag) : L2.TT := tTest (tOp (rI0 fun i j => .bl (decide (j < i))) (tVar 8) (tVar 9))
def tOn (K : PySem.W.Frag) : L2.TT := tTest (tOp rEq (tVar 11) (tC (.int 1)))
end
end Lt

set_option Elab.async false
set_option linter.all false
set_option maxRecDepth 100000
set_option maxHeartbeats 4000000
/-! _law_parts -/
namespace Lt
open PySem PySem.Spec PyProof.Rows L2 NdefX LamX LmX
theorem lens_at : ∀ m, m < 6 → (tabLens.map V.int)[m]? = some (.int ((2 ^ (m + 1) : Nat) : Int)) := by
  intro m hm
  have : m = 0 ∨ m = 1 ∨ m = 2 ∨ m = 3 ∨ m = 4 ∨ m = 5 := by omega
  rcases this with rfl | rfl | rfl | rfl | rfl | rfl <;> rfl
theorem lens_no {n m : Nat} {z : V} (h6 : n ≤ 6) (hm : m < n - 1) (hz : (tabLens.map V.int)[m]? = some z) : eqV z (.int ((2 ^ n : Nat) : Int)) = false := by
  rw [lens_at m (by omega)] at hz
  cases hz
  show (((2 ^ (m + 1) : Nat) : Int) == ((2 ^ n : Nat) : Int)) = false
  rw [beq_eq_false_iff_ne]
  intro e
  have e : 2 ^ (m + 1) = 2 ^ n := by omega
  have := Nat.pow_lt_pow_right (a := 2) (by decide) (show m + 1 < n by omega)
  omega
section
variable {P : Program} {w : World} {K : PySem.W.Frag} {mg : Str → Option Value} {base : Heap} {c2 P2 : Addr}
def spParts (TS : List (Addr × Str)) : Sp := fun vs H Q _ => ∃ (p : Nat) (bs : List Nat) (n : Nat) (v : V), vs = [nI p, v] ∧ Tsk p n bs ∧ TK H v bs ∧ Tabs TS H ∧ ∀ l H', ExtN H H' → Tabs TS H' → PartsL (facG p n bs) H' l (polyL p n bs) → Q (.ref l) H'
/-- what is known of a turn's rows -/
structure RwAt (H : Hp) (lr : Addr) (rs : List V) (n : Nat) : Prop where
  at_ : H lr = some (.lst rs)
  pr : Paired (TK H) rs (rowsB n)
theorem RwAt.same {H H' : Hp} {lr : Addr} {rs : List V} {n : Nat} (h : RwAt H lr rs n) (s : Same H H') : RwAt H' lr rs n := ⟨s _ _ h.at_, paired_mono (fun _ _ r => TK.tm (.of s) r) h.pr⟩
theorem sh_Ln (t : List Nat) : SeqAt.shaped (.list (t.map dN)) = true := by
  show (PyData.canLayAll0 (t.map dN) && decide (PyData.depthAll (t.map dN) + 1 ≤ 64)) = true
  rw [can_nats, depth_nats]
  rfl
theorem eqv_nil0 (t : List Nat) : PyData.eqv (.list (t.map dN)) (.list []) = decide (t = []) := by
  cases t with
  | nil => rfl
  | cons => rfl
theorem RwAt.mut {H : Hp} {lr lf : Addr} {rs xs ys : List V} {n : Nat} (h : RwAt H lr rs n) (hf : H lf = some (.lst xs)) (hne : lr ≠ lf) : RwAt (upd H lf (.lst ys)) lr rs n :=
  ⟨(upd_ne hne).trans h.at_, paired_mono (fun _ _ r => TK.tm (Tm.lst hf) r) h.pr⟩
theorem filt_one {q : Nat → Bool} {n : Nat} : ((List.range n).filter q).map (fun _ => 1) = [] ↔ (List.range n).filter q = [] := List.map_eq_nil_iff
end
end Lt

set_option Elab.async false
set_option linter.all false
set_option maxRecDepth 100000
set_option maxHeartbeats 2000000
/-! the end of a law with lambdas, where one of its helpers makes lambdas too; the law's heap is the frame's -/
namespace Lt
open PySem PySem.Spec PyProof.Rows L2 NdefX LamX LmX
def spLamN (K : PySem.W.Frag) (TS : List (Addr × Str)) : Sp := fun vs H Q _ => ∃ (l : Addr) (ns : List Int), vs = [.ref l] ∧ SqL K H l (ns.map V.int) ∧ Tabs TS H ∧ ∀ H', Q (.bl true) H'
theorem cti_mk {K : PySem.W.Frag} {h : Heap} {mg : Str → Option Value} {x : Str} {zs : List Int} {J : Addr} {o : Obj} (X : K.In h) (G : h.Ns mainGlobals mg) (a : PySem.W.nsIn K mainGlobals x = some (some (.ref J))) (l : K.lookup J = some o)
    (b : ∃ (its : Array Value) (n : Nat), o.cls = .type "tuple" ∧ o.data = .seq its n ∧ its.size ≤ sizeLine ∧ Vals (zs.map V.int) its.toList) : Cti K mg x zs := by
  obtain ⟨its, n, h1, h2, h3, h4⟩ := b
  exact ⟨J, PySem.W.mg_of X G a, fun H => .inr ⟨o, its, n, l, h1, h2, h3, h4⟩⟩
abbrev CtiX {K : PySem.W.Frag} {h : Heap} (_ : K.In h) (mg : Str → Option Value) (x : Str) (zs : List Int) : Prop := Cti K mg x zs
/-- the tables of the defs that are named are empty at the start -/
theorem walk_ofTabs (nms : List Str) {l : PySem.W.OpenLaw} {n k : Nat} {q : Program} {loose : List Str} {XP : (Str → Option Value) → Heap → Prop} {YP : World → Heap → Prop} {d : DefRec} {K : Params → PySem.W.Frag} {CX : World → CXT} {x : Str}
    (hn : l.most = some n) (hn2 : n ≤ sizeLine) (hdf : d.params.defaults = []) (hr : Room k callerA) (hrec : (nms.all fun m => (recsOf q).any fun e => e.name == m) = true) (hY : ∀ (w : World) (h : Heap), YP w h → (K w.params).In h)
    (F : ∀ (w : World) (mg : Str → Option Value) (fa : Addr) (h : Heap), YP w h → (K w.params).In h → h.Ns mainGlobals mg → mg d.name = some (.ref fa) → (∀ m ∈ nms, ∀ f, mg m = some (.ref f) → OwnTab (K w.params) f h) → LawAtS l w (K w.params) (CX w) k n x mg fa h)
    (hCX : ∀ (w : World) (H : Hp) (s : Shared) (e : Value) (s' : Shared), CX w [] H s (fun _ _ _ => False) e s' → False) :
    PySem.W.WalkO q loose XP YP l.row.toRowW d [] (fun f vs => PySem.call f vs) := by
  refine Att.attach_callB hn hdf fun w s₀ s₁ mg mb fa o pm cd doc a vs ns G Y ho hd hcd hmg hobj hints hlen hbits hg => ?_
  have KX := hY w _ Y
  have tabs : ∀ m ∈ nms, ∀ f, mg m = some (.ref f) → OwnTab (K w.params) f s₁.heap := fun m hm f hf c P o1 fd1 e dd vs1 sl k1 k2 k3 k4 k5 => by
    obtain ⟨r, hr1, hr2⟩ := List.any_eq_true.mp (List.all_eq_true.mp hrec m hm)
    obtain ⟨a', o', fd', c', P', t1, t2, t3, t4, t5, ⟨⟨oc, vc, u1, _, u3, u4⟩, hP⟩⟩ := G.T.tab r hr1
    rw [beq_iff_eq.mp hr2, hf] at t1
    cases t1
    cases (KX _ _ k1).symm.trans t2
    cases k2.symm.trans t3
    cases k3.symm.trans t4
    cases (KX _ _ k4).symm.trans u1
    cases u3
    cases k5.symm.trans u4
    exact hP
  obtain ⟨fd, cs, sp, h1, h2, h3, h4, h5, h6⟩ := F w mg fa _ Y KX G.T.g hmg tabs
  exact law_callTs KX G.T.g G.T.b G.T.builtins G.T.nolimit hg h1 h2 h3 G.T.bmain hobj hints (Nat.le_trans hlen hn2) hr h6 h4 (fun H hH hS => h5 H a ns hlen hbits hH hS) fun H e s' => hCX w H s₁ e s'
theorem lam_at3 {x2 q2 : Str} {st2 : Stmt} {ps2 : List Str} {l : PySem.W.OpenLaw} {w : World} {K : PySem.W.Frag} {h : Heap} {mg : Str → Option Value} {lvl : Nat} {fa f c Pt f2 c2 P2 : Addr} {oc kV doc pm ct e oc2 kV2 doc2 pm2 ct2 e2 : Value} {an od dd an2 od2 dd2 : Option Addr} {osl sl osl2 sl2 : Array (Option Value)} {vs vs2 : Array Value} {N : List Str} {st : Stmt}
    (S : FnScope N ["script"] (defScope st)) (X : K.In h) (hfa : mg "law" = some (.ref fa)) (own : ∀ m ∈ ([("law" : Str), x2] : List Str), ∀ f, mg m = some (.ref f) → OwnTab K f h) (G : h.Ns mainGlobals mg)
    (a : PySem.W.nsIn K mainGlobals "law" = some (some (.ref f)))
    (lk : K.lookup f = some ⟨oc, od, .func (PySem.W.fnOf "law" "law" (defArgs st) (defBody st) (defScope st) .none kV doc pm an (.ref c) ct), osl⟩) (hcd : PySem.W.codeIn K (.ref c) "law" = true)
    (lc : K.lookup c = some ⟨e, dd, .fields vs, sl⟩) (lp : vs[11]? = some (.ref Pt)) (hh : ∀ K' : PySem.W.Frag, K'.lookup c = some ⟨e, dd, .fields vs, sl⟩ → PySem.W.codeHdIn K' c Pt = true) (np : K.lookup Pt = none)
    (a2 : PySem.W.nsIn K mainGlobals x2 = some (some (.ref f2)))
    (lk2 : K.lookup f2 = some ⟨oc2, od2, .func (PySem.W.fnOf x2 x2 (defArgs st2) (defBody st2) (defScope st2) .none kV2 doc2 pm2 an2 (.ref c2) ct2), osl2⟩) (hcd2 : PySem.W.codeIn K (.ref c2) x2 = true) (kp2 : PySem.W.keepIn K (.ref f2) = true)
    (lc2 : K.lookup c2 = some ⟨e2, dd2, .fields vs2, sl2⟩) (lp2 : vs2[11]? = some (.ref P2)) (hh2 : ∀ K' : PySem.W.Frag, K'.lookup c2 = some ⟨e2, dd2, .fields vs2, sl2⟩ → PySem.W.codeHdIn K' c2 P2 = true) (np2 : K.lookup P2 = none) (hne : P2 ≠ Pt)
    (hb : ∀ s u, BindsTo s (PySem.W.fnOf "law" "law" (defArgs st) (defBody st) (defScope st) .none kV doc pm an (.ref c) ct) ⟨[u], []⟩ [("script", u)])
    (hb2 : ∀ (kV doc pm : Value) (an : Option Addr) (cdv ct : Value) (us : List Value), us.length = ps2.length → bindArgs (PySem.W.fnOf x2 x2 (defArgs st2) (defBody st2) (defScope st2) .none kV doc pm an cdv ct) ⟨us, []⟩ = pure (ps2.zip us))
    (hall : ∀ (base : Heap), TabB base mg c Pt → TabB base mg c2 P2 → TopC K mg x2 st2 ps2 c2 → P2 ≠ Pt → ∀ (A : Around) (outer : List Env) (s0 : Shared) (H0 : Hp) (E0' : XK), Room lvl (cxOf CX0 l.prog w K mg base N "law" (defScope st) f (.ref c) A outer s0 H0 E0').A → ∃ t, PSs (cxOf CX0 l.prog w K mg base N "law" (defScope st) f (.ref c) A outer s0 H0 E0') (defBody st) t ∧ ∀ (D : Ends) (vs : List V) (Q : VK), D.rt = Q → spLamN K [(Pt, q_lam), (P2, q2)] vs H0 Q C8.E0 → t D (start N vs) H0) :
    LawAtS l w K CX0 (lvl + 1) 63 "script" mg fa h := by
  have ef := hfa.symm.trans (PySem.W.mg_of X G a)
  cases ef
  have F2 := fun_mk lk2 hcd2 kp2
  have tc : TopC K mg x2 st2 ps2 c2 := ⟨f2, oc2, od2, _, kV2, doc2, pm2, an2, ct2, osl2, PySem.W.mg_of X G a2, lk2, hcd2, kp2, F2.binds hb2⟩
  have two : ∀ {p : Addr × Addr}, p ∈ [(c, Pt), (c2, P2)] → p = (c, Pt) ∨ p = (c2, P2) := fun hp => by simpa using hp
  refine ⟨_, [(c, Pt), (c2, P2)], spLamN K [(Pt, q_lam), (P2, q2)], fun p hp => ?_, fun p hp => ?_, fun p hp => ?_, hb, fun H a ns _ _ hH hS => ⟨a, ns, rfl, hS, fun p hp => ?_, fun _ => rfl⟩, fun base _ _ hB => ?_⟩
  · rcases two hp with e | e <;> rw [e]
    · exact own "law" (by simp) _ hfa c Pt _ _ _ _ vs sl lk rfl rfl lc lp
    · exact own x2 (by simp) _ (PySem.W.mg_of X G a2) c2 P2 _ _ _ _ vs2 sl2 lk2 rfl rfl lc2 lp2
  · rcases two hp with e | e <;> rw [e]
    · exact np
    · exact np2
  · rcases two hp with e | e <;> rw [e]
    · exact PySem.W.codeHd_of_K X (hh K lc)
    · exact PySem.W.codeHd_of_K X (hh2 K lc2)
  · have hp' : p = (Pt, q_lam) ∨ p = (P2, q2) := by simpa using hp
    rcases hp' with e | e <;> rw [e]
    · exact TabS.nil (hH (c, Pt) (by simp))
    · exact TabS.nil (hH (c2, P2) (by simp))
  · refine fn_of lk hcd S (fun vs H Q E h => ?_) fun A outer s H vs Q E hr h => ?_
    · obtain ⟨l, ns, rfl, _⟩ := h
      rfl
    · obtain ⟨t, ht, qt⟩ := hall base (hB (c, Pt) (by simp)) (hB (c2, P2) (by simp)) tc hne A outer s H E hr
      exact ⟨t, ht, qt _ vs Q rfl h⟩
end Lt

set_option Elab.async false
set_option linter.all false
set_option maxRecDepth 100000
set_option maxHeartbeats 2000000
/-! the end of a law with lambdas of its own alone, the law's heap the frame's -/
namespace Lt
open PySem PySem.Spec PyProof.Rows L2 NdefX LamX LmX
theorem lam_atH {q : Str} {l : PySem.W.OpenLaw} {w : World} {K : PySem.W.Frag} {h : Heap} {mg : Str → Option Value} {lvl : Nat} {fa f c Pt : Addr} {oc kV doc pm ct e : Value} {an od dd : Option Addr} {osl sl : Array (Option Value)} {vs : Array Value} {N : List Str} {st : Stmt} (S : FnScope N ["script"] (defScope st)) (X : K.In h) (hfa : mg "law" = some (.ref fa)) (own : OwnTab K fa h)
    (G : h.Ns mainGlobals mg) (a : PySem.W.nsIn K mainGlobals "law" = some (some (.ref f)))
    (lk : K.lookup f = some ⟨oc, od, .func (PySem.W.fnOf "law" "law" (defArgs st) (defBody st) (defScope st) .none kV doc pm an (.ref c) ct), osl⟩) (hcd : PySem.W.codeIn K (.ref c) "law" = true)
    (lc : K.lookup c = some ⟨e, dd, .fields vs, sl⟩) (lp : vs[11]? = some (.ref Pt)) (hh : ∀ K' : PySem.W.Frag, K'.lookup c = some ⟨e, dd, .fields vs, sl⟩ → PySem.W.codeHdIn K' c Pt = true) (np : K.lookup Pt = none) (hb : ∀ s u, BindsTo s (PySem.W.fnOf "law" "law" (defArgs st) (defBody st) (defScope st) .none kV doc pm an (.ref c) ct) ⟨[u], []⟩ [("script", u)])
    (hall : ∀ (base : Heap), TabB base mg c Pt → ∀ (A : Around) (outer : List Env) (s0 : Shared) (H0 : Hp) (E0' : XK), Room lvl (cxOf CX0 l.prog w K mg base N "law" (defScope st) f (.ref c) A outer s0 H0 E0').A → ∃ t, PSs (cxOf CX0 l.prog w K mg base N "law" (defScope st) f (.ref c) A outer s0 H0 E0') (defBody st) t ∧ ∀ (D : Ends) (vs : List V) (Q : VK), D.rt = Q → spLamN K [(Pt, q)] vs H0 Q C8.E0 → t D (start N vs) H0) :
    LawAtS l w K CX0 (lvl + 1) 63 "script" mg fa h := by
  have ef := hfa.symm.trans (PySem.W.mg_of X G a)
  cases ef
  refine ⟨_, [(c, Pt)], spLamN K [(Pt, q)], fun p hp => ?_, fun p hp => ?_, fun p hp => ?_, hb, fun H a ns _ _ hH hS => ⟨a, ns, rfl, hS, fun p hp => ?_, fun _ => rfl⟩, fun base _ _ hB => ?_⟩
  · rw [List.mem_singleton.mp hp]
    exact own c Pt _ _ e dd vs sl lk rfl rfl lc lp
  · rw [List.mem_singleton.mp hp]
    exact np
  · rw [List.mem_singleton.mp hp]
    exact PySem.W.codeHd_of_K X (hh K lc)
  · rw [List.mem_singleton.mp hp]
    exact TabS.nil (hH _ List.mem_cons_self)
  · refine fn_of lk hcd S (fun vs H Q E h => ?_) fun A outer s H vs Q E hr h => ?_
    · obtain ⟨l, ns, rfl, _⟩ := h
      rfl
    · obtain ⟨t, ht, qt⟩ := hall base (hB _ List.mem_cons_self) A outer s H E hr
      exact ⟨t, ht, qt _ vs Q rfl h⟩
end Lt

set_option Elab.async false
set_option linter.all false
set_option maxRecDepth 100000
set_option maxHeartbeats 2000000
/-! an own error class with two fields -/
namespace Lt
open PySem PySem.Spec PyProof.Rows L2
/-- __init__(self, f, g): self.f = f; self.g = g -/
def spInit2 (K : PySem.W.Frag) (f1 f2 : Str) : Sp := fun vs H Q _ => ∃ (a C : Addr) (v1 v2 : V), vs = [.ref a, v1, v2] ∧ OexC K C ∧ PySem.W.findIn K (.ref C) f1 = some none ∧ PySem.W.findIn K (.ref C) f2 = some none ∧ H a = some (exo a C none) ∧
  ∀ dx, H dx = none → dx ≠ a → Q .non (upd (upd (upd H dx (exd dx [(f1, v1)])) a (exo a C (some dx))) dx (exd dx [(f2, v2), (f1, v1)]))
structure ErrI2 (P : Program) (w : World) (K : PySem.W.Frag) (mg : Str → Option Value) (base : Heap) (x f1 f2 : Str) (C : Addr) : Prop where
  oex : OexC K C
  g : mg x = some (.ref C)
  no1 : PySem.W.findIn K (.ref C) f1 = some none
  no2 : PySem.W.findIn K (.ref C) f2 = some none
  init : ∃ fI fd, PySem.W.findIn K (.ref C) "__init__" = some (some (.ref fI)) ∧ PySem.W.typeIn K (.ref fI) = some (.type "function") ∧ Binds K fd ["self", f1, f2] [] ∧ FnOk P w K mg base CX0 1 fI fd ["self", f1, f2] (spInit2 K f1 f2)
  xf : XfC K C
  exm : PySem.W.exmOne K (.ref C) (.ref C) = some true
/-- an error with its fields lies behind H -/
def BadF2 (C : Addr) (f1 : Str) (v1 : V) (f2 : Str) (v2 : V) (H : Hp) (E : XK) : Prop := ∀ d H', Same H H' → H' d = some (.xd [(f2, v2), (f1, v1)]) → E (.ref C) (some d) H'
theorem BadF2.same {C : Addr} {f1 f2 : Str} {v1 v2 : V} {H H' : Hp} {E : XK} (h : BadF2 C f1 v1 f2 v2 H E) (s : Same H H') : BadF2 C f1 v1 f2 v2 H' E := fun d H2 s2 => h d H2 (s.trans s2)
theorem mk_read2 {K : PySem.W.Frag} {C : Addr} {f1 f2 : Str} {v1 v2 : V} {H1 : Hp} {Q : XK} (oex : OexC K C) (no1 : PySem.W.findIn K (.ref C) f1 = some none) (no2 : PySem.W.findIn K (.ref C) f2 = some none) (h : BadF2 C f1 v1 f2 v2 H1 Q) :
    [v1, v2].length ≤ 1000 ∧ ∀ a, H1 a = none → spInit2 K f1 f2 (.ref a :: ([v1, v2] ++ [])) (upd H1 a (exo a C none))
      (fun u H2 => u = .non ∧ ∃ (d : Addr) (fs : List (Str × V)), H2 a = some (exo a C (some d)) ∧ H2 d = some (exd d fs) ∧ H1 d = none ∧ Q (.ref C) (some d) (upd (del H2 a) d (.xd fs))) (fun _ _ _ => False) := by
  refine ⟨by show 2 ≤ 1000; omega, fun a ha => ⟨a, C, v1, v2, rfl, oex, no1, no2, upd_same, fun dx hdx hne => ⟨rfl, dx, [(f2, v2), (f1, v1)], ?_, upd_same, ?_, ?_⟩⟩⟩
  · rw [upd_ne hne.symm, upd_same]
  · rw [upd_ne hne] at hdx
    exact hdx
  · rw [upd_ne hne] at hdx
    refine h dx _ (fun b o e => ?_) upd_same
    have h1 : b ≠ a := ne_of_none e ha
    have h2 : b ≠ dx := ne_of_none e hdx
    rw [upd_ne h2, del_ne h1, upd_ne h2, upd_ne h1, upd_ne h2, upd_ne h1]
    exact e
section
variable {X : Cx} {P : Program} {w : World} {K : PySem.W.Frag} {mg : Str → Option Value} {base : Heap}
/-- raise X(e1, e2) -/
theorem pmk_errI2 {x f1 f2 : Str} {C : Addr} {e1 e2 : Expr} {ta : TA} {p pos : Pos} (T : ErrI2 X.prog X.w X.K X.mg X.base x f1 f2 C) (hr : Room 2 X.A) (hg : Gl X x) (ha : PA X [e1, e2] ta)
    (hdb : (x == ("__debug__" : Str)) = false := by decide) (he : starEach (e1 :: [e2]) X.env = (false, eval e1 X.env) :: starEach [e2] X.env := by rfl) (hpl : (backTo pos (starEach [e2] X.env)).any (·.1) = false := by rfl) :
    PMk X (.Call (.Name x p) [e1, e2] [] pos) (tMkO C (spInit2 X.K f1 f2) [] ta) := by
  obtain ⟨fI, fd, iC, tI, b, F⟩ := T.init
  exact pmk_oex T.oex iC tI F hr b .nil pass0 hg T.g ha hdb he hpl
structure ErrFs2 (K : PySem.W.Frag) (mg : Str → Option Value) (x f1 f2 : Str) (C : Addr) (st : Stmt) : Prop where
  g : mg x = some (.ref C)
  cls : ∃ nm q N bs bm sn sub ab col dd k0 k1 k2 k3 k5, K.lookup C = some (excClassObj nm q C N bs bm true sn sub ab col dd k0 k1 k2 k3 k5 "ValueError.__new__") ∧ PySem.HandSPX.refsVE bm = true
  sa : PySem.W.findIn K (.ref C) "__setattr__" = some (some (.builtin "object.__setattr__"))
  ga : PySem.W.findIn K (.ref C) "__getattribute__" = some (some (.builtin "BaseException.__getattribute__"))
  gg : PySem.W.findIn K (.ref C) "__getattr__" = some none
  no1 : PySem.W.findIn K (.ref C) f1 = some none
  no2 : PySem.W.findIn K (.ref C) f2 = some none
  kC : PySem.W.keepIn K (.ref C) = true
  eC : PySem.W.subIn K (.ref C) (.type "BaseException") = some true
  tC : PySem.W.typeIn K (.ref C) = some (.type "type")
  hC : PySem.W.hasDictIn K C = true
  iC : PySem.W.isClsIn K C = true
  sC : PySem.W.subIn K (.ref C) (.ref C) = some true
  init : ∃ fI fd, PySem.W.findIn K (.ref C) "__init__" = some (some (.ref fI)) ∧ PySem.W.typeIn K (.ref fI) = some (.type "function") ∧ Binds K fd ["self", f1, f2] [] ∧ Fun K "__init__" (x ++ ".__init__") (initS st) fI fd
theorem ErrFs2.errI2 {x f1 f2 : Str} {C : Addr} {st : Stmt} (F : ErrFs2 K mg x f1 f2 C st) (ok : ∀ {fI fd}, Fun K "__init__" (x ++ ".__init__") (initS st) fI fd → FnOk P w K mg base CX0 1 fI fd ["self", f1, f2] (spInit2 K f1 f2)) : ErrI2 P w K mg base x f1 f2 C := by
  obtain ⟨fI, fd, h1, h2, h3, h4⟩ := F.init
  exact ⟨⟨F.cls, F.sa, F.eC, F.tC, F.kC⟩, F.g, F.no1, F.no2, ⟨fI, fd, h1, h2, h3, ok h4⟩, ⟨F.ga, F.gg, F.eC, F.hC⟩, exm_own F.eC F.iC F.tC F.sC⟩
end
theorem err2_mk {K : PySem.W.Frag} {h : Heap} {mg : Str → Option Value} {x f1 f2 : Str} {C N : Addr} {st : Stmt} {nm q : Str} {bs bm sub : List Value} {sn : List Str} {ab : Bool} {col : Option Bool} {dd : Option Addr} {k0 k1 k2 k3 k5 : Option Value} (X : K.In h) (G : h.Ns mainGlobals mg)
    (a : PySem.W.nsIn K mainGlobals x = some (some (.ref C))) (xL : K.lookup C = some (excClassObj nm q C N bs bm true sn sub ab col dd k0 k1 k2 k3 k5 "ValueError.__new__")) (rv : PySem.HandSPX.refsVE bm = true)
    (sa : PySem.W.findIn K (.ref C) "__setattr__" = some (some (.builtin "object.__setattr__"))) (ga : PySem.W.findIn K (.ref C) "__getattribute__" = some (some (.builtin "BaseException.__getattribute__"))) (gg : PySem.W.findIn K (.ref C) "__getattr__" = some none) (no : PySem.W.findIn K (.ref C) f1 = some none) (no2 : PySem.W.findIn K (.ref C) f2 = some none)
    (kC : PySem.W.keepIn K (.ref C) = true) (eC : PySem.W.subIn K (.ref C) (.type "BaseException") = some true) (tC : PySem.W.typeIn K (.ref C) = some (.type "type")) (hC : PySem.W.hasDictIn K C = true) (iC : PySem.W.isClsIn K C = true) (sC : PySem.W.subIn K (.ref C) (.ref C) = some true)
    {fI : Addr} {oc kV doc pm cdv ct : Value} {od an : Option Addr} {osl : Array (Option Value)} (i1 : PySem.W.findIn K (.ref C) "__init__" = some (some (.ref fI))) (i2 : PySem.W.typeIn K (.ref fI) = some (.type "function"))
    (i3 : K.lookup fI = some ⟨oc, od, .func (PySem.W.fnOf "__init__" (x ++ ".__init__") (defArgs (initS st)) (defBody (initS st)) (defScope (initS st)) .none kV doc pm an cdv ct), osl⟩) (i4 : PySem.W.codeIn K cdv (x ++ ".__init__") = true) (i5 : PySem.W.keepIn K (.ref fI) = true)
    (hb : ∀ (kV doc pm : Value) (an : Option Addr) (cdv ct : Value) (us : List Value), us.length = (["self", f1, f2] : List Str).length → bindArgs (PySem.W.fnOf "__init__" (x ++ ".__init__") (defArgs (initS st)) (defBody (initS st)) (defScope (initS st)) .none kV doc pm an cdv ct) ⟨us, []⟩ = pure ((["self", f1, f2] : List Str).zip us)) : ∃ C, ErrFs2 K mg x f1 f2 C st :=
  ⟨C, PySem.W.mg_of X G a, ⟨_, _, _, _, _, _, _, _, _, _, _, _, _, _, _, xL, rv⟩, sa, ga, gg, no, no2, kC, eC, tC, hC, iC, sC, ⟨fI, _, i1, i2, (fun_mk i3 i4 i5).binds hb, fun_mk i3 i4 i5⟩⟩
abbrev ErrE2 {K : PySem.W.Frag} {h : Heap} (_ : K.In h) (mg : Str → Option Value) (x f1 f2 : Str) (st : Stmt) : Prop := ∃ C, ErrFs2 K mg x f1 f2 C st
end Lt

set_option Elab.async false
set_option linter.all false
set_option maxRecDepth 100000
set_option maxHeartbeats 1000000
namespace Lt
open PySem PySem.Spec PyProof.Rows L2 NdefX LamX LmX
section
variable {P : Program} {w : World} {K : PySem.W.Frag} {mg : Str → Option Value} {base : Heap}
theorem init_BadLock {fI : Addr} {fd : FuncData} (F : Fun K "__init__" "BadLock.__init__" (initS s_BadLock) fI fd) : FnOk P w K mg base CX0 1 fI fd ["self", "place"] (spInit K "place") := by
  refine F.ok (N := ["self", "place"]) ⟨rfl, rfl, rfl, by decide +kernel, rfl, by decide +kernel, by decide +kernel⟩ (fun vs H Q E h => ?_) (fun cdv A outer s H vs Q E hr h => ?_)
  · obtain ⟨a, C, v, rfl, _⟩ := h
    rfl
  · obtain ⟨a, C, v, rfl, ox, no, ha, q⟩ := h
    exact ⟨_, pss_one (ps_ost (pv 0) (pv 1)), _, rfl, _, rfl, a, C, rfl, ox, no, .inl ⟨ha, fun dx h1 h2 => q dx h1 h2⟩⟩
theorem init_BadRow {fI : Addr} {fd : FuncData} (F : Fun K "__init__" "BadRow.__init__" (initS s_BadRow) fI fd) : FnOk P w K mg base CX0 1 fI fd ["self", "place"] (spInit K "place") := by
  refine F.ok (N := ["self", "place"]) ⟨rfl, rfl, rfl, by decide +kernel, rfl, by decide +kernel, by decide +kernel⟩ (fun vs H Q E h => ?_) (fun cdv A outer s H vs Q E hr h => ?_)
  · obtain ⟨a, C, v, rfl, _⟩ := h
    rfl
  · obtain ⟨a, C, v, rfl, ox, no, ha, q⟩ := h
    exact ⟨_, pss_one (ps_ost (pv 0) (pv 1)), _, rfl, _, rfl, a, C, rfl, ox, no, .inl ⟨ha, fun dx h1 h2 => q dx h1 h2⟩⟩
theorem init_TooMany {fI : Addr} {fd : FuncData} (F : Fun K "__init__" "TooMany.__init__" (initS s_TooMany) fI fd) : FnOk P w K mg base CX0 1 fI fd ["self", "most"] (spInit K "most") := by
  refine F.ok (N := ["self", "most"]) ⟨rfl, rfl, rfl, by decide +kernel, rfl, by decide +kernel, by decide +kernel⟩ (fun vs H Q E h => ?_) (fun cdv A outer s H vs Q E hr h => ?_)
  · obtain ⟨a, C, v, rfl, _⟩ := h
    rfl
  · obtain ⟨a, C, v, rfl, ox, no, ha, q⟩ := h
    exact ⟨_, pss_one (ps_ost (pv 0) (pv 1)), _, rfl, _, rfl, a, C, rfl, ox, no, .inl ⟨ha, fun dx h1 h2 => q dx h1 h2⟩⟩
theorem init_BadLine {fI : Addr} {fd : FuncData} (F : Fun K "__init__" "BadLine.__init__" (initS s_BadLine) fI fd) : FnOk P w K mg base CX0 1 fI fd ["self", "line", "place"] (spInit2 K "line" "place") := by
  refine F.ok (N := ["self", "line", "place"]) ⟨rfl, rfl, rfl, by decide +kernel, rfl, by decide +kernel, by decide +kernel⟩ (fun vs H Q E h => ?_) (fun cdv A outer s H vs Q E hr h => ?_)
  · obtain ⟨a, C, v1, v2, rfl, _⟩ := h
    rfl
  · obtain ⟨a, C, v1, v2, rfl, ox, no1, no2, ha, q⟩ := h
    refine ⟨_, pss_cons (ps_ost (pv 0) (pv 1)) (pss_one (ps_ost (pv 0) (pv 2))), _, rfl, _, rfl, a, C, rfl, ox, no1, .inl ⟨ha, fun dx h1 h2 => ?_⟩⟩
    exact ⟨_, rfl, _, rfl, a, C, rfl, ox, no2, .inr ⟨dx, [("line", v1)], upd_same, (upd_ne h2).trans upd_same, by show 1 ≤ 900; decide, q dx h1 h2⟩⟩
end
/-- what the top leaves, but the law -/
structure TopFs (K : PySem.W.Frag) (mg : Str → Option Value) (C_BadLock : Addr) (C_BadRow : Addr) (C_BadLine : Addr) (C_TooMany : Addr) (C_BadNumber : Addr) (C_BadString : Addr) (C_WordLine : Addr) : Prop where
  bi : Bi mg
  b_min : mg "min" = none
  b_max : mg "max" = none
  c_MOST_TURNS : Cn mg "MOST_TURNS" 240
  c_MOST_GIVEN : Cn mg "MOST_GIVEN" 4
  c_FEWEST_PLACES : Cn mg "FEWEST_PLACES" 2
  c_MOST_PLACES : Cn mg "MOST_PLACES" 9
  c_MOST_INPUTS : Cn mg "MOST_INPUTS" 6
  c_MOST_STEPS : Cn mg "MOST_STEPS" 6000
  e_BadLock : ErrFs K mg "BadLock" "place" C_BadLock s_BadLock
  e_BadRow : ErrFs K mg "BadRow" "place" C_BadRow s_BadRow
  e_BadLine : ErrFs2 K mg "BadLine" "line" "place" C_BadLine s_BadLine
  e_TooMany : ErrFs K mg "TooMany" "most" C_TooMany s_TooMany
  e_BadNumber : Err0 K mg "BadNumber" C_BadNumber
  e_BadString : Err0 K mg "BadString" C_BadString
  n_BadString_BadLine : PySem.W.exmOne K (.ref C_BadString) (.ref C_BadLine) = some false
  k_WordLine : ClsA K mg "WordLine" C_WordLine
  a_WordLine_at : NoAttr K C_WordLine "at"
  a_WordLine_number : NoAttr K C_WordLine "number"
  a_WordLine_words : NoAttr K C_WordLine "words"
  i_WordLine : InitF K mg C_WordLine "WordLine" (inClass s_WordLine 0) ["self", "number", "words"]
  m_WordLine_take : MethF K C_WordLine "take" "WordLine.take" (inClass s_WordLine 1) ["self", "wanted"]
  m_WordLine_take_places : MethF K C_WordLine "take_places" "WordLine.take_places" (inClass s_WordLine 2) ["self", "size"]
  m_WordLine_take_turn : MethF K C_WordLine "take_turn" "WordLine.take_turn" (inClass s_WordLine 3) ["self", "made", "size"]
  m_WordLine_end : MethF K C_WordLine "end" "WordLine.end" (inClass s_WordLine 4) ["self"]
  f_is_number : Top K mg "is_number" s_is_number ["value"]
  f_are_numbers : Top K mg "are_numbers" s_are_numbers ["value"]
  f_is_permutation : Top K mg "is_permutation" s_is_permutation ["value", "size"]
  f_still_of : Top K mg "still_of" s_still_of ["size"]
  f_product_of : Top K mg "product_of" s_product_of ["one", "other"]
  f_words_of : Top K mg "words_of" s_words_of ["makers", "size"]
  f_check_lock : Top K mg "check_lock" s_check_lock ["lock"]
  f_made_words : Top K mg "made_words" s_made_words ["lock"]
  f_is_turn : Top K mg "is_turn" s_is_turn ["made", "value"]
  f_check_inputs : Top K mg "check_inputs" s_check_inputs ["inputs"]
  f_check_row : Top K mg "check_row" s_check_row ["made", "inputs", "row"]
  f_is_step : Top K mg "is_step" s_is_step ["made", "inputs", "value"]
  f_write_lock : Top K mg "write_lock" s_write_lock ["lock"]
  f_read_lock : Top K mg "read_lock" s_read_lock ["text"]
  f_write_row : Top K mg "write_row" s_write_row ["lock", "inputs", "row"]
  f_read_row : Top K mg "read_row" s_read_row ["lock", "inputs", "text"]
  f_told_step : Top K mg "told_step" s_told_step ["made", "size", "names", "line"]
  f_check_text : Top K mg "check_text" s_check_text ["text"]
  f_spaced : Top K mg "spaced" s_spaced ["parts"]
  f_words_in : Top K mg "words_in" s_words_in ["line"]
  f_worded_lines : Top K mg "worded_lines" s_worded_lines ["text"]
  f_law_taken : Top K mg "_law_taken" s_law_taken ["row", "many"]
  f_law_pick : Top K mg "_law_pick" s_law_pick ["row", "things"]
  f_law_alike : Top K mg "_law_alike" s_law_alike ["found", "due"]
  f_law_permutation : Top K mg "_law_permutation" s_law_permutation ["row", "places"]
  f_law_behind : Top K mg "_law_behind" s_law_behind ["one", "other"]
  f_law_span : Top K mg "_law_span" s_law_span ["places", "given"]
  f_law_known : Top K mg "_law_known" s_law_known ["row", "kinds"]
  f_law_lock : Top K mg "_law_lock" s_law_lock ["row", "kinds"]
  f_law_drawn_row : Top K mg "_law_drawn_row" s_law_drawn_row ["row", "whole", "inputs", "most"]
  f_law_said_session : Top K mg "_law_said_session" s_law_said_session ["work"]
  f_law_loose : Top K mg "_law_loose" s_law_loose ["row", "text"]
  f_law_bent : Top K mg "_law_bent" s_law_bent ["row", "text", "words"]
  f_law_words : Top K mg "_law_words" s_law_words ["turn"]
  f_law_row_text : Top K mg "_law_row_text" s_law_row_text ["steps"]
end Lt

set_option Elab.async false
set_option linter.all false
set_option maxRecDepth 100000
set_option maxHeartbeats 1000000
/-! locktexts.py: a line's words -/
namespace Lt
open PySem PySem.Spec PyProof.Rows L2
def wF (num : Nat) (wl : Addr) (i : Nat) : List (Str × V) := [("number", nI num), ("words", .ref wl), ("at", nI i)]
theorem wF_number (num : Nat) (wl : Addr) (i : Nat) : (wF num wl i).lookup ("number" : Str) = some (nI num) := rfl
theorem wF_words (num : Nat) (wl : Addr) (i : Nat) : (wF num wl i).lookup ("words" : Str) = some (.ref wl) := rfl
theorem wF_at (num : Nat) (wl : Addr) (i : Nat) : (wF num wl i).lookup ("at" : Str) = some (nI i) := rfl
theorem wF_put (num : Nat) (wl : Addr) (i j : Nat) : putF "at" (nI j) (wF num wl i) = wF num wl j := by
  show (if ("number" : Str) = "at" then _ else (("number" : Str), nI num) :: (if ("words" : Str) = "at" then _ else (("words" : Str), V.ref wl) :: (if ("at" : Str) = "at" then [("at", nI j)] else _))) = _
  rw [if_neg (by decide +kernel), if_neg (by decide +kernel), if_pos rfl]
  rfl
theorem wF_make (num : Nat) (wl : Addr) : putF "at" (nI 0) (putF "words" (.ref wl) (putF "number" (nI num) [])) = wF num wl 0 := by
  show putF "at" (nI 0) (if ("number" : Str) = "words" then _ else (("number" : Str), nI num) :: [("words", .ref wl)]) = _
  rw [if_neg (by decide +kernel)]
  show (if ("number" : Str) = "at" then _ else (("number" : Str), nI num) :: (if ("words" : Str) = "at" then _ else (("words" : Str), V.ref wl) :: [("at", nI 0)])) = _
  rw [if_neg (by decide +kernel), if_neg (by decide +kernel)]
  rfl
/-- a line of words at p, i of them taken -/
structure WlAt (H : Hp) (C p dx wl : Addr) (num : Nat) (ws : List Str) (i : Nat) : Prop where
  ins : H p = some (.ins C dx (wF num wl i))
  lst : H wl = some (.lst (ws.map V.str))
theorem WlAt.same {H H' : Hp} {C p dx wl : Addr} {num : Nat} {ws : List Str} {i : Nat} (h : WlAt H C p dx wl num ws i) (s : Same H H') : WlAt H' C p dx wl num ws i := ⟨s _ _ h.ins, s _ _ h.lst⟩
theorem WlAt.tm {H H' : Hp} {C p dx wl : Addr} {num : Nat} {ws : List Str} {i : Nat} (h : WlAt H C p dx wl num ws i) (s : StepR p H H') : Tm H H' :=
  ⟨fun c xs e => s c _ (ne_of e h.ins (fun z => nomatch z)) e, fun c o xs e => s c _ (ne_of e h.ins (fun z => nomatch z)) e⟩
/-- .. another line's -/
theorem WlAt.other {H H' : Hp} {C p q dx wl dx2 wl2 : Addr} {num num' : Nat} {ws ws' : List Str} {i j : Nat} (h : WlAt H C p dx wl num ws i) (g : WlAt H C q dx2 wl2 num' ws' j) (n : p ≠ q) (s : StepR q H H') : WlAt H' C p dx wl num ws i :=
  ⟨s _ _ n h.ins, s _ _ (ne_of h.lst g.ins (fun z => nomatch z)) h.lst⟩
theorem WlAt.put {H : Hp} {C p dx wl : Addr} {num : Nat} {ws : List Str} {i j : Nat} (h : WlAt H C p dx wl num ws i) : WlAt (upd H p (.ins C dx (wF num wl j))) C p dx wl num ws j :=
  ⟨upd_same, (upd_ne (ne_of h.lst h.ins (fun z => nomatch z))).trans h.lst⟩
/-- a list elsewhere has changed -/
theorem WlAt.far {H : Hp} {C p dx wl a : Addr} {num : Nat} {ws : List Str} {i : Nat} {xs : List V} {o : HO} (h : WlAt H C p dx wl num ws i) (ha : H a = some (.lst xs)) (n : wl ≠ a) : WlAt (upd H a o) C p dx wl num ws i :=
  ⟨(upd_ne (ne_of h.ins ha (fun z => nomatch z))).trans h.ins, (upd_ne n).trans h.lst⟩
theorem lst_step {H H' : Hp} {C p dx wl a : Addr} {num : Nat} {ws : List Str} {i : Nat} {xs : List V} (h : WlAt H C p dx wl num ws i) (s : StepR p H H') (e : H a = some (.lst xs)) : H' a = some (.lst xs) :=
  s _ _ (ne_of e h.ins (fun z => nomatch z)) e
/-- an error behind which p alone may have changed -/
def BadP (p C : Addr) (num place : Nat) (H : Hp) (E : XK) : Prop := ∀ d H', StepR p H H' → H' d = some (.xd [("place", nI place), ("line", nI num)]) → E (.ref C) (some d) H'
theorem BadP.step {p C : Addr} {num place : Nat} {H H1 : Hp} {E : XK} (h : BadP p C num place H E) (s : StepR p H H1) : BadP p C num place H1 E := fun d H' s' => h d H' (s.trans s')
theorem BadP.f2 {p C : Addr} {num place : Nat} {H : Hp} {E : XK} (h : BadP p C num place H E) : BadF2 C "line" (nI num) "place" (nI place) H E := fun d H' s => h d H' (.of s)
/-! ### what is read -/
def tk1 (ws : List Str) (i : Nat) (wanted : List Str) : Option Nat := match ws[i]? with
  | none => none
  | some x => if x ∈ wanted then some (wanted.idxOf x) else none
theorem tk1_lt {ws : List Str} {i j : Nat} {wanted : List Str} (h : tk1 ws i wanted = some j) : ∃ x, ws[i]? = some x ∧ x ∈ wanted ∧ j = wanted.idxOf x ∧ i < ws.length := by
  unfold tk1 at h
  split at h
  · cases h
  · rename_i x e
    split at h
    · rename_i hm
      exact ⟨x, e, hm, (Option.some.inj h).symm, (List.getElem?_eq_some_iff.mp e).1⟩
    · cases h
def sN (i : Nat) : Str := Str.ofString (toString ((i : Nat) : Int))
def figs (n : Nat) : List Str := (List.range n).map sN
theorem figs_len (n : Nat) : (figs n).length = n := by unfold figs; rw [List.length_map, List.length_range]
/-- the places of a turn from the i-th word on: k are left -/
def tkP (ws fs : List Str) : Nat → Nat → List Nat → Except Nat (List Nat)
  | _, 0, acc => .ok acc
  | i, k + 1, acc => match tk1 ws i fs with
    | none => .error (i + 1)
    | some q => if q ∈ acc then .error (i + 1) else tkP ws fs (i + 1) k (acc ++ [q])
abbrev mWl (i : Nat) : Stmt := inClass s_WordLine i
structure WlT (K : PySem.W.Frag) (mg : Str → Option Value) (C : Addr) : Prop where
  cl : Cls K C
  nN : NoAttr K C "number"
  nW : NoAttr K C "words"
  nA : NoAttr K C "at"
  init : InitF K mg C "WordLine" (mWl 0) ["self", "number", "words"]
  take : MethF K C "take" "WordLine.take" (mWl 1) ["self", "wanted"]
  places : MethF K C "take_places" "WordLine.take_places" (mWl 2) ["self", "size"]
  turn : MethF K C "take_turn" "WordLine.take_turn" (mWl 3) ["self", "made", "size"]
  end_ : MethF K C "end" "WordLine.end" (mWl 4) ["self"]
section
variable {P : Program} {w : World} {K : PySem.W.Frag} {mg : Str → Option Value} {base : Heap} {C CB : Addr}
def spWInit (C : Addr) : Sp := fun vs H Q _ => ∃ (p dx wl : Addr) (num : Nat) (ws : List Str), vs = [.ref p, nI num, .ref wl] ∧ H p = some (.ins C dx []) ∧ H wl = some (.lst (ws.map V.str)) ∧ ∀ H', StepR p H H' → H' p = some (.ins C dx (wF num wl 0)) → Q .non H'
theorem sc_WInit : FnScope ["self", "number", "words"] ["self", "number", "words"] (defScope (mWl 0)) := ⟨rfl, rfl, rfl, by decide +kernel, rfl, by decide +kernel, by decide +kernel⟩
theorem has_WInit (T : WlT K mg C) : HasI P w K mg base (L2.CX P w) 1 C "WordLine" ["self", "number", "words"] (spWInit C) := by
  refine T.init.okX sc_WInit (fun vs H Q E h => ?_) (fun f cdv A outer s H vs Q E hr h => ?_)
  · obtain ⟨p, dx, wl, num, ws, rfl, _⟩ := h
    rfl
  · obtain ⟨p, dx, wl, num, ws, rfl, hp, hw, q⟩ := h
    refine ⟨_, pss_cons (ps_fld (pv 0) (pv 1) rfl) (pss_cons (ps_fld (pv 0) (pv 2) rfl) (pss_one (ps_fld (pv 0) pe_int rfl))), ?_⟩
    refine ⟨_, rfl, _, rfl, p, C, dx, [], rfl, hp, T.cl, T.nN, by show 0 < 1000; decide, ?_⟩
    refine ⟨_, rfl, _, rfl, p, C, dx, _, rfl, upd_same, T.cl, T.nW, by show 1 < 1000; decide, ?_⟩
    refine ⟨_, rfl, p, C, dx, _, rfl, upd_same, T.cl, T.nA, ?_, ?_⟩
    · show (putF "words" (.ref wl) (putF "number" (nI num) [])).length < 1000
      have : (putF "words" (.ref wl) (putF "number" (nI num) [])) = [(("number" : Str), nI num), (("words" : Str), V.ref wl)] := by
        show (if ("number" : Str) = "words" then _ else (("number" : Str), nI num) :: [(("words" : Str), V.ref wl)]) = _
        rw [if_neg (by decide +kernel)]
      rw [this]
      show 2 < 1000
      decide
    · refine q _ (((StepR.put _ _ _).trans (StepR.put _ _ _)).trans (StepR.put _ _ _)) ?_
      rw [upd_same]
      exact congrArg (fun z => some (HO.ins C dx z)) (wF_make num wl)
def spTake (C CB : Addr) : Sp := fun vs H Q E => ∃ (p dx wl wa : Addr) (num i : Nat) (ws wanted : List Str), vs = [.ref p, .ref wa] ∧ WlAt H C p dx wl num ws i ∧ H wa = some (.lst (wanted.map V.str)) ∧ i ≤ ws.length ∧
  (tk1 ws i wanted = none → BadP p CB num (i + 1) H E) ∧ ∀ j, tk1 ws i wanted = some j → ∀ H', StepR p H H' → WlAt H' C p dx wl num ws (i + 1) → Q (nI j) H'
theorem sc_WTake : FnScope ["self", "wanted"] ["self", "wanted"] (defScope (mWl 1)) := ⟨rfl, rfl, rfl, by decide +kernel, rfl, by decide +kernel, by decide +kernel⟩
theorem has_WTake (T : WlT K mg C) (B : Bi mg) (X1 : ErrI2 P w K mg base "BadLine" "line" "place" CB) : HasM P w K mg base (L2.CX P w) 3 C "take" ["self", "wanted"] (spTake C CB) := by
  refine T.take.okX sc_WTake (fun vs H Q E h => ?_) (fun f cdv A outer s H vs Q E hr h => ?_)
  · obtain ⟨p, dx, wl, wa, num, i, ws, wanted, rfl, _⟩ := h
    rfl
  · obtain ⟨p, dx, wl, wa, num, i, ws, wanted, rfl, W0, hwa, hi, qb, qg⟩ := h
    obtain ⟨hp, hw⟩ := id W0
    refine ⟨_, pss_cons (ps_if (PW.pt (pw_or (pt_cmpR op_eq (pe_fld (pv 0) rfl) (pe_callB call_len_seq (by rfl) B.len PySem.boot_len (pa_cons (pe_fld (pv 0) rfl) pa_nil)) (nomark _)) (pw_or1 (pt_cmpR op_notIn_seq (pe_ix ix_list (pe_fld (pv 0) rfl) (pe_fld (pv 0) rfl) (fun _ _ => rfl)) (pv 1) (by rfl)))))
        (pss_one (ps_raise rfl (takes_of rfl rfl rfl rfl) (pmk_errI2 X1 hr (by rfl) (pa_cons (pe_fld (pv 0) rfl) (pa_cons (pe_op op_add (pe_fld (pv 0) rfl) pe_int) pa_nil))))) pss_nil)
      (pss_cons (ps_fldaug (pv 0) pe_int in_add)
      (pss_one (ps_ret (pe_bm PySem.F.plainAttrs_list PySem.F.slot_list_index PySem.F.type_list_index mt_index (pv 1) (pa_cons (pe_ix ix_list (pe_fld (pv 0) rfl) (pe_op op_sub (pe_fld (pv 0) rfl) pe_int) (fun _ _ => rfl)) pa_nil))))), ?_⟩
    have ev : V.int ((i : Int) + 1) = nI (i + 1) := congrArg V.int (by omega)
    refine ⟨_, rfl, p, C, dx, _, _, rfl, hp, T.cl, T.nA, wF_at num wl i, _, rfl, p, C, dx, _, _, rfl, hp, T.cl, T.nW, wF_words num wl i, wl, _, rfl, .inl (SqL.of hw), rfl, decide (i = ws.length), ?_, ?_⟩
    · rw [List.length_map]
      exact congrArg V.bl (decide_eq_decide.mpr ⟨fun h => by injection h with h; omega, fun h => by rw [h]; rfl⟩)
    have bad : tk1 ws i wanted = none → tMkO CB (spInit2 K "line" "place") [] (tCons (tFld K (tVar 0) "number") (tCons (tOp (rI0 fun i j => .int (i + j)) (tFld K (tVar 0) "at") (tC (.int 1))) tNil)) (start ["self", "wanted"] [V.ref p, V.ref wa]) H E := fun h => by
      refine ⟨_, rfl, p, C, dx, _, _, rfl, hp, T.cl, T.nN, wF_number num wl i, _, rfl, p, C, dx, _, _, rfl, hp, T.cl, T.nA, wF_at num wl i, (i : Int), 1, rfl, rfl, ?_⟩
      dsimp only [tNil]
      rw [ev]
      exact mk_read2 (v1 := nI num) (v2 := nI (i + 1)) X1.oex X1.no1 X1.no2 (qb h).f2
    by_cases hie : i = ws.length
    · rw [decide_eq_true hie]
      refine iteT (iteT (bad ?_))
      unfold tk1
      rw [List.getElem?_eq_none (by omega)]
    · rw [decide_eq_false hie]
      have hil : i < ws.length := by omega
      have hwi : (ws.map V.str)[i]? = some (.str ws[i]) := by rw [List.getElem?_map, List.getElem?_eq_getElem hil]; rfl
      refine iteF ⟨_, rfl, p, C, dx, _, _, rfl, hp, T.cl, T.nW, wF_words num wl i, _, rfl, p, C, dx, _, _, rfl, hp, T.cl, T.nA, wF_at num wl i, wl, _, (i : Int), .str ws[i], rfl, rfl, SqL.of hw, atI_nat hwi, _, rfl, wa, _, rfl, .inl (SqL.of hwa), rfl, flat_strs wanted, !decide (ws[i] ∈ wanted), ?_, ?_⟩
      · rw [inV_strs]
        rfl
      by_cases hm : ws[i] ∈ wanted
      · rw [decide_eq_true hm]
        have htk : tk1 ws i wanted = some (wanted.idxOf ws[i]) := by
          unfold tk1
          rw [List.getElem?_eq_getElem hil]
          exact if_pos hm
        refine iteF ⟨_, rfl, p, C, dx, _, _, rfl, hp, T.cl, T.nA, wF_at num wl i, (i : Int), 1, rfl, rfl, dx, _, hp, by show 3 < 1000; decide, ?_⟩
        rw [ev, wF_put]
        have W := W0.put (j := i + 1)
        have st : StepR p H (upd H p (.ins C dx (wF num wl (i + 1)))) := StepR.put _ _ _
        have hp2 : (upd H p (.ins C dx (wF num wl (i + 1)))) p = some (.ins C dx (wF num wl (i + 1))) := upd_same
        have hw2 := st _ _ (ne_of hw hp (fun z => nomatch z)) hw
        have hwa2 := st _ _ (ne_of hwa hp (fun z => nomatch z)) hwa
        generalize upd H p (.ins C dx (wF num wl (i + 1))) = H2 at *
        have hj : wanted.idxOf ws[i] < wanted.length := List.idxOf_lt_length_of_mem hm
        refine ⟨_, rfl, .inl ⟨rfl, _, SqL.of hwa2⟩, _, rfl, p, C, dx, _, _, rfl, hp2, T.cl, T.nW, wF_words num wl (i + 1), _, rfl, p, C, dx, _, _, rfl, hp2, T.cl, T.nA, wF_at num wl (i + 1), ((i + 1 : Nat) : Int), 1, rfl, rfl, wl, _, _, .str ws[i], rfl, rfl, SqL.of hw2, ?_, ?_⟩
        · rw [show ((i + 1 : Nat) : Int) - 1 = (i : Int) by omega]
          exact atI_nat hwi
        · refine ⟨wa, _, .str ws[i], wanted.idxOf ws[i], .str ws[i], rfl, rfl, SqL.of hwa2, rfl, flat_strs wanted, ?_, ?_, fun m z' hm' hz => ?_, qg _ htk _ st W⟩
          · rw [List.getElem?_map, List.getElem?_eq_getElem hj, List.getElem_idxOf hj]
            rfl
          · show (ws[i] == ws[i]) = true
            exact beq_self_eq_true _
          · rw [List.getElem?_map] at hz
            obtain ⟨y, hy, rfl⟩ := Option.map_eq_some_iff.mp hz
            show (y == ws[i]) = false
            refine beq_eq_false_iff_ne.mpr fun e => ?_
            obtain ⟨hml, hy⟩ := List.getElem?_eq_some_iff.mp hy
            have z := List.not_of_lt_findIdx (p := (· == ws[i])) hm'
            rw [hy, e, beq_self_eq_true] at z
            cases z
      · rw [decide_eq_false hm]
        refine iteT (bad ?_)
        unfold tk1
        rw [List.getElem?_eq_getElem hil]
        exact if_neg hm
end
end Lt

set_option Elab.async false
set_option linter.all false
set_option maxRecDepth 100000
set_option maxHeartbeats 1000000
/-! locktexts.py: the places of a turn, the end of a line -/
namespace Lt
open PySem PySem.Spec PyProof.Rows L2
abbrev rStrI : List V → Hp → VK → Prop := fun xs H Q => ∃ i : Int, xs = [.int i] ∧ i.natAbs.log2 < 1920 ∧ Q (.str (toString i)) H
theorem inV_nats (q : Nat) (acc : List Nat) : inV (nI q) (nIs acc) = decide (q ∈ acc) := by
  unfold inV nIs
  rw [List.any_map]
  induction acc with
  | nil => rfl
  | cons a acc ih =>
    rw [List.any_cons, ih]
    show (((a : Int) == (q : Int)) || _) = _
    by_cases h : a = q
    · subst h
      rw [beq_self_eq_true, Bool.true_or, decide_eq_true (List.mem_cons_self ..)]
    · rw [show ((a : Int) == (q : Int)) = false from beq_eq_false_iff_ne.mpr (fun e => h (Int.ofNat.inj e)), Bool.false_or]
      exact decide_eq_decide.mpr ⟨fun m => List.mem_cons_of_mem _ m, fun m => by
        rcases List.mem_cons.mp m with e | m
        · exact absurd e.symm h
        · exact m⟩
theorem tkP_step {ws fs : List Str} {i k : Nat} {acc : List Nat} {q : Nat} (h : tk1 ws i fs = some q) (hn : q ∉ acc) : tkP ws fs i (k + 1) acc = tkP ws fs (i + 1) k (acc ++ [q]) := by
  show (match tk1 ws i fs with | none => (Except.error (i + 1) : Except Nat (List Nat)) | some q => if q ∈ acc then .error (i + 1) else tkP ws fs (i + 1) k (acc ++ [q])) = _
  rw [h]
  exact if_neg hn
theorem tkP_twice {ws fs : List Str} {i k : Nat} {acc : List Nat} {q : Nat} (h : tk1 ws i fs = some q) (hn : q ∈ acc) : tkP ws fs i (k + 1) acc = .error (i + 1) := by
  show (match tk1 ws i fs with | none => (Except.error (i + 1) : Except Nat (List Nat)) | some q => if q ∈ acc then .error (i + 1) else tkP ws fs (i + 1) k (acc ++ [q])) = _
  rw [h]
  exact if_pos hn
theorem tkP_none {ws fs : List Str} {i k : Nat} {acc : List Nat} (h : tk1 ws i fs = none) : tkP ws fs i (k + 1) acc = .error (i + 1) := by
  show (match tk1 ws i fs with | none => (Except.error (i + 1) : Except Nat (List Nat)) | some q => if q ∈ acc then .error (i + 1) else tkP ws fs (i + 1) k (acc ++ [q])) = _
  rw [h]
section
variable {P : Program} {w : World} {K : PySem.W.Frag} {mg : Str → Option Value} {base : Heap} {C CB : Addr}
def spPlaces (C CB : Addr) : Sp := fun vs H Q E => ∃ (p dx wl : Addr) (num i n : Nat) (ws : List Str), vs = [.ref p, nI n] ∧ WlAt H C p dx wl num ws i ∧ i ≤ ws.length ∧ n ≤ 9 ∧
  (∀ e, tkP ws (figs n) i n [] = .error e → BadP p CB num e H E) ∧ ∀ t, tkP ws (figs n) i n [] = .ok t → ∀ r H', StepR p H H' → WlAt H' C p dx wl num ws (i + n) → i + n ≤ ws.length → TK H' r t → Q r H'
theorem sc_WPlaces : FnScope ["self", "size", "place", "figures", "places", "_"] ["self", "size"] (defScope (mWl 2)) := ⟨rfl, rfl, rfl, by decide +kernel, rfl, by decide +kernel, by decide +kernel⟩
theorem has_WPlaces (T : WlT K mg C) (B : Bi mg) (X1 : ErrI2 P w K mg base "BadLine" "line" "place" CB) (hT : HasM P w K mg base (L2.CX P w) 3 C "take" ["self", "wanted"] (spTake C CB)) : HasM P w K mg base (L2.CX P w) 4 C "take_places" ["self", "size"] (spPlaces C CB) := by
  refine T.places.okX sc_WPlaces (fun vs H Q E h => ?_) (fun f cdv A outer s H vs Q E hr h => ?_)
  · obtain ⟨p, dx, wl, num, i, n, ws, rfl, _⟩ := h
    rfl
  · obtain ⟨p, dx, wl, num, i, n, ws, rfl, W, hi, hn, qb, qg⟩ := h
    obtain ⟨hins0, hwl0⟩ := id W
    have hr2 : Room 2 _ := hr.mono (by decide)
    refine ⟨_, pss_cons (ps_setLc (i := 3) (own := [("place", 2)]) (g := gName 2) (te := tCB rStrI (tCons (tVar 2) tNil)) (by rfl) sc_WPlaces.nd rfl rfl (sw_true rfl rfl rfl (by decide +kernel)) (pi_range1 (by rfl) B.range (pa_cons (pv 1) pa_nil)) (blkOk_by (own := [("place", 2)]) (N := ["self", "size", "place", "figures", "places", "_"]) (sc := defScope (mWl 2)) (by decide +kernel))
          (fun _ _ _ _ _ => pg_name (i := 2) sc_WPlaces.nd rfl (Or.inl rfl)) (fun _ _ _ _ _ => pts_nil) (fun _ _ _ _ _ => pe_callTy call_str_int (by rfl) B.str PyProof.Rows.boot_str (pa_cons (pv 2) pa_nil)))
      (pss_cons (ps_set (i := 4) sc_WPlaces.nd rfl (Or.inl rfl) (pe_lst pa_nil))
      (pss_cons (ps_for (passes_of rfl) rfl (pi_range1 (by rfl) B.range (pa_cons (pv 1) pa_nil)) (pg_name (i := 5) sc_WPlaces.nd rfl (Or.inl rfl))
        (pss_cons (ps_set (i := 2) sc_WPlaces.nd rfl (Or.inl rfl) (pe_hasM (E := E) hT T.cl hr (passes_call (takes_of rfl rfl rfl rfl) (fun _ _ _ _ h => h)) (pv 0) (pa_cons (pv 3) pa_nil)))
        (pss_cons (ps_if (pt_cmpR op_in_seq (pv 2) (pv 4) (by rfl)) (pss_one (ps_raise rfl (takes_of rfl rfl rfl rfl) (pmk_errI2 X1 hr2 (by rfl) (pa_cons (pe_fld (pv 0) rfl) (pa_cons (pe_fld (pv 0) rfl) pa_nil))))) pss_nil)
        (pss_one (ps_expr (pe_bm PySem.F.plainAttrs_list PySem.F.slot_list_append PySem.F.type_list_append mt_append (pv 4) (pa_cons (pv 2) pa_nil)))))))
      (pss_one (ps_ret (pe_tupleOf (by rfl) B.tuple (pv 4)))))), ?_⟩
    refine ⟨_, rfl, (n : Int), rfl, by omega, by omega, fun fl hfl => lc_rangeM (n := (n : Int).toNat) RStr (figs n) (fun _ _ _ _ _ r => r) (by omega) (by rw [figs_len, Int.toNat_natCast]) hfl (fun x => rfl) (fun j z hj hz H' sm Q' q' => ?_) (fun H2 zs s2 hz pr => ?_)⟩
    · have ez : z = sN j := by
        unfold figs at hz
        rw [List.getElem?_map, List.getElem?_range (by omega)] at hz
        exact (Option.some.inj hz).symm
      refine ⟨_, rfl, ((j : Nat) : Int), ?_, log_small (by omega), q' _ H' (Same.refl _) (by rw [ez]; rfl)⟩
      show [V.int ((0 : Int) + (j : Nat))] = _
      rw [Int.zero_add]
    rw [RStr.all pr] at hz
    refine ⟨Nat.zero_le _, fun al hal => ?_⟩
    have s3 := same_new (o := .lst []) hal
    have s23 := s2.trans s3
    have hal0 : H al = none := s2.free hal
    have hfl3 := s3 _ _ hz
    have kal : (upd H2 al (.lst [])) al = some (.lst []) := upd_same
    have naf : al ≠ fl := (ne_of_none hz hal).symm
    have W3 := W.same s23
    generalize upd H2 al (.lst []) = H3 at *
    refine ⟨_, rfl, (n : Int), rfl, by omega, by omega, for_range (lo := 0) (n := (n : Int).toNat) (fun j σ H' => ∃ y2 y5 acc, σ = [some (.ref p), some (nI n), y2, some (.ref fl), some (.ref al), y5] ∧ StepR p H H' ∧ WlAt H' C p dx wl num ws (i + j) ∧ i + j ≤ ws.length ∧ H' fl = some (.lst ((figs n).map V.str)) ∧ H' al = some (.lst (nIs acc)) ∧ acc.length = j ∧ tkP ws (figs n) i n [] = tkP ws (figs n) (i + j) (n - j) acc)
      ⟨none, none, [], rfl, .of s23, W3, hi, hfl3, kal, rfl, rfl⟩ ?_ ?_⟩
    · rintro j σ H' hj ⟨y2, y5, acc, rfl, st, W', hij, hfl', hal', hacc, htk⟩
      have hjn : j < n := by omega
      obtain ⟨k, hk⟩ : ∃ k, n - j = k + 1 := ⟨n - j - 1, by omega⟩
      rw [hk] at htk
      obtain ⟨hins, hwl⟩ := id W'
      refine ⟨_, rfl, p, dx, _, rfl, hins, rfl, _, rfl, p, dx, wl, fl, num, i + j, ws, figs n, rfl, W', hfl', hij, fun hno => ?_, fun q hq H4 st4 W4 => ?_⟩
      · exact (qb _ (htk.trans (tkP_none hno))).step st
      · have hfl4 := lst_step W' st4 hfl'
        have hal4 := lst_step W' st4 hal'
        obtain ⟨x, _, _, _, hlt⟩ := tk1_lt hq
        obtain ⟨hins4, hwl⟩ := id W4
        refine ⟨_, rfl, _, rfl, al, _, rfl, .inl (SqL.of hal4), rfl, ?_, decide (q ∈ acc), ?_, ?_⟩
        · rw [nIs_int, List.all_map]
          exact List.all_eq_true.mpr fun _ _ => rfl
        · show V.bl (inV (nI q) (nIs acc)) = _
          rw [inV_nats]
        by_cases hm : q ∈ acc
        · rw [decide_eq_true hm]
          refine iteT ⟨_, rfl, p, C, dx, _, _, rfl, hins4, T.cl, T.nN, wF_number num wl _, _, rfl, p, C, dx, _, _, rfl, hins4, T.cl, T.nA, wF_at num wl _, ?_⟩
          exact mk_read2 (v1 := nI num) (v2 := nI (i + j + 1)) X1.oex X1.no1 X1.no2 ((qb _ (htk.trans (tkP_twice hq hm))).step (st.trans st4)).f2
        · rw [decide_eq_false hm]
          refine iteF ⟨_, rfl, .inl ⟨rfl, _, SqL.of hal4⟩, _, rfl, al, _, _, rfl, rfl, hal4, by rw [nIs_len, sizeLine_eq]; omega, ?_⟩
          have e2 : nIs acc ++ [nI q] = nIs (acc ++ [q]) := by unfold nIs; rw [List.map_append]; rfl
          rw [e2]
          have hpl : p ≠ al := ne_of hins4 hal4 (fun z => nomatch z)
          refine ⟨_, _, acc ++ [q], rfl, (st.trans st4).mut hal0, W4.far hal4 (ne_of_none hwl0 hal0), by omega, (upd_ne naf.symm).trans hfl4, upd_same, by rw [List.length_append, hacc]; rfl, ?_⟩
          · rw [htk, tkP_step hq hm, Nat.add_assoc]
            congr 1
            omega
    · rintro σ H' ⟨y2, y5, acc, rfl, st, W', hij, hfl', hal', hacc, htk⟩
      rw [Int.toNat_natCast] at W' hij htk
      rw [Nat.sub_self] at htk
      refine ⟨_, rfl, .inl ⟨al, _, rfl, SqL.of hal', fun r hr' => ?_⟩⟩
      have s5 := same_new (o := .tup (nIs acc)) hr'
      exact qg acc htk _ _ (st.trans (.of s5)) (W'.same s5) hij ⟨r, rfl, upd_same⟩
/-- a turn of the made from the i-th word on -/
def tkT (ws : List Str) (made : List (List Nat)) (n i : Nat) : Except Nat (List Nat) := match tkP ws (figs n) i n [] with
  | .error e => .error e
  | .ok t => if t ∈ made then .ok t else .error (i + 1)
def spTurnW (C CB : Addr) : Sp := fun vs H Q E => ∃ (p dx wl m : Addr) (L : List (List Nat × List Nat)) (num i n : Nat) (ws : List Str), vs = [.ref p, .ref m, nI n] ∧ WlAt H C p dx wl num ws i ∧ DW H m L ∧ (L.map (·.1)).Nodup ∧ i ≤ ws.length ∧ n ≤ 9 ∧
  (∀ e, tkT ws (L.map (·.1)) n i = .error e → BadP p CB num e H E) ∧ ∀ t, tkT ws (L.map (·.1)) n i = .ok t → ∀ r H', StepR p H H' → WlAt H' C p dx wl num ws (i + n) → i + n ≤ ws.length → TK H' r t → Q r H'
theorem sc_WTurn : FnScope ["self", "made", "size", "first", "turn"] ["self", "made", "size"] (defScope (mWl 3)) := ⟨rfl, rfl, rfl, by decide +kernel, rfl, by decide +kernel, by decide +kernel⟩
theorem dw_step {H H' : Hp} {C p dx wl m : Addr} {num : Nat} {ws : List Str} {i : Nat} {L : List (List Nat × List Nat)} (h : WlAt H C p dx wl num ws i) (s : StepR p H H') (d : DW H m L) : DW H' m L := by
  obtain ⟨kvs, hk, _⟩ := id d
  exact d.tm (h.tm s) ((s _ _ (ne_of hk h.ins (fun z => nomatch z)) hk).trans hk.symm)
theorem has_WTurn (T : WlT K mg C) (X1 : ErrI2 P w K mg base "BadLine" "line" "place" CB) (hT : HasM P w K mg base (L2.CX P w) 4 C "take_places" ["self", "size"] (spPlaces C CB)) : HasM P w K mg base (L2.CX P w) 5 C "take_turn" ["self", "made", "size"] (spTurnW C CB) := by
  refine T.turn.okX sc_WTurn (fun vs H Q E h => ?_) (fun f cdv A outer s H vs Q E hr h => ?_)
  · obtain ⟨p, dx, wl, m, L, num, i, n, ws, rfl, _⟩ := h
    rfl
  · obtain ⟨p, dx, wl, m, L, num, i, n, ws, rfl, W, hw, hnd, hi, hn, qb, qg⟩ := h
    have hu := hu_of hr
    have hr2 : Room 2 _ := hr.mono (by decide)
    refine ⟨_, pss_cons (ps_set (i := 3) sc_WTurn.nd rfl (Or.inl rfl) (pe_op op_add (pe_fld (pv 0) rfl) pe_int))
      (pss_cons (ps_set (i := 4) sc_WTurn.nd rfl (Or.inl rfl) (pe_hasM (E := E) hT T.cl hr (passes_call (takes_of rfl rfl rfl rfl) (fun _ _ _ _ h => h)) (pv 0) (pa_cons (pv 2) pa_nil)))
      (pss_cons (ps_if (pt_cmp (pc_dnotin hu (pv 4) (pv 1))) (pss_one (ps_raise rfl (takes_of rfl rfl rfl rfl) (pmk_errI2 X1 hr2 (by rfl) (pa_cons (pe_fld (pv 0) rfl) (pa_cons (pv 3) pa_nil))))) pss_nil)
      (pss_one (ps_ret (pv 4))))), ?_⟩
    have ev : V.int ((i : Int) + 1) = nI (i + 1) := congrArg V.int (by omega)
    refine ⟨_, rfl, p, C, dx, _, _, rfl, W.ins, T.cl, T.nA, wF_at num wl i, (i : Int), 1, rfl, rfl, ?_⟩
    show gName 3 (V.int ((i : Int) + 1)) _ _ _
    rw [ev]
    refine ⟨_, rfl, p, dx, _, rfl, W.ins, rfl, _, rfl, p, dx, wl, num, i, n, ws, rfl, W, hi, hn, fun e he => qb e ?_, fun t ht r H1 st W1 hin ⟨b, hb, kb⟩ => ?_⟩
    · unfold tkT
      rw [he]
    · have hw1 := dw_step W st hw
      obtain ⟨kvs, hk, pk⟩ := id hw1
      obtain ⟨b', eb, kb'⟩ := (show TK H1 r t from ⟨b, hb, kb⟩).key
      subst eb
      refine ⟨_, rfl, _, rfl, m, _, rfl, DGet.t hk kb', _, rfl, ?_⟩
      rw [dw_isSome pk hnd]
      by_cases hm : t ∈ L.map (·.1)
      · rw [decide_eq_true hm]
        refine iteF ⟨_, rfl, qg t ?_ _ H1 st W1 hin ⟨b, hb, kb⟩⟩
        unfold tkT
        rw [ht]
        exact if_pos hm
      · rw [decide_eq_false hm]
        refine iteT ⟨_, rfl, p, C, dx, _, _, rfl, W1.ins, T.cl, T.nN, wF_number num wl _, _, rfl, ?_⟩
        refine mk_read2 (v1 := nI num) (v2 := nI (i + 1)) X1.oex X1.no1 X1.no2 ((qb _ ?_).step st).f2
        unfold tkT
        rw [ht]
        exact if_neg hm
def spEnd (C CB : Addr) : Sp := fun vs H Q E => ∃ (p dx wl : Addr) (num i : Nat) (ws : List Str), vs = [.ref p] ∧ WlAt H C p dx wl num ws i ∧ (i < ws.length → BadP p CB num (i + 1) H E) ∧ (¬ i < ws.length → Q .non H)
theorem sc_WEnd : FnScope ["self"] ["self"] (defScope (mWl 4)) := ⟨rfl, rfl, rfl, by decide +kernel, rfl, by decide +kernel, by decide +kernel⟩
theorem has_WEnd (T : WlT K mg C) (B : Bi mg) (X1 : ErrI2 P w K mg base "BadLine" "line" "place" CB) : HasM P w K mg base (L2.CX P w) 3 C "end" ["self"] (spEnd C CB) := by
  refine T.end_.okX sc_WEnd (fun vs H Q E h => ?_) (fun f cdv A outer s H vs Q E hr h => ?_)
  · obtain ⟨p, dx, wl, num, i, ws, rfl, _⟩ := h
    rfl
  · obtain ⟨p, dx, wl, num, i, ws, rfl, W, qb, qg⟩ := h
    refine ⟨_, pss_one (ps_if (pt_cmpR op_lt (pe_fld (pv 0) rfl) (pe_callB call_len_seq (by rfl) B.len PySem.boot_len (pa_cons (pe_fld (pv 0) rfl) pa_nil)) (nomark _)) (pss_one (ps_raise rfl (takes_of rfl rfl rfl rfl) (pmk_errI2 X1 hr (by rfl) (pa_cons (pe_fld (pv 0) rfl) (pa_cons (pe_op op_add (pe_fld (pv 0) rfl) pe_int) pa_nil))))) pss_nil), ?_⟩
    have ev : V.int ((i : Int) + 1) = nI (i + 1) := congrArg V.int (by omega)
    refine ⟨_, rfl, p, C, dx, _, _, rfl, W.ins, T.cl, T.nA, wF_at num wl i, _, rfl, p, C, dx, _, _, rfl, W.ins, T.cl, T.nW, wF_words num wl i, wl, _, rfl, .inl (SqL.of W.lst), (i : Int), ((ws.map V.str).length : Int), rfl, rfl, decide (i < ws.length), ?_, ?_⟩
    · rw [List.length_map]
      exact congrArg V.bl (decide_eq_decide.mpr Int.ofNat_lt)
    by_cases h : i < ws.length
    · rw [decide_eq_true h]
      refine iteT ⟨_, rfl, p, C, dx, _, _, rfl, W.ins, T.cl, T.nN, wF_number num wl i, _, rfl, p, C, dx, _, _, rfl, W.ins, T.cl, T.nA, wF_at num wl i, (i : Int), 1, rfl, rfl, ?_⟩
      dsimp only [tNil]
      rw [ev]
      exact mk_read2 (v1 := nI num) (v2 := nI (i + 1)) X1.oex X1.no1 X1.no2 (qb h).f2
    · rw [decide_eq_false h]
      exact iteF (qg h)
end
end Lt

set_option Elab.async false
set_option linter.all false
set_option maxRecDepth 100000
set_option maxHeartbeats 1000000
/-! a comprehension with a test, whose items may be objects that change later -/
namespace Lt
open PySem PySem.Spec PyProof.Rows L2
def Cg {β : Type} (H1 : Hp) (D : Addr) (R : Hp → V → β → Prop) (ys : List β) (i : Nat) (H : Hp) : Prop := Same H1 H ∧ ∃ zs, H D = some (.lst zs) ∧ Paired (R H) zs ys ∧ zs.length ≤ i
theorem lc_genG {J : It} {g : TG} {tt : L2.TT} {te : TE} {vs : List Nat} {σ : L2.St} {H1 : Hp} {D : Addr} {Qd : Hp → Prop} {β : Type} {n : Nat} (R : Hp → V → β → Prop) (p : Nat → Bool) (f : Nat → β) (ms : ∀ H H' v b, Same H H' → R H v b → R H' v b) (md : ∀ H v b ys o, H D = some (.lst ys) → R H v b → R (upd H D o) v b) (hz : n ≤ 100000) (hD : H1 D = none)
    (hgo : ∀ i H, i < n → Same H1 H → J.go i H) (hst : ∀ H, Same H1 H → J.stop n H)
    (hs : ∀ i H x H', i < n → Same H1 H → (∃ zs, H D = some (.lst zs)) → J.yld i H x H' → Same H H' ∧ ∃ σ2, (∀ Kk : L2.St → Hp → Prop, Kk σ2 H' → g x (wipe σ vs) H' Kk) ∧ wipe σ2 vs = wipe σ vs ∧ (∀ Q, (∀ H3, Same H' H3 → Q (p i) H3) → tt σ2 H' Q) ∧
      (p i = true → ∀ H3, Same H' H3 → ∀ Q : VK, (∀ v H4, Same H3 H4 → R H4 v (f i) → Q v H4) → te σ2 H3 Q))
    (hd : ∀ H zs, Same H1 H → H D = some (.lst zs) → Paired (R H) zs (((List.range n).filter p).map f) → Qd H) :
    ∃ W : Nat → Nat → Hp → Prop, (∃ m, W 0 m (upd H1 D (.lst []))) ∧ ∀ i m H, W i m H →
      (J.stop i H ∧ Qd H) ∨ (J.go i H ∧ ∃ Nx : Hp → Prop, (∀ H', Nx H' → ∃ m', m' < m ∧ W (i + 1) m' H') ∧ ∀ x H', J.yld i H x H' → g x (wipe σ vs) H' fun σ2 H2 => wipe σ2 vs = wipe σ vs ∧ tt σ2 H2 fun b H3 =>
        if b = true then te σ2 H3 fun y H4 => ∃ acc, H4 D = some (.lst acc) ∧ acc.length < sizeLine ∧ Nx (upd H4 D (.lst (acc ++ [y]))) else Nx H3) := by
  refine ⟨fun i m H => m = n - i ∧ i ≤ n ∧ Cg H1 D R (((List.range i).filter p).map f) i H, ⟨n, by simp, Nat.zero_le _, same_new hD, [], upd_same, .nil, Nat.le_refl _⟩, ?_⟩
  rintro i m H ⟨rfl, hi, c⟩
  obtain ⟨sm, zs, h1, pr, hl⟩ := c
  by_cases hlt : i < n
  · refine .inr ⟨hgo i H hlt sm, Cg H1 D R (((List.range (i + 1)).filter p).map f) (i + 1), fun H' p' => ⟨n - (i + 1), by omega, rfl, hlt, p'⟩, fun x H' y => ?_⟩
    obtain ⟨s', σ2, hg, hw, ht, he⟩ := hs i H x H' hlt sm ⟨zs, h1⟩ y
    refine hg _ ⟨hw, ht _ fun H3 s3 => ?_⟩
    have s13 := s'.trans s3
    cases hp : p i with
    | false =>
      rw [if_neg (by decide)]
      refine ⟨sm.trans s13, zs, s13 _ _ h1, ?_, by omega⟩
      rw [List.range_succ, List.filter_append]
      show Paired (R H3) zs ((List.filter p (List.range i) ++ List.filter p [i]).map f)
      rw [List.filter_cons_of_neg (by rw [hp]; decide), List.filter_nil, List.append_nil]
      exact paired_mono (fun a b r => ms _ _ _ _ s13 r) pr
    | true =>
      rw [if_pos rfl]
      refine he hp H3 s3 _ fun v H4 s4 r => ?_
      have s14 := s13.trans s4
      have h4 := s14 _ _ h1
      refine ⟨zs, h4, Nat.lt_of_le_of_lt hl (Nat.lt_of_lt_of_le (Nat.lt_of_lt_of_le hlt hz) (by decide)), same_mut (sm.trans s14) hD, zs ++ [v], upd_same, ?_, by rw [List.length_append]; show zs.length + 1 ≤ i + 1; omega⟩
      rw [List.range_succ, List.filter_append]
      show Paired _ _ ((List.filter p (List.range i) ++ List.filter p [i]).map f)
      rw [List.filter_cons_of_pos hp, List.filter_nil, List.map_append]
      exact Paired.app (paired_mono (fun a b q => md _ _ _ _ _ h4 (ms _ _ _ _ s14 q)) pr) (Paired.one (md _ _ _ _ _ h4 r))
  · have e : i = n := by omega
    subst e
    exact .inl ⟨hst H sm, hd H zs sm h1 pr⟩
end Lt

set_option Elab.async false
set_option linter.all false
set_option maxRecDepth 100000
set_option maxHeartbeats 2000000
/-! a comprehension whose items may raise -/
namespace LmX
open PySem PySem.Spec PyProof.Rows L2
theorem note_eq {env env2 : Env} (h : env.frame = env2.frame) (u : Value) : noteFrame u env = noteFrame u env2 := by
  unfold noteFrame PySem.frameOf
  rw [h]
section
variable {M : Model} {A : Around} {E : Value → Shared → Prop} {s : Shared} {Z : Obj → Prop} {base : Heap} {env : Env} {outer : List Env} {L e : Addr}
open HandSPX
/-- noted, whatever its flight is set to -/
theorem notes_any {fl : Value} {Q : Unit → Shared → Prop} (hZ : Steady Z) (hfr : A.frames = some (env :: outer)) (hf : env.frame = some L) (hkb : base.StaysIn s.heap) (hen : base.get? e = none) (hl : s.heap.FunFrames base (env :: outer)) (ht : TracedZ s.heap base e Z fl)
    (hQ : ∀ h' fl', base.StaysIn h' → h'.FunFrames base (env :: outer) → TracedZ h' base e Z fl' → s.heap.UpToSlots h' → Q () { s with heap := h' }) : wpAny M A (noteFrame (.ref e) env) Q E s := by
  obtain ⟨oe, vs, T, oT, ts, he, hz, hd, h1, hnT, hTe, hT, hdT, h3⟩ := id ht
  unfold noteFrame
  simp only [hf]
  refine wpAny_bind (wpAny_field he hd h1 ?_)
  rw [if_pos (show (Value.ref T != Value.none) = true from by simp)]
  refine wpAny_bind (wpAny_field hT hdT h3 ?_)
  cases hfl : fl == rawInt L with
  | true =>
    rw [if_pos rfl]
    exact wpAny_pure (hQ s.heap fl hkb hl ht (Heap.UpToSlots.refl _))
  | false =>
    rw [if_neg (by decide)]
    refine wpAny_bind (wpAny_setField hT hdT (Array.getElem?_eq_some_iff.mp h3).1 ?_)
    have other : ∀ b, b ≠ T → (s.heap.update T (Obj.mapFields (·.setIfInBounds 3 Value.none))).get? b = s.heap.get? b := fun b hb => Heap.get?_update_other _ _ (Ne.symm hb)
    have noRecord : ∀ b o, s.heap.get? b = some o → (∀ vs, o.data ≠ .fields vs) → b ≠ T := fun b o hb hnf q => by
      rw [q, hT] at hb; injection hb with hb; subst hb; exact hnf ts hdT
    refine wpAny_entryZ hZ hfr (hl.of_keeps fun b o hb hnf => ⟨o, (other b (noRecord b o hb hnf)).trans hb, rfl⟩) hf ((other e (Ne.symm hTe)).trans he)
      (fun b o hbo => (other b fun q => by rw [q, hnT] at hbo; cases hbo).trans (hkb b o hbo)) hen hd (Array.getElem?_eq_some_iff.mp h1).1 hz fun h' hN => ?_
    obtain ⟨x1, x2, x3, x4⟩ := hN
    exact hQ h' _ x1 x2 x3 fun b o hb hnf => x4 b o ((other b (noRecord b o hb hnf)).trans hb) hnf
/-- it leaves a frame, whatever its flight is set to -/
theorem leaves_any {fl : Value} {Q : Unit → Shared → Prop} (hZ : Steady Z) (hfr : A.frames = some (env :: outer)) (hf : env.frame = some L) (hkb : base.StaysIn s.heap) (hen : base.get? e = none) (hl : s.heap.FunFrames base (env :: outer)) (ht : TracedZ s.heap base e Z fl)
    (hQ : ∀ h', FlyingZ base outer e Z h' → s.heap.UpToSlots h' → Q () { s with heap := h' }) : wpAny M A (leaving env (.ref e)) Q E s := by
  unfold leaving
  refine wpAny_bind (notes_any hZ hfr hf hkb hen hl ht fun h1 fl1 k1 k2 k3 k4 => ?_)
  refine setFlight_noneZ (s := { s with heap := h1 }) k1 k2 k3 fun h2 m1 m2 m3 m4 => ?_
  obtain ⟨_, _, k⟩ := id m2
  exact hQ h2 ⟨m1, hen, k, m3⟩ (k4.trans m4)
end
theorem ff_off {h h' base : Heap} {C : Addr} : ∀ {l : List Env}, h.FunFrames base l → C ∉ frs l → (∀ b, b ≠ C → h'.get? b = h.get? b) → h'.FunFrames base l
  | [], _, _, _ => trivial
  | env :: l, x, hn, k => by
    obtain ⟨hk, ⟨L, o, hf, hb, ho, hd⟩, hr⟩ := x
    have m : L ∈ frs (env :: l) := List.mem_filterMap.mpr ⟨env, List.mem_cons_self, hf⟩
    refine ⟨hk, ⟨L, o, hf, hb, (k L fun z => hn (z ▸ m)).trans ho, hd⟩, ff_off hr (fun z => hn ?_) k⟩
    obtain ⟨e, he, q⟩ := List.mem_filterMap.mp z
    exact List.mem_filterMap.mpr ⟨e, List.mem_cons_of_mem _ he, q⟩
/-- a block whose items may raise: what a call within lets out -/
abbrev blkX (X : Cx) (E : XK) (s : Shared) (H : Hp) (scope : Scope) (cenv : Env) (fp : List Addr) : Cx :=
  (X.blk s H scope cenv fp).wish fun e s' => ∃ pins σ H1 s1, Inv (X.blk s H scope cenv fp) pins σ H1 s1 ∧ L2.CX X.prog X.w X.stack H1 s1 E e s'
theorem passes_blk {X : Cx} {E : XK} {s : Shared} {H : Hp} {scope : Scope} {cenv : Env} {fp : List Addr} : Passes (L2.CX X.prog X.w) (blkX X E s H scope cenv fp) E := fun pins σ H1 s1 e s' I c => ⟨pins, σ, H1, s1, I.unwish, c⟩
section
variable {X : Cx} {E : XK}
/-- what such a call lets out leaves the def -/
theorem blk_out {pins pins1 : List (Addr × Obj)} {σ σ1 : L2.St} {H3 H1 : Hp} {s3 s1 s' : Shared} {scope : Scope} {cl : List (Str × Addr)} {fp : List Addr} {e : Value} {E₁ : Value → Shared → Prop} (hs : X.stack = X.env :: X.outer) (hf : X.env.frame = some X.env.locals) (hex : X.ex = [])
    (hx : X.xe = fun e s' => wpAny (model X.prog X.w) X.A (leaving X.env e) (fun _ s'' => L2.CX X.prog X.w X.outer X.H_0 X.s_0 E e s'') E₁ s') (I3 : Inv X pins σ H3 s3)
    (hfp : ∀ b ∈ fp, (b ∈ X.ex ∨ X.s_0.heap.objs.size ≤ b) ∧ b ≠ X.env.locals ∧ (∀ x c, X.env.cells.lookup x = some c → c ≠ b) ∧ ∀ p ∈ X.pn ++ pins, p.1 ≠ b)
    (I1 : Inv (X.blk s3 H3 scope (compEnvC scope cl s3.heap.objs.size X.env) fp) pins1 σ1 H1 s1) (c : L2.CX X.prog X.w X.stack H1 s1 E e s') :
    notedBy (model X.prog X.w) X.A (compEnvC scope cl s3.heap.objs.size X.env) (fun e s' => ∃ m, s'.heap.Ns s3.heap.objs.size m ∧ ∀ h', Heap.SameBut s3.heap.objs.size s'.heap h' → ∀ cenv : Env, cenv.locals = s3.heap.objs.size → wpAny (model X.prog X.w) X.A (passOn "comprehension.variables-let-go" e cenv : Sem Value) (fun _ _ => False) X.xe { s' with heap := h' }) e s' := by
  have hfr : X.A.frames = some (X.env :: X.outer) := by rw [I3.ok.frames, hs]
  obtain ⟨a, B, sI, pins', σ', H', cls, d, rfl, I5, nb, up, sky, na, os, ag, w⟩ := XE.of_call (W := fun cls d _ H => E cls d H) I1 (fun _ _ _ h => h) c
  have I7 : Inv X pins σ H' sI := I3.call' (ch := fp) I5.os I5.base I5.hok I5.bare hfp
  generalize hC : s3.heap.objs.size = C at *
  have nC : H' C = none := I5.free
  obtain ⟨f0, f1, f2, f3, f4, f5⟩ : FpOk X pins H' C := I3.fpOk (Nat.le_of_eq hC) nC
  have hCf : C ∉ frs X.stack := fun hm => by
    rw [hs] at hm
    rcases List.mem_cons.mp (show C ∈ X.env.locals :: frs X.outer from by
      have z : frs (X.env :: X.outer) = X.env.locals :: frs X.outer := by
        unfold frs
        rw [List.filterMap_cons, hf]
      rwa [z] at hm) with z | z
    · exact f1 z
    · exact f2 z
  obtain ⟨m, ⟨oC, es, ep, hoC, hdC, r1, r2⟩, _⟩ := I5.loc
  have hoC : sI.heap.get? C = some oC := hoC
  have hBC : B.get? C = some oC := nb C oC hoC hCf
  -- the state without the block's names
  have I2 : Inv X pins σ H' { sI with heap := PySem.W.hideAll sI.heap [C], toks := sI.toks } := I7.turned (t' := sI.toks) (h' := PySem.W.hideAll sI.heap [C]) (it := C) (fun b o hb e => PySem.W.hideAll_get [C] e (by simpa using hb)) f0 f1 f3 f4 f5
  have of2 : ∀ b o, (PySem.W.hideAll sI.heap [C]).get? b = some o → sI.heap.get? b = some o ∧ b ≠ C := fun b o e => ⟨PySem.W.of_hideAll _ e, fun z => by rw [z, PySem.W.hideAll_none [C] (by simp)] at e; cases e⟩
  have nb2 : ∀ b o, (PySem.W.hideAll sI.heap [C]).get? b = some o → b ∉ frs X.stack → (PySem.W.hideAll B [C]).get? b = some o := fun b o e hb => PySem.W.hideAll_get [C] (nb b o (of2 b o e).1 hb) (by simpa using (of2 b o e).2)
  have go : ∀ h1 fl1, B.StaysIn h1 → h1.FunFrames B X.stack → HandSPX.TracedZ h1 B a (Zc cls d) fl1 → B.get? a = none → s'.heap.UpToSlots h1 →
      ∃ m, h1.Ns C m ∧ ∀ h', Heap.SameBut C h1 h' → ∀ cenv : Env, cenv.locals = C → wpAny (model X.prog X.w) X.A (passOn "comprehension.variables-let-go" (.ref a) cenv : Sem Value) (fun _ _ => False) X.xe { s' with heap := h' } := fun h1 fl1 k1 k2 k3 k5 k4 => by
    refine ⟨m, ⟨oC, es, ep, k1 _ _ hBC, hdC, r1, r2⟩, fun h2 sb cenv _ => ?_⟩
    have st2 : (PySem.W.hideAll B [C]).StaysIn h2 := fun b o e => by
      have hb : b ≠ C := fun z => by rw [z, PySem.W.hideAll_none [C] (by simp)] at e; cases e
      exact (sb.2 b hb).trans (k1 b o (PySem.W.of_hideAll _ e))
    have noB : ∀ b, B.get? b = none → (PySem.W.hideAll B [C]).get? b = none := fun b e => by
      cases q : (PySem.W.hideAll B [C]).get? b with
      | none => rfl
      | some o => rw [PySem.W.of_hideAll _ q] at e; cases e
    have ff2 : h2.FunFrames (PySem.W.hideAll B [C]) X.stack := by
      have z : h2.FunFrames B X.stack := ff_off k2 hCf fun b hb => sb.2 b hb
      exact funFrames_none z fun b hb => noB b (z.mem hb).1
    have tr2 : HandSPX.TracedZ h2 (PySem.W.hideAll B [C]) a (Zc cls d) fl1 := by
      obtain ⟨oe, vs, T, oT, ts, he, hz, hd, h1', hnT, hTe, hT, hdT, h3⟩ := k3
      have haC : a ≠ C := fun z => by rw [z, hBC] at k5; cases k5
      have hTC : T ≠ C := fun z => by rw [z, hBC] at hnT; cases hnT
      exact ⟨oe, vs, T, oT, ts, (sb.2 a haC).trans he, hz, hd, h1', noB T hnT, hTe, (sb.2 T hTC).trans hT, hdT, h3⟩
    have up2 : (PySem.W.hideAll sI.heap [C]).UpToSlots h2 := fun b o e hnf => by
      obtain ⟨sl, q⟩ := (up.trans k4) b o (of2 b o e).1 hnf
      exact ⟨sl, (sb.2 b (of2 b o e).2).trans q⟩
    unfold PySem.passOn
    obtain ⟨oe, vs, T, oT, ts, he, hz, hd, h1', hnT, hTe, hT, hdT, h3⟩ := id tr2
    refine wpAny_bind (wpAny_field (s := { s' with heap := h2 }) he hd h1' ?_)
    rw [if_neg (show ¬ ((Value.ref T == Value.none) = true) from by simp)]
    refine wpAny_bind (HandSPX.setFlight_anyZ (s := { s' with heap := h2 }) st2 ff2 tr2 fun h3' m1 m2 m3 m4 => ?_)
    refine wpAny_throw ?_
    rw [hx]
    rw [hs] at m2
    refine leaves_any (s := { s' with heap := h3' }) Zc.steady hfr hf m1 (noB a k5) m2 m3 fun h4 fl4 up4 => ?_
    have nst : ∀ b o, X.s_0.heap.get? b = some o → b ∉ X.fs → b ∉ frs X.stack := fun b o e hb hm => by
      rcases List.mem_cons.mp (I2.stkSub b hm) with z | z
      · have h1 := Heap.lt_size e
        have h2 := I2.ok.above
        rw [z] at h1
        exact absurd (Nat.lt_of_lt_of_le h1 h2) (Nat.lt_irrefl _)
      · exact hb z
    have hex' : ∀ b, b ∉ X.ex := fun b hb => by rw [hex] at hb; cases hb
    refine ⟨a, PySem.W.hideAll B [C], H', cls, d, rfl, fl4, I2.inGround nb2, ⟨fun b o e n hb => nb2 b o (I2.base.keep b o e n hb (hex' b)) (nst b o e hb), fun b o e hb => ?_, fun b o e n => I2.base.free b o e n (hex' b), fun b o e hb => ?_, I2.base.tups, I2.base.frzs, I2.base.tbls⟩,
      na, os.trans I2.os, ag, w⟩
    · obtain ⟨_, o₀, e₀, hnf⟩ := I2.ok.funs.mem hb
      rw [e] at e₀; cases e₀
      obtain ⟨sl, e1⟩ := I2.base.slot b o e (I2.ok.frf b hb) hb (hex' b)
      obtain ⟨sl2, e2⟩ := up2 b _ e1 hnf
      obtain ⟨sl3, e3⟩ := m4 b _ e2 hnf
      obtain ⟨sl4, e4⟩ := up4 b _ e3 hnf
      exact ⟨sl4, e4⟩
    · obtain ⟨o', e1⟩ := I2.base.there b o e (hex' b)
      exact ⟨o', nb2 b o' e1 (nst b o e hb)⟩
  show wpAny _ _ (noteFrame (.ref a) _) _ _ s'
  rw [note_eq (env := compEnvC scope cl C X.env) (env2 := X.env) rfl]
  rw [show (X.blk s3 H3 scope (compEnvC scope cl C X.env) fp).stack = X.env :: X.outer from hs] at sky
  rw [hs] at go
  rcases sky with ⟨hB, hn, hl, oe, vs, he, hz, hd, h1⟩ | ⟨g1, g2, g3, g4⟩ | ⟨g1, g2, g3, g4⟩
  · exact HandSPX.look_newZ Zc.steady hfr hl hf he hB hn hd h1 hz fun h' hh up' => go h' _ hh.1 hh.2.2.1 hh.2.2.2 hh.2.1 up'
  · exact notes_any Zc.steady hfr hf g1 g2 g3 g4 fun h' fl' q1 q2 q3 q4 => go h' fl' q1 q2 q3 g2 q4
  · exact notes_any Zc.steady hfr hf g1 g2 g3 g4 fun h' fl' q1 q2 q3 q4 => go h' fl' q1 q2 q3 g2 q4
/-- [elt for target in iter if ..], where elt may raise: a call within it passes by passes_blk -/
theorem pe_lcX {elt tg iter : Expr} {ifs : List Expr} {scope : Scope} {own : List (Str × Nat)} {pos : Pos} {wi : TI} {g : TG} {tt : L2.TT} {te : TE} {E₁ : Value → Shared → Prop} (hs : X.stack = X.env :: X.outer) (hf : X.env.frame = some X.env.locals) (hex : X.ex = [])
    (hx : X.xe = fun e s' => wpAny (model X.prog X.w) X.A (leaving X.env e) (fun _ s'' => L2.CX X.prog X.w X.outer X.H_0 X.s_0 E e s'') E₁ s') (hc : X.calm = true) (hN : X.N.Nodup) (hi : PI X tg iter wi) (ok : BlkOk X.N X.env.scope scope own)
    (hg : ∀ (s : Shared) (H : Hp) (C : Addr) (cl : List (Str × Addr)) (fp : List Addr), PG (X.blk s H scope (compEnvC scope cl C X.env) fp) tg g) (ht : ∀ (s : Shared) (H : Hp) (C : Addr) (cl : List (Str × Addr)) (fp : List Addr), PTs (X.blk s H scope (compEnvC scope cl C X.env) fp) ifs tt)
    (he : ∀ (s : Shared) (H : Hp) (C : Addr) (cl : List (Str × Addr)) (fp : List Addr), PE (blkX X E s H scope (compEnvC scope cl C X.env) fp) elt te) (hs2 : ∀ x, foldedSetIterable iter X.env x = pure x := by intro _; rfl) :
    PE X (.ListComp elt [⟨tg, iter, ifs, 0⟩] scope pos) (tLc wi g tt te (own.map (·.2))) := by
  refine ⟨fun pins s σ H Q I h => ?_⟩
  rw [eval_ListComp]
  have hfree : ∀ y ∈ scope.names, y.2 = .free → ∃ c, X.env.cells.lookup y.1 = some c := fun y hy e => (ok.free y hy e).elim (fun k => I.ok.has _ (.inl k)) fun k => I.ok.has _ (.inr k)
  refine wpAny_comprehension_free (use := none) rfl hs2 (closure_ok hfree) ok.kind (fun y hy e => by rw [ok.uniq y hy, e]) (thn (hi.run pins s σ H _ I h) fun xv s1 hx1 => thn hx1 fun itv s2 h2 => ?_)
  obtain ⟨it, fp, tn, J, H2, rfl, I2, T, st2, f2, q⟩ := h2
  refine wpAny_newObj_type (newEnv_comp ?_) (by show 0 ≤ sizeLine; decide)
  generalize hD : s2.heap.objs.size = D
  have hDn : H2 D = none := I2.hok.fresh (Nat.le_of_eq hD)
  obtain ⟨W, ⟨m0, w0⟩, turn⟩ := q D hDn
  generalize hs3 : ({ s2 with heap := s2.heap.push { cls := .type "list", data := .seq ([] : List Value).toArray } } : Shared) = s3
  have h3 : s3.heap = s2.heap.push { cls := .type "list", data := .seq ([] : List Value).toArray } := by rw [← hs3]
  have I3 : Inv X pins σ (upd H2 D (.lst [])) s3 := by
    rw [← hs3]
    refine I2.laid (t' := s2.toks) (fun b o e => Heap.get?_push_of_some _ e) (Nat.le_of_eq hD) ⟨Nat.zero_le _, [], 0, .nil, ?_⟩
    rw [← hD]
    exact Heap.get?_push_size _ rfl
  have f3 : ∀ b ∈ fp, FpOk X pins (upd H2 D (.lst [])) b ∧ b < s3.heap.objs.size := fun b hb => by
    obtain ⟨o, e, _⟩ := T.obj _ _ st2 b hb
    have hlt := Heap.lt_size e
    refine ⟨⟨?_, (f2 b hb).2⟩, by rw [h3, Heap.size_push]; exact Nat.lt_succ_of_lt hlt⟩
    rw [upd_ne (by rw [← hD]; exact Nat.ne_of_lt hlt)]
    exact (f2 b hb).1
  have hfp : ∀ b ∈ fp, (b ∈ X.ex ∨ X.s_0.heap.objs.size ≤ b) ∧ b ≠ X.env.locals ∧ (∀ x c, X.env.cells.lookup x = some c → c ≠ b) ∧ ∀ p ∈ X.pn ++ pins, p.1 ≠ b := fun b hb => ⟨(f3 b hb).1.2.2.2.1, (f3 b hb).1.2.1, (f3 b hb).1.2.2.2.2.1, (f3 b hb).1.2.2.2.2.2⟩
  have st3 : tn 0 s3.heap := T.keep _ _ _ st2 fun b _ o e => by rw [h3]; exact Heap.get?_push_of_some _ e
  have I4 := block_start I3 ok hN f3
  have nfp : ∀ b ∈ fp, (upd H2 D (.lst [])) b = none := fun b hb => (f3 b hb).1.1
  generalize upd H2 D (.lst []) = H3 at I3 I4 f3 nfp w0
  show codeAny _ _ (.compStart (.ListComp elt [⟨tg, iter, ifs, 0⟩] scope pos) 0 (.ref it) (.ref D) (compEnvC scope (cellsFrom (s3.heap.objs.size + 1) scope.names (cloFrom X.env.cells scope.names [])) s3.heap.objs.size X.env)) (compPost (model X.prog X.w) X.A X.xe none (EP X pins σ Q) (.ref D) s3.heap.objs.size) { s3 with heap := pushCells (s3.heap.push { cls := .type "dict", data := .dict #[] }) scope.names }
  generalize hcl : cellsFrom (s3.heap.objs.size + 1) scope.names (cloFrom X.env.cells scope.names []) = cl at I4 ⊢
  have pg := hg s3 H3 s3.heap.objs.size cl fp
  have pt := ht s3 H3 s3.heap.objs.size cl fp
  have pe := he s3 H3 s3.heap.objs.size cl fp
  have out : ∀ {pins1 : List (Addr × Obj)} {σ1 : L2.St} {H1 : Hp} {s1 : Shared} {e : Value} {s' : Shared}, Inv (X.blk s3 H3 scope (compEnvC scope cl s3.heap.objs.size X.env) fp) pins1 σ1 H1 s1 → L2.CX X.prog X.w X.stack H1 s1 E e s' →
      notedBy (model X.prog X.w) X.A (compEnvC scope cl s3.heap.objs.size X.env) (fun e s' => compPost (model X.prog X.w) X.A X.xe none (EP X pins σ Q) (.ref D) s3.heap.objs.size (.error e) s') e s' := fun I1 c => blk_out hs hf hex hx I3 hfp I1 c
  generalize hs4 : ({ s3 with heap := pushCells (s3.heap.push { cls := .type "dict", data := .dict #[] }) scope.names } : Shared) = s4 at I4 ⊢
  have st4 : tn 0 s4.heap := T.keep _ _ _ st3 fun b _ o e => by rw [← hs4]; exact pushCells_keeps _ _ _ _ (Heap.get?_push_of_some _ e)
  generalize hce : compEnvC scope cl s3.heap.objs.size X.env = ce at I4 pg pt pe out ⊢
  have cL : ce.locals = s3.heap.objs.size := by subst hce; rfl
  have stat : ∀ {σ' : L2.St} {H' : Hp} {s' : Shared}, Inv (X.blk s3 H3 scope ce fp) [] σ' H' s' → (∀ b ∈ fp, H' b = none) → ∀ b ∈ fp, FpOk (X.blk s3 H3 scope ce fp) [] H' b := fun {σ' H' s'} I' hn b hb =>
    ⟨hn b hb, (I'.ok.exf b hb).1, I'.ok.exfs b hb, .inl hb, fun x c e => (I'.ok.exf b hb).2 x c e, fun p hp => absurd (show p ∈ ([] : List (Addr × Obj)) ++ [] from hp) (by simp)⟩
  have loop : codeAny (model X.prog X.w) X.A (.compLoop (.ListComp elt [⟨tg, iter, ifs, 0⟩] scope pos) 0 (.ref it) (.ref D) ce) (compPost (model X.prog X.w) X.A X.xe none (EP X pins σ Q) (.ref D) s3.heap.objs.size) s4 := by
    refine compLoop_any (fun n s' => ∃ i H', Inv (X.blk s3 H3 scope ce fp) [] (wipe σ (own.map (·.2))) H' s' ∧ tn i s'.heap ∧ (∀ b ∈ fp, H' b = none) ∧ W i n H') ?_ m0 ⟨0, H3, I4, st4, nfp, w0⟩
    rintro n s5 ⟨i, H5, I5, st5, n5, w5⟩
    rcases turn i n H5 w5 with ⟨stop, qq⟩ | ⟨go, Nx, hNx, step⟩
    · refine thnF (T.done (X.blk s3 H3 scope ce fp) rfl rfl rfl hc i [] s5 _ H5 (fun _ _ => False) I5 (stat I5 n5) st5 stop) fun r s6 ⟨hr, I6⟩ => ?_
      subst hr
      have I7 : Inv X pins σ H5 s6 := I3.call' (ch := fp) I6.os I6.base I6.hok I6.bare hfp
      have nC : H5 s3.heap.objs.size = none := by
        have z : H5 ce.locals = none := I6.free
        rwa [cL] at z
      obtain ⟨m, hn, _⟩ := I6.loc
      have hn : s6.heap.Ns ce.locals m := hn
      rw [cL] at hn
      obtain ⟨f0, f1, f2, f3, f4, f5⟩ : FpOk X pins H5 s3.heap.objs.size := I3.fpOk (Nat.le_refl _) nC
      exact ⟨m, hn, fun h'' sb => ⟨.ref D, H5, I7.turned (t' := s6.toks) (fun b o hb e => (sb.2 b hb).trans e) f0 f1 f3 f4 f5, rfl, qq⟩⟩
    · refine thnF (T.item (X.blk s3 H3 scope ce fp) rfl rfl rfl hc i [] s5 _ H5 (fun _ _ => False) I5 (stat I5 n5) st5 go) fun r s6 ⟨u, hr, h6⟩ => ?_
      subst hr
      refine thnF h6 fun _ s7 ⟨x, H7, I7, r7, y7, st7, n7⟩ => ?_
      refine thnF (pg.run _ s7 _ H7 x u _ (I7.pinned (stat I7 n7) (T.obj _ _ st7)) r7 (step x H7 y7)) fun _ s8 ⟨σ8, H8, I8, hw8, q8⟩ => ?_
      refine thnF (pt.run _ s8 σ8 H8 _ I8 q8) fun b s9 ⟨H9, I9, q9⟩ => ?_
      have fin : ∀ {s' : Shared} {H' : Hp}, Inv (X.blk s3 H3 scope ce fp) ([] ++ pinsAt fp s7.heap) σ8 H' s' → Nx H' → ∃ m, m < n ∧ ∃ i H', Inv (X.blk s3 H3 scope ce fp) [] (wipe σ (own.map (·.2))) H' s' ∧ tn i s'.heap ∧ (∀ b ∈ fp, H' b = none) ∧ W i m H' := fun {s' H'} I' nx => by
        obtain ⟨m', hm, w'⟩ := hNx H' nx
        have pin' : ∀ b ∈ fp, ∀ o, s7.heap.get? b = some o → s'.heap.get? b = some o ∧ H' b = none := fun b hb o e =>
          let z := I'.pin (b, o) (List.mem_append_right _ (List.mem_append_right _ (mem_pinsAt hb e)))
          ⟨z.1, z.2.1⟩
        refine ⟨m', hm, i + 1, H', (I'.unpinned (pins := [])).weak (by rw [← hw8, wipe_length]) (fun j v e => ?_), T.keep _ _ _ st7 fun b hb o e => (pin' b hb o e).1, fun b hb => ?_, w'⟩
        · rw [← hw8] at e
          exact (wipe_some e).1
        · obtain ⟨o, e, _⟩ := T.obj _ _ st7 b hb
          exact (pin' b hb o e).2
      cases b with
      | false =>
        simp only [Bool.false_eq_true, if_false] at q9 ⊢
        exact fin I9 q9
      | true =>
        simp only [if_true] at q9 ⊢
        refine wpAny_mono (pe.run _ s9 σ8 H9 _ (I9.wish _) q9) (fun z s10 ⟨yv, H10, I10, r10, acc, hD10, hz10, nx⟩ => ?_) fun e s' ⟨_, _, _, _, J, c⟩ => out J c
        exact app_ok (X := X.blk s3 H3 scope ce fp) I10.unwish hD10 hz10 r10 fun s11 I11 => fin I11 nx
  exact codeAny_compStart_list loop (T.self X.A 0 _ _ _ st4 loop)
end
end LmX

set_option Elab.async false
set_option linter.all false
set_option maxRecDepth 100000
set_option maxHeartbeats 1000000
/-! locktexts.py: lines and words -/
namespace Lt
open PySem PySem.Spec PyProof.Rows L2
abbrev sSp : Str := " "
abbrev sNl : Str := "\n"
abbrev mkS (l : List Nat) : Str := ⟨l.toArray⟩
/-- a text cut at a sign, in lists -/
def splS (x y : Str) : List Str := (TL.spl (TL.tl y) 0 [] (TL.tl x)).map mkS
theorem split_eq {x y : Str} (hy : TL.tl y ≠ []) (hk : y.cps.all (· < 256) = true) : Txt.split x y = splS x y := TL.map_tl_inj (by
  rw [TL.split_spl x y hy (TL.kind_ok hk)]
  unfold splS
  rw [List.map_map]
  exact (List.map_id _).symm)
theorem split_sp (x : Str) : Txt.split x sSp = splS x sSp := split_eq (by decide +kernel) (by decide +kernel)
theorem split_nl (x : Str) : Txt.split x sNl = splS x sNl := split_eq (by decide +kernel) (by decide +kernel)
theorem spl_len (S : List Nat) : ∀ (l : List Nat) (k : Nat) (acc : List Nat), (TL.spl S k acc l).length ≤ l.length + 1
  | [], k, acc => by rw [TL.spl_nil]; exact Nat.le_refl _
  | c :: r, 0, acc => by
    show (if TL.pre S (c :: r) = true then acc :: TL.spl S (S.length - 1) [] r else TL.spl S 0 (acc ++ [c]) r).length ≤ r.length + 1 + 1
    split
    · have := spl_len S r (S.length - 1) []
      rw [List.length_cons]
      omega
    · have := spl_len S r 0 (acc ++ [c])
      omega
  | c :: r, k + 1, acc => by
    show (TL.spl S k acc r).length ≤ r.length + 1 + 1
    have := spl_len S r k acc
    omega
theorem spl_mem (S : List Nat) : ∀ (l : List Nat) (k : Nat) (acc p : List Nat), p ∈ TL.spl S k acc l → p.length ≤ acc.length + l.length
  | [], k, acc, p, h => by
    rw [TL.spl_nil, List.mem_singleton] at h
    rw [h]
    exact Nat.le_refl _
  | c :: r, 0, acc, p, h => by
    have h : p ∈ (if TL.pre S (c :: r) = true then acc :: TL.spl S (S.length - 1) [] r else TL.spl S 0 (acc ++ [c]) r) := h
    split at h
    · rcases List.mem_cons.mp h with e | h
      · rw [e]
        omega
      · have := spl_mem S r _ _ _ h
        rw [List.length_nil] at this
        rw [List.length_cons]
        omega
    · have := spl_mem S r _ _ _ h
      rw [List.length_append] at this
      have e : [c].length = 1 := rfl
      rw [List.length_cons]
      omega
  | c :: r, k + 1, acc, p, h => by
    have := spl_mem S r k acc p h
    rw [List.length_cons]
    omega
theorem splS_len (x y : Str) : (splS x y).length ≤ x.length + 1 := by
  unfold splS
  rw [List.length_map, TL.len_tl]
  exact spl_len _ _ _ _
theorem splS_mem {x y z : Str} (h : z ∈ splS x y) : z.length ≤ x.length := by
  obtain ⟨p, hp, rfl⟩ := List.mem_map.mp h
  have := spl_mem _ _ _ _ _ hp
  rw [TL.len_tl x, TL.len_tl]
  rw [List.length_nil, Nat.zero_add] at this
  exact this
def wordsIn (x : Str) : List Str := (splS x sSp).filter fun w => (w.length : Int) != 0
def linesIn (x : Str) : List (List Str) := (splS x sNl).map wordsIn
theorem wordsIn_len (x : Str) : (wordsIn x).length ≤ x.length + 1 := Nat.le_trans (List.length_filter_le _ _) (splS_len x sSp)
theorem linesIn_len (x : Str) : (linesIn x).length ≤ x.length + 1 := by
  unfold linesIn
  rw [List.length_map]
  exact splS_len x sNl
/-- the lines with words, numbered -/
def numWs (L : List (List Str)) : List (Nat × List Str) := ((List.range L.length).filter fun i => !(L.getD i []).isEmpty).map fun i => (i + 1, L.getD i [])
theorem getDd_range {α : Type} (d : α) (l : List α) : (List.range l.length).map (fun i => l.getD i d) = l := by
  refine List.ext_getElem? fun i => ?_
  rw [List.getElem?_map]
  by_cases h : i < l.length
  · rw [List.getElem?_range h, List.getElem?_eq_getElem h]
    show some (l.getD i d) = _
    rw [List.getD_eq_getElem?_getD, List.getElem?_eq_getElem h]
    rfl
  · rw [List.getElem?_eq_none (by rw [List.length_range]; omega), List.getElem?_eq_none (by omega)]
    rfl
theorem filt_range {α : Type} (d : α) (q : α → Bool) (l : List α) : ((List.range l.length).filter fun i => q (l.getD i d)).map (fun i => l.getD i d) = l.filter q := by
  conv => rhs; rw [← getDd_range d l, List.filter_map]
  rfl
theorem getD_of {α : Type} {d : α} {l : List α} {i : Nat} (h : i < l.length) : l[i]? = some (l.getD i d) := by
  rw [List.getD_eq_getElem?_getD, List.getElem?_eq_getElem h]
  rfl
theorem sN_len : ∀ i, i < 10 → (sN i).length = 1 := by decide +kernel
def spT (t : List Nat) : Str := Txt.join sSp (t.map sN)
/-- is the i-th name's value true -/
def tTru (K : PySem.W.Frag) (i : Nat) : L2.TT := fun σ H Q => tVar i σ H fun x H' => ∃ k, TruV K x H' k ∧ Q k H'
/-- a list of words -/
def WdL (H0 : Hp) (D : Addr) (H : Hp) (v : V) (ws : List Str) : Prop := ∃ wl, v = .ref wl ∧ H wl = some (.lst (ws.map V.str)) ∧ H0 wl = none ∧ wl ≠ D
/-- a line of words that nothing was taken from -/
def LnD (C : Addr) (H0 : Hp) (D : Addr) (H : Hp) (v : V) (b : Nat × List Str) : Prop := ∃ p dx wl, v = .ref p ∧ WlAt H C p dx wl b.1 b.2 0 ∧ (H0 p = none ∧ H0 wl = none) ∧ wl ≠ D
def LnR (C : Addr) (H0 : Hp) (H : Hp) (v : V) (b : Nat × List Str) : Prop := ∃ p dx wl, v = .ref p ∧ WlAt H C p dx wl b.1 b.2 0 ∧ H0 p = none ∧ H0 wl = none
section
variable {P : Program} {w : World} {K : PySem.W.Frag} {mg : Str → Option Value} {base : Heap} {C CB CS : Addr}
def spCheckTx (CS : Addr) : Sp := fun vs H Q E => ∃ (v : V) (d : PyData), vs = [v] ∧ Rp H v d ∧ ((isStr d = true ∧ Q .non H) ∨ (isStr d = false ∧ Bad0 CS H E))
theorem sc_check_text : FnScope ["text"] ["text"] (defScope s_check_text) := ⟨rfl, rfl, rfl, by decide +kernel, rfl, by decide +kernel, by decide +kernel⟩
theorem has_check_text (T : Top K mg "check_text" s_check_text ["text"]) (B : Bi mg) (X0 : Err0 K mg "BadString" CS) : Has P w K mg base (L2.CX P w) 1 "check_text" ["text"] (spCheckTx CS) := by
  refine T.okX sc_check_text (fun vs H Q E h => ?_) (fun f cdv A outer s H vs Q E hr h => ?_)
  · obtain ⟨v, d, rfl, _⟩ := h
    rfl
  · obtain ⟨v, d, rfl, hd, cs⟩ := h
    refine ⟨_, pss_one (ps_if (pt_not (pt_val (pe_callB call_isi (by rfl) B.isinstance PyProof.Rows.boot_isinstance (pa_cons (pv 0) (pa_cons (pe_bltn (by rfl) B.str PyProof.Rows.boot_str (rr_ty "str")) pa_nil)))))
      (pss_one (ps_raise rfl (takes_of rfl rfl rfl rfl) (pmk_err0 X0 (by rfl)))) pss_nil), ?_⟩
    refine ⟨_, rfl, v, .ty "str", _, _, isStr d, rfl, .ty _, rp_ty hd, kit_ty (kit_str d), isStr d, rfl, ?_⟩
    rcases cs with ⟨hs, q⟩ | ⟨hs, bad⟩
    · rw [hs]
      exact iteF q
    · rw [hs]
      exact iteT (bad H (Same.refl _))
def spSpaced : Sp := fun vs H Q _ => ∃ (v : V) (t : List Nat), vs = [v] ∧ TN H v t ∧ t.length ≤ 100 ∧ (∀ x ∈ t, x < 10) ∧ ∀ H', Same H H' → Q (.str (spT t)) H'
theorem sc_spaced : FnScope ["parts", "part"] ["parts"] (defScope s_spaced) := ⟨rfl, rfl, rfl, by decide +kernel, rfl, by decide +kernel, by decide +kernel⟩
theorem sum_one : ∀ {t : List Nat}, (∀ x ∈ t, x < 10) → ((t.map sN).map (·.length)).sum = t.length
  | [], _ => rfl
  | a :: t, h => by
    rw [List.map_cons, List.map_cons, List.sum_cons, sum_one fun x hx => h x (List.mem_cons_of_mem _ hx), sN_len a (h a (List.mem_cons_self ..)), List.length_cons]
    omega
theorem has_spaced (T : Top K mg "spaced" s_spaced ["parts"]) (B : Bi mg) : Has P w K mg base CX0 1 "spaced" ["parts"] spSpaced := by
  refine T.ok sc_spaced (fun vs H Q E h => ?_) (fun f cdv A outer s H vs Q E hr h => ?_)
  · obtain ⟨v, t, rfl, _⟩ := h
    rfl
  · obtain ⟨v, t, rfl, ⟨a, rfl, ha⟩, hl, h10, q⟩ := h
    refine ⟨_, pss_one (ps_ret (pe_join pe_str (pe_lc (own := [("part", 1)]) (g := gName 1) (te := tCB rStrI (tCons (tVar 1) tNil)) (by rfl) sc_spaced.nd (pi_tup (pv 0)) (blkOk_by (own := [("part", 1)]) (N := ["parts", "part"]) (sc := defScope s_spaced) (by decide +kernel))
      (fun _ _ _ _ _ => pg_name (i := 1) sc_spaced.nd rfl (Or.inl rfl)) (fun _ _ _ _ _ => pts_nil) (fun _ _ _ _ _ => pe_callTy call_str_int (by rfl) B.str PyProof.Rows.boot_str (pa_cons (pv 1) pa_nil))))), ?_⟩
    refine ⟨⟨_, rfl⟩, _, rfl, a, rfl, ⟨_, ha.sq⟩, fun D hD => lc_tupM RStr (t.map sN) (fun _ _ _ _ _ r => r) ha.sq (fun H' sm => (ha.sm sm).sq) (by rw [nIs_len]; omega) (by rw [List.length_map, nIs_len]) hD (fun x => rfl) (fun i x b hx hb H' sm Q' q' => ?_) (fun H2 zs s2 hz pr => ?_)⟩
    · unfold nIs at hx
      rw [List.getElem?_map] at hx hb
      obtain ⟨j, hj, rfl⟩ := Option.map_eq_some_iff.mp hx
      rw [hj] at hb
      have eb : sN j = b := Option.some.inj hb
      have hj10 := h10 j (List.mem_of_getElem? hj)
      exact ⟨_, rfl, (j : Int), rfl, log_small (by omega), q' _ H' (Same.refl _) (congrArg V.str eb)⟩
    · rw [RStr.all pr] at hz
      refine ⟨sSp, D, t.map sN, rfl, rfl, .inl (SqL.of hz), ?_, q H2 s2⟩
      rw [sum_one h10, List.length_map]
      have : sSp.length = 1 := by decide +kernel
      rw [this]
      omega
def spWordsIn : Sp := fun vs H Q _ => ∃ x : Str, vs = [.str x] ∧ x.length ≤ 90000 ∧ ∀ D H', Same H H' → H D = none → H' D = some (.lst ((wordsIn x).map V.str)) → Q (.ref D) H'
theorem sc_words_in : FnScope ["line", "word"] ["line"] (defScope s_words_in) := ⟨rfl, rfl, rfl, by decide +kernel, rfl, by decide +kernel, by decide +kernel⟩
theorem has_words_in (T : Top K mg "words_in" s_words_in ["line"]) : Has P w K mg base CX0 1 "words_in" ["line"] spWordsIn := by
  refine T.ok sc_words_in (fun vs H Q E h => ?_) (fun f cdv A outer s H vs Q E hr h => ?_)
  · obtain ⟨x, rfl, _⟩ := h
    rfl
  · obtain ⟨x, rfl, hx, q⟩ := h
    refine ⟨_, pss_one (ps_ret (pe_lc (own := [("word", 1)]) (g := gName 1) (te := tVar 1) (tt := tTru K 1) (by rfl) sc_words_in.nd (pi_list (pe_split (pv 0) pe_str)) (blkOk_by (own := [("word", 1)]) (N := ["line", "word"]) (sc := defScope s_words_in) (by decide +kernel))
      (fun _ _ _ _ _ => pg_name (i := 1) sc_words_in.nd rfl (Or.inl rfl)) (fun _ _ _ _ _ => pts_one (pt_truth (by exact pv 1) (by intro _; rfl))) (fun _ _ _ _ _ => pv 1))), ?_⟩
    refine ⟨_, rfl, ⟨x, rfl⟩, x, sSp, rfl, rfl, by decide +kernel, by rw [sizeLine_eq]; omega, fun pa hpa => ?_⟩
    rw [split_sp]
    have s1 := same_new (o := .lst ((splS x sSp).map V.str)) hpa
    have k1 : (upd H pa (.lst ((splS x sSp).map V.str))) pa = some (.lst ((splS x sSp).map V.str)) := upd_same
    generalize upd H pa (.lst ((splS x sSp).map V.str)) = H1 at *
    have hn := splS_len x sSp
    refine ⟨pa, rfl, ⟨_, SqL.of k1⟩, fun D hD => lc_genF (J := Itl K pa) (n := (splS x sSp).length) RStr (fun i => (((splS x sSp).getD i "").length : Int) != 0) (fun i => (splS x sSp).getD i "") (fun _ _ _ _ _ r => r) (by omega) hD
      (fun i H2 hi s2 => ⟨_, .str ((splS x sSp).getD i ""), SqL.of (s2 _ _ k1), by rw [List.getElem?_map, getD_of hi]; rfl⟩) (fun H2 s2 => ⟨_, SqL.of (s2 _ _ k1), by rw [List.length_map]; exact Nat.le_refl _⟩) (fun i H2 x' H3 hi s2 y => ?_) (fun H2 zs s2 hz pr => ?_)⟩
    · obtain ⟨rfl, hx'⟩ := y
      have hx' := hx' _ (SqL.of (s2 _ _ k1))
      rw [List.getElem?_map, getD_of (d := ("" : Str)) hi] at hx'
      have hx' := (Option.some.inj hx').symm
      subst hx'
      have hm : ((splS x sSp).getD i "").length ≤ x.length := splS_mem (List.mem_of_getElem? (getD_of hi))
      exact ⟨Same.refl _, _, fun Kk q => q, rfl, fun Q q => ⟨_, rfl, _, ⟨by rw [sizeLine_eq]; omega, rfl⟩, q _ (Same.refl _)⟩, fun hp H3 s3 Q q => ⟨_, rfl, q _ H3 (Same.refl _) rfl⟩⟩
    · rw [filt_range ("" : Str) (fun w => (w.length : Int) != 0) (splS x sSp)] at pr
      rw [RStr.all pr] at hz
      exact q D H2 (s1.trans s2) (s1.free hD) hz
def spWorded (C CS : Addr) : Sp := fun vs H Q E => ∃ (v : V) (d : PyData), vs = [v] ∧ Rp H v d ∧ (isStr d = false → Bad0 CS H E) ∧ ∀ x, d = .str x → v = .str x ∧ x.length ≤ 80000 ∧ ∀ D H' zs, Same H H' → H D = none → H' D = some (.lst zs) → Paired (LnR C H H') zs (numWs (linesIn x)) → Q (.ref D) H'
abbrev wdN : List Str := ["text", "lines", "line", "place", "words"]
theorem sc_worded_lines : FnScope wdN ["text"] (defScope s_worded_lines) := ⟨rfl, rfl, rfl, by decide +kernel, rfl, by decide +kernel, by decide +kernel⟩
theorem has_worded_lines (T : Top K mg "worded_lines" s_worded_lines ["text"]) (B : Bi mg) (hC : Has P w K mg base (L2.CX P w) 1 "check_text" ["text"] (spCheckTx CS)) (hW : Has P w K mg base CX0 1 "words_in" ["line"] spWordsIn)
    (hI : HasI P w K mg base (L2.CX P w) 1 C "WordLine" ["self", "number", "words"] (spWInit C)) : Has P w K mg base (L2.CX P w) 3 "worded_lines" ["text"] (spWorded C CS) := by
  refine T.okX sc_worded_lines (fun vs H Q E h => ?_) (fun f cdv A outer s H vs Q E hr h => ?_)
  · obtain ⟨v, d, rfl, _⟩ := h
    rfl
  · obtain ⟨v, d, rfl, hd, bad, good⟩ := h
    have hr1 : Room 1 _ := hr.mono (by decide)
    refine ⟨_, pss_cons (ps_expr (pe_hasX (E := E) hC hr1 (by rfl) (passes_call (takes_of rfl rfl rfl rfl) (fun _ _ _ _ h => h)) (pa_cons (pv 0) pa_nil)))
      (pss_cons (ps_setLc (i := 1) (own := [("line", 2)]) (g := gName 2) (te := tCall spWordsIn [] E0 (tCons (tVar 2) tNil)) (by rfl) sc_worded_lines.nd rfl rfl (sw_true rfl rfl rfl (by decide +kernel)) (pi_list (pe_split (pv 0) pe_str)) (blkOk_by (own := [("line", 2)]) (N := wdN) (sc := defScope s_worded_lines) (by decide +kernel))
        (fun _ _ _ _ _ => pg_name (i := 2) sc_worded_lines.nd rfl (Or.inl rfl)) (fun _ _ _ _ _ => pts_nil) (fun _ _ _ _ _ => pe_has hW hr1 (by rfl) (pa_cons (pv 2) pa_nil)))
      (pss_one (ps_ret (pe_lc (own := [("place", 3), ("words", 4)]) (g := gTup K 2 (gCons (gName 3) (gCons (gName 4) gNil))) (te := tMake C (spWInit C) [] E0 (tCons (tOp (rI0 fun i j => .int (i + j)) (tVar 3) (tC (.int 1))) (tCons (tVar 4) tNil))) (tt := tTru K 4) (by rfl) sc_worded_lines.nd (pi_enum (by rfl) B.enumerate (pa_cons (pv 1) pa_nil)) (blkOk_by (own := [("place", 3), ("words", 4)]) (N := wdN) (sc := defScope s_worded_lines) (by decide +kernel))
        (fun _ _ _ _ _ => pg_tup rfl (pgs_cons (pg_name (i := 3) sc_worded_lines.nd rfl (Or.inl rfl)) (pgs_cons (pg_name (i := 4) sc_worded_lines.nd rfl (Or.inl rfl)) pgs_nil))) (fun _ _ _ _ _ => pts_one (pt_truth (by exact pv 4) (by intro _; rfl))) (fun _ _ _ _ _ => pe_hasI hI hr (by rfl) passL (pa_cons (pe_op op_add (pv 3) pe_int) (pa_cons (pv 4) pa_nil))))))), ?_⟩
    refine ⟨_, rfl, v, d, rfl, hd, ?_⟩
    cases hs : isStr d with
    | false => exact .inr ⟨rfl, bad hs⟩
    | true =>
      refine .inl ⟨rfl, ?_⟩
      obtain ⟨x, rfl⟩ : ∃ x, d = .str x := by
        cases d <;> first | exact ⟨_, rfl⟩ | cases hs
      obtain ⟨rfl, hx, q⟩ := good x rfl
      refine ⟨_, rfl, ⟨x, rfl⟩, x, sNl, rfl, rfl, by decide +kernel, by rw [sizeLine_eq]; omega, fun pa hpa => ?_⟩
      rw [split_nl]
      have s1 := same_new (o := .lst ((splS x sNl).map V.str)) hpa
      have k1 : (upd H pa (.lst ((splS x sNl).map V.str))) pa = some (.lst ((splS x sNl).map V.str)) := upd_same
      generalize upd H pa (.lst ((splS x sNl).map V.str)) = H1 at *
      have hn := splS_len x sNl
      refine ⟨pa, rfl, ⟨_, SqL.of k1⟩, fun D hD => lc_genG (J := Itl K pa) (n := (splS x sNl).length) (WdL H D) (fun _ => true) (fun i => wordsIn ((splS x sNl).getD i "")) (fun H1 H2 v b s ⟨wl, e, h, n, nd⟩ => ⟨wl, e, s _ _ h, n, nd⟩) (fun H1 v b ys o _ ⟨wl, e, h, n, nd⟩ => ⟨wl, e, (upd_ne nd).trans h, n, nd⟩) (by omega) hD
        (fun i H2 hi s2 => ⟨_, .str ((splS x sNl).getD i ""), SqL.of (s2 _ _ k1), by rw [List.getElem?_map, getD_of hi]; rfl⟩) (fun H2 s2 => ⟨_, SqL.of (s2 _ _ k1), by rw [List.length_map]; exact Nat.le_refl _⟩) (fun i H2 x' H3 hi s2 hDs y => ?_) (fun H2 zs s2 hz pr => ?_)⟩
      · obtain ⟨rfl, hx'⟩ := y
        have hx' := hx' _ (SqL.of (s2 _ _ k1))
        rw [List.getElem?_map, getD_of (d := ("" : Str)) hi] at hx'
        have hx' := (Option.some.inj hx').symm
        subst hx'
        have hm : ((splS x sNl).getD i "").length ≤ x.length := splS_mem (List.mem_of_getElem? (getD_of hi))
        obtain ⟨zs, hDs⟩ := hDs
        refine ⟨Same.refl _, _, fun Kk q => q, rfl, fun Q q => q _ (Same.refl _), fun hp H3 s3 Q q => ⟨_, rfl, _, rfl, by omega, fun D2 H4 s4 n4 h4 => q _ H4 s4 ⟨D2, rfl, h4, (s1.trans (s2.trans s3)).free n4, ?_⟩⟩⟩
        exact (ne_of_none (s3 _ _ hDs) n4).symm
      · have e1 : ((List.range (splS x sNl).length).filter fun _ => true).map (fun i => wordsIn ((splS x sNl).getD i "")) = linesIn x := by
          rw [List.filter_eq_self.mpr fun _ _ => rfl]
          unfold linesIn
          conv => rhs; rw [← getDd_range ("" : Str) (splS x sNl), List.map_map]
          rfl
        rw [e1] at pr
        have hL := linesIn_len x
        have s02 := s1.trans s2
        have hlz := Paired.length pr
        generalize hLL : linesIn x = L at *
        refine ⟨_, rfl, D, zs, rfl, SqL.of hz, fun D2 hD2 => lc_genG (J := Ite K D) (n := L.length) (LnD C H D2) (fun i => !(L.getD i []).isEmpty) (fun i => (i + 1, L.getD i [])) (fun H1 H2 v b s ⟨p, dx, wl, e, W, n, nd⟩ => ⟨p, dx, wl, e, W.same s, n, nd⟩) (fun H1 v b ys o ho ⟨p, dx, wl, e, W, n, nd⟩ => ⟨p, dx, wl, e, W.far ho nd, n, nd⟩) (by omega) hD2
          (fun i H3 hi s3 => ⟨zs, _, SqL.of (s3 _ _ hz), List.getElem?_eq_getElem (by omega)⟩) (fun H3 s3 => ⟨zs, SqL.of (s3 _ _ hz), by omega⟩) (fun i H3 x' H4 hi s3 hDs y => ?_) (fun H3 ys s3 hy pr3 => ?_)⟩
        · obtain ⟨T', x'', rfl, hT, rfl, hx''⟩ := y
          have hx'' := hx'' _ (SqL.of (s3 _ _ hz))
          obtain ⟨b, hb, wl, rfl, hwl, nwl, ndl⟩ := Lt.Paired.getL pr hx''
          rw [getD_of (d := []) hi] at hb
          have hb := (Option.some.inj hb).symm
          subst hb
          have sT := same_new (o := .tup [V.int (i : Nat), V.ref wl]) hT
          have hwl3 := s3 _ _ hwl
          have nD2 : wl ≠ D2 := ne_of_none hwl hD2
          refine ⟨sT, _, fun Kk q => ⟨T', _, rfl, SqT.of upd_same, rfl, _, _, rfl, _, _, rfl, rfl, q⟩, rfl, fun Q q => ⟨_, rfl, _, .inl ⟨_, SqL.of (sT _ _ hwl3), rfl⟩, ?_⟩, fun hp H5 s5 Q q => ?_⟩
          · have e2 : (!((L.getD i []).map V.str).isEmpty) = !(L.getD i []).isEmpty := by rw [List.isEmpty_map]
            rw [e2]
            exact q _ (Same.refl _)
          · refine ⟨_, rfl, (i : Int), 1, rfl, rfl, _, rfl, fun px dx nx ndx nex => ?_⟩
            have ev : V.int ((i : Int) + 1) = nI (i + 1) := congrArg V.int (by omega)
            have hwl5 := s5 _ _ (sT _ _ hwl3)
            refine ⟨px, dx, wl, i + 1, L.getD i [], congrArg (fun z => [V.ref px, z, V.ref wl]) ev, upd_same, (upd_ne (ne_of_none hwl5 nx)).trans ((upd_ne (ne_of_none hwl5 ndx)).trans hwl5), fun H6 st6 h6 => ⟨rfl, ?_⟩⟩
            have s56 : Same H5 H6 := fun b o h => st6 b o (ne_of_none h nx) ((upd_ne (ne_of_none h nx)).trans ((upd_ne (ne_of_none h ndx)).trans h))
            exact q _ H6 s56 ⟨px, dx, wl, rfl, ⟨h6, s56 _ _ hwl5⟩, ⟨(s02.trans (s3.trans (sT.trans s5))).free nx, nwl⟩, nD2⟩
        · refine q D2 H3 ys (s02.trans s3) (s02.free hD2) hy (paired_mono (fun a b r => ?_) pr3)
          obtain ⟨p, dx, wl, e, W, n, _⟩ := r
          exact ⟨p, dx, wl, e, W, n⟩
end
end Lt

set_option Elab.async false
set_option linter.all false
set_option maxRecDepth 100000
set_option maxHeartbeats 4000000
namespace Lt
open PySem PySem.Spec PyProof.Rows L2
/-! ### ascending -/
def iN (t : List Nat) : List Int := t.map Int.ofNat
def cd (t : List Nat) : Int := TS.code 9 (iN t)
def Asc (ts : List (List Nat)) : Prop := ts.Pairwise fun x y => cd x ≤ cd y
theorem iN_len (t : List Nat) : (iN t).length = t.length := List.length_map ..
theorem iN_inj {s t : List Nat} (h : iN s = iN t) : s = t := (List.map_inj_right ofNat_inj).mp h
theorem bd_iN {n : Nat} {t : List Nat} (h : IsP n t) (hn : n ≤ 9) : TS.Bd 9 (iN t) := fun m hm => by
  obtain ⟨i, hi, rfl⟩ := List.mem_map.mp hm
  have := h.lt i hi
  exact ⟨Int.natCast_nonneg i, by show (i : Int) < 9; omega⟩
theorem code_inj : ∀ {x y : List Int}, x.length = y.length → TS.Bd 9 x → TS.Bd 9 y → TS.code 9 x = TS.code 9 y → x = y
  | [], [], _, _, _, _ => rfl
  | [], _ :: _, h, _, _, _ => by cases h
  | _ :: _, [], h, _, _, _ => by cases h
  | a :: x, b :: y, h, hx, hy, e => by
    have hl : x.length = y.length := Nat.succ.inj h
    rcases Int.lt_trichotomy a b with z | z | z
    · have := TS.code_lt hl hx.tail hy.tail z
      omega
    · subst z
      have e2 : TS.code 9 x = TS.code 9 y := by
        have e' : a * 9 ^ x.length + TS.code 9 x = a * 9 ^ y.length + TS.code 9 y := e
        rw [hl] at e'
        omega
      rw [code_inj hl hx.tail hy.tail e2]
    · have := TS.code_lt hl.symm hy.tail hx.tail z
      omega
theorem cd_inj {n : Nat} {s t : List Nat} (hs : IsP n s) (ht : IsP n t) (hn : n ≤ 9) (e : cd s = cd t) : s = t :=
  iN_inj (code_inj (by rw [iN_len, iN_len, hs.len, ht.len]) (bd_iN hs hn) (bd_iN ht hn) e)
/-- an ascending list is told by its members -/
theorem asc_one {n : Nat} {a b : List (List Nat)} (hn : n ≤ 9) (ha : ∀ t ∈ a, IsP n t) (p : a.Perm b) (h1 : Asc a) (h2 : Asc b) : a = b :=
  List.Perm.eq_of_pairwise (fun x y hx hy e1 e2 => cd_inj (ha x hx) (ha y (p.mem_iff.mpr hy)) hn (Int.le_antisymm e1 e2)) h1 h2 p
/-- a lock that is asked of -/
structure Good (H : Hp) (v : V) (ls : List (List Nat)) (n : Nat) : Prop where
  tt : TT H v ls
  gl : GL ls n
  few : Few ls n 63
theorem Good.tm {H H' : Hp} {v : V} {ls : List (List Nat)} {n : Nat} (h : Good H v ls n) (e : Tm H H') : Good H' v ls n := ⟨h.tt.tm e, h.gl, h.few⟩
theorem Good.same {H H' : Hp} {v : V} {ls : List (List Nat)} {n : Nat} (h : Good H v ls n) (e : Same H H') : Good H' v ls n := h.tm (.of e)
theorem Good.isP {H : Hp} {v : V} {ls : List (List Nat)} {n : Nat} (h : Good H v ls n) {t : List Nat} (m : Mk ls n t) : IsP n t := m.isP h.gl.2.2.2.2
theorem Good.mem {H : Hp} {v : V} {ls : List (List Nat)} {n : Nat} (h : Good H v ls n) (t : List Nat) : t ∈ (LL ls n).map (·.1) ↔ Mk ls n t := LL_mem h.few (by omega) t
section
variable {P : Program} {w : World} {K : PySem.W.Frag} {mg : Str → Option Value} {base : Heap} {CL CM CT : Addr}
theorem Good.wd {H : Hp} {v : V} {ls : List (List Nat)} {n : Nat} (g : Good H v ls n) {L : List (List Nat × List Nat)} (hL : Wd ls n L) : L = LL ls n := by
  obtain ⟨a, e1, e2, _⟩ := g.few.wd (by omega) hL
  rw [e1] at e2 ⊢
  exact LL_of g.few (by omega) e2
theorem tlen {t : List Nat} {m : Nat} (h : t.length ≤ m) : ∀ ds, dT t = .tuple ds → ds.length ≤ m := fun ds e => by
  injection e with e
  subst e
  rw [List.length_map]
  exact h
theorem isTurn_mk {H : Hp} {v : V} {ls : List (List Nat)} {n : Nat} (g : Good H v ls n) (t : List Nat) : (isTurnD (LL ls n) (dT t) = true ↔ Mk ls n t) := by
  rw [isTurnD_dT, decide_eq_true_iff]
  exact g.mem t
theorem isTurn_no {H : Hp} {v : V} {ls : List (List Nat)} {n : Nat} (g : Good H v ls n) {t : List Nat} (e : isTurnD (LL ls n) (dT t) = false) : ¬ Mk ls n t := fun z => by
  rw [(isTurn_mk g t).mpr z] at e
  cases e
/-! ### all_turns -/
def spAll (CL CM : Addr) : Sp := fun vs H Q E => ∃ v, vs = [v] ∧ LockIn CL CM v H E (fun ls n => ∀ L, Wd ls n L → L.length ≤ 240 → L.length < 64 ∧ ∀ r H' ts, Same H H' → TT H' r ts → ts.Perm (L.map (·.1)) → Asc ts → Q r H')
/-- a tuple of turns that may be keys -/
def TTK (H : Hp) (v : V) (ts : List (List Nat)) : Prop := ∃ a xs, v = .ref a ∧ H a = some (.tup xs) ∧ Paired (TK H) xs ts
theorem TTK.tt {H : Hp} {v : V} {ts : List (List Nat)} (h : TTK H v ts) : TT H v ts := let ⟨a, xs, e, ha, p⟩ := h; ⟨a, xs, e, ha, paired_mono (fun _ _ r => r.tn) p⟩
def spAllK (CL CM : Addr) : Sp := fun vs H Q E => ∃ v, vs = [v] ∧ LockIn CL CM v H E (fun ls n => ∀ L, Wd ls n L → L.length ≤ 240 → L.length < 64 ∧ ∀ r H' ts, Same H H' → TTK H' r ts → ts.Perm (L.map (·.1)) → Asc ts → Q r H')
theorem keysI {H : Hp} {kvs : List (List Key × V)} {L : List (List Nat × List Nat)} (p : Paired (DE H) kvs L) : kvs.map (·.1) = (numL L).map fun k => k.map Sum.inl := by
  induction p with
  | nil => rfl
  | cons r _ ih =>
    rw [List.map_cons, ih, r.1, keyN_I]
    rfl
theorem wd_isP {ls : List (List Nat)} {n : Nat} (hg : ∀ g ∈ ls, IsP n g) {L : List (List Nat × List Nat)} (h : Wd ls n L) : ∀ x ∈ L, IsP n x.1 := fun x hx => by
  obtain ⟨a, rfl, _⟩ := h
  exact (qq_mk ls n a x.1 (List.mem_map.mpr ⟨x, hx, rfl⟩)).isP hg
/-- the bases of sorted ints are turns -/
theorem turns_back {L : List (List Nat × List Nat)} : ∀ {ks : List (List Int)}, (∀ k ∈ ks, k ∈ numL L) → ∃ ts : List (List Nat), ks = ts.map iN
  | [], _ => ⟨[], rfl⟩
  | k :: ks, h => by
    obtain ⟨x, _, e⟩ := List.mem_map.mp (h k List.mem_cons_self)
    obtain ⟨ts, e2⟩ := turns_back fun y hy => h y (List.mem_cons_of_mem _ hy)
    exact ⟨x.1 :: ts, by rw [e2, List.map_cons, ← e]; rfl⟩
theorem perm_iN {a b : List (List Nat)} (h : (a.map iN).Perm (b.map iN)) : a.Perm b := by
  have z := h.map fun k : List Int => k.map Int.toNat
  rw [List.map_map, List.map_map] at z
  have e : ∀ l : List (List Nat), l.map ((fun k : List Int => k.map Int.toNat) ∘ iN) = l := fun l => (List.map_congr_left (g := id) fun t _ => by
    show (t.map Int.ofNat).map Int.toNat = t
    rw [List.map_map]
    exact (List.map_congr_left (g := id) fun _ _ => rfl).trans (List.map_id t)).trans (List.map_id l)
  rw [e, e] at z
  exact z
theorem tns_of {H : Hp} : ∀ {bs : List Addr} {ts : List (List Nat)}, Paired (fun (b : Addr) k => H b = some (.tup (k.map V.int))) bs (ts.map iN) → Paired (TK H) (bs.map V.ref) ts
  | [], [], .nil => .nil
  | b :: bs, t :: ts, .cons r s => .cons ⟨b, rfl, by rw [r, nIs_int]; rfl⟩ (tns_of s)
end
end Lt

set_option Elab.async false
set_option linter.all false
set_option maxRecDepth 100000
set_option maxHeartbeats 1000000
/-! locktexts.py: write_lock, read_lock -/
namespace Lt
open PySem PySem.Spec PyProof.Rows L2
abbrev wTurn : List Str := ["turn"]
def sizeL (acc : List (List Nat)) (ws : List Str) (size : Nat) : Nat := if acc.isEmpty then max 2 (min 9 (ws.length - 1)) else size
/-- the lines' turns -/
def rdL : List (Nat × List Str) → Nat → List (List Nat) → Except (Nat × Nat) (List (List Nat))
  | [], _, acc => .ok acc
  | b :: rest, size, acc =>
    if acc.length = 4 then .error (b.1, 1) else
    match tk1 b.2 0 wTurn with
    | none => .error (b.1, 1)
    | some _ => match tkP b.2 (figs (sizeL acc b.2 size)) 1 (sizeL acc b.2 size) [] with
      | .error e => .error (b.1, e)
      | .ok t => if 1 + sizeL acc b.2 size < b.2.length then .error (b.1, 1 + sizeL acc b.2 size + 1) else rdL rest (sizeL acc b.2 size) (acc ++ [t])
def lockOf (x : Str) : Except (Nat × Nat) (List (List Nat)) := match rdL (numWs (linesIn x)) 0 [] with
  | .error e => .error e
  | .ok ts => if ts.isEmpty then .error ((splS x sNl).length + 1, 1) else .ok ts
theorem sizeL_le {acc : List (List Nat)} {ws : List Str} {size : Nat} (h : size ≤ 9) : sizeL acc ws size ≤ 9 := by
  unfold sizeL
  split
  · omega
  · exact h
theorem rdL_full {b : Nat × List Str} {rest : List (Nat × List Str)} {size : Nat} {acc : List (List Nat)} (h : acc.length = 4) : rdL (b :: rest) size acc = .error (b.1, 1) := if_pos h
theorem rdL_no {b : Nat × List Str} {rest : List (Nat × List Str)} {size : Nat} {acc : List (List Nat)} (h : ¬ acc.length = 4) (h1 : tk1 b.2 0 wTurn = none) : rdL (b :: rest) size acc = .error (b.1, 1) := by
  rw [rdL, if_neg h, h1]
theorem rdL_places {b : Nat × List Str} {rest : List (Nat × List Str)} {size j e : Nat} {acc : List (List Nat)} (h : ¬ acc.length = 4) (h1 : tk1 b.2 0 wTurn = some j) (h2 : tkP b.2 (figs (sizeL acc b.2 size)) 1 (sizeL acc b.2 size) [] = .error e) : rdL (b :: rest) size acc = .error (b.1, e) := by
  rw [rdL, if_neg h, h1]
  show (match tkP b.2 (figs (sizeL acc b.2 size)) 1 (sizeL acc b.2 size) [] with | .error e => _ | .ok t => _) = _
  rw [h2]
theorem rdL_more {b : Nat × List Str} {rest : List (Nat × List Str)} {size j : Nat} {t : List Nat} {acc : List (List Nat)} (h : ¬ acc.length = 4) (h1 : tk1 b.2 0 wTurn = some j) (h2 : tkP b.2 (figs (sizeL acc b.2 size)) 1 (sizeL acc b.2 size) [] = .ok t) :
    rdL (b :: rest) size acc = if 1 + sizeL acc b.2 size < b.2.length then .error (b.1, 1 + sizeL acc b.2 size + 1) else rdL rest (sizeL acc b.2 size) (acc ++ [t]) := by
  rw [rdL, if_neg h, h1]
  show (match tkP b.2 (figs (sizeL acc b.2 size)) 1 (sizeL acc b.2 size) [] with | .error e => _ | .ok t => _) = _
  rw [h2]
theorem same_step {p : Addr} {H H1 H2 : Hp} (s : Same H H1) (hp : H p = none) (st : StepR p H1 H2) : Same H H2 := fun b o h => st b o (ne_of_none h hp) (s b o h)
theorem badP_of {p CB : Addr} {num e : Nat} {H H1 : Hp} {E : XK} (b : BadF2 CB "line" (nI num) "place" (nI e) H E) (s : Same H H1) (hp : H p = none) : BadP p CB num e H1 E := fun d H' st h => b d H' (same_step s hp st) h
/-- the lines behind one that is being read -/
theorem lns_step {C p dx wl : Addr} {num i : Nat} {ws : List Str} {H1 H H' : Hp} (W : WlAt H C p dx wl num ws i) (st : StepR p H H') : ∀ {zs : List V} {L : List (Nat × List Str)}, Paired (LnR C H1 H) zs L → (∀ b ∈ L, num ≠ b.1) → Paired (LnR C H1 H') zs L
  | _, _, .nil, _ => .nil
  | _, _, .cons ⟨q, dx2, wl2, e, W2, n⟩ t, hn => by
    refine .cons ⟨q, dx2, wl2, e, W2.other W (fun z => ?_) st, n⟩ (lns_step W st t fun b hb => hn b (List.mem_cons_of_mem _ hb))
    subst z
    have z := W2.ins.symm.trans W.ins
    injection z with z
    injection z with _ _ z
    injection z with z _
    injection z with _ z
    injection z with z
    exact hn _ (List.mem_cons_self ..) (Int.ofNat.inj z).symm
theorem lns_far {C a : Addr} {xs : List V} {o : HO} {H1 H : Hp} (ha : H a = some (.lst xs)) (h1 : H1 a ≠ none) {zs : List V} {L : List (Nat × List Str)} (p : Paired (LnR C H1 H) zs L) : Paired (LnR C H1 (upd H a o)) zs L :=
  paired_mono (fun _ _ ⟨q, dx2, wl2, e, W2, n, n2⟩ => ⟨q, dx2, wl2, e, W2.far ha (fun z => h1 (z ▸ n2)), n, n2⟩) p
theorem lns_same {C : Addr} {H1 H H' : Hp} (s : Same H H') {zs : List V} {L : List (Nat × List Str)} (p : Paired (LnR C H1 H) zs L) : Paired (LnR C H1 H') zs L :=
  paired_mono (fun _ _ ⟨q, dx2, wl2, e, W2, n⟩ => ⟨q, dx2, wl2, e, W2.same s, n⟩) p
theorem numWs_nd (L : List (List Str)) : (numWs L).Pairwise fun a b => a.1 ≠ b.1 := by
  unfold numWs
  refine List.pairwise_map.mpr ((List.pairwise_lt_range.filter _).imp fun {a b} h => ?_)
  show a + 1 ≠ b + 1
  omega
theorem numWs_len (L : List (List Str)) : (numWs L).length ≤ L.length := by
  unfold numWs
  rw [List.length_map]
  exact Nat.le_trans (List.length_filter_le _ _) (by rw [List.length_range]; exact Nat.le_refl _)
def lnT (t : List Nat) : Str := ("turn " : Str) ++ spT t
def lockTx (ls : List (List Nat)) : Str := Txt.join sNl (ls.map lnT)
theorem empty_app (x : Str) : Str.empty ++ x = x := TL.ext_tl (by rw [TL.tl_append]; rfl)
theorem joinL_len (S : List Nat) : ∀ L : List (List Nat), (TL.joinL S L).length ≤ (L.map (·.length)).sum + L.length * S.length
  | [] => Nat.zero_le _
  | [a] => by
    show a.length ≤ _
    simp
  | a :: b :: L => by
    show (a ++ (S ++ TL.joinL S (b :: L))).length ≤ _
    have := joinL_len S (b :: L)
    simp only [List.length_append, List.map_cons, List.sum_cons, List.length_cons] at this ⊢
    have e : (L.length + 1 + 1) * S.length = (L.length + 1) * S.length + S.length := by rw [Nat.add_mul, Nat.one_mul]
    rw [e]
    omega
theorem joinS_len (y : Str) (xs : List Str) : (Txt.join y xs).length ≤ (xs.map (·.length)).sum + xs.length * y.length := by
  rw [TL.len_tl, TL.join_eq, TL.tl_join]
  refine Nat.le_trans (joinL_len _ _) ?_
  rw [List.map_map, List.length_map, TL.len_tl y]
  refine Nat.add_le_add_right (Nat.le_of_eq ?_) _
  congr 1
theorem app_len (a b : Str) : (a ++ b).length = a.length + b.length := by rw [TL.len_tl, TL.tl_append, List.length_append, ← TL.len_tl, ← TL.len_tl]
theorem spT_len {t : List Nat} (h : ∀ x ∈ t, x < 10) : (spT t).length ≤ 2 * t.length := by
  have := joinS_len sSp (t.map sN)
  rw [sum_one h, List.length_map] at this
  have e : sSp.length = 1 := by decide +kernel
  rw [e] at this
  unfold spT
  omega
theorem sum_le {α : Type} (f : α → Nat) (m : Nat) : ∀ {l : List α}, (∀ x ∈ l, f x ≤ m) → (l.map f).sum ≤ l.length * m
  | [], _ => Nat.zero_le _
  | a :: l, h => by
    rw [List.map_cons, List.sum_cons, List.length_cons, Nat.add_mul, Nat.one_mul]
    have := sum_le f m fun x hx => h x (List.mem_cons_of_mem _ hx)
    have := h a (List.mem_cons_self ..)
    omega
section
variable {P : Program} {w : World} {K : PySem.W.Frag} {mg : Str → Option Value} {base : Heap} {C CB CS CL CM : Addr}
def spWriteLock : Sp := fun vs H Q _ => ∃ (v : V) (ls : List (List Nat)) (n : Nat), vs = [v] ∧ Good H v ls n ∧ ∀ H', Same H H' → Q (.str (lockTx ls)) H'
theorem sc_write_lock : FnScope ["lock", "given"] ["lock"] (defScope s_write_lock) := ⟨rfl, rfl, rfl, by decide +kernel, rfl, by decide +kernel, by decide +kernel⟩
def tLn : TE := fun σ H Q => tJs [tC (.str "turn "), tFmt (tCall spSpaced [] E0 (tCons (tVar 1) tNil))] Str.empty σ H fun out H1 => Q (.str out) H1
theorem has_write_lock (T : Top K mg "write_lock" s_write_lock ["lock"]) (B : Bi mg) (hM : Has P w K mg base (L2.CX P w) 5 "made_words" ["lock"] (spMade CL CM)) (hS : Has P w K mg base CX0 1 "spaced" ["parts"] spSpaced) : Has P w K mg base (L2.CX P w) 6 "write_lock" ["lock"] spWriteLock := by
  refine T.okX sc_write_lock (fun vs H Q E h => ?_) (fun f cdv A outer s H vs Q E hr h => ?_)
  · obtain ⟨v, ls, n, rfl, _⟩ := h
    rfl
  · obtain ⟨v, ls, n, rfl, g, q⟩ := h
    have hr1 : Room 1 _ := hr.mono (by decide)
    refine ⟨_, pss_cons (ps_expr (pe_hasX (E := E) hM hr (by rfl) (passes_call (takes_of rfl rfl rfl rfl) (fun _ _ _ _ h => h)) (pa_cons (pv 0) pa_nil)))
      (pss_one (ps_ret (pe_join pe_str (pe_lc (own := [("given", 1)]) (g := gName 1) (te := tLn) (by rfl) sc_write_lock.nd (pi_tup (pv 0)) (blkOk_by (own := [("given", 1)]) (N := ["lock", "given"]) (sc := defScope s_write_lock) (by decide +kernel))
        (fun _ _ _ _ _ => pg_name (i := 1) sc_write_lock.nd rfl (Or.inl rfl)) (fun _ _ _ _ _ => pts_nil) (fun _ _ _ _ _ => pe_joined (.cons pe_str (.cons (pe_fmt (pe_has hS hr1 (by rfl) (pa_cons (pv 1) pa_nil))) .nil))))))), ?_⟩
    refine ⟨_, rfl, v, rfl, lockIn_good g.tt g.gl g.few (by omega) fun m H1 L s1 hm dw hL _ => ?_⟩
    have g1 := g.same s1
    obtain ⟨a, xs, rfl, ha, px⟩ := g1.tt
    have lx := Paired.length px
    obtain ⟨g0, g4, n2, n9, gp⟩ := g.gl
    have l10 : ∀ t ∈ ls, t.length ≤ 9 ∧ ∀ x ∈ t, x < 10 := fun t ht => ⟨by rw [(gp t ht).len]; exact n9, fun x hx => by have := (gp t ht).lt x hx; omega⟩
    have l4 : ("turn " : Str).length = 5 := by decide +kernel
    refine ⟨⟨_, rfl⟩, _, rfl, a, rfl, ⟨_, SqT.of ha⟩, fun D hD => lc_tupM RStr (ls.map lnT) (fun _ _ _ _ _ r => r) (SqT.of ha) (fun H' sm => SqT.of (sm _ _ ha)) (by omega) (by rw [List.length_map, lx]) hD (fun x => rfl) (fun i x b hx hb H' sm Q' q' => ?_) (fun H2 zs s2 hz pr => ?_)⟩
    · obtain ⟨t, ht, rx⟩ := Paired.getL px hx
      rw [List.getElem?_map, ht] at hb
      have eb : lnT t = b := Option.some.inj hb
      obtain ⟨t9, t10⟩ := l10 t (List.mem_of_getElem? ht)
      have sl := spT_len t10
      refine ⟨("turn " : Str), rfl, by rw [sizeLine_eq, empty_app, l4]; decide, _, rfl, x, t, rfl, rx.tm (.of sm), by omega, t10, fun H3 s3 => .inl ⟨spT t, rfl, by rw [sizeLine_eq]; omega, _, rfl, by rw [sizeLine_eq, empty_app, app_len, l4]; omega, q' _ H3 s3 ?_⟩⟩
      rw [empty_app]
      exact congrArg V.str eb
    · rw [RStr.all pr] at hz
      refine ⟨sNl, D, ls.map lnT, rfl, rfl, .inl (SqL.of hz), ?_, q H2 (s1.trans s2)⟩
      rw [List.map_map, List.length_map]
      have e1 : sNl.length = 1 := by decide +kernel
      rw [e1]
      have := sum_le ((fun x : Str => x.length) ∘ lnT) 23 (l := ls) fun t ht => by
        obtain ⟨t9, t10⟩ := l10 t ht
        have sl := spT_len t10
        show (("turn " : Str) ++ spT t).length ≤ 23
        rw [app_len, l4]
        omega
      omega
end
end Lt

set_option Elab.async false
set_option linter.all false
set_option maxRecDepth 100000
set_option maxHeartbeats 1000000
/-! locktexts.py: read_lock -/
namespace Lt
open PySem PySem.Spec PyProof.Rows L2
theorem tt_take {H : Hp} {vs : List V} (l : Addr) (h : H l = some (.lst vs)) (p : Addr) (hp : H p = none) {ts : List (List Nat)} (pr : Paired (TK H) vs ts) : TTK (upd H p (.tup vs)) (.ref p) ts :=
  ⟨p, vs, rfl, upd_same, paired_mono (fun _ _ r => r.tm (.of (same_new hp))) pr⟩
section
variable {P : Program} {w : World} {K : PySem.W.Frag} {mg : Str → Option Value} {base : Heap} {C CB CS : Addr}
/-- the argument text: what is none, or a text of which q -/
def TxIn (CS : Addr) (H : Hp) (E : XK) (v : V) (q : Str → Prop) : Prop := ∃ d, Rp H v d ∧ (isStr d = false → Bad0 CS H E) ∧ ∀ x, d = .str x → v = .str x ∧ x.length ≤ 80000 ∧ q x
def spReadLock (CB CS : Addr) : Sp := fun vs H Q E => ∃ v, vs = [v] ∧ TxIn CS H E v fun x => (∀ e, lockOf x = .error e → BadF2 CB "line" (nI e.1) "place" (nI e.2) H E) ∧ ∀ ts, lockOf x = .ok ts → ∀ r H', Same H H' → TTK H' r ts → Q r H'
theorem sc_read_lock : FnScope ["text", "lock", "size", "line"] ["text"] (defScope s_read_lock) := ⟨rfl, rfl, rfl, by decide +kernel, rfl, by decide +kernel, by decide +kernel⟩
theorem size_int (l : Nat) : V.int (if (if (l : Int) - 1 < 9 then (l : Int) - 1 else 9) > 2 then (if (l : Int) - 1 < 9 then (l : Int) - 1 else 9) else 2) = nI (max 2 (min 9 (l - 1))) := by
  refine congrArg V.int ?_
  by_cases h9 : (l : Int) - 1 < 9
  · rw [if_pos h9]
    by_cases h2 : (l : Int) - 1 > 2
    · rw [if_pos h2]
      omega
    · rw [if_neg h2]
      omega
  · rw [if_neg h9, if_pos (by decide)]
    omega
theorem has_read_lock (T : Top K mg "read_lock" s_read_lock ["text"]) (B : Bi mg) (bmax : mg "max" = none) (bmin : mg "min" = none) (TW : WlT K mg C) (X1 : ErrI2 P w K mg base "BadLine" "line" "place" CB)
    (G4 : ∃ u, mg "MOST_GIVEN" = some u ∧ RelV (.int 4) u) (G2 : ∃ u, mg "FEWEST_PLACES" = some u ∧ RelV (.int 2) u) (G9 : ∃ u, mg "MOST_PLACES" = some u ∧ RelV (.int 9) u)
    (hWd : Has P w K mg base (L2.CX P w) 3 "worded_lines" ["text"] (spWorded C CS)) (hT : HasM P w K mg base (L2.CX P w) 3 C "take" ["self", "wanted"] (spTake C CB)) (hP : HasM P w K mg base (L2.CX P w) 4 C "take_places" ["self", "size"] (spPlaces C CB))
    (hE : HasM P w K mg base (L2.CX P w) 3 C "end" ["self"] (spEnd C CB)) : Has P w K mg base (L2.CX P w) 5 "read_lock" ["text"] (spReadLock CB CS) := by
  refine T.okX sc_read_lock (fun vs H Q E h => ?_) (fun f cdv A outer s H vs Q E hr h => ?_)
  · obtain ⟨v, rfl, _⟩ := h
    rfl
  · obtain ⟨v, rfl, d, hd, badS, good⟩ := h
    have hr2 : Room 2 _ := hr.mono (by decide)
    have hr3 : Room 3 _ := hr.mono (by decide)
    refine ⟨_, pss_cons (ps_set (i := 1) sc_read_lock.nd rfl (Or.inl rfl) (pe_lst pa_nil))
      (pss_cons (ps_set (i := 2) sc_read_lock.nd rfl (Or.inl rfl) pe_int)
      (pss_cons (ps_for (passes_of rfl) rfl (pi_list (pe_hasX (E := E) hWd hr3 (by rfl) (passes_call (takes_of rfl rfl rfl rfl) (fun _ _ _ _ h => h)) (pa_cons (pv 0) pa_nil))) (pg_name (i := 3) sc_read_lock.nd rfl (Or.inl rfl))
        (pss_cons (ps_if (pt_cmpR op_eq (pe_callB call_len_seq (by rfl) B.len PySem.boot_len (pa_cons (pv 1) pa_nil)) (pe_gc2 (by rfl) G4) (by rfl)) (pss_one (ps_raise rfl (takes_of rfl rfl rfl rfl) (pmk_errI2 X1 hr2 (by rfl) (pa_cons (pe_fld (pv 3) rfl) (pa_cons pe_int pa_nil))))) pss_nil)
        (pss_cons (ps_if (pt_not (pt_truth (pv 1) (by intro _; rfl))) (pss_one (ps_set (i := 2) sc_read_lock.nd rfl (Or.inl rfl) (pe_callB (call_max2 (by rfl)) (by rfl) bmax (by rfl) (pa_cons (pe_gc2 (by rfl) G2) (pa_cons (pe_callB (call_min2 (by rfl)) (by rfl) bmin (by rfl) (pa_cons (pe_gc2 (by rfl) G9) (pa_cons (pe_op op_sub (pe_callB call_len_seq (by rfl) B.len PySem.boot_len (pa_cons (pe_fld (pv 3) rfl) pa_nil)) pe_int) pa_nil))) pa_nil))))) pss_nil)
        (pss_cons (ps_expr (pe_hasM (E := E) hT TW.cl hr3 (passes_call (takes_of rfl rfl rfl rfl) (fun _ _ _ _ h => h)) (pv 3) (pa_cons (pe_lst (pa_cons pe_str pa_nil)) pa_nil)))
        (pss_cons (ps_expr (pe_bm PySem.F.plainAttrs_list PySem.F.slot_list_append PySem.F.type_list_append mt_append (pv 1) (pa_cons (pe_hasM (E := E) hP TW.cl hr (passes_call (takes_of rfl rfl rfl rfl) (fun _ _ _ _ h => h)) (pv 3) (pa_cons (pv 2) pa_nil)) pa_nil)))
        (pss_one (ps_expr (pe_hasM0 (E := E) hE TW.cl hr3 (passes_call (takes_of rfl rfl rfl rfl) (fun _ _ _ _ h => h)) (pv 3)))))))))
      (pss_cons (ps_if (pt_not (pt_truth (pv 1) (by intro _; rfl))) (pss_one (ps_raise rfl (takes_of rfl rfl rfl rfl) (pmk_errI2 X1 hr2 (by rfl) (pa_cons (pe_op op_add (pe_callB call_len_seq (by rfl) B.len PySem.boot_len (pa_cons (pe_split (pv 0) pe_str) pa_nil)) pe_int) (pa_cons pe_int pa_nil))))) pss_nil)
      (pss_one (ps_ret (pe_tupleOf (by rfl) B.tuple (pv 1))))))), ?_⟩
    refine ⟨Nat.zero_le _, fun lk hlk => ?_⟩
    have s1 := same_new (o := .lst []) hlk
    have klk : (upd H lk (.lst [])) lk = some (.lst []) := upd_same
    generalize upd H lk (.lst []) = H1 at *
    have nlk : H1 lk ≠ none := by rw [klk]; exact fun z => nomatch z
    refine ⟨_, rfl, v, d, rfl, Rp.same s1 _ _ hd, fun hs => (badS hs).same s1, fun x hx => ?_⟩
    obtain ⟨rfl, hxl, qe, qg⟩ := good x hx
    refine ⟨rfl, hxl, fun D H2 zs s2 hD hz pz => ?_⟩
    have lkD : lk ≠ D := ne_of_none klk hD
    have hNL : (numWs (linesIn x)).length ≤ 80001 := Nat.le_trans (numWs_len _) (Nat.le_trans (linesIn_len x) (by omega))
    have hnd := numWs_nd (linesIn x)
    have lz := Paired.length pz
    generalize hNLe : numWs (linesIn x) = NL at *
    have eL : ∀ e, rdL NL 0 [] = .error e → lockOf x = .error e := fun e h => by unfold lockOf; rw [hNLe, h]
    refine ⟨D, rfl, ⟨_, SqL.of hz⟩, for_list (K := K) (a := D) (xs := zs) (fun i σ H' => ∃ y3 acc vs size, σ = [some (.str x), some (.ref lk), some (nI size), y3] ∧ Same H H' ∧ H' D = some (.lst zs) ∧ Paired (LnR C H1 H') (zs.drop i) (NL.drop i) ∧ H' lk = some (.lst vs) ∧ Paired (TK H') vs acc ∧ acc.length ≤ 4 ∧ size ≤ 9 ∧ rdL NL 0 [] = rdL (NL.drop i) size acc)
      ⟨none, [], [], 0, rfl, s1.trans s2, hz, pz, s2 _ _ klk, .nil, Nat.zero_le _, Nat.zero_le _, rfl⟩ (fun i σ H' _ ⟨_, _, _, _, _, _, h, _⟩ => SqL.of h) ?_ ?_⟩
    · rintro i xv σ H' hi ⟨y3, acc, vs, size, rfl, s', hz', pl, hvs, pv, ha4, hs9, hrd⟩
      have hil : i < zs.length := (List.getElem?_eq_some_iff.mp hi).1
      have hib : i < NL.length := by omega
      have dz : zs.drop i = xv :: zs.drop (i + 1) := by rw [List.drop_eq_getElem_cons hil, (List.getElem?_eq_some_iff.mp hi).2]
      have dn : NL.drop i = NL[i] :: NL.drop (i + 1) := List.drop_eq_getElem_cons hib
      have hfar : ∀ b ∈ NL.drop (i + 1), NL[i].1 ≠ b.1 := fun b hb => by
        have z : (NL.drop i).Pairwise fun a b => a.1 ≠ b.1 := hnd.sublist (List.drop_sublist i NL)
        rw [dn] at z
        exact (List.pairwise_cons.mp z).1 b hb
      rw [dz, dn] at pl
      rw [dn] at hrd
      generalize NL[i] = b at *
      generalize NL.drop (i + 1) = rest at *
      generalize zs.drop (i + 1) = zr at *
      cases pl with
      | cons r t =>
      obtain ⟨p, dx, wl, rfl, W, np1, nw1⟩ := r
      obtain ⟨num, ws⟩ := b
      have np : H p = none := s1.free np1
      have hnum : ∀ e, rdL ((num, ws) :: rest) size acc = .error e → BadF2 CB "line" (nI e.1) "place" (nI e.2) H E := fun e h => qe e (eL e (hrd.trans h))
      have lv := Paired.length pv
      refine ⟨_, rfl, lk, vs, rfl, .inl (SqL.of hvs), rfl, decide (acc.length = 4), ?_, ?_⟩
      · rw [lv]
        exact congrArg V.bl (decide_eq_decide.mpr ⟨fun h => by injection h with h; omega, fun h => by rw [h]; rfl⟩)
      by_cases h4 : acc.length = 4
      · rw [decide_eq_true h4]
        refine iteT ⟨_, rfl, p, C, dx, _, _, rfl, W.ins, TW.cl, TW.nN, wF_number num wl 0, ?_⟩
        exact mk_read2 (v1 := nI num) (v2 := nI 1) X1.oex X1.no1 X1.no2 (fun d H' s h => hnum _ (rdL_full h4) d H' (s'.trans s) h)
      rw [decide_eq_false h4]
      refine iteF ?_
      refine ⟨_, rfl, !vs.isEmpty, .inl ⟨vs, SqL.of hvs, rfl⟩, ?_⟩
      have eve : vs.isEmpty = acc.isEmpty := by
        cases vs <;> cases acc <;> first | rfl | cases lv
      rw [eve]
      have szle : sizeL acc ws size ≤ 9 := sizeL_le hs9
      have hno := fun h => hnum _ (rdL_no (rest := rest) (b := (num, ws)) (size := size) h4 h)
      have hpl := fun j e h1 h2 => hnum _ (rdL_places (rest := rest) (b := (num, ws)) (size := size) (j := j) (e := e) h4 h1 h2)
      have hmo := fun j t h1 h2 => rdL_more (rest := rest) (b := (num, ws)) (size := size) (j := j) (t := t) h4 h1 h2
      dsimp only at hno hpl hmo
      cases hae : acc.isEmpty with
      | true =>
        refine iteT ⟨_, rfl, p, C, dx, _, _, rfl, W.ins, TW.cl, TW.nW, wF_words num wl 0, wl, _, rfl, .inl (SqL.of W.lst), _, 1, rfl, rfl, 9, _, rfl, 2, _, rfl, ?_⟩
        rw [List.length_map, size_int, show max 2 (min 9 (ws.length - 1)) = sizeL acc ws size from by unfold sizeL; rw [hae]; rfl]
        refine ⟨_, rfl, p, dx, _, rfl, W.ins, rfl, Nat.le_of_ble_eq_true rfl, fun wa hwa => ?_⟩
        have s6 := same_new (o := .lst [V.str ("turn" : Str)]) hwa
        have k6 : (upd H' wa (.lst [V.str ("turn" : Str)])) wa = some (.lst (wTurn.map V.str)) := upd_same
        have W6 := W.same s6
        have pv6 := paired_mono (fun _ _ r => TK.tm (.of s6) r) pv
        have t6 := lns_same s6 t
        have hvs6 := s6 _ _ hvs
        have hz6 := s6 _ _ hz'
        have sH6 := s'.trans s6
        generalize upd H' wa (.lst [V.str ("turn" : Str)]) = H6 at *
        refine ⟨p, dx, wl, wa, num, 0, ws, wTurn, rfl, W6, k6, Nat.zero_le _, fun hn => badP_of (hno hn) sH6 np, fun j hj H7 st7 W7 => ?_⟩
        have tm7 := W6.tm st7
        have sH7 := same_step sH6 np st7
        have hvs7 := lst_step W6 st7 hvs6
        have hz7 := lst_step W6 st7 hz6
        have t7 := lns_step W6 st7 t6 hfar
        have pv7 := paired_mono (fun _ _ r => TK.tm tm7 r) pv6
        obtain ⟨_, _, _, _, hlt⟩ := tk1_lt hj
        refine ⟨_, rfl, .inl ⟨rfl, _, SqL.of hvs7⟩, _, rfl, p, dx, _, rfl, W7.ins, rfl, _, rfl, p, dx, wl, num, 1, sizeL acc ws size, ws, rfl, W7, hlt, szle, fun e he => badP_of (hpl j e hj he) sH7 np, fun tt htt r H8 st8 W8 hle kr => ?_⟩
        have tm8 := W7.tm st8
        have sH8 := same_step sH7 np st8
        have hvs8 := lst_step W7 st8 hvs7
        have hz8 := lst_step W7 st8 hz7
        have t8 := lns_step W7 st8 t7 hfar
        have pv8 := paired_mono (fun _ _ r => TK.tm tm8 r) pv7
        have nwl : wl ≠ lk := fun z => nlk (z ▸ nw1)
        refine ⟨lk, vs, r, rfl, rfl, hvs8, by rw [lv, sizeLine_eq]; omega, ?_⟩
        have tm9 : Tm H8 (upd H8 lk (.lst (vs ++ [r]))) := Tm.lst hvs8
        have W9 : WlAt (upd H8 lk (.lst (vs ++ [r]))) C p dx wl num ws (1 + sizeL acc ws size) := W8.far hvs8 nwl
        have t9 := lns_far (o := .lst (vs ++ [r])) hvs8 nlk t8
        have sH9 : Same H (upd H8 lk (.lst (vs ++ [r]))) := same_mut sH8 hlk
        have hz9 : (upd H8 lk (.lst (vs ++ [r]))) D = some (.lst zs) := (upd_ne lkD.symm).trans hz8
        have k9 : (upd H8 lk (.lst (vs ++ [r]))) lk = some (.lst (vs ++ [r])) := upd_same
        have pv9 := Paired.app (paired_mono (fun _ _ r => TK.tm tm9 r) pv8) (Paired.one (TK.tm tm9 kr))
        generalize upd H8 lk (.lst (vs ++ [r])) = H9 at *
        refine ⟨_, rfl, p, dx, _, rfl, W9.ins, rfl, p, dx, wl, num, 1 + sizeL acc ws size, ws, rfl, W9, fun hlt => badP_of (hnum _ ((hmo j tt hj htt).trans (if_pos hlt))) sH9 np, fun hn => ?_⟩
        exact ⟨_, acc ++ [tt], vs ++ [r], sizeL acc ws size, rfl, sH9, hz9, t9, k9, pv9, by rw [List.length_append]; show acc.length + 1 ≤ 4; omega, szle, hrd.trans ((hmo j tt hj htt).trans (if_neg hn))⟩
      | false =>
        refine iteF ?_
        rw [show nI size = nI (sizeL acc ws size) from congrArg nI (by unfold sizeL; rw [hae]; rfl)]
        refine ⟨_, rfl, p, dx, _, rfl, W.ins, rfl, Nat.le_of_ble_eq_true rfl, fun wa hwa => ?_⟩
        have s6 := same_new (o := .lst [V.str ("turn" : Str)]) hwa
        have k6 : (upd H' wa (.lst [V.str ("turn" : Str)])) wa = some (.lst (wTurn.map V.str)) := upd_same
        have W6 := W.same s6
        have pv6 := paired_mono (fun _ _ r => TK.tm (.of s6) r) pv
        have t6 := lns_same s6 t
        have hvs6 := s6 _ _ hvs
        have hz6 := s6 _ _ hz'
        have sH6 := s'.trans s6
        generalize upd H' wa (.lst [V.str ("turn" : Str)]) = H6 at *
        refine ⟨p, dx, wl, wa, num, 0, ws, wTurn, rfl, W6, k6, Nat.zero_le _, fun hn => badP_of (hno hn) sH6 np, fun j hj H7 st7 W7 => ?_⟩
        have tm7 := W6.tm st7
        have sH7 := same_step sH6 np st7
        have hvs7 := lst_step W6 st7 hvs6
        have hz7 := lst_step W6 st7 hz6
        have t7 := lns_step W6 st7 t6 hfar
        have pv7 := paired_mono (fun _ _ r => TK.tm tm7 r) pv6
        obtain ⟨_, _, _, _, hlt⟩ := tk1_lt hj
        refine ⟨_, rfl, .inl ⟨rfl, _, SqL.of hvs7⟩, _, rfl, p, dx, _, rfl, W7.ins, rfl, _, rfl, p, dx, wl, num, 1, sizeL acc ws size, ws, rfl, W7, hlt, szle, fun e he => badP_of (hpl j e hj he) sH7 np, fun tt htt r H8 st8 W8 hle kr => ?_⟩
        have tm8 := W7.tm st8
        have sH8 := same_step sH7 np st8
        have hvs8 := lst_step W7 st8 hvs7
        have hz8 := lst_step W7 st8 hz7
        have t8 := lns_step W7 st8 t7 hfar
        have pv8 := paired_mono (fun _ _ r => TK.tm tm8 r) pv7
        have nwl : wl ≠ lk := fun z => nlk (z ▸ nw1)
        refine ⟨lk, vs, r, rfl, rfl, hvs8, by rw [lv, sizeLine_eq]; omega, ?_⟩
        have tm9 : Tm H8 (upd H8 lk (.lst (vs ++ [r]))) := Tm.lst hvs8
        have W9 : WlAt (upd H8 lk (.lst (vs ++ [r]))) C p dx wl num ws (1 + sizeL acc ws size) := W8.far hvs8 nwl
        have t9 := lns_far (o := .lst (vs ++ [r])) hvs8 nlk t8
        have sH9 : Same H (upd H8 lk (.lst (vs ++ [r]))) := same_mut sH8 hlk
        have hz9 : (upd H8 lk (.lst (vs ++ [r]))) D = some (.lst zs) := (upd_ne lkD.symm).trans hz8
        have k9 : (upd H8 lk (.lst (vs ++ [r]))) lk = some (.lst (vs ++ [r])) := upd_same
        have pv9 := Paired.app (paired_mono (fun _ _ r => TK.tm tm9 r) pv8) (Paired.one (TK.tm tm9 kr))
        generalize upd H8 lk (.lst (vs ++ [r])) = H9 at *
        refine ⟨_, rfl, p, dx, _, rfl, W9.ins, rfl, p, dx, wl, num, 1 + sizeL acc ws size, ws, rfl, W9, fun hlt => badP_of (hnum _ ((hmo j tt hj htt).trans (if_pos hlt))) sH9 np, fun hn => ?_⟩
        exact ⟨_, acc ++ [tt], vs ++ [r], sizeL acc ws size, rfl, sH9, hz9, t9, k9, pv9, by rw [List.length_append]; show acc.length + 1 ≤ 4; omega, szle, hrd.trans ((hmo j tt hj htt).trans (if_neg hn))⟩
    · rintro σ H' ⟨y3, acc, vs, size, rfl, s', hz', pl, hvs, pv, ha4, hs9, hrd⟩
      rw [List.drop_eq_nil_of_le (Nat.le_of_eq lz.symm)] at hrd
      have hrd : rdL NL 0 [] = .ok acc := hrd
      have eve : vs.isEmpty = acc.isEmpty := by
        have lv := Paired.length pv
        cases vs <;> cases acc <;> first | rfl | cases lv
      have hLk : lockOf x = if acc.isEmpty then .error ((splS x sNl).length + 1, 1) else .ok acc := by
        unfold lockOf
        rw [hNLe, hrd]
      refine ⟨_, rfl, !vs.isEmpty, .inl ⟨vs, SqL.of hvs, rfl⟩, ?_⟩
      rw [eve]
      cases hae : acc.isEmpty with
      | true =>
        rw [hae] at hLk
        refine iteT ⟨_, rfl, ⟨x, rfl⟩, x, sNl, rfl, rfl, by decide +kernel, by rw [sizeLine_eq]; omega, fun pa hpa => ⟨pa, _, rfl, .inl (SqL.of upd_same), _, 1, rfl, rfl, ?_⟩⟩
        rw [split_nl, List.length_map]
        have ev : V.int (((splS x sNl).length : Int) + 1) = nI ((splS x sNl).length + 1) := congrArg V.int (by omega)
        dsimp only [tCons, tC, tNil]
        rw [ev]
        exact mk_read2 (v1 := nI ((splS x sNl).length + 1)) (v2 := nI 1) X1.oex X1.no1 X1.no2 (fun d H'' s h => qe _ hLk d H'' (s'.trans ((same_new hpa).trans s)) h)
      | false =>
        rw [hae] at hLk
        exact iteF ⟨_, rfl, .inl ⟨lk, vs, rfl, SqL.of hvs, fun rp hrp => qg acc hLk _ _ (s'.trans (same_new hrp)) (tt_take lk hvs rp hrp pv)⟩⟩
end
end Lt

set_option Elab.async false
set_option linter.all false
set_option maxRecDepth 100000
set_option maxHeartbeats 1000000
/-! rows.py: check_row, yes_where -/
namespace Lt
open PySem PySem.Spec PyProof.Rows L2
/-- the table that is yes where a turn is -/
def yesT (ts : List (List Nat)) (t : List Nat) : List Nat := ts.map fun x => if x = t then 1 else 0
section
variable {P : Program} {w : World} {K : PySem.W.Frag} {mg : Str → Option Value} {base : Heap} {CR : Addr}
def spCheckRow (CR : Addr) : Sp := fun vs H Q E => ∃ (m : Addr) (L : List (List Nat × List Nat)) (k : Nat) (v : V) (ds : List PyData), vs = [.ref m, nI k, v] ∧ DW H m L ∧ Rp H v (.tuple ds) ∧ ds.length ≤ 6000 ∧ (∀ e ∈ ds, Sml3 e) ∧
  (((∀ e ∈ ds, stepD L k e = true) ∧ ∀ H', Same H H' → Q .non H') ∨
   ∃ pre e post, ds = pre ++ e :: post ∧ (∀ x ∈ pre, stepD L k x = true) ∧ stepD L k e = false ∧ BadF CR "place" (nI pre.length) H E)
theorem sc_check_row : FnScope ["made", "inputs", "row", "place", "step"] ["made", "inputs", "row"] (defScope s_check_row) := ⟨rfl, rfl, rfl, by decide +kernel, rfl, by decide +kernel, by decide +kernel⟩
theorem has_check_row (T : Top K mg "check_row" s_check_row ["made", "inputs", "row"]) (B : Bi mg) (G : ∃ u, mg "MOST_STEPS" = some u ∧ RelV (.int 6000) u) (X1 : ErrI P w K mg base "BadRow" "place" CR)
    (hS : Has P w K mg base CX0 4 "is_step" ["made", "inputs", "value"] spIsStep) : Has P w K mg base (L2.CX P w) 5 "check_row" ["made", "inputs", "row"] (spCheckRow CR) := by
  refine T.okX sc_check_row (fun vs H Q E h => ?_) (fun f cdv A outer s H vs Q E hr h => ?_)
  · obtain ⟨m, L, k, v, ds, rfl, _⟩ := h
    rfl
  · obtain ⟨m, L, k, v, ds, rfl, hw, hd, hl, hs, cs⟩ := h
    have hr2 : Room 2 _ := hr.mono (by decide)
    refine ⟨_, pss_cons (ps_if (PW.pt (pw_or (pt_not (pt_val (pe_callB call_isi (by rfl) B.isinstance PyProof.Rows.boot_isinstance (pa_cons (pv 2) (pa_cons (pe_bltn (by rfl) B.tuple PyProof.Rows.boot_tuple (rr_ty "tuple")) pa_nil)))))
        (pw_or1 (pt_cmpR op_gt (pe_callB call_len_seq (by rfl) B.len PySem.boot_len (pa_cons (pv 2) pa_nil)) (pe_gc2 (by rfl) G) (by rfl))))) (pss_one (ps_raise rfl (takes_of rfl rfl rfl rfl) (pmk_errI X1 hr2 (by rfl) (pa_cons pe_non pa_nil)))) pss_nil)
      (pss_one (ps_for (passes_of rfl) rfl (pi_enumT (by rfl) B.enumerate (pa_cons (pv 2) pa_nil)) (pg_tup rfl (pgs_cons (pg_name (i := 3) sc_check_row.nd rfl (Or.inl rfl)) (pgs_cons (pg_name (i := 4) sc_check_row.nd rfl (Or.inl rfl)) pgs_nil)))
        (pss_one (ps_if (pt_not (pt_val (pe_has hS hr (by rfl) (pa_cons (pv 0) (pa_cons (pv 1) (pa_cons (pv 4) pa_nil)))))) (pss_one (ps_raise rfl (takes_of rfl rfl rfl rfl) (pmk_errI X1 hr2 (by rfl) (pa_cons (pv 3) pa_nil)))) pss_nil)))), ?_⟩
    refine ⟨_, rfl, v, .ty "tuple", _, _, true, rfl, .ty _, rp_ty hd, kit_ty (kit_tup (.tuple ds)), true, rfl, iteF ?_⟩
    cases hd with
    | @tup a xs ds ha hx =>
      have hxl := hx.len
      refine ⟨_, rfl, a, xs, rfl, .inr ha.sq, (xs.length : Int), 6000, rfl, rfl, false, congrArg V.bl (decide_eq_false (by omega)), iteF ?_⟩
      refine ⟨_, rfl, a, xs, rfl, ha.sq, for_enumT (K := K) (xs := xs) (fun i σ H' => ∃ y3 y4, σ = [some (.ref m), some (nI k), some (.ref a), y3, y4] ∧ Same H H' ∧ ∀ j, j < i → ∀ e, ds[j]? = some e → stepD L k e = true)
        ⟨none, none, rfl, Same.refl _, fun j hj => absurd hj (Nat.not_lt_zero j)⟩ (fun i σ H' _ ⟨_, _, _, s, _⟩ => (ha.sm s).sq) ?_ ?_⟩
      · rintro i x σ H' T hi ⟨y3, y4, rfl, s1, pre⟩ hT
        have sT := same_new (o := .tup [nI i, x]) hT
        have s12 := s1.trans sT
        obtain ⟨e, he, hre⟩ := hx.get hi
        refine ⟨T, _, rfl, SqT.of upd_same, rfl, nI i, _, rfl, x, _, rfl, rfl, ?_⟩
        refine ⟨_, rfl, _, rfl, _, rfl, m, L, k, x, e, rfl, hw.same s12, Rp.same s12 _ _ hre, hs e (List.mem_of_getElem? he), fun H2 s2 => ⟨stepD L k e, rfl, ?_⟩⟩
        have s02 := s12.trans s2
        cases hst : stepD L k e with
        | true =>
          refine iteF ⟨_, _, rfl, s02, fun j hj e' he' => ?_⟩
          by_cases hji : j = i
          · subst hji
            rw [he] at he'
            cases he'
            exact hst
          · exact pre j (by omega) e' he'
        | false =>
          refine iteT ⟨_, rfl, ?_⟩
          rcases cs with ⟨good, _⟩ | ⟨pr, e', post, rfl, hpre, hbad, bad⟩
          · have := good e (List.mem_of_getElem? he)
            rw [hst] at this
            cases this
          · have hip : i = pr.length := by
              by_cases h1 : i < pr.length
              · rw [List.getElem?_append_left h1] at he
                have := hpre e (List.mem_of_getElem? he)
                rw [hst] at this
                cases this
              · by_cases h2 : pr.length < i
                · have := pre pr.length h2 e' (by rw [List.getElem?_append_right (Nat.le_refl _), Nat.sub_self]; rfl)
                  rw [hbad] at this
                  cases this
                · omega
            subst hip
            exact mk_read X1.oex X1.no (bad.same s02)
      · rintro σ H' ⟨y3, y4, rfl, s1, all⟩
        rcases cs with ⟨_, q⟩ | ⟨pr, e', post, rfl, hpre, hbad, bad⟩
        · exact q H' s1
        · have := all pr.length (by rw [hxl, List.length_append]; show _ < _ + (_ + 1); omega) e' (by rw [List.getElem?_append_right (Nat.le_refl _), Nat.sub_self]; rfl)
          rw [hbad] at this
          cases this
def spYes : Sp := fun vs H Q _ => ∃ (v u : V) (ts : List (List Nat)) (t : List Nat), vs = [v, u] ∧ TT H v ts ∧ TN H u t ∧ ts.length ≤ 1000 ∧ ∀ r H', Same H H' → TK H' r (yesT ts t) → Q r H'
end
end Lt

set_option Elab.async false
set_option linter.all false
set_option maxRecDepth 100000
set_option maxHeartbeats 4000000
/-! a dict by a comprehension, its keys tuples -/
namespace L2
open PySem PySem.Spec PyProof.Rows
section
variable {X : Cx} {pins : List (Addr × Obj)} {σ : St} {H : Hp} {s : Shared}
theorem put_tup {E : Value → Shared → Prop} {D b : Addr} {m : List (List Key × V)} {k : List Key} {v : V} {r : Value} {Q : Unit → Shared → Prop} (room : X.A.units + 1 < cLine) (I : Inv X pins σ H s) (hD : H D = some (.dT m)) (short : m.length < sizeLine) (hb : H b = some (.tup (k.map kV))) (rv : RelV v r)
    (q : ∀ s1, Inv X pins σ (upd H D (.dT (putK m k v))) s1 → Q () s1) : wpAny (model X.prog X.w) X.A (dictSet D (.ref b) r) Q E s := by
  obtain ⟨z, own, xs, rel, dd⟩ := dt_of I.hok hD
  have lx : xs.length = m.length := (Paired.length rel).symm
  have lp := length_putK m k v
  refine wpAny_dictSet_heap (hsz := by omega) (show X.A.units < cLine by omega) (key_of I.hok hb) dd fun h1 ⟨ob, es, ep, o1, o2, o3, o4, _, o5⟩ same => q _ ?_
  refine d_write I (by rw [hD]; exact True.intro) same ⟨ob, o1⟩ ⟨by omega, own, _, (rel.put k hb rv).keeps fun c ys e => ?_, ob, es, ep, o1, o2, o3, o4, o5⟩
  exact (upd_ne (ne_of e hD fun z => nomatch z)).trans e
end
section
variable {X : Cx}
abbrev voidDict : Obj := { cls := .type "dict", data := .dict #[] }
abbrev AtBlk (Pr : Shared → Hp → Addr → List (Str × Addr) → List Addr → Prop) : Prop := ∀ s H C cl fp, Pr s H C cl fp
/-- {k: v for target in iter if ..}, each k a tuple: D the new dict -/
def tDcT (wi : TI) (g : TG) (tt : TT) (tk tv : TE) (vs : List Nat) : TE := fun σ H Q => wi σ H fun J H1 => ∀ D, H1 D = none → ∃ W : Nat → Nat → Hp → Prop, (∃ m, W 0 m (upd H1 D (.dT []))) ∧ ∀ i m H2, W i m H2 →
  (J.stop i H2 ∧ Q (.ref D) H2) ∨ (J.go i H2 ∧ ∃ Nx : Hp → Prop, (∀ H3, Nx H3 → ∃ m1, m1 < m ∧ W (i + 1) m1 H3) ∧ ∀ x H3, J.yld i H2 x H3 → g x (wipe σ vs) H3 fun σ4 H4 => wipe σ4 vs = wipe σ vs ∧ tt σ4 H4 fun c H5 =>
    if c = true then tk σ4 H5 fun y H6 => tv σ4 H6 fun z H7 => ∃ kvs k b, y = .ref b ∧ H7 b = some (.tup (k.map kV)) ∧ H7 D = some (.dT kvs) ∧ kvs.length < sizeLine ∧ Nx (upd H7 D (.dT (putK kvs k z))) else Nx H5)
theorem dcT_core {pins : List (Addr × Obj)} {s : Shared} {σ : St} {H : Hp} {Q : VK} {ke ve tg it : Expr} {ifs : List Expr} {sc : Scope} {own : List (Str × Nat)} {p1 p2 : Pos} {wi : TI} {g : TG} {tt : TT} {tk tv : TE} {use : Option (Value → Sem Unit)} {R : Value → Shared → Prop}
    (room : X.A.units + 1 < cLine) (hc : X.calm = true) (hN : X.N.Nodup) (I : Inv X pins σ H s) (walk : PI X tg it wi) (ok : BlkOk X.N X.env.scope sc own)
    (hg : AtBlk fun s H C cl fp => PG (X.blk s H sc (compEnvC sc cl C X.env) fp) tg g) (ht : AtBlk fun s H C cl fp => PTs (X.blk s H sc (compEnvC sc cl C X.env) fp) ifs tt)
    (hk : AtBlk fun s H C cl fp => PE (X.blk s H sc (compEnvC sc cl C X.env) fp) ke tk) (hv : AtBlk fun s H C cl fp => PE (X.blk s H sc (compEnvC sc cl C X.env) fp) ve tv) (plain : ∀ x, foldedSetIterable it X.env x = pure x) (h : tDcT wi g tt tk tv (own.map (·.2)) σ H Q)
    (after : ∀ D C s1 m H1, Inv X pins σ H1 s1 → Q (.ref D) H1 → s1.heap.Ns C m → FpOk X pins H1 C → compPost (model X.prog X.w) X.A X.xe use R (.ref D) C (.ok .next) s1) :
    wpAny (model X.prog X.w) X.A (comprehension (.DictComp ke ve [⟨tg, it, ifs, 0⟩] sc p1) sc X.env p2 newDict false (eval it X.env) use) R X.xe s := by
  refine wpAny_comprehension_free (use := use) rfl plain (closure_ok fun y hy e => (ok.free y hy e).elim (fun z => I.ok.has _ (.inl z)) fun z => I.ok.has _ (.inr z)) ok.kind (fun y hy e => by rw [ok.uniq y hy, e])
    (thn (walk.run pins s σ H _ I h) fun _ s1 k1 => thn k1 fun _ s2 k2 => ?_)
  obtain ⟨a, fp, tn, J, H2, rfl, I2, T, at2, fine2, q⟩ := k2
  refine wpAny_newObj_type (newEnv_comp ?_)
  generalize eD : s2.heap.objs.size = D
  obtain ⟨W, ⟨m0, start⟩, turn⟩ := q D (I2.hok.fresh (Nat.le_of_eq eD))
  -- behind the new dict
  have below : ∀ b ∈ fp, b < s2.heap.objs.size := fun b hb => let ⟨_, e, _⟩ := T.obj _ _ at2 b hb; Heap.lt_size e
  generalize e3 : ({ s2 with heap := s2.heap.push voidDict } : Shared) = s3
  have heap3 : s3.heap = s2.heap.push voidDict := by rw [← e3]
  have I3 : Inv X pins σ (upd H2 D (.dT [])) s3 := by
    subst e3 eD
    exact I2.laid (t' := s2.toks) (fun _ _ e => Heap.get?_push_of_some _ e) (Nat.le_refl _) (dt_empty s2.heap I2.big)
  have at3 : tn 0 s3.heap := T.keep _ _ _ at2 fun _ _ _ e => by rw [heap3]; exact Heap.get?_push_of_some _ e
  have fine3 : ∀ b ∈ fp, FpOk X pins (upd H2 D (.dT [])) b ∧ b < s3.heap.objs.size := fun b hb => by
    have lt := below b hb
    refine ⟨⟨(upd_ne (eD ▸ Nat.ne_of_lt lt)).trans (fine2 b hb).1, (fine2 b hb).2⟩, ?_⟩
    rw [heap3, Heap.size_push]
    exact Nat.lt_succ_of_lt lt
  have I4 := block_start I3 ok hN fine3
  have pg : PG (X.blk s3 (upd H2 D (.dT [])) sc (compEnvC sc (cellsFrom (s3.heap.objs.size + 1) sc.names (cloFrom X.env.cells sc.names [])) s3.heap.objs.size X.env) fp) tg g := hg _ _ _ _ _
  have pt : PTs (X.blk s3 (upd H2 D (.dT [])) sc (compEnvC sc (cellsFrom (s3.heap.objs.size + 1) sc.names (cloFrom X.env.cells sc.names [])) s3.heap.objs.size X.env) fp) ifs tt := ht _ _ _ _ _
  have pk : PE (X.blk s3 (upd H2 D (.dT [])) sc (compEnvC sc (cellsFrom (s3.heap.objs.size + 1) sc.names (cloFrom X.env.cells sc.names [])) s3.heap.objs.size X.env) fp) ke tk := hk _ _ _ _ _
  have pv : PE (X.blk s3 (upd H2 D (.dT [])) sc (compEnvC sc (cellsFrom (s3.heap.objs.size + 1) sc.names (cloFrom X.env.cells sc.names [])) s3.heap.objs.size X.env) fp) ve tv := hv _ _ _ _ _
  show codeAny _ _ (.compStart _ 0 (.ref a) (.ref D) (compEnvC sc (cellsFrom (s3.heap.objs.size + 1) sc.names (cloFrom X.env.cells sc.names [])) s3.heap.objs.size X.env)) (compPost (model X.prog X.w) X.A X.xe use R (.ref D) s3.heap.objs.size) { s3 with heap := pushCells (s3.heap.push voidDict) sc.names }
  have clear3 : ∀ b ∈ fp, (upd H2 D (.dT [])) b = none := fun b hb => (fine3 b hb).1.1
  generalize eE : compEnvC sc (cellsFrom (s3.heap.objs.size + 1) sc.names (cloFrom X.env.cells sc.names [])) s3.heap.objs.size X.env = en at I4 pg pt pk pv ⊢
  have eL : en.locals = s3.heap.objs.size := by subst eE; rfl
  generalize upd H2 D (.dT []) = H3 at *
  generalize e4 : ({ s3 with heap := pushCells (s3.heap.push voidDict) sc.names } : Shared) = s4 at I4 ⊢
  have at4 : tn 0 s4.heap := T.keep _ _ _ at3 fun _ _ _ e => by rw [← e4]; exact pushCells_keeps _ _ _ _ (Heap.get?_push_of_some _ e)
  have still : ∀ {σ1 : St} {H1 : Hp} {s1 : Shared}, Inv (X.blk s3 H3 sc en fp) [] σ1 H1 s1 → (∀ b ∈ fp, H1 b = none) → ∀ b ∈ fp, FpOk (X.blk s3 H3 sc en fp) [] H1 b :=
    fun {_ _ _} J1 none1 b hb => ⟨none1 b hb, (J1.ok.exf b hb).1, J1.ok.exfs b hb, .inl hb, fun y c e => (J1.ok.exf b hb).2 y c e, fun p hp => absurd (show p ∈ ([] : List (Addr × Obj)) ++ [] from hp) (by simp)⟩
  let Go : Nat → Shared → Prop := fun n s1 => ∃ i H1, Inv (X.blk s3 H3 sc en fp) [] (wipe σ (own.map (·.2))) H1 s1 ∧ tn i s1.heap ∧ (∀ b ∈ fp, H1 b = none) ∧ W i n H1
  have loop : codeAny (model X.prog X.w) X.A (.compLoop (.DictComp ke ve [⟨tg, it, ifs, 0⟩] sc p1) 0 (.ref a) (.ref D) en) (compPost (model X.prog X.w) X.A X.xe use R (.ref D) s3.heap.objs.size) s4 := by
    refine compLoop_anyD Go ?_ m0 ⟨0, H3, I4, at4, clear3, start⟩
    rintro n s5 ⟨i, H5, I5, at5, clear5, w5⟩
    rcases turn i n H5 w5 with ⟨stop, done⟩ | ⟨go, Nx, less, step⟩
    · refine thnF (T.done (X.blk s3 H3 sc en fp) rfl rfl rfl hc i [] s5 _ H5 (fun _ _ => False) I5 (still I5 clear5) at5 stop) fun r s6 ⟨er, I6⟩ => ?_
      subst er
      obtain ⟨m, hn, _⟩ := I6.loc
      have free : H5 en.locals = none := I6.free
      have names : s6.heap.Ns en.locals m := hn
      rw [eL] at free names
      exact after D s3.heap.objs.size s6 m H5 (I3.call' (ch := fp) I6.os I6.base I6.hok I6.bare fun b hb => let f := (fine3 b hb).1.2.2; ⟨f.2.1, (fine3 b hb).1.2.1, f.2.2.1, f.2.2.2⟩) done names (I3.fpOk (Nat.le_refl _) free)
    · refine thnF (T.item (X.blk s3 H3 sc en fp) rfl rfl rfl hc i [] s5 _ H5 (fun _ _ => False) I5 (still I5 clear5) at5 go) fun r s6 ⟨u, er, k6⟩ => ?_
      subst er
      refine thnF k6 fun _ s7 ⟨x, H7, I7, rx, got, at7, clear7⟩ => ?_
      refine thnF (pg.run _ s7 _ H7 x u _ (I7.pinned (still I7 clear7) (T.obj _ _ at7)) rx (step x H7 got)) fun _ s8 ⟨σ8, H8, I8, same8, q8⟩ => thnF (pt.run _ s8 σ8 H8 _ I8 q8) fun c s9 ⟨H9, I9, q9⟩ => ?_
      have next : ∀ {s1 : Shared} {H1 : Hp}, Inv (X.blk s3 H3 sc en fp) ([] ++ pinsAt fp s7.heap) σ8 H1 s1 → Nx H1 → ∃ m, m < n ∧ Go m s1 := fun {s1 H1} J1 nx => by
        obtain ⟨m, lt, w⟩ := less H1 nx
        have kept : ∀ b ∈ fp, ∀ o, s7.heap.get? b = some o → s1.heap.get? b = some o ∧ H1 b = none := fun b hb o e => let z := J1.pin (b, o) (List.mem_append_right _ (List.mem_append_right _ (mem_pinsAt hb e))); ⟨z.1, z.2.1⟩
        refine ⟨m, lt, i + 1, H1, (J1.unpinned (pins := [])).weak (by rw [← same8, wipe_length]) (fun j v e => (wipe_some (same8 ▸ e)).1), T.keep _ _ _ at7 fun b hb o e => (kept b hb o e).1, fun b hb => ?_, w⟩
        obtain ⟨o, e, _⟩ := T.obj _ _ at7 b hb
        exact (kept b hb o e).2
      cases c
      · rw [if_neg Bool.false_ne_true] at q9
        rw [if_neg Bool.false_ne_true]
        exact next I9 q9
      · rw [if_pos rfl] at q9
        rw [if_pos rfl]
        refine thnF (pk.run _ s9 σ8 H9 _ I9 q9) fun _ s10 ⟨y, H10, I10, ry, q10⟩ => thnF (pv.run _ s10 σ8 H10 _ I10 q10) fun w2 s11 ⟨z, H11, I11, rz, m, k, b, ey, hb, hD, short, nx⟩ => ?_
        subst ey
        cases ry
        exact put_tup (X := X.blk s3 H3 sc en fp) room I11 hD short hb rz fun s12 I12 => next I12 nx
  exact codeAny_compStart_dict loop (T.self X.A 0 _ _ _ at4 loop)
/-- name = {..} on one line, the name a local -/
theorem ps_setDcT {i : Nat} {y : Str} {py : Pos} {ke ve tg it : Expr} {ifs : List Expr} {sc : Scope} {own : List (Str × Nat)} {p1 spos : Pos} {wi : TI} {g : TG} {tt : TT} {tk tv : TE} (room : X.A.units + 1 < cLine) (hc : X.calm = true) (hN : X.N.Nodup) (hy : X.N[i]? = some y) (loc : X.env.scope.names.lookup y = some .local)
    (sw : swapsWith (.DictComp ke ve [⟨tg, it, ifs, 0⟩] sc p1) (some (.Name y py)) spos.line X.env = pure true) (walk : PI X tg it wi) (ok : BlkOk X.N X.env.scope sc own)
    (hg : AtBlk fun s H C cl fp => PG (X.blk s H sc (compEnvC sc cl C X.env) fp) tg g) (ht : AtBlk fun s H C cl fp => PTs (X.blk s H sc (compEnvC sc cl C X.env) fp) ifs tt)
    (hk : AtBlk fun s H C cl fp => PE (X.blk s H sc (compEnvC sc cl C X.env) fp) ke tk) (hv : AtBlk fun s H C cl fp => PE (X.blk s H sc (compEnvC sc cl C X.env) fp) ve tv) (plain : ∀ x, foldedSetIterable it X.env x = pure x := by intro _; rfl) :
    PS X (.Assign [.Name y py] (.DictComp ke ve [⟨tg, it, ifs, 0⟩] sc p1) spos) (tAsg (tDcT wi g tt tk tv (own.map (·.2))) (gName i)) := by
  refine ⟨fun pins s σ H D I h => ?_⟩
  rw [exec_Assign_Name_used _ _ _ _ sw]
  refine wpAny_bind (wpAny_standAt (wpAny_bind ?_))
  show wpAny _ X.A (do let _ ← comprehension (.DictComp ke ve [⟨tg, it, ifs, 0⟩] sc p1) sc X.env (firstIterPos [⟨tg, it, ifs, 0⟩] p1) newDict false (eval it X.env) (some (assign (.Name y py) X.env))) _ _ s
  have h : tDcT wi g tt tk tv (own.map (·.2)) σ H (fun x H1 => gName i x σ H1 D.nx) := h
  refine wpAny_bind (thn (dcT_core (R := fun _ s1 => SP X pins D .next s1) room hc hN I walk ok hg ht hk hv plain h fun L C s1 m H1 I1 q names f => ?_) fun _ s1 z => wpAny_pure (wpAny_pure z))
  show wpAny _ _ (assign (.Name y py) X.env (.ref L)) _ _ _
  refine wpAny_assign_Name (store_ok2 (v := V.ref L) I1 hN hy (.inl loc) rfl (fun s2 I2 ⟨c, same, hcase⟩ => ?_) (.inr loc))
  obtain ⟨f0, f1, f2, f3, f4, f5⟩ := f
  have ne : C ≠ c := hcase.elim (fun z => z ▸ f1) fun z e => f4 y c z e.symm
  exact ⟨m, names.sameBut same ne, fun h3 same3 => ⟨_, H1, I2.turned (t' := s2.toks) (fun b o hb e => (same3.2 b hb).trans e) f0 f1 f3 f4 f5, q⟩⟩
theorem swD_true {ke ve : Expr} {gs : List Comprehension} {sc : Scope} {pos py : Pos} {y : Str} {l : Nat} {env : Env} (kind : env.scope.kind = .function) (loc : env.scope.names.lookup y = some .local) (line : (py.line == pos.line) = true)
    (other : (sc.names.any fun (n, k) => n == y && (k == .local || k == .cell)) = false) : swapsWith (.DictComp ke ve gs sc pos) (some (.Name y py)) l env = pure true := by
  have k1 : env.kindOf y = some .local := loc
  have k2 : env.blockKind = .function := by unfold Env.blockKind; rw [kind]; rfl
  unfold swapsWith
  simp only [k1, k2, other, Expr.pos, line]
  rfl
/-- over a list that the block leaves as it is -/
theorem dcT_list {K : PySem.W.Frag} {a : Addr} {xs : List V} {g : TG} {tt : TT} {tk tv : TE} {vs : List Nat} {σ : St} {H1 : Hp} {D : Addr} {Qd : Hp → Prop} (Pv : Nat → Hp → Prop) (h0 : Pv 0 (upd H1 D (.dT []))) (hl : ∀ i H, i ≤ xs.length → Pv i H → SqL K H a xs)
    (hs : ∀ i x H, xs[i]? = some x → Pv i H → g x (wipe σ vs) H fun σ2 H2 => wipe σ2 vs = wipe σ vs ∧ tt σ2 H2 fun c H3 =>
      if c = true then tk σ2 H3 fun y H4 => tv σ2 H4 fun z H5 => ∃ kvs k b, y = .ref b ∧ H5 b = some (.tup (k.map kV)) ∧ H5 D = some (.dT kvs) ∧ kvs.length < sizeLine ∧ Pv (i + 1) (upd H5 D (.dT (putK kvs k z))) else Pv (i + 1) H3) (hd : ∀ H, Pv xs.length H → Qd H) :
    ∃ W : Nat → Nat → Hp → Prop, (∃ m, W 0 m (upd H1 D (.dT []))) ∧ ∀ i m H2, W i m H2 →
      ((Itl K a).stop i H2 ∧ Qd H2) ∨ ((Itl K a).go i H2 ∧ ∃ Nx : Hp → Prop, (∀ H3, Nx H3 → ∃ m1, m1 < m ∧ W (i + 1) m1 H3) ∧ ∀ x H3, (Itl K a).yld i H2 x H3 → g x (wipe σ vs) H3 fun σ4 H4 => wipe σ4 vs = wipe σ vs ∧ tt σ4 H4 fun c H5 =>
        if c = true then tk σ4 H5 fun y H6 => tv σ4 H6 fun z H7 => ∃ kvs k b, y = .ref b ∧ H7 b = some (.tup (k.map kV)) ∧ H7 D = some (.dT kvs) ∧ kvs.length < sizeLine ∧ Nx (upd H7 D (.dT (putK kvs k z))) else Nx H5) := by
  refine ⟨fun i m H2 => i + m = xs.length ∧ Pv i H2, ⟨_, Nat.zero_add _, h0⟩, ?_⟩
  rintro i m H2 ⟨sum, p⟩
  have q := hl i H2 (by omega) p
  cases m with
  | zero =>
    obtain rfl : i = xs.length := by omega
    exact .inl ⟨⟨xs, q, Nat.le_refl _⟩, hd H2 p⟩
  | succ m =>
    have lt : i < xs.length := by omega
    refine .inr ⟨⟨xs, xs[i], q, List.getElem?_eq_getElem lt⟩, Pv (i + 1), fun H3 p3 => ⟨m, Nat.lt_succ_self m, by omega, p3⟩, ?_⟩
    rintro x _ ⟨rfl, got⟩
    exact hs i x _ (got xs q) p
end
end L2

set_option Elab.async false
set_option linter.all false
set_option maxRecDepth 100000
set_option maxHeartbeats 4000000
/-! {k: v for ..} with tuple keys, as an expression -/
namespace L2
open PySem PySem.Spec PyProof.Rows
theorem pe_dcT {X : Cx} {ke ve tg it : Expr} {ifs : List Expr} {sc : Scope} {own : List (Str × Nat)} {pos : Pos} {wi : TI} {g : TG} {tt : TT} {tk tv : TE} (room : X.A.units + 1 < cLine) (hc : X.calm = true) (hN : X.N.Nodup) (walk : PI X tg it wi) (ok : BlkOk X.N X.env.scope sc own)
    (hg : ∀ (s : Shared) (H : Hp) (C : Addr) (cl : List (Str × Addr)) (fp : List Addr), PG (X.blk s H sc (compEnvC sc cl C X.env) fp) tg g) (ht : ∀ (s : Shared) (H : Hp) (C : Addr) (cl : List (Str × Addr)) (fp : List Addr), PTs (X.blk s H sc (compEnvC sc cl C X.env) fp) ifs tt)
    (hk : ∀ (s : Shared) (H : Hp) (C : Addr) (cl : List (Str × Addr)) (fp : List Addr), PE (X.blk s H sc (compEnvC sc cl C X.env) fp) ke tk) (hv : ∀ (s : Shared) (H : Hp) (C : Addr) (cl : List (Str × Addr)) (fp : List Addr), PE (X.blk s H sc (compEnvC sc cl C X.env) fp) ve tv)
    (plain : ∀ x, foldedSetIterable it X.env x = pure x := by intro _; rfl) : PE X (.DictComp ke ve [⟨tg, it, ifs, 0⟩] sc pos) (tDcT wi g tt tk tv (own.map (·.2))) := by
  refine ⟨fun pins s σ H Q I h => ?_⟩
  rw [arm_eval_DictComp]
  refine dcT_core room hc hN I walk ok hg ht hk hv plain h fun D C s' m H' I' q hn f => ⟨m, hn, fun h'' sb => ?_⟩
  obtain ⟨f0, f1, f2, f3, f4, f5⟩ := f
  exact ⟨.ref D, H', I'.turned (t' := s'.toks) (fun b o hb e => (sb.2 b hb).trans e) f0 f1 f3 f4 f5, rfl, q⟩
end L2

set_option Elab.async false
set_option linter.all false
set_option maxRecDepth 100000
set_option maxHeartbeats 1000000
/-! {k: v for ..}: as many pairs as are walked, their keys unlike -/
namespace Lt
open PySem PySem.Spec PyProof.Rows L2
theorem putK_app {κ : Type} [DecidableEq κ] {kvs : List (κ × V)} {k : κ} {v : V} (h : ∀ p ∈ kvs, p.1 ≠ k) : putK kvs k v = kvs ++ [(k, v)] := by
  unfold putK
  rw [if_neg]
  intro z
  obtain ⟨p, hp, e⟩ := List.any_eq_true.mp z
  exact h p hp (of_decide_eq_true e)
theorem dcT_gen {J : It} {g : TG} {tk tv : TE} {vs : List Nat} {σ : L2.St} {H1 : Hp} {D : Addr} {Qd : Hp → Prop} {n : Nat} (key : Nat → List Key) (val : Nat → V) (inj : ∀ i j, i < n → j < n → key i = key j → i = j) (hz : n ≤ 100000) (hD : H1 D = none)
    (hgo : ∀ i H, i < n → Same H1 H → J.go i H) (hst : ∀ H, Same H1 H → J.stop n H)
    (hs : ∀ i H x H', i < n → Same H1 H → J.yld i H x H' → Same H H' ∧ ∃ σ2, (∀ Kk : L2.St → Hp → Prop, Kk σ2 H' → g x (wipe σ vs) H' Kk) ∧ wipe σ2 vs = wipe σ vs ∧
      (∀ H3, Same H' H3 → ∀ Q : VK, (∀ b H4, Same H3 H4 → H4 b = some (.tup ((key i).map kV)) → Q (.ref b) H4) → tk σ2 H3 Q) ∧ (∀ H3, Same H' H3 → ∀ Q : VK, (∀ H4, Same H3 H4 → Q (val i) H4) → tv σ2 H3 Q))
    (hd : ∀ H, Same H1 H → H D = some (.dT ((List.range n).map fun i => (key i, val i))) → Qd H) :
    ∃ W : Nat → Nat → Hp → Prop, (∃ m, W 0 m (upd H1 D (.dT []))) ∧ ∀ i m H2, W i m H2 →
      (J.stop i H2 ∧ Qd H2) ∨ (J.go i H2 ∧ ∃ Nx : Hp → Prop, (∀ H3, Nx H3 → ∃ m1, m1 < m ∧ W (i + 1) m1 H3) ∧ ∀ x H3, J.yld i H2 x H3 → g x (wipe σ vs) H3 fun σ4 H4 => wipe σ4 vs = wipe σ vs ∧ tYes σ4 H4 fun c H5 =>
        if c = true then tk σ4 H5 fun y H6 => tv σ4 H6 fun z H7 => ∃ kvs k b, y = .ref b ∧ H7 b = some (.tup (k.map kV)) ∧ H7 D = some (.dT kvs) ∧ kvs.length < sizeLine ∧ Nx (upd H7 D (.dT (putK kvs k z))) else Nx H5) := by
  refine ⟨fun i m H => m = n - i ∧ i ≤ n ∧ Same H1 H ∧ H D = some (.dT ((List.range i).map fun j => (key j, val j))), ⟨n, by simp, Nat.zero_le _, same_new hD, upd_same⟩, ?_⟩
  rintro i m H ⟨rfl, hi, sm, hk⟩
  by_cases hlt : i < n
  · refine .inr ⟨hgo i H hlt sm, fun H' => Same H1 H' ∧ H' D = some (.dT ((List.range (i + 1)).map fun j => (key j, val j))), fun H' p' => ⟨n - (i + 1), by omega, rfl, hlt, p'⟩, fun x H' y => ?_⟩
    obtain ⟨s', σ2, hg, hw, hk1, hv1⟩ := hs i H x H' hlt sm y
    refine hg _ ⟨hw, iteT (B := Same H1 H' ∧ H' D = some (.dT ((List.range (i + 1)).map fun j => (key j, val j)))) (hk1 H' (Same.refl _) _ fun b H4 s4 hb => hv1 H4 s4 _ fun H5 s5 => ?_)⟩
    have s15 := s'.trans (s4.trans s5)
    have h5 := s15 _ _ hk
    refine ⟨_, key i, b, rfl, s5 _ _ hb, h5, by rw [List.length_map, List.length_range, sizeLine_eq]; omega, same_mut (sm.trans s15) hD, ?_⟩
    rw [upd_same, putK_app, List.range_succ, List.map_append]
    · rfl
    · intro p hp e
      obtain ⟨j, hj, rfl⟩ := List.mem_map.mp hp
      have hj := List.mem_range.mp hj
      have := inj j i (by omega) hlt e
      omega
  · have e : i = n := by omega
    subst e
    exact .inl ⟨hst H sm, hd H sm hk⟩
end Lt

set_option Elab.async false
set_option linter.all false
set_option maxRecDepth 100000
set_option maxHeartbeats 1000000
/-! the still turn is the least -/
namespace Lt
open PySem PySem.Spec PyProof.Rows L2
theorem bd_some {t : List Nat} (h : ∀ x ∈ t, x < 9) : TS.Bd 9 (iN t) := fun m hm => by
  obtain ⟨i, hi, rfl⟩ := List.mem_map.mp hm
  have := h i hi
  exact ⟨Int.natCast_nonneg i, by show (i : Int) < 9; omega⟩
theorem code_least : ∀ (t : List Nat) (k : Nat), t.Nodup → (∀ x ∈ t, k ≤ x ∧ x < 9) → t.length + k ≤ 9 → TS.code 9 (iN (List.range' k t.length)) ≤ TS.code 9 (iN t)
  | [], k, _, _, _ => Int.le_refl _
  | a :: t, k, nd, h, hl => by
    rw [List.length_cons] at hl ⊢
    rw [List.range'_succ]
    have ha := h a List.mem_cons_self
    have hnd := List.nodup_cons.mp nd
    have hlen : (iN (List.range' (k + 1) t.length)).length = (iN t).length := by rw [iN_len, iN_len, List.length_range']
    by_cases e : a = k
    · subst e
      have ih := code_least t (a + 1) hnd.2 (fun x hx => by
        have := h x (List.mem_cons_of_mem _ hx)
        have : x ≠ a := fun z => hnd.1 (z ▸ hx)
        omega) (by omega)
      show (a : Int) * 9 ^ (iN (List.range' (a + 1) t.length)).length + TS.code 9 (iN (List.range' (a + 1) t.length)) ≤ (a : Int) * 9 ^ (iN t).length + TS.code 9 (iN t)
      rw [hlen]
      omega
    · refine Int.le_of_lt (TS.code_lt hlen (bd_some fun x hx => ?_) (bd_some fun x hx => (h x (List.mem_cons_of_mem _ hx)).2) (show (k : Int) < (a : Int) by omega))
      have := List.mem_range'_1.mp hx
      omega
theorem still_least {n : Nat} {t : List Nat} (h : IsP n t) (hn : n ≤ 9) : cd (List.range n) ≤ cd t := by
  have e := code_least t 0 h.nd (fun x hx => ⟨Nat.zero_le x, by have := h.lt x hx; omega⟩) (by rw [h.len]; omega)
  rw [h.len, ← List.range_eq_range'] at e
  exact e
theorem asc_head {n : Nat} {ts : List (List Nat)} (hn : n ≤ 9) (ha : ∀ t ∈ ts, IsP n t) (h : Asc ts) (hs : List.range n ∈ ts) : ts[0]? = some (List.range n) := by
  cases ts with
  | nil => cases hs
  | cons a r =>
    rcases List.mem_cons.mp hs with e | e
    · rw [e]; rfl
    · have h1 := (List.pairwise_cons.mp h).1 _ e
      have h2 := still_least (ha a List.mem_cons_self) hn
      rw [cd_inj (ha a List.mem_cons_self) (.still n) hn (Int.le_antisymm h1 h2)]
      rfl
end Lt

set_option Elab.async false
set_option linter.all false
set_option maxRecDepth 100000
set_option maxHeartbeats 1000000
/-! tuples whose object is known: they bear no dict, so their methods are found -/
namespace L2
open PySem PySem.Spec PyProof.Rows
section
variable {X : Cx} {a : Expr} {ta : TE} {te : St → Hp → (Int → Int → Hp → Prop) → Prop} {e : Expr}
def kTupF (K : PySem.W.Frag) (x : V) (H : Hp) (Q : VK) : Prop := ∃ p xs, x = .ref p ∧ SqL K H p xs ∧ ∀ q o, o.dict = none → H q = none → Q (.ref q) (upd H q (.frz o (.tup xs)))
theorem pe_tupleOfF {p pos : Pos} (hg : Gl X "tuple") (hm : X.mg "tuple" = none) (ha : PE X a ta) (na : starEach [a] X.env = (false, eval a X.env) :: starEach [] X.env := by rfl) :
    PE X (.Call (.Name "tuple" p) [a] [] pos) (tThen ta (kTupF X.K)) := by
  refine ⟨fun pins s σ H Q I h => ?_⟩
  refine Call_ (ld_blt I hg hm boot_tuple (PyProof.Rows.callWith_type1 (one_arg ha I h (fun v s2 x H2 I2 r q => ?_) na) na))
  obtain ⟨l, xs, rfl, hs, q⟩ := q
  obtain rfl : v = .ref l := r
  obtain ⟨its, rv, pl, hz⟩ := I2.list hs
  refine call_tuple_list pl.isList (fun h' hk => ?_) (by rw [List.size_toArray, ← rv.length]; exact hz)
  have I3 : Inv X pins σ H2 { s2 with heap := h' } := I2.kept (t' := s2.toks) hk
  have hget : (h'.push { cls := .type "tuple", data := .seq its.toArray }).get? h'.objs.size = some { cls := .type "tuple", data := .seq its.toArray } := Heap.get?_push_size _ rfl
  have I4 := I3.laid (a := h'.objs.size) (o := .frz { cls := .type "tuple", data := .seq its.toArray } (.tup xs)) (h' := h'.push { cls := .type "tuple", data := .seq its.toArray }) (t' := s2.toks) (fun b o e => Heap.get?_push_of_some _ e) (Nat.le_refl _) ⟨hget, hz, its, rv, _, hget, rfl, _, rfl⟩
  exact ⟨.ref h'.objs.size, _, I4, rfl, q _ _ rfl (I3.hok.fresh (Nat.le_refl _))⟩
def tTupRgF (te : St → Hp → (Int → Int → Hp → Prop) → Prop) : TE := fun σ H Q => te σ H fun a b H1 => RgOk a b ∧ ∀ q o, o.dict = none → H1 q = none → Q (.ref q) (upd H1 q (.frz o (.tup (rgV a b))))
theorem pe_tupRgF {p pos : Pos} (hc : X.calm = true) (hg : Gl X "tuple") (hm : X.mg "tuple" = none) (he : PRg X e te) (na : starEach [e] X.env = (false, eval e X.env) :: starEach [] X.env := by rfl) : PE X (.Call (.Name "tuple" p) [e] [] pos) (tTupRgF te) := by
  refine ⟨fun pins s σ H Q I h => ?_⟩
  refine Call_ (ld_blt I hg hm boot_tuple (PyProof.Rows.callWith_type1 (args_cons (thn (he pins s σ H _ I h) fun x s1 ⟨r, a, b, t, u, v, H1, ex, hr, I1, ok, q⟩ => args_nil ?_) na) na))
  subst ex
  obtain ⟨b1, b2, b3, b4, b5⟩ := ok
  refine call_tuple_range (n := (b - a).toNat) (I1.ok.hd hc) hr (small_one b1 b2 b3 b4) (rangeSize_nat a b) b5 fun h' tk acc hk hi => ?_
  have I2 : Inv X pins σ H1 { s1 with heap := h', toks := tk } := I1.kept hk
  have hget : (h'.push { cls := .type "tuple", data := .seq acc }).get? h'.objs.size = some { cls := .type "tuple", data := .seq acc } := Heap.get?_push_size _ rfl
  have hz : (rgV a b).length ≤ sizeLine := by rw [rgV_length, sizeLine_eq]; omega
  have hi2 : IsTup (h'.push { cls := .type "tuple", data := .seq acc }) h'.objs.size acc.toList.toArray := by rw [Array.toArray_toList]; exact IsTup.new _ _
  have I3 := I2.laid (a := h'.objs.size) (o := .frz { cls := .type "tuple", data := .seq acc } (.tup (rgV a b))) (h' := h'.push { cls := .type "tuple", data := .seq acc }) (t' := tk) (fun c o e => Heap.get?_push_of_some _ e) (Nat.le_refl _) ⟨hget, hz, acc.toList, vals_rg hi, hi2⟩
  exact ⟨.ref h'.objs.size, _, I3, rfl, q _ _ rfl (I2.hok.fresh (Nat.le_refl _))⟩
/-- a method of a tuple whose object is known -/
def tBMF (r : V → List V → Hp → VK → Prop) (to : TE) (t : TA) : TE := fun σ H Q => to σ H fun x H1 => (∃ a o xs, x = .ref a ∧ H1 a = some (.frz o (.tup xs)) ∧ o.dict = none) ∧ t σ H1 fun ys H2 => r x ys H2 Q
theorem pe_bmF {o e : Expr} {es : List Expr} {to : TE} {t : TA} {name : Str} {apos cpos : Pos} {id : String} {r : V → List V → Hp → VK → Prop} (slot : Slot "tuple" name id) (hty : typeOf (.builtin id) = pure (.type "method_descriptor")) (hm : MtR X id r) (ho : PE X o to) (ha : PA X (e :: es) t)
    (hbase : attributeBase o name X.env (eval o X.env) = eval o X.env := by rfl)
    (hfew : ((backTo cpos (starEach (e :: es) X.env)).all (fun x => !x.1) && (backToKw cpos (keywordEach [] X.env)).all (fun x => x.1.isSome)
      && decide ((e :: es).length + ([] : List Keyword).length + (if ([] : List Keyword).isEmpty then 0 else 1) < 30)) = true := by rfl)
    (hline : (apos.endLine == cpos.line) = true := by rfl) (hs : starEach (e :: es) X.env = (false, eval e X.env) :: starEach es X.env := by rfl) (hplain : (backTo cpos (starEach es X.env)).any (·.1) = false := by rfl) :
    PE X (.Call (.Attribute o name apos) (e :: es) [] cpos) (tBMF r to t) := by
  refine ⟨fun pins s σ H Q I h => ?_⟩
  refine wpAny_Call_method_late hbase hfew hline rfl (thn (ho.run pins s σ H _ I h) fun v s1 ⟨x, H1, I1, r1, ty, q1⟩ => ?_)
  obtain ⟨a, ob, xs, rfl, hH, hdn⟩ := ty
  obtain rfl : v = Value.ref a := r1
  obtain ⟨hget, hz, its, rv, ob', hget', hcls, hdat⟩ := (show ObjOk X.prog X.w H1 s1.heap a (.frz ob (.tup xs)) from I1.hok a _ hH)
  refine ⟨"tuple", id, PySem.F.plainAttrs_tuple, slot, hty, ⟨ob', hget', hcls⟩, fun b eb => ?_, ?_⟩
  · cases eb
    exact ⟨ob, hget, hdn⟩
  have hA := ha.run cpos pins s1 σ H1 _ I1 q1
  rw [hs] at hA ⊢
  refine Calls.callWith_builtin (by show (false || (backTo cpos (starEach es X.env)).any (·.1)) = false; rw [hplain] <;> rfl) (Calls.evalArgs_plain ?_)
  exact thn hA fun us s2 ⟨vs, H2, I2, r2, q2⟩ => hm pins s2 σ H2 (.ref a) vs (.ref a) us Q I2 rfl r2 q2
end
end L2

set_option Elab.async false
set_option linter.all false
set_option maxRecDepth 100000
set_option maxHeartbeats 1000000
namespace Lt
open PySem PySem.Spec PyProof.Rows L2
/-- a turn whose object is known -/
def TF (H : Hp) (v : V) (t : List Nat) : Prop := ∃ a o, v = .ref a ∧ H a = some (.frz o (.tup (nIs t))) ∧ o.dict = none
theorem TF.tn {H : Hp} {v : V} {t : List Nat} (h : TF H v t) : TN H v t := let ⟨a, o, e, h, _⟩ := h; ⟨a, e, .inr ⟨o, h⟩⟩
theorem TF.tm {H H' : Hp} {v : V} {t : List Nat} (e : Tm H H') (h : TF H v t) : TF H' v t := let ⟨a, o, ev, h, d⟩ := h; ⟨a, o, ev, e.2 _ _ _ h, d⟩
section
variable {P : Program} {w : World} {K : PySem.W.Frag} {mg : Str → Option Value} {base : Heap}
/-! ### _law_is -/
def spIs : Sp := fun vs H Q _ => ∃ (a b : Bool), vs = [.bl a, .bl b] ∧ Q (.bl (decide (a = b))) H
/-! ### _law_behind, _law_back, _law_swap -/
theorem sc_law_behind : FnScope ["one", "other", "place"] ["one", "other"] (defScope s_law_behind) := ⟨rfl, rfl, rfl, by decide +kernel, rfl, by decide +kernel, by decide +kernel⟩
theorem has_law_behind (T : Top K mg "_law_behind" s_law_behind ["one", "other"]) (B : Bi mg) : Has P w K mg base CX0 1 "_law_behind" ["one", "other"] spProd := by
  refine T.ok sc_law_behind (fun vs H Q E h => ?_) (fun f cdv A outer s H vs Q E hr h => ?_)
  · obtain ⟨a, b, x, y, rfl, _⟩ := h
    rfl
  · obtain ⟨a, b, x, y, rfl, ha, hb, hxy, hx, q⟩ := h
    refine ⟨_, pss_one (ps_ret (pe_tupleOf (by rfl) B.tuple (pe_lc (own := [("place", 2)]) (g := gName 2) (te := tOp (rIxT K) (tVar 1) (tVar 2)) (by rfl) sc_law_behind.nd (pi_tup (pv 0)) (blkOk_by (own := [("place", 2)]) (N := ["one", "other", "place"]) (sc := defScope s_law_behind) (by decide +kernel))
      (fun _ _ _ _ _ => pg_name (i := 2) sc_law_behind.nd rfl (Or.inl rfl)) (fun _ _ _ _ _ => pts_nil) (fun _ _ _ _ _ => pe_ix ix_tup (pv 1) (pv 2) (fun _ _ => rfl))))), ?_⟩
    obtain ⟨pa, rfl, ea⟩ := ha
    obtain ⟨pb, rfl, eb⟩ := hb
    refine ⟨_, rfl, pa, rfl, ⟨_, ea.sq⟩, fun D hD => lc_tupM RN (prod x y) (fun _ _ _ _ _ r => r) ea.sq (fun H' sm => (ea.sm sm).sq) (by rw [nIs_len]; omega) (by rw [prod_len, nIs_len]) hD (fun x => rfl) (fun i v n hi hn H' sm Q' q' => ?_) (fun H' zs sm hz pr => ?_)⟩
    · rw [nIs_get] at hi
      obtain ⟨m, hm, rfl⟩ := Option.map_eq_some_iff.mp hi
      have hlt := hxy m (List.mem_of_getElem? hm)
      have e : n = y.getD m 0 := by
        have z : (prod x y)[i]? = some (y.getD m 0) := by
          unfold prod
          rw [List.getElem?_map, hm]
          rfl
        exact Option.some.inj (hn.symm.trans z)
      refine ⟨_, rfl, _, rfl, pb, _, _, nI n, rfl, rfl, (eb.sm sm).sq, atI_nat ?_, q' _ _ (Same.refl _) rfl⟩
      rw [nIs_get, e, List.getD_eq_getElem?_getD, List.getElem?_eq_getElem hlt]
      rfl
    · refine .inl ⟨D, zs, rfl, SqL.of hz, fun p hp => q _ _ (sm.trans (same_new hp)) (tn_of upd_same (RN.all pr))⟩
/-- the same, the new turn's object told -/
def spProdF : Sp := fun vs H Q _ => ∃ (a b : V) (x y : List Nat), vs = [a, b] ∧ TN H a x ∧ TN H b y ∧ (∀ i ∈ x, i < y.length) ∧ x.length ≤ 1000 ∧ ∀ v H', Same H H' → TF H' v (prod x y) → Q v H'
theorem has_law_behindF (T : Top K mg "_law_behind" s_law_behind ["one", "other"]) (B : Bi mg) : Has P w K mg base CX0 1 "_law_behind" ["one", "other"] spProdF := by
  refine T.ok sc_law_behind (fun vs H Q E h => ?_) (fun f cdv A outer s H vs Q E hr h => ?_)
  · obtain ⟨a, b, x, y, rfl, _⟩ := h
    rfl
  · obtain ⟨a, b, x, y, rfl, ha, hb, hxy, hx, q⟩ := h
    refine ⟨_, pss_one (ps_ret (pe_tupleOfF (by rfl) B.tuple (pe_lc (own := [("place", 2)]) (g := gName 2) (te := tOp (rIxT K) (tVar 1) (tVar 2)) (by rfl) sc_law_behind.nd (pi_tup (pv 0)) (blkOk_by (own := [("place", 2)]) (N := ["one", "other", "place"]) (sc := defScope s_law_behind) (by decide +kernel))
      (fun _ _ _ _ _ => pg_name (i := 2) sc_law_behind.nd rfl (Or.inl rfl)) (fun _ _ _ _ _ => pts_nil) (fun _ _ _ _ _ => pe_ix ix_tup (pv 1) (pv 2) (fun _ _ => rfl))))), ?_⟩
    obtain ⟨pa, rfl, ea⟩ := ha
    obtain ⟨pb, rfl, eb⟩ := hb
    refine ⟨_, rfl, pa, rfl, ⟨_, ea.sq⟩, fun D hD => lc_tupM RN (prod x y) (fun _ _ _ _ _ r => r) ea.sq (fun H' sm => (ea.sm sm).sq) (by rw [nIs_len]; omega) (by rw [prod_len, nIs_len]) hD (fun x => rfl) (fun i v n hi hn H' sm Q' q' => ?_) (fun H' zs sm hz pr => ?_)⟩
    · rw [nIs_get] at hi
      obtain ⟨m, hm, rfl⟩ := Option.map_eq_some_iff.mp hi
      have hlt := hxy m (List.mem_of_getElem? hm)
      have e : n = y.getD m 0 := by
        have z : (prod x y)[i]? = some (y.getD m 0) := by
          unfold prod
          rw [List.getElem?_map, hm]
          rfl
        exact Option.some.inj (hn.symm.trans z)
      refine ⟨_, rfl, _, rfl, pb, _, _, nI n, rfl, rfl, (eb.sm sm).sq, atI_nat ?_, q' _ _ (Same.refl _) rfl⟩
      rw [nIs_get, e, List.getD_eq_getElem?_getD, List.getElem?_eq_getElem hlt]
      rfl
    · refine ⟨D, zs, rfl, SqL.of hz, fun p o ho hp => q _ _ (sm.trans (same_new hp)) ⟨p, o, rfl, by rw [upd_same, RN.all pr], ho⟩⟩
def rTupIx (K : PySem.W.Frag) : V → List V → Hp → VK → Prop := fun x xs H Q => ∃ p, ∃ ys : List Int, ∃ z j, x = .ref p ∧ xs = [.int z] ∧ SqT K H p (ys.map V.int) ∧ ys[j]? = some z ∧ (∀ m, m < j → ys[m]? ≠ some z) ∧ Q (.int (j : Nat)) H
def spLawBack : Sp := fun vs H Q _ => ∃ (a : V) (t : List Nat) (n : Nat), vs = [a] ∧ TF H a t ∧ IsP n t ∧ n ≤ 1000 ∧ ∀ v H', Same H H' → TK H' v (inv t) → Q v H'
def spLawSwap : Sp := fun vs H Q _ => ∃ (a b : V) (x y : List Nat) (n : Nat), vs = [a, b] ∧ TF H a x ∧ TF H b y ∧ IsP n x ∧ IsP n y ∧ n ≤ 1000 ∧ ∀ v H', Same H H' → TK H' v (prod (prod x y) (prod (inv x) (inv y))) → Q v H'
/-! ### _law_permutation -/
def spLawPerm (K : PySem.W.Frag) : Sp := fun vs H Q _ => ∃ (r sc : Addr) (ns : List Int) (n : Nat), vs = [.ref r, nI n] ∧ RowAt K H r sc ns ∧ n ≤ 1000 ∧ ∀ v H' t, IsP n t → StepR r H H' → RowAt K H' r sc ns → TK H' v t → Q v H'
theorem sc_law_permutation : FnScope ["row", "places", "left", "found", "turn"] ["row", "places"] (defScope s_law_permutation) := ⟨rfl, rfl, rfl, by decide +kernel, rfl, by decide +kernel, by decide +kernel⟩
theorem nIs_erase : ∀ (t : List Nat) (i : Nat), (nIs t).eraseIdx i = nIs (t.eraseIdx i)
  | [], _ => rfl
  | _ :: _, 0 => rfl
  | a :: t, i + 1 => by
    show nI a :: (nIs t).eraseIdx i = nI a :: nIs (t.eraseIdx i)
    rw [nIs_erase t i]
theorem erase_perm : ∀ (l : List Nat) (x : Nat) (h : x < l.length), (l[x] :: l.eraseIdx x).Perm l
  | [], x, h => absurd h (Nat.not_lt_zero x)
  | a :: l, 0, _ => List.Perm.refl _
  | a :: l, x + 1, h => (List.Perm.swap a (l[x]'(Nat.lt_of_succ_lt_succ h)) (l.eraseIdx x)).trans ((erase_perm l x (Nat.lt_of_succ_lt_succ h)).cons a)
theorem has_law_permutation (T : Top K mg "_law_permutation" s_law_permutation ["row", "places"]) (B : Bi mg) (hT : Has P w K mg base CX0 1 "_law_taken" ["row", "many"] (spTaken K)) : Has P w K mg base CX0 2 "_law_permutation" ["row", "places"] (spLawPerm K) := by
  refine T.ok sc_law_permutation (fun vs H Q E h => ?_) (fun f cdv A outer s H vs Q E hr h => ?_)
  · obtain ⟨r, sc, ns, n, rfl, _⟩ := h
    rfl
  · obtain ⟨r, sc, ns, n, rfl, ra, hn, q⟩ := h
    refine ⟨_, pss_cons (ps_par (i := 2) (j := 3) (by rfl) sc_law_permutation.nd rfl rfl (by decide) rfl rfl (pa_cons (pe_listRg (by rfl) (by rfl) B.list (prg_1 (by rfl) B.range (pv 1))) (pa_cons (pe_lst pa_nil) pa_nil)) (by rfl))
      (pss_cons (ps_for PassesOwn.never rfl (pi_range1 (by rfl) B.range (pa_cons (pv 1) pa_nil)) (pg_name (i := 4) sc_law_permutation.nd rfl (Or.inl rfl))
        (pss_one (ps_expr (pe_bm PySem.F.plainAttrs_list PySem.F.slot_list_append PySem.F.type_list_append mt_append (pv 3) (pa_cons
          (pe_bm PySem.F.plainAttrs_list PySem.F.slot_list_pop PySem.F.type_list_pop mt_popAt (pv 2) (pa_cons (pe_has hT hr (by rfl) (pa_cons (pv 0) (pa_cons (pe_callB call_len_seq (by rfl) B.len PySem.boot_len (pa_cons (pv 2) pa_nil)) pa_nil))) pa_nil)) pa_nil)))))
      (pss_one (ps_ret (pe_tupleOf (by rfl) B.tuple (pv 3))))), ?_⟩
    refine ⟨_, rfl, n, rfl, .of_le (by omega) (by omega) (by omega) (by omega), fun lf hlf => ?_⟩
    have s1 := same_new (o := .lst (rgV 0 n)) hlf
    refine ⟨Nat.zero_le _, fun fd hfd => ⟨_, _, rfl, ?_⟩⟩
    have s2 := s1.trans (same_new (o := .lst []) hfd)
    have hfd0 : H fd = none := s1.free hfd
    have hlfd : lf ≠ fd := fun z => by rw [← z, upd_same] at hfd; cases hfd
    refine ⟨_, rfl, (n : Int), rfl, by omega, by omega, for_range (lo := 0) (n := (n : Int).toNat) (fun i σ H' => ∃ (l f : List Nat) (y : Option V), σ = [some (.ref r), some (nI n), some (.ref lf), some (.ref fd), y] ∧ StepR r H H' ∧ RowAt K H' r sc ns ∧ H' lf = some (.lst (nIs l)) ∧ H' fd = some (.lst (nIs f)) ∧ (f ++ l).Perm (List.range n) ∧ f.length = i)
      ⟨List.range n, [], none, rfl, .of s2, ra.step s2, by rw [upd_ne hlfd, upd_same, rgV_nat], by rw [upd_same]; rfl, List.Perm.refl _, rfl⟩ ?_ ?_⟩
    · rintro i σ H' hi ⟨l, f, y, rfl, st, ra', hl, hf, pm, hfl⟩
      have hlen := pm.length_eq
      rw [List.length_append, List.length_range] at hlen
      have hl1 : 1 ≤ l.length := by omega
      refine ⟨_, rfl, .inl ⟨rfl, _, SqL.of hf⟩, _, rfl, .inl ⟨rfl, _, SqL.of hl⟩, _, rfl, _, rfl, lf, nIs l, rfl, .inl (SqL.of hl), r, sc, ns, l.length, by rw [nIs_len]; rfl, ra', hl1, by omega, fun x H2 hx st2 ra2 => ?_⟩
      have hlr : lf ≠ r := (ra.ne hlf).symm
      have hfr : fd ≠ r := (ra.ne hfd0).symm
      have hl2 := st2 _ _ hlr hl
      have hf2 := st2 _ _ hfr hf
      refine ⟨lf, nIs l, (x : Int), x, nI l[x], rfl, rfl, hl2, by omega, by omega, (ixN_seq (Evl.ixN_nat (by rw [nIs_len]; exact hx))).1, by rw [nIs_get, List.getElem?_eq_getElem hx]; rfl, ?_⟩
      have hf3 : (upd H2 lf (.lst ((nIs l).eraseIdx x))) fd = some (.lst (nIs f)) := by rw [upd_ne hlfd.symm]; exact hf2
      refine ⟨fd, nIs f, nI l[x], rfl, rfl, hf3, by rw [nIs_len, sizeLine_eq]; omega, ?_⟩
      refine ⟨l.eraseIdx x, f ++ [l[x]], _, rfl, ((st.trans st2).mut hlf).mut hfd0, RowAt.mut ra hfd0 (RowAt.mut ra hlf ra2), ?_, ?_, ?_, by rw [List.length_append, hfl]; rfl⟩
      · rw [upd_ne hlfd, upd_same, nIs_erase]
      · rw [upd_same]
        unfold nIs
        rw [List.map_append]
        rfl
      · rw [List.append_assoc]
        refine List.Perm.trans (List.Perm.append_left f ?_) pm
        exact erase_perm l x hx
    · rintro σ H' ⟨l, f, y, rfl, st, ra', hl, hf, pm, hfl⟩
      have hlen := pm.length_eq
      rw [List.length_append, List.length_range] at hlen
      have hl0 : l = [] := by
        cases l with
        | nil => rfl
        | cons a l => rw [List.length_cons] at hlen; omega
      subst hl0
      rw [List.append_nil] at pm
      refine ⟨_, rfl, .inl ⟨fd, nIs f, rfl, SqL.of hf, fun p hp => ?_⟩⟩
      have sp := same_new (o := .tup (nIs f)) hp
      exact q _ _ f pm (st.trans (.of sp)) (ra'.step sp) ⟨p, rfl, upd_same⟩
end
end Lt

set_option Elab.async false
set_option linter.all false
set_option maxRecDepth 100000
set_option maxHeartbeats 1000000
/-! k06: the law's helpers -/
namespace Lt
open PySem PySem.Spec PyProof.Rows L2
/-- a step: an input, a turn for no, a turn for yes -/
abbrev StepT := Nat × List Nat × List Nat
def StAt (H : Hp) (v : V) (s : StepT) : Prop := ∃ p x y, v = .ref p ∧ H p = some (.tup [nI s.1, x, y]) ∧ TN H x s.2.1 ∧ TN H y s.2.2
theorem StAt.tm {H H' : Hp} {v : V} {s : StepT} (e : Tm H H') (h : StAt H v s) : StAt H' v s := let ⟨p, x, y, h1, h2, h3, h4⟩ := h; ⟨p, x, y, h1, e.1 _ _ h2, h3.tm e, h4.tm e⟩
/-- what a row comes to on a row of bits -/
def stepV (bs : List Nat) (c : List Nat) (s : StepT) : List Nat := prod c (if bs.getD s.1 0 = 1 then s.2.2 else s.2.1)
def valS (n : Nat) (ss : List StepT) (bs : List Nat) : List Nat := ss.foldl (stepV bs) (List.range n)
structure StOk (n k : Nat) (s : StepT) : Prop where
  own : s.1 < k
  no : IsP n s.2.1
  yes : IsP n s.2.2
section
variable {P : Program} {w : World} {K : PySem.W.Frag} {mg : Str → Option Value} {base : Heap}
def spValue : Sp := fun vs H Q _ => ∃ (n k : Nat) (sv : V) (a b : Addr) (xs : List V) (ss : List StepT) (bs : List Nat), vs = [nI n, sv, .ref b] ∧ sv = .ref a ∧ H a = some (.tup xs) ∧ Paired (StAt H) xs ss ∧ (∀ s ∈ ss, StOk n k s) ∧ ss.length ≤ 1000 ∧ n ≤ 9 ∧ H b = some (.tup (nIs bs)) ∧ bs.length = k ∧ (∀ x ∈ bs, x ≤ 1) ∧
  ∀ r H', Same H H' → TK H' r (valS n ss bs) → Q r H'
end
end Lt

set_option Elab.async false
set_option linter.all false
set_option maxRecDepth 100000
set_option maxHeartbeats 2000000
/-! rows.py: products -/
namespace Lt
open PySem PySem.Spec PyProof.Rows L2
abbrev prdN : List Str := ["made", "inputs", "row", "turns", "turn", "places", "leads", "reached", "own", "no", "yes", "chosen", "place", "before", "at"]
section
variable {P : Program} {w : World} {K : PySem.W.Frag} {mg : Str → Option Value} {base : Heap}
/-- a step whose turns may be keys -/
def StK (H : Hp) (v : V) (s : StepT) : Prop := ∃ p x y, v = .ref p ∧ H p = some (.tup [nI s.1, x, y]) ∧ TK H x s.2.1 ∧ TK H y s.2.2
theorem StK.tm {H H' : Hp} {v : V} {s : StepT} (e : Tm H H') (h : StK H v s) : StK H' v s := let ⟨p, x, y, h1, h2, h3, h4⟩ := h; ⟨p, x, y, h1, e.1 _ _ h2, h3.tm e, h4.tm e⟩
/-- what a row comes to at a place of a table -/
def valK (n : Nat) (ss : List StepT) (t : Nat) : List Nat := ss.foldl (fun c s => prod c (if t / 2 ^ s.1 % 2 = 1 then s.2.2 else s.2.1)) (List.range n)
def spProducts : Sp := fun vs H Q _ => ∃ (m ra : Addr) (L : List (List Nat × List Nat)) (n k : Nat) (xs : List V) (ss : List StepT), vs = [.ref m, nI k, .ref ra] ∧ DW H m L ∧ (∀ x ∈ L, IsP n x.1) ∧ 1 ≤ n ∧ n ≤ 9 ∧ L.length < 64 ∧ (L.map (·.1)).Nodup ∧ List.range n ∈ L.map (·.1) ∧ (∀ x ∈ L.map (·.1), ∀ y ∈ L.map (·.1), prod x y ∈ L.map (·.1)) ∧
  H ra = some (.tup xs) ∧ Paired (StK H) xs ss ∧ (∀ s ∈ ss, s.1 < k ∧ s.2.1 ∈ L.map (·.1) ∧ s.2.2 ∈ L.map (·.1)) ∧ ss.length ≤ 6000 ∧ 1 ≤ k ∧ k ≤ 6 ∧ ∀ r H', Same H H' → TTK H' r ((List.range (2 ^ k)).map (valK n ss)) → Q r H'
/-- where a turn leads all others, by their places -/
def ledL (ts : List (List Nat)) (t : List Nat) : List V := ts.map fun x => nI (ts.idxOf (prod x t))
/-- the dict of what is worked out -/
def LdOk (H : Hp) (ts : List (List Nat)) (lk : List (List Key × V)) : Prop := ∀ p ∈ lk, ∃ t la, p = (keyN t, V.ref la) ∧ t ∈ ts ∧ H la = some (.lst (ledL ts t))
theorem LdOk.get {H : Hp} {ts : List (List Nat)} {lk : List (List Key × V)} (h : LdOk H ts lk) {t : List Nat} {v : V} (e : valV lk (keyN t) = some v) : ∃ la, v = .ref la ∧ H la = some (.lst (ledL ts t)) := by
  unfold valV at e
  obtain ⟨p, hp, rfl⟩ := Option.map_eq_some_iff.mp e
  have h1 := List.find?_some hp
  have hm := List.mem_of_find?_eq_some hp
  obtain ⟨t', la, rfl, _, hl⟩ := h p hm
  have : keyN t' = keyN t := of_decide_eq_true h1
  rw [keyN_inj this] at hl
  exact ⟨la, rfl, hl⟩
theorem LdOk.same {H H' : Hp} {ts : List (List Nat)} {lk : List (List Key × V)} (h : LdOk H ts lk) (s : Same H H') : LdOk H' ts lk := fun p hp => let ⟨t, la, a, b, c⟩ := h p hp; ⟨t, la, a, b, s _ _ c⟩
theorem LdOk.put {H : Hp} {ts : List (List Nat)} {lk : List (List Key × V)} {ld : Addr} (h : LdOk H ts lk) (hd : H ld = some (.dT lk)) {t : List Nat} {la : Addr} (ht : t ∈ ts) (hl : H la = some (.lst (ledL ts t))) (hn : ∀ p ∈ lk, p.1 ≠ keyN t) : LdOk (upd H ld (.dT (putK lk (keyN t) (.ref la)))) ts (putK lk (keyN t) (.ref la)) := by
  rw [putK_app hn]
  intro p hp
  have ne : ∀ {a xs}, H a = some (.lst xs) → a ≠ ld := fun e z => by rw [z, hd] at e; cases e
  rcases List.mem_append.mp hp with hp | hp
  · obtain ⟨t', a', e1, e2, e3⟩ := h p hp
    exact ⟨t', a', e1, e2, (upd_ne (ne e3)).trans e3⟩
  · rw [List.mem_singleton.mp hp]
    exact ⟨t, la, rfl, ht, (upd_ne (ne hl)).trans hl⟩
theorem valV_no {κ : Type} [DecidableEq κ] {kvs : List (κ × V)} {k : κ} (h : valV kvs k = none) : ∀ p ∈ kvs, p.1 ≠ k := fun p hp e => by
  unfold valV at h
  have := List.find?_eq_none.mp (Option.map_eq_none_iff.mp h) p hp
  exact this (decide_eq_true e)
theorem val_places {ts : List (List Nat)} {y : List Nat} (nd : ts.Nodup) (h : y ∈ ts) : valV ((List.range ts.length).map fun i => (keyN (ts.getD i []), nI i)) (keyN y) = some (nI (ts.idxOf y)) := by
  have hi : ts.idxOf y < ts.length := List.idxOf_lt_length_of_mem h
  have e : ((List.range ts.length).map fun i => (keyN (ts.getD i []), nI i)).find? (fun kv => decide (kv.1 = keyN y)) = some (keyN (ts.getD (ts.idxOf y) []), nI (ts.idxOf y)) := by
    refine List.find?_eq_some_iff_getElem.mpr ⟨?_, ts.idxOf y, by rw [List.length_map, List.length_range]; exact hi, by rw [List.getElem_map, List.getElem_range], fun j hj => ?_⟩
    · rw [List.getD_eq_getElem?_getD, List.getElem?_eq_getElem hi, Option.getD_some, List.getElem_idxOf hi]
      exact decide_eq_true rfl
    · rw [List.getElem_map, List.getElem_range]
      have hjl : j < ts.length := by omega
      have hne : ts[j] ≠ y := fun z => by
        have := nd.idxOf_getElem j hjl
        rw [z] at this
        omega
      have : ¬ keyN (ts.getD j []) = keyN y := fun z => by
        have z := keyN_inj z
        rw [List.getD_eq_getElem?_getD, List.getElem?_eq_getElem hjl, Option.getD_some] at z
        exact hne z
      show (!decide (keyN (ts.getD j []) = keyN y)) = true
      rw [decide_eq_false this]
      rfl
  unfold valV
  rw [e]
  rfl
end
end Lt

set_option Elab.async false
set_option linter.all false
set_option maxRecDepth 100000
set_option maxHeartbeats 2000000
/-! rows.py: worths, written, writes -/
namespace Lt
open PySem PySem.Spec PyProof.Rows L2
def dS (s : StepT) : PyData := .tuple [dN s.1, dT s.2.1, dT s.2.2]
theorem StK.rp {H : Hp} {v : V} {s : StepT} (h : StK H v s) : Rp H v (dS s) := by
  obtain ⟨p, x, y, rfl, hp, hx, hy⟩ := h
  exact .tup (.inl hp) (.cons (.int _) (.cons hx.tn.rp (.cons hy.tn.rp .nil)))
theorem StKs.rp {H : Hp} : ∀ {xs : List V} {ss : List StepT}, Paired (StK H) xs ss → RpAll H xs (ss.map dS)
  | _, _, .nil => .nil
  | _, _, .cons r t => .cons r.rp (StKs.rp t)
/-- a row's tuple, whose turns may be keys -/
def RwK (H : Hp) (v : V) (ss : List StepT) : Prop := ∃ a xs, v = .ref a ∧ H a = some (.tup xs) ∧ Paired (StK H) xs ss
theorem RwK.tm {H H' : Hp} {v : V} {ss : List StepT} (e : Tm H H') (h : RwK H v ss) : RwK H' v ss := let ⟨a, xs, h1, h2, h3⟩ := h; ⟨a, xs, h1, e.1 _ _ h2, paired_mono (fun _ _ r => StK.tm e r) h3⟩
theorem RwK.rp {H : Hp} {v : V} {ss : List StepT} (h : RwK H v ss) : Rp H v (.tuple (ss.map dS)) := by
  obtain ⟨a, xs, rfl, ha, hx⟩ := h
  exact .tup (.inl ha) (StKs.rp hx)
theorem lenT {t : List Nat} {m : Nat} (h : t.length ≤ m) : ∀ ds, dT t = .tuple ds → ds.length ≤ m := fun ds e => by
  injection e with e
  subst e
  rw [List.length_map]
  exact h
theorem sml3_S {n : Nat} {s : StepT} (h1 : s.2.1.length ≤ 1000) (h2 : s.2.2.length ≤ 1000) : Sml3 (dS s) := fun ds e => by
  injection e with e
  subst e
  refine ⟨by show 3 ≤ 1000; decide, fun e he es ee => ?_⟩
  simp only [List.mem_cons, List.not_mem_nil, or_false] at he
  rcases he with rfl | rfl | rfl
  · cases ee
  · exact lenT h1 _ ee
  · exact lenT h2 _ ee
theorem stepD_S (L : List (List Nat × List Nat)) (k : Nat) (s : StepT) : stepD L k (dS s) = (decide (s.1 < k) && decide (s.2.1 ∈ L.map (·.1)) && decide (s.2.2 ∈ L.map (·.1))) := by
  show (ownD k (.int (s.1 : Int)) && isTurnD L (dT s.2.1) && isTurnD L (dT s.2.2)) = _
  rw [isTurnD_dT, isTurnD_dT]
  congr 2
  show (decide ((0 : Int) ≤ (s.1 : Int)) && decide ((s.1 : Int) < (k : Int))) = _
  rw [decide_eq_true (Int.natCast_nonneg _), Bool.true_and]
  exact decide_eq_decide.mpr Int.ofNat_lt
/-- a row of a lock for so many inputs -/
structure RowOk (ls : List (List Nat)) (n k : Nat) (ss : List StepT) : Prop where
  ok : ∀ s ∈ ss, s.1 < k ∧ Mk ls n s.2.1 ∧ Mk ls n s.2.2
  len : ss.length ≤ 6000
theorem RowOk.step {ls : List (List Nat)} {n k : Nat} {ss : List StepT} {H : Hp} {v : V} (h : RowOk ls n k ss) (g : Good H v ls n) : ∀ e ∈ ss.map dS, stepD (LL ls n) k e = true := fun e he => by
  obtain ⟨s, hs, rfl⟩ := List.mem_map.mp he
  obtain ⟨h1, h2, h3⟩ := h.ok s hs
  rw [stepD_S, decide_eq_true h1, decide_eq_true ((g.mem _).mpr h2), decide_eq_true ((g.mem _).mpr h3)]
  rfl
theorem RowOk.sml {ls : List (List Nat)} {n k : Nat} {ss : List StepT} {H : Hp} {v : V} (h : RowOk ls n k ss) (g : Good H v ls n) : ∀ e ∈ ss.map dS, Sml3 e := fun e he => by
  obtain ⟨s, hs, rfl⟩ := List.mem_map.mp he
  obtain ⟨_, h2, h3⟩ := h.ok s hs
  have := g.gl.2.2.2.1
  exact sml3_S (n := n) (by rw [(g.isP h2).len]; omega) (by rw [(g.isP h3).len]; omega)
section
variable {P : Program} {w : World} {K : PySem.W.Frag} {mg : Str → Option Value} {base : Heap} {CL CM CT CN CR CK : Addr}
/-- the argument row: what is none, or a row of which q -/
def RowIn (CR : Addr) (H : Hp) (E : XK) (rv : V) (ls : List (List Nat)) (n k : Nat) (q : List StepT → Prop) : Prop :=
  (∃ ss, RwK H rv ss ∧ RowOk ls n k ss ∧ q ss) ∨
  ∃ pre e post, Rp H rv (.tuple (pre ++ e :: post)) ∧ (pre ++ e :: post).length ≤ 6000 ∧ (∀ x ∈ pre ++ e :: post, Sml3 x) ∧ (∀ x ∈ pre, stepD (LL ls n) k x = true) ∧ stepD (LL ls n) k e = false ∧ BadF CR "place" (nI pre.length) H E
/-- check_row's promise from it -/
theorem RowIn.check {H H1 : Hp} {E : XK} {v rv : V} {ls : List (List Nat)} {n k : Nat} {q : List StepT → Prop} {m : Addr} {Q : VK} (h : RowIn CR H E rv ls n k q) (g : Good H v ls n) (s : Same H H1) (dw : DW H1 m (LL ls n))
    (go : ∀ ss, RwK H rv ss → RowOk ls n k ss → q ss → ∀ H', Same H1 H' → Q .non H') : spCheckRow CR [.ref m, nI k, rv] H1 Q E := by
  rcases h with ⟨ss, hr, ok, q0⟩ | ⟨pre, e, post, hrp, hl, hs, h1, h2, bad⟩
  · exact ⟨m, LL ls n, k, rv, ss.map dS, rfl, dw, (hr.tm (.of s)).rp, by rw [List.length_map]; exact ok.len, ok.sml g, .inl ⟨ok.step g, go ss hr ok q0⟩⟩
  · exact ⟨m, LL ls n, k, rv, pre ++ e :: post, rfl, dw, Rp.same s _ _ hrp, hl, hs, .inr ⟨pre, e, post, rfl, h1, h2, bad.same s⟩⟩
/-- products' promise from it -/
theorem prods {H H1 : Hp} {v rv : V} {ls : List (List Nat)} {n k : Nat} {m : Addr} {Q : VK} {ss : List StepT} (g : Good H v ls n) (dw : DW H1 m (LL ls n)) (hr : RwK H1 rv ss) (ok : RowOk ls n k ss) (k1 : 1 ≤ k) (k6 : k ≤ 6)
    (q : ∀ r H', Same H1 H' → TTK H' r ((List.range (2 ^ k)).map (valK n ss)) → Q r H') : spProducts [.ref m, nI k, rv] H1 Q E0 := by
  obtain ⟨a, xs, rfl, ha, hx⟩ := hr
  have hP : ∀ x ∈ LL ls n, IsP n x.1 := fun x hx => g.isP ((g.mem _).mp (List.mem_map.mpr ⟨x, hx, rfl⟩))
  refine ⟨m, a, LL ls n, n, k, xs, ss, rfl, dw, hP, by have := g.gl.2.2.1; omega, g.gl.2.2.2.1, by have := LL_len g.few; omega, LL_nd ls n, (g.mem _).mpr .still, fun x hx y hy => (g.mem _).mpr (((g.mem x).mp hx).prod g.gl.2.2.2.2 ((g.mem y).mp hy)), ha, hx, fun s hs => ?_, ok.len, k1, k6, q⟩
  obtain ⟨h1, h2, h3⟩ := ok.ok s hs
  exact ⟨h1, (g.mem _).mpr h2, (g.mem _).mpr h3⟩
theorem valK_mk {ls : List (List Nat)} {n k : Nat} {ss : List StepT} (hg : ∀ g ∈ ls, IsP n g) (ok : ∀ s ∈ ss, s.1 < k ∧ Mk ls n s.2.1 ∧ Mk ls n s.2.2) (p : Nat) : Mk ls n (valK n ss p) := by
  unfold valK
  have go : ∀ (ss : List StepT) (c : List Nat), Mk ls n c → (∀ s ∈ ss, s.1 < k ∧ Mk ls n s.2.1 ∧ Mk ls n s.2.2) → Mk ls n (ss.foldl (fun c s => prod c (if p / 2 ^ s.1 % 2 = 1 then s.2.2 else s.2.1)) c) := by
    intro ss
    induction ss with
    | nil => intro c h _; exact h
    | cons s ss ih =>
      intro c h o
      refine ih _ ?_ fun s' hs => o s' (List.mem_cons_of_mem _ hs)
      obtain ⟨_, h1, h2⟩ := o s List.mem_cons_self
      refine h.prod hg ?_
      split
      · exact h2
      · exact h1
  exact go ss _ .still ok
/-- what a row comes to, by places of a table -/
abbrev valsK (n k : Nat) (ss : List StepT) : List (List Nat) := (List.range (2 ^ k)).map (valK n ss)
theorem valsK_len (n k : Nat) (ss : List StepT) : (valsK n k ss).length = 2 ^ k := by rw [List.length_map, List.length_range]
def spWorths (CN CR : Addr) : Sp := fun vs H Q E => ∃ (v kv rv : V) (ls : List (List Nat)) (n : Nat), vs = [v, kv, rv] ∧ Good H v ls n ∧
  ((∃ d, Rp H kv d ∧ outD d ∧ Bad0 CN H E) ∨ ∃ k, kv = nI k ∧ 1 ≤ k ∧ k ≤ 6 ∧ RowIn CR H E rv ls n k fun ss => ∀ r H', Same H H' → TTK H' r (valsK n k ss) → Q r H')
/-- the argument turn: what is none, or a turn of which q -/
def TurnIn (CT : Addr) (H : Hp) (E : XK) (tv : V) (ls : List (List Nat)) (n : Nat) (q : List Nat → Prop) : Prop :=
  (∃ t, TN H tv t ∧ Mk ls n t ∧ q t) ∨ ∃ d, Rp H tv d ∧ (∀ ds, d = .tuple ds → ds.length ≤ 1000) ∧ isTurnD (LL ls n) d = false ∧ Bad0 CT H E
theorem TurnIn.check {H H1 : Hp} {E : XK} {v tv : V} {ls : List (List Nat)} {n : Nat} {q : List Nat → Prop} {m : Addr} {Q : VK} (h : TurnIn CT H E tv ls n q) (g : Good H v ls n) (s : Same H H1) (dw : DW H1 m (LL ls n))
    (go : ∀ t, TN H tv t → Mk ls n t → q t → ∀ H', Same H1 H' → Q .non H') : spCheckTurn CT [.ref m, tv] H1 Q E := by
  rcases h with ⟨t, ht, mt, q0⟩ | ⟨d, hd, hl, hf, bad⟩
  · have hlen : t.length ≤ 1000 := by have := (g.isP mt).len; have := g.gl.2.2.2.1; omega
    exact ⟨m, LL ls n, tv, dT t, rfl, dw, (ht.tm (.of s)).rp, lenT hlen, fun _ => go t ht mt q0, fun z => (by rw [isTurnD_dT, decide_eq_true ((g.mem t).mpr mt)] at z; cases z)⟩
  · exact ⟨m, LL ls n, tv, d, rfl, dw, Rp.same s _ _ hd, hl, fun z => (by rw [hf] at z; cases z), fun _ => bad.same s⟩
def spWritten (CN CR CT : Addr) : Sp := fun vs H Q E => ∃ (v rv tv : V) (ls : List (List Nat)) (n k : Nat), vs = [v, nI k, rv, tv] ∧ Good H v ls n ∧ 1 ≤ k ∧ k ≤ 6 ∧
  RowIn CR H E rv ls n k fun ss => TurnIn CT H E tv ls n fun t => ∀ r H', Same H H' → TK H' r (yesT (valsK n k ss) t) → Q r H'
def spWrites (CR CT CK : Addr) : Sp := fun vs H Q E => ∃ (v bv rv tv : V) (ls : List (List Nat)) (n : Nat), vs = [v, bv, rv, tv] ∧ Good H v ls n ∧
  ((∃ d, Rp H bv d ∧ (∀ ds, d = .tuple ds → ds.length ≤ 1000) ∧ isTask d = false ∧ Bad0 CK H E) ∨
   ∃ p k bs, TK H bv bs ∧ Tsk p k bs ∧ RowIn CR H E rv ls n k fun ss => TurnIn CT H E tv ls n fun t => ∀ H', Same H H' → Q (.bl (decide (yesT (valsK n k ss) t = bs))) H')
end
end Lt

set_option Elab.async false
set_option linter.all false
set_option maxRecDepth 100000
set_option maxHeartbeats 1000000
/-! locktexts.py: told_step, write_row -/
namespace Lt
open PySem PySem.Spec PyProof.Rows L2
abbrev wNo : List Str := ["no"]
abbrev wYes : List Str := ["yes"]
/-- the step of a line's words -/
def stepOf (made : List (List Nat)) (n : Nat) (xs ws : List Str) : Except Nat StepT :=
  match tk1 ws 0 xs with
  | none => .error 1
  | some own => match tk1 ws 1 wNo with
    | none => .error 2
    | some _ => match tkT ws made n 2 with
      | .error e => .error e
      | .ok no => match tk1 ws (2 + n) wYes with
        | none => .error (2 + n + 1)
        | some _ => match tkT ws made n (2 + n + 1) with
          | .error e => .error e
          | .ok yes => if 2 + n + 1 + n < ws.length then .error (2 + n + 1 + n + 1) else .ok (own, no, yes)
def stepsOf (made : List (List Nat)) (n : Nat) (xs : List Str) : List (Nat × List Str) → Except (Nat × Nat) (List StepT)
  | [] => .ok []
  | b :: rest => match stepOf made n xs b.2 with
    | .error e => .error (b.1, e)
    | .ok s => match stepsOf made n xs rest with
      | .error e => .error e
      | .ok ss => .ok (s :: ss)
section
variable {made : List (List Nat)} {n : Nat} {xs ws : List Str} {own j j2 e : Nat} {no yes : List Nat}
theorem so_1 (h1 : tk1 ws 0 xs = none) : stepOf made n xs ws = .error 1 := by unfold stepOf; rw [h1]
theorem so_2 (h1 : tk1 ws 0 xs = some own) (h2 : tk1 ws 1 wNo = none) : stepOf made n xs ws = .error 2 := by unfold stepOf; rw [h1, h2]
theorem so_3 (h1 : tk1 ws 0 xs = some own) (h2 : tk1 ws 1 wNo = some j) (h3 : tkT ws made n 2 = .error e) : stepOf made n xs ws = .error e := by unfold stepOf; rw [h1, h2, h3]
theorem so_4 (h1 : tk1 ws 0 xs = some own) (h2 : tk1 ws 1 wNo = some j) (h3 : tkT ws made n 2 = .ok no) (h4 : tk1 ws (2 + n) wYes = none) : stepOf made n xs ws = .error (2 + n + 1) := by unfold stepOf; rw [h1, h2, h3, h4]
theorem so_5 (h1 : tk1 ws 0 xs = some own) (h2 : tk1 ws 1 wNo = some j) (h3 : tkT ws made n 2 = .ok no) (h4 : tk1 ws (2 + n) wYes = some j2) (h5 : tkT ws made n (2 + n + 1) = .error e) : stepOf made n xs ws = .error e := by unfold stepOf; rw [h1, h2, h3, h4, h5]
theorem so_6 (h1 : tk1 ws 0 xs = some own) (h2 : tk1 ws 1 wNo = some j) (h3 : tkT ws made n 2 = .ok no) (h4 : tk1 ws (2 + n) wYes = some j2) (h5 : tkT ws made n (2 + n + 1) = .ok yes) :
    stepOf made n xs ws = if 2 + n + 1 + n < ws.length then .error (2 + n + 1 + n + 1) else .ok (own, no, yes) := by unfold stepOf; rw [h1, h2, h3, h4, h5]
end
def stT (s : StepT) : Str := ((((("x" : Str) ++ sN s.1) ++ (" no " : Str)) ++ spT s.2.1) ++ (" yes " : Str)) ++ spT s.2.2
def rowTx (ss : List StepT) : Str := Txt.join sNl (ss.map stT)
theorem xN_eq (i : Nat) : xN i = ("x" : Str) ++ sN i := by
  unfold xN
  rw [empty_app]
  rfl
section
variable {P : Program} {w : World} {K : PySem.W.Frag} {mg : Str → Option Value} {base : Heap} {C CB CS CL CM CN CR : Addr}
def spStep (C CB : Addr) : Sp := fun vs H Q E => ∃ (m na p dx wl : Addr) (L : List (List Nat × List Nat)) (n num : Nat) (xs ws : List Str), vs = [.ref m, nI n, .ref na, .ref p] ∧ DW H m L ∧ (L.map (·.1)).Nodup ∧ n ≤ 9 ∧ H na = some (.lst (xs.map V.str)) ∧ WlAt H C p dx wl num ws 0 ∧
  (∀ e, stepOf (L.map (·.1)) n xs ws = .error e → BadP p CB num e H E) ∧ ∀ st, stepOf (L.map (·.1)) n xs ws = .ok st → ∀ r H', StepR p H H' → StK H' r st → Q r H'
abbrev tsN : List Str := ["made", "size", "names", "line", "own", "no", "yes"]
theorem sc_told_step : FnScope tsN ["made", "size", "names", "line"] (defScope s_told_step) := ⟨rfl, rfl, rfl, by decide +kernel, rfl, by decide +kernel, by decide +kernel⟩
theorem has_told_step (T : Top K mg "told_step" s_told_step ["made", "size", "names", "line"]) (TW : WlT K mg C) (hT : HasM P w K mg base (L2.CX P w) 3 C "take" ["self", "wanted"] (spTake C CB)) (hU : HasM P w K mg base (L2.CX P w) 5 C "take_turn" ["self", "made", "size"] (spTurnW C CB))
    (hE : HasM P w K mg base (L2.CX P w) 3 C "end" ["self"] (spEnd C CB)) : Has P w K mg base (L2.CX P w) 6 "told_step" ["made", "size", "names", "line"] (spStep C CB) := by
  refine T.okX sc_told_step (fun vs H Q E h => ?_) (fun f cdv A outer s H vs Q E hr h => ?_)
  · obtain ⟨m, na, p, dx, wl, L, n, num, xs, ws, rfl, _⟩ := h
    rfl
  · obtain ⟨m, na, p, dx, wl, L, n, num, xs, ws, rfl, hw, hnd, hn, hna, W, qe, qg⟩ := h
    have hr3 : Room 3 _ := hr.mono (by decide)
    refine ⟨_, pss_cons (ps_set (i := 4) sc_told_step.nd rfl (Or.inl rfl) (pe_hasM (E := E) hT TW.cl hr3 (passes_call (takes_of rfl rfl rfl rfl) (fun _ _ _ _ h => h)) (pv 3) (pa_cons (pv 2) pa_nil)))
      (pss_cons (ps_expr (pe_hasM (E := E) hT TW.cl hr3 (passes_call (takes_of rfl rfl rfl rfl) (fun _ _ _ _ h => h)) (pv 3) (pa_cons (pe_lst (pa_cons pe_str pa_nil)) pa_nil)))
      (pss_cons (ps_set (i := 5) sc_told_step.nd rfl (Or.inl rfl) (pe_hasM (E := E) hU TW.cl hr (passes_call (takes_of rfl rfl rfl rfl) (fun _ _ _ _ h => h)) (pv 3) (pa_cons (pv 0) (pa_cons (pv 1) pa_nil))))
      (pss_cons (ps_expr (pe_hasM (E := E) hT TW.cl hr3 (passes_call (takes_of rfl rfl rfl rfl) (fun _ _ _ _ h => h)) (pv 3) (pa_cons (pe_lst (pa_cons pe_str pa_nil)) pa_nil)))
      (pss_cons (ps_set (i := 6) sc_told_step.nd rfl (Or.inl rfl) (pe_hasM (E := E) hU TW.cl hr (passes_call (takes_of rfl rfl rfl rfl) (fun _ _ _ _ h => h)) (pv 3) (pa_cons (pv 0) (pa_cons (pv 1) pa_nil))))
      (pss_cons (ps_expr (pe_hasM0 (E := E) hE TW.cl hr3 (passes_call (takes_of rfl rfl rfl rfl) (fun _ _ _ _ h => h)) (pv 3)))
      (pss_one (ps_ret (pe_tup (pa_cons (pv 4) (pa_cons (pv 5) (pa_cons (pv 6) pa_nil))))))))))), ?_⟩
    refine ⟨_, rfl, p, dx, _, rfl, W.ins, rfl, _, rfl, p, dx, wl, na, num, 0, ws, xs, rfl, W, hna, Nat.zero_le _, fun h1 => qe _ (so_1 h1), fun own h1 H1 st1 W1 => ?_⟩
    have hw1 := dw_step W st1 hw
    obtain ⟨_, _, _, _, l1⟩ := tk1_lt h1
    refine ⟨_, rfl, p, dx, _, rfl, W1.ins, rfl, Nat.le_of_ble_eq_true rfl, fun wa hwa => ?_⟩
    have s2 := same_new (o := .lst [V.str ("no" : Str)]) hwa
    have k2 : (upd H1 wa (.lst [V.str ("no" : Str)])) wa = some (.lst (wNo.map V.str)) := upd_same
    have W2 := W1.same s2
    have st2 := st1.trans (.of s2)
    have hw2 := hw1.same s2
    generalize upd H1 wa (.lst [V.str ("no" : Str)]) = H2 at *
    refine ⟨p, dx, wl, wa, num, 0 + 1, ws, wNo, rfl, W2, k2, by omega, fun h2 => (qe _ (so_2 h1 h2)).step st2, fun j h2 H3 st3 W3 => ?_⟩
    have st3' := st2.trans st3
    have hw3 := dw_step W2 st3 hw2
    obtain ⟨_, _, _, _, l2⟩ := tk1_lt h2
    refine ⟨_, rfl, p, dx, _, rfl, W3.ins, rfl, _, rfl, _, rfl, p, dx, wl, m, L, num, 2, n, ws, rfl, W3, hw3, hnd, l2, hn, fun e h3 => (qe _ (so_3 h1 h2 h3)).step st3', fun no h3 r1 H4 st4 W4 l3 kr1 => ?_⟩
    have st4' := st3'.trans st4
    have hw4 := dw_step W3 st4 hw3
    refine ⟨_, rfl, p, dx, _, rfl, W4.ins, rfl, Nat.le_of_ble_eq_true rfl, fun wb hwb => ?_⟩
    have s5 := same_new (o := .lst [V.str ("yes" : Str)]) hwb
    have k5 : (upd H4 wb (.lst [V.str ("yes" : Str)])) wb = some (.lst (wYes.map V.str)) := upd_same
    have W5 := W4.same s5
    have st5 := st4'.trans (.of s5)
    have hw5 := hw4.same s5
    have kr5 := kr1.tm (.of s5)
    generalize upd H4 wb (.lst [V.str ("yes" : Str)]) = H5 at *
    refine ⟨p, dx, wl, wb, num, 2 + n, ws, wYes, rfl, W5, k5, l3, fun h4 => (qe _ (so_4 h1 h2 h3 h4)).step st5, fun j2 h4 H6 st6 W6 => ?_⟩
    have st6' := st5.trans st6
    have hw6 := dw_step W5 st6 hw5
    have kr6 := kr5.tm (W5.tm st6)
    obtain ⟨_, _, _, _, l4⟩ := tk1_lt h4
    refine ⟨_, rfl, p, dx, _, rfl, W6.ins, rfl, _, rfl, _, rfl, p, dx, wl, m, L, num, 2 + n + 1, n, ws, rfl, W6, hw6, hnd, l4, hn, fun e h5 => (qe _ (so_5 h1 h2 h3 h4 h5)).step st6', fun yes h5 r2 H7 st7 W7 l5 kr2 => ?_⟩
    have st7' := st6'.trans st7
    have kr7 := kr6.tm (W6.tm st7)
    refine ⟨_, rfl, p, dx, _, rfl, W7.ins, rfl, p, dx, wl, num, 2 + n + 1 + n, ws, rfl, W7, fun hlt => (qe _ ((so_6 h1 h2 h3 h4 h5).trans (if_pos hlt))).step st7', fun hge => ?_⟩
    refine ⟨_, rfl, _, rfl, _, rfl, Nat.le_of_ble_eq_true rfl, fun tp htp => ?_⟩
    have s8 := same_new (o := .tup [nI own, r1, r2]) htp
    exact qg (own, no, yes) ((so_6 h1 h2 h3 h4 h5).trans (if_neg hge)) _ _ (st7'.trans (.of s8)) ⟨tp, r1, r2, rfl, upd_same, kr7.tm (.of s8), kr2.tm (.of s8)⟩
def spWriteRow : Sp := fun vs H Q _ => ∃ (v rv : V) (ls : List (List Nat)) (n k : Nat) (ss : List StepT), vs = [v, nI k, rv] ∧ Good H v ls n ∧ 1 ≤ k ∧ k ≤ 6 ∧ RwK H rv ss ∧ RowOk ls n k ss ∧ ss.length ≤ 1000 ∧ ∀ H', Same H H' → Q (.str (rowTx ss)) H'
abbrev wrN : List Str := ["lock", "inputs", "row", "made", "own", "no", "yes"]
theorem sc_write_row : FnScope wrN ["lock", "inputs", "row"] (defScope s_write_row) := ⟨rfl, rfl, rfl, by decide +kernel, rfl, by decide +kernel, by decide +kernel⟩
def tStp : TE := fun σ H Q => tJs [tC (.str "x"), tFmt (tVar 4), tC (.str " no "), tFmt (tCall spSpaced [] E0 (tCons (tVar 5) tNil)), tC (.str " yes "), tFmt (tCall spSpaced [] E0 (tCons (tVar 6) tNil))] Str.empty σ H fun out H1 => Q (.str out) H1
theorem has_write_row (T : Top K mg "write_row" s_write_row ["lock", "inputs", "row"]) (B : Bi mg) (hM : Has P w K mg base (L2.CX P w) 5 "made_words" ["lock"] (spMade CL CM)) (hI : Has P w K mg base (L2.CX P w) 3 "check_inputs" ["inputs"] (spCheckI CN)) (hR : Has P w K mg base (L2.CX P w) 5 "check_row" ["made", "inputs", "row"] (spCheckRow CR))
    (hS : Has P w K mg base CX0 1 "spaced" ["parts"] spSpaced) : Has P w K mg base (L2.CX P w) 6 "write_row" ["lock", "inputs", "row"] spWriteRow := by
  refine T.okX sc_write_row (fun vs H Q E h => ?_) (fun f cdv A outer s H vs Q E hr h => ?_)
  · obtain ⟨v, rv, ls, n, k, ss, rfl, _⟩ := h
    rfl
  · obtain ⟨v, rv, ls, n, k, ss, rfl, g, k1, k6, hrw, ok, hss, q⟩ := h
    have hr1 : Room 1 _ := hr.mono (by decide)
    have hr3 : Room 3 _ := hr.mono (by decide)
    refine ⟨_, pss_cons (ps_set (i := 3) sc_write_row.nd rfl (Or.inl rfl) (pe_hasX (E := E) hM hr (by rfl) (passes_call (takes_of rfl rfl rfl rfl) (fun _ _ _ _ h => h)) (pa_cons (pv 0) pa_nil)))
      (pss_cons (ps_expr (pe_hasX (E := E) hI hr3 (by rfl) (passes_call (takes_of rfl rfl rfl rfl) (fun _ _ _ _ h => h)) (pa_cons (pv 1) pa_nil)))
      (pss_cons (ps_expr (pe_hasX (E := E) hR hr (by rfl) (passes_call (takes_of rfl rfl rfl rfl) (fun _ _ _ _ h => h)) (pa_cons (pv 3) (pa_cons (pv 1) (pa_cons (pv 2) pa_nil)))))
      (pss_one (ps_ret (pe_join pe_str (pe_lc (own := [("own", 4), ("no", 5), ("yes", 6)]) (g := gTup K 3 (gCons (gName 4) (gCons (gName 5) (gCons (gName 6) gNil)))) (te := tStp) (by rfl) sc_write_row.nd (pi_tup (pv 2)) (blkOk_by (own := [("own", 4), ("no", 5), ("yes", 6)]) (N := wrN) (sc := defScope s_write_row) (by decide +kernel))
        (fun _ _ _ _ _ => pg_tup rfl (pgs_cons (pg_name (i := 4) sc_write_row.nd rfl (Or.inl rfl)) (pgs_cons (pg_name (i := 5) sc_write_row.nd rfl (Or.inl rfl)) (pgs_cons (pg_name (i := 6) sc_write_row.nd rfl (Or.inl rfl)) pgs_nil)))) (fun _ _ _ _ _ => pts_nil)
        (fun _ _ _ _ _ => pe_joined (.cons pe_str (.cons (pe_fmt (pv 4)) (.cons pe_str (.cons (pe_fmt (pe_has hS hr1 (by rfl) (pa_cons (pv 5) pa_nil))) (.cons pe_str (.cons (pe_fmt (pe_has hS hr1 (by rfl) (pa_cons (pv 6) pa_nil))) .nil))))))))))))), ?_⟩
    refine ⟨_, rfl, v, rfl, lockIn_good g.tt g.gl g.few (by omega) fun m H1 L s1 hm dw hL _ => ?_⟩
    have eL := g.wd hL
    subst eL
    refine ⟨_, rfl, nI k, .int k, rfl, .int _, .inl ⟨k, rfl, k1, k6, _, rfl, _, rfl, _, rfl, ?_⟩⟩
    dsimp only [tNil, List.cons_append, List.nil_append, List.append_nil]
    refine ⟨m, LL ls n, k, rv, ss.map dS, rfl, dw, (hrw.tm (.of s1)).rp, by rw [List.length_map]; exact ok.len, ok.sml g, .inl ⟨ok.step g, fun H2 s2 => ?_⟩⟩
    have s12 := s1.trans s2
    obtain ⟨a, xs, rfl, ha, px⟩ := hrw.tm (.of s12)
    have lx := Paired.length px
    obtain ⟨_, _, n2, n9, _⟩ := g.gl
    have t10 : ∀ t, Mk ls n t → t.length ≤ 9 ∧ ∀ x ∈ t, x < 10 := fun t ht => ⟨by rw [(g.isP ht).len]; exact n9, fun x hx => by have := (g.isP ht).lt x hx; omega⟩
    have l1 : ("x" : Str).length = 1 := by decide +kernel
    have l2 : (" no " : Str).length = 4 := by decide +kernel
    have l3 : (" yes " : Str).length = 5 := by decide +kernel
    have slen : ∀ s ∈ ss, (stT s).length ≤ 60 := fun s hs => by
      obtain ⟨o1, o2, o3⟩ := ok.ok s hs
      have a1 := spT_len (t10 _ o2).2
      have a2 := spT_len (t10 _ o3).2
      have a3 := sN_len s.1 (by omega)
      have := (t10 _ o2).1
      have := (t10 _ o3).1
      unfold stT
      rw [app_len, app_len, app_len, app_len, app_len, l1, l2, l3, a3]
      omega
    refine ⟨⟨_, rfl⟩, _, rfl, a, rfl, ⟨_, SqT.of ha⟩, fun D hD => lc_genF (J := Itt K a) (n := xs.length) RStr (fun _ => true) (fun i => stT (ss.getD i (0, [], []))) (fun _ _ _ _ _ r => r) (by omega) hD (fun i H3 hi s3 => ⟨xs, _, SqT.of (s3 _ _ ha), List.getElem?_eq_getElem hi⟩) (fun H3 s3 => ⟨xs, SqT.of (s3 _ _ ha), Nat.le_refl _⟩) (fun i H3 x' H4 hi s3 y => ?_) (fun H3 zs s3 hz pr => ?_)⟩
    · obtain ⟨rfl, hx'⟩ := y
      have hx' := hx' _ (SqT.of (s3 _ _ ha))
      obtain ⟨st, hst, tp, x1, x2, rfl, htp, kx1, kx2⟩ := Lt.Paired.getL px hx'
      rw [getD_of (d := ((0, [], []) : StepT)) (by omega)] at hst
      have hst := (Option.some.inj hst).symm
      have hmem : st ∈ ss := by
        rw [hst]
        exact List.mem_of_getElem? (getD_of (by omega))
      rw [← hst]
      obtain ⟨o1, o2, o3⟩ := ok.ok st hmem
      have a1 := spT_len (t10 _ o2).2
      have a2 := spT_len (t10 _ o3).2
      have a3 := sN_len st.1 (by omega)
      have b1 := (t10 _ o2).1
      have b2 := (t10 _ o3).1
      refine ⟨Same.refl _, _, fun Kk q => ⟨tp, _, rfl, SqT.of (s3 _ _ htp), rfl, _, _, rfl, _, _, rfl, _, _, rfl, rfl, q⟩, rfl, fun Q q => q _ (Same.refl _), fun hp H5 s5 Q q => ?_⟩
      have s35 := s3.trans s5
      refine ⟨("x" : Str), rfl, by rw [sizeLine_eq, empty_app, l1]; decide, _, rfl, .inr ⟨(st.1 : Int), rfl, log_small (by omega), _, rfl, by rw [sizeLine_eq, empty_app, app_len, l1]; show 1 + (sN st.1).length ≤ _; omega, ?_⟩⟩
      refine ⟨(" no " : Str), rfl, by rw [sizeLine_eq, empty_app, app_len, app_len, l1, l2]; show 1 + (sN st.1).length + 4 ≤ _; omega, _, rfl, x1, st.2.1, rfl, (kx1.tm (.of s35)).tn, by omega, (t10 _ o2).2, fun H6 s6 => .inl ⟨spT st.2.1, rfl, by rw [sizeLine_eq]; omega, _, rfl, by rw [sizeLine_eq, empty_app, app_len, app_len, app_len, l1, l2]; show 1 + (sN st.1).length + 4 + _ ≤ _; omega, ?_⟩⟩
      refine ⟨(" yes " : Str), rfl, by rw [sizeLine_eq, empty_app, app_len, app_len, app_len, app_len, l1, l2, l3]; show 1 + (sN st.1).length + 4 + _ + 5 ≤ _; omega, _, rfl, x2, st.2.2, rfl, (kx2.tm (.of (s35.trans s6))).tn, by omega, (t10 _ o3).2, fun H7 s7 => .inl ⟨spT st.2.2, rfl, by rw [sizeLine_eq]; omega, _, rfl, by rw [sizeLine_eq, empty_app, app_len, app_len, app_len, app_len, app_len, l1, l2, l3]; show 1 + (sN st.1).length + 4 + _ + 5 + _ ≤ _; omega, q _ H7 (s6.trans s7) ?_⟩⟩
      rw [empty_app]
      rfl
    · have e1 : ((List.range xs.length).filter fun _ => true).map (fun i => stT (ss.getD i (0, [], []))) = ss.map stT := by
        rw [List.filter_eq_self.mpr fun _ _ => rfl, lx]
        conv => rhs; rw [← getDd_range ((0, [], []) : StepT) ss, List.map_map]
        rfl
      rw [e1] at pr
      rw [RStr.all pr] at hz
      refine ⟨sNl, D, ss.map stT, rfl, rfl, .inl (SqL.of hz), ?_, q H3 (s12.trans s3)⟩
      rw [List.map_map, List.length_map]
      have e2 : sNl.length = 1 := by decide +kernel
      rw [e2]
      have := sum_le ((fun x : Str => x.length) ∘ stT) 60 (l := ss) slen
      omega
end
end Lt

set_option Elab.async false
set_option linter.all false
set_option maxRecDepth 100000
set_option maxHeartbeats 1000000
/-! locktexts.py: read_row -/
namespace Lt
open PySem PySem.Spec PyProof.Rows L2 LmX
/-- what is no object of a class stays -/
def KI (H1 H : Hp) : Prop := ∀ b o, H1 b = some o → (∀ C dx fs, o ≠ .ins C dx fs) → H b = some o
theorem KI.step {H1 H H' : Hp} {C p dx wl : Addr} {num i : Nat} {ws : List Str} (k : KI H1 H) (W : WlAt H C p dx wl num ws i) (st : StepR p H H') : KI H1 H' := fun b o e n => by
  have z := k b o e n
  refine st b o (fun q => ?_) z
  rw [q, W.ins] at z
  injection z with z
  exact n _ _ _ z.symm
theorem KI.far {H1 H : Hp} {D : Addr} {o : HO} (k : KI H1 H) (hD : H1 D = none) : KI H1 (upd H D o) := fun b o' e n => (upd_ne (ne_of_none e hD)).trans (k b o' e n)
theorem KI.tm {H1 H : Hp} (k : KI H1 H) : Tm H1 H := ⟨fun _ _ h => k _ _ h (fun _ _ _ z => nomatch z), fun _ _ _ h => k _ _ h (fun _ _ _ z => nomatch z)⟩
/-- lines that nothing was taken from -/
def LnP (C : Addr) (N : Addr → Addr → Prop) (H : Hp) (v : V) (b : Nat × List Str) : Prop := ∃ p dx wl, v = .ref p ∧ WlAt H C p dx wl b.1 b.2 0 ∧ N p wl
theorem lnp_step {C p dx wl : Addr} {num i : Nat} {ws : List Str} {N : Addr → Addr → Prop} {H H' : Hp} (W : WlAt H C p dx wl num ws i) (st : StepR p H H') : ∀ {zs : List V} {L : List (Nat × List Str)}, Paired (LnP C N H) zs L → (∀ b ∈ L, num ≠ b.1) → Paired (LnP C N H') zs L
  | _, _, .nil, _ => .nil
  | _, _, .cons ⟨q, dx2, wl2, e, W2, n⟩ t, hn => by
    refine .cons ⟨q, dx2, wl2, e, W2.other W (fun z => ?_) st, n⟩ (lnp_step W st t fun b hb => hn b (List.mem_cons_of_mem _ hb))
    subst z
    have z := W2.ins.symm.trans W.ins
    injection z with z
    injection z with _ _ z
    injection z with z _
    injection z with _ z
    injection z with z
    exact hn _ (List.mem_cons_self ..) (Int.ofNat.inj z).symm
theorem lnp_far {C a : Addr} {xs : List V} {o : HO} {N : Addr → Addr → Prop} {H : Hp} (ha : H a = some (.lst xs)) (hN : ∀ p wl, N p wl → wl ≠ a) {zs : List V} {L : List (Nat × List Str)} (p : Paired (LnP C N H) zs L) : Paired (LnP C N (upd H a o)) zs L :=
  paired_mono (fun _ _ ⟨q, dx2, wl2, e, W2, n⟩ => ⟨q, dx2, wl2, e, W2.far ha (hN _ _ n), n⟩) p
def appE (ss : List StepT) : Except (Nat × Nat) (List StepT) → Except (Nat × Nat) (List StepT)
  | .error e => .error e
  | .ok ts => .ok (ss ++ ts)
theorem stepsOf_bad {made : List (List Nat)} {n e : Nat} {xs : List Str} {b : Nat × List Str} {rest : List (Nat × List Str)} (h : stepOf made n xs b.2 = .error e) : stepsOf made n xs (b :: rest) = .error (b.1, e) := by
  rw [stepsOf, h]
theorem stepsOf_ok {made : List (List Nat)} {n : Nat} {xs : List Str} {b : Nat × List Str} {rest : List (Nat × List Str)} {s : StepT} (h : stepOf made n xs b.2 = .ok s) (ss : List StepT) : appE ss (stepsOf made n xs (b :: rest)) = appE (ss ++ [s]) (stepsOf made n xs rest) := by
  rw [stepsOf, h]
  show appE ss (match stepsOf made n xs rest with | .error e => .error e | .ok ss => .ok (s :: ss)) = _
  cases stepsOf made n xs rest with
  | error e => rfl
  | ok ts =>
    show Except.ok (ss ++ s :: ts) = Except.ok (ss ++ [s] ++ ts)
    rw [List.append_assoc]
    rfl
def rowOf (made : List (List Nat)) (n k : Nat) (x : Str) : Except (Nat × Nat) (List StepT) := stepsOf made n (nmL k) (numWs (linesIn x))
section
variable {P : Program} {w : World} {K : PySem.W.Frag} {mg : Str → Option Value} {base : Heap} {C CB CS CL CM CN : Addr}
def spReadRow (CB CS : Addr) : Sp := fun vs H Q E => ∃ (v tv : V) (ls : List (List Nat)) (n k : Nat), vs = [v, nI k, tv] ∧ Good H v ls n ∧ 1 ≤ k ∧ k ≤ 6 ∧
  TxIn CS H E tv fun x => x.length ≤ 5900 ∧ (∀ e, rowOf ((LL ls n).map (·.1)) n k x = .error e → BadF2 CB "line" (nI e.1) "place" (nI e.2) H E) ∧ ∀ ss, rowOf ((LL ls n).map (·.1)) n k x = .ok ss → ∀ r H', Same H H' → RwK H' r ss → Q r H'
abbrev rrN : List Str := ["lock", "inputs", "text", "made", "lines", "names", "own", "line"]
theorem sc_read_row : FnScope rrN ["lock", "inputs", "text"] (defScope s_read_row) := ⟨rfl, rfl, rfl, by decide +kernel, rfl, by decide +kernel, by decide +kernel⟩
theorem has_read_row (T : Top K mg "read_row" s_read_row ["lock", "inputs", "text"]) (B : Bi mg) (TW : WlT K mg C) (X1 : ErrI2 P w K mg base "BadLine" "line" "place" CB) (G : ∃ u, mg "MOST_STEPS" = some u ∧ RelV (.int 6000) u)
    (hM : Has P w K mg base (L2.CX P w) 5 "made_words" ["lock"] (spMade CL CM)) (hI : Has P w K mg base (L2.CX P w) 3 "check_inputs" ["inputs"] (spCheckI CN)) (hWd : Has P w K mg base (L2.CX P w) 3 "worded_lines" ["text"] (spWorded C CS))
    (hS : Has P w K mg base (L2.CX P w) 6 "told_step" ["made", "size", "names", "line"] (spStep C CB)) : Has P w K mg base (L2.CX P w) 7 "read_row" ["lock", "inputs", "text"] (spReadRow CB CS) := by
  refine T.okX sc_read_row (fun vs H Q E h => ?_) (fun f cdv A outer s H vs Q E hr h => ?_)
  · obtain ⟨v, tv, ls, n, k, rfl, _⟩ := h
    rfl
  · obtain ⟨v, tv, ls, n, k, rfl, g, k1, k6, d, hd, badS, good⟩ := h
    have hr2 : Room 2 _ := hr.mono (by decide)
    have hr3 : Room 3 _ := hr.mono (by decide)
    have hr5 : Room 5 _ := hr.mono (by decide)
    refine ⟨_, pss_cons (ps_set (i := 3) sc_read_row.nd rfl (Or.inr rfl) (pe_hasX (E := E) hM hr5 (by rfl) (passes_call (takes_of rfl rfl rfl rfl) (fun _ _ _ _ h => h)) (pa_cons (pv 0) pa_nil)))
      (pss_cons (ps_expr (pe_hasX (E := E) hI hr3 (by rfl) (passes_call (takes_of rfl rfl rfl rfl) (fun _ _ _ _ h => h)) (pa_cons (pv 1) pa_nil)))
      (pss_cons (ps_set (i := 4) sc_read_row.nd rfl (Or.inl rfl) (pe_hasX (E := E) hWd hr3 (by rfl) (passes_call (takes_of rfl rfl rfl rfl) (fun _ _ _ _ h => h)) (pa_cons (pv 2) pa_nil)))
      (pss_cons (ps_if (pt_cmpR op_gt (pe_callB call_len_seq (by rfl) B.len PySem.boot_len (pa_cons (pv 4) pa_nil)) (pe_gc2 (by rfl) G) (by rfl)) (pss_one (ps_raise rfl (takes_of rfl rfl rfl rfl) (pmk_errI2 X1 hr2 (by rfl) (pa_cons (pe_fld (pe_ix ix_list (pv 4) (pe_gc2 (by rfl) G) (fun _ _ => rfl)) rfl) (pa_cons pe_int pa_nil))))) pss_nil)
      (pss_cons (ps_set (i := 5) sc_read_row.nd rfl (Or.inr rfl) (pe_lc (own := [("own", 6)]) (g := gName 6) (te := tXn) (by rfl) sc_read_row.nd (pi_range1 (by rfl) B.range (pa_cons (pv 1) pa_nil)) (blkOk_by (own := [("own", 6)]) (N := rrN) (sc := defScope s_read_row) (by decide +kernel))
        (fun _ _ _ _ _ => pg_name (i := 6) sc_read_row.nd rfl (Or.inl rfl)) (fun _ _ _ _ _ => pts_nil) (fun _ _ _ _ _ => pe_joined (.cons pe_str (.cons (pe_fmt (pv 6)) .nil)))))
      (pss_one (ps_ret (pe_tupleOf (by rfl) B.tuple (pe_lcX (E := E) (own := [("line", 7)]) (g := gName 7) (te := tCall (spStep C CB) [] E (tCons (tVar 3) (tCons (tCB (fun xs H Q => ∃ p ys, xs = [.ref p] ∧ (SqL K H p ys ∨ SqT K H p ys) ∧ Q (.int ys.length) H) (tCons (tOp (rIxT K) (tVar 0) (tC (.int 0))) tNil)) (tCons (tVar 5) (tCons (tVar 7) tNil))))) rfl rfl rfl rfl (by rfl) sc_read_row.nd (pi_list (pv 4)) (blkOk_by (own := [("line", 7)]) (N := rrN) (sc := defScope s_read_row) (by decide +kernel))
        (fun _ _ _ _ _ => pg_name (i := 7) sc_read_row.nd rfl (Or.inl rfl)) (fun _ _ _ _ _ => pts_nil)
        (fun _ _ _ _ _ => pe_hasX (E := E) hS hr (by rfl) passes_blk (pa_cons (pv 3) (pa_cons (pe_callB call_len_seq (by rfl) B.len PySem.boot_len (pa_cons (pe_ix ix_tup (pv 0) pe_int (fun _ _ => rfl)) pa_nil)) (pa_cons (pv 5) (pa_cons (pv 7) pa_nil))))))))))))), ?_⟩
    refine ⟨_, rfl, v, rfl, lockIn_good g.tt g.gl g.few (by omega) fun m H1 L s1 hm dw hL _ => ?_⟩
    have eL := g.wd hL
    subst eL
    refine ⟨_, rfl, nI k, .int k, rfl, .int _, .inl ⟨k, rfl, k1, k6, ?_⟩⟩
    refine ⟨_, rfl, tv, d, rfl, Rp.same s1 _ _ hd, fun hs => (badS hs).same s1, fun x hx => ?_⟩
    obtain ⟨rfl, hxl, hx5, qe, qg⟩ := good x hx
    refine ⟨rfl, hxl, fun Dl H2 zs s2 hDl hz pz => ?_⟩
    have hNL : (numWs (linesIn x)).length ≤ 5901 := Nat.le_trans (numWs_len _) (Nat.le_trans (linesIn_len x) (by omega))
    have hnd := numWs_nd (linesIn x)
    have lz := Paired.length pz
    unfold rowOf at qe qg
    generalize numWs (linesIn x) = NL at *
    refine ⟨_, rfl, Dl, zs, rfl, .inl (SqL.of hz), (zs.length : Int), 6000, rfl, rfl, false, congrArg V.bl (decide_eq_false (by omega)), iteF ?_⟩
    refine ⟨_, rfl, (k : Int), rfl, by omega, by omega, fun na hna => lc_rangeM (n := (k : Int).toNat) RStr (nmL k) (fun _ _ _ _ _ r => r) (by omega) (by unfold nmL; rw [List.length_map, List.length_range, Int.toNat_natCast]) hna (fun x => rfl) (fun i z hi hz H' sm Q' q' => ?_) (fun H3 ns s3 hns pr => ?_)⟩
    · have hi6 : i < 6 := by omega
      have ez : z = xN i := by
        unfold nmL at hz
        rw [List.getElem?_map, List.getElem?_range (by omega)] at hz
        exact (Option.some.inj hz).symm
      obtain ⟨l1, l2⟩ := xN_len i hi6
      refine ⟨("x" : Str), rfl, by rw [sizeLine_eq]; exact l1, _, rfl, .inr ⟨((i : Nat) : Int), congrArg V.int (Int.zero_add _), log_small (by omega), _, rfl, by rw [sizeLine_eq]; exact l2, q' _ H' (Same.refl _) ?_⟩⟩
      rw [ez]
      rfl
    rw [RStr.all pr] at hns
    have s13 := s2.trans s3
    have s03 := s1.trans s13
    have dw3 := dw.same s13
    have hz3 := s3 _ _ hz
    have g3 := g.same s03
    have pz3 := lns_same s3 pz
    refine ⟨_, rfl, Dl, rfl, ⟨_, SqL.of hz3⟩, fun D hD => lc_list (K := K) (a := Dl) (xs := zs) (fun i H' => Same H H' ∧ KI H3 H' ∧ Paired (LnP C (fun p wl => H p = none ∧ wl ≠ D) H') (zs.drop i) (NL.drop i) ∧ ∃ acc ss, H' D = some (.lst acc) ∧ Paired (StK H') acc ss ∧ acc.length ≤ i ∧ stepsOf ((LL ls n).map (·.1)) n (nmL k) NL = appE ss (stepsOf ((LL ls n).map (·.1)) n (nmL k) (NL.drop i))) ⟨?_, ?_, ?_, [], [], upd_same, .nil, Nat.zero_le _, ?_⟩ (fun i H' _ h => SqL.of (h.2.1 _ _ hz3 (fun _ _ _ z => nomatch z))) (fun i xv H' hi h => ?_) (fun H' h => ?_)⟩
    · exact s03.trans (same_new hD)
    · exact fun b o e _ => (same_new hD) b o e
    · refine paired_mono (fun a b r => ?_) pz3
      obtain ⟨p, dx, wl, e, W, np, nw⟩ := r
      exact ⟨p, dx, wl, e, W.same (same_new hD), s1.free np, ne_of_none W.lst hD⟩
    · show stepsOf _ n (nmL k) NL = appE [] (stepsOf _ n (nmL k) NL)
      cases stepsOf ((LL ls n).map (·.1)) n (nmL k) NL <;> rfl
    · obtain ⟨s', ki, pl, acc, ss, hacc, pss, hal, hst⟩ := h
      have hil : i < zs.length := (List.getElem?_eq_some_iff.mp hi).1
      have hib : i < NL.length := by omega
      have dz : zs.drop i = xv :: zs.drop (i + 1) := by rw [List.drop_eq_getElem_cons hil, (List.getElem?_eq_some_iff.mp hi).2]
      have dn : NL.drop i = NL[i] :: NL.drop (i + 1) := List.drop_eq_getElem_cons hib
      have hfar : ∀ b ∈ NL.drop (i + 1), NL[i].1 ≠ b.1 := fun b hb => by
        have z : (NL.drop i).Pairwise fun a b => a.1 ≠ b.1 := hnd.sublist (List.drop_sublist i NL)
        rw [dn] at z
        exact (List.pairwise_cons.mp z).1 b hb
      rw [dz, dn] at pl
      rw [dn] at hst
      generalize NL[i] = b at *
      generalize NL.drop (i + 1) = rest at *
      generalize zs.drop (i + 1) = zr at *
      cases pl with
      | cons r t =>
      obtain ⟨p, dx, wl, rfl, W, np, nw⟩ := r
      obtain ⟨num, ws⟩ := b
      have tm := ki.tm
      have dw' := dw3.tm tm ((ki _ _ (id dw3).choose_spec.1 (fun _ _ _ z => nomatch z)).trans (id dw3).choose_spec.1.symm)
      have hna' := ki _ _ hns (fun _ _ _ z => nomatch z)
      obtain ⟨a, ys, c, rfl, ha, hp0, h0, t0, hbt, htl⟩ := (g.same s').tt.head g.gl
      have en : V.int ((nIs t0).length : Int) = nI n := by rw [nIs_len, htl]; rfl
      refine ⟨rfl, ?_⟩
      unfold tYes
      simp only [if_true]
      refine ⟨_, rfl, _, rfl, a, ys, 0, .ref c, rfl, rfl, SqT.of ha, h0, c, nIs t0, rfl, .inr hbt.sq, _, rfl, _, rfl, ?_⟩
      dsimp only [tNil, List.cons_append, List.nil_append, List.append_nil]
      rw [en]
      refine ⟨m, na, p, dx, wl, LL ls n, n, num, nmL k, ws, rfl, dw', LL_nd ls n, g.gl.2.2.2.1, hna', W, fun e he => badP_of (qe (num, e) (by rw [hst, stepsOf_bad (b := (num, ws)) he]; rfl)) s' np, fun st he r H4 st4 kr => ?_⟩
      have tm4 := W.tm st4
      have hacc4 := lst_step W st4 hacc
      refine ⟨acc, hacc4, by rw [sizeLine_eq]; omega, same_mut (same_step s' np st4) (s03.free hD), (ki.step W st4).far hD, lnp_far hacc4 (fun _ _ n => n.2) (lnp_step W st4 t hfar), acc ++ [r], ss ++ [st], upd_same, ?_, by rw [List.length_append]; show acc.length + 1 ≤ i + 1; omega, hst.trans (stepsOf_ok he ss)⟩
      have tm5 : Tm H4 (upd H4 D (.lst (acc ++ [r]))) := Tm.lst hacc4
      exact Paired.app (paired_mono (fun _ _ r => StK.tm (tm4.trans tm5) r) pss) (Paired.one (StK.tm tm5 kr))
    · obtain ⟨s', ki, pl, acc, ss, hacc, pss, hal, hst⟩ := h
      rw [List.drop_eq_nil_of_le (Nat.le_of_eq lz.symm)] at hst
      have hst : stepsOf ((LL ls n).map (·.1)) n (nmL k) NL = .ok (ss ++ []) := hst
      rw [List.append_nil] at hst
      refine .inl ⟨D, acc, rfl, SqL.of hacc, fun tp htp => qg ss hst _ _ (s'.trans (same_new htp)) ⟨tp, acc, rfl, upd_same, paired_mono (fun _ _ r => StK.tm (.of (same_new htp)) r) pss⟩⟩
end
end Lt

set_option Elab.async false
set_option linter.all false
set_option maxRecDepth 100000
set_option maxHeartbeats 2000000
/-! a lambda handed to a def, with defaults or not, among other arguments -/
namespace LmX
open PySem PySem.Spec PyProof.Rows L2 LamX NdefX
theorem cells_move {cl : List (Str × Addr)} {fr : List Str} {ws : List (Option V)} {h h' : Heap} {H H' : Hp} {fs : List Addr} (C : CellsAt cl fr ws h H) (un : Un fs [] H H' h h') : CellsAt cl fr ws h' H' := by
  have go : ∀ {c v}, H c = none → h.IsCell c v → h'.IsCell c v := fun {c v} n ⟨o, ho, hd⟩ => by
    obtain ⟨sl, q⟩ := un.any ho n (by simp)
    exact ⟨_, q, hd⟩
  refine ⟨C.len, fun y c e => ?_, C.inj, fun i y e => ?_⟩
  · obtain ⟨n, v, z⟩ := C.all y c e
    obtain ⟨o, ho, hd⟩ := id z
    exact ⟨un.free c o ho n (by simp), v, go n z⟩
  · obtain ⟨c, e1, q⟩ := C.has i y e
    refine ⟨c, e1, fun v hv => ?_⟩
    obtain ⟨u, r, z⟩ := q v hv
    exact ⟨u, r, go (C.all y c e1).1 z⟩
/-- a lambda's run, its captured cells as they stand -/
theorem lm_runC {X : Cx} {CX : CXT} {pins : List (Addr × Obj)} {s : Shared} {σ : L2.St} {H : Hp} {Q : VK} {E : XK} {k : Nat} {f : Addr} {F : NF} {e : Expr} {dV : Value} {N ps fr : List Str} {us : List Value} {vs : List V} {ws : List (Option V)} {tb : TE} (I : Inv X pins σ H s)
    (S : NScope N ps fr F.scope) (hf : H f = some (LmO f F e dV)) (hc : H F.c = some (CodeO F.c F.qual)) (hb : ∀ doc pm ctv, BindsTo s (lmFd F e dV doc pm ctv) ⟨[], []⟩ (ps.zip us)) (r : Vals vs us) (hl : vs.length = ps.length) (C : CellsAt F.cl fr ws s.heap H)
    (hr : Room (k + 1) X.A) (hx : PassesAt CX X σ E) (hbody : Room k (X.A.deeper (envF F f s.heap.objs.size)) → PE (ncx CX X.prog X.w X.K X.mg X.base N F f X.A X.stack s H E) e tb) (ht : tb (startF N vs ws) H Q) :
    PySem.W.FnAt f s.heap ∧ wpAny (model X.prog X.w) X.A (call (.ref f) []) (EP X pins σ Q) X.xe s := by
  obtain ⟨od, sl, doc, pm, ctv, ho⟩ := lmO_at I.hok hf
  refine ⟨⟨_, od, _, sl, ho⟩, ?_⟩
  have rc : codeAny (model X.prog X.w) X.A (.call (.ref f) ⟨[], []⟩) (CR CX X.stack X.prog X.w H s Q E) s := by
    refine PySem.W.kla_callFunE hr.depth ho rfl S.co S.gen rfl (codeO_at I.hok hc) (hb doc pm ctv _ _ _ _ ?_)
    refine wpAny_newFunctionEnv S.nocell (fun ⟨n, _⟩ hy => S.par n (List.of_mem_zip hy).1) (fun h₁ hns hsb => ⟨I.nolimit.fresh _ hsb, ?_⟩) S.kind
    show codeAny _ _ (.expr e (envF F f s.heap.objs.size)) _ _
    have kp : ∀ b o, s.heap.get? b = some o → h₁.get? b = some o := fun b o q => hsb.extBut b o (Nat.ne_of_lt (Heap.lt_size q)) (Heap.get?_push_of_some _ q)
    have J := inv_startN (CX := CX) (E := E) (f := f) (tk := s.toks + (ps.zip us).length) S hr.hd I.env0 hl r C hns kp
    refine PySem.W.kla_codeExpr (wpAny_mono ((hbody (hr.deeper _)).run [] _ _ H Q J ht) (fun v s' ⟨w', H', J', rv, q⟩ => ?_) fun e s' q => q)
    exact ⟨w', H', J'.os, J'.bare, J'.base, J'.hok, rv, q⟩
  refine wpAny_call (codeAny_mono rc fun o s' q => ?_)
  rcases o with e | fl
  · exact hx pins H s e s' I q
  · cases fl with
    | ret u => exact I.after q
    | next => exact q.elim
    | brk => exact q.elim
    | cont => exact q.elim
/-- x(a, ..), x a def to be proved at this very call: its arguments may be lambdas of the caller -/
theorem pe_fcall {X : Cx} {x : Str} {st : Stmt} {ps Ng : List Str} {k : Nat} {e : Expr} {es : List Expr} {ta : TA} {TT : List V → L2.St → Hp → VK → Prop} {p pos : Pos} (T : Lt.Top X.K X.mg x st ps) (Sg : FnScope Ng ps (defScope st)) (hr : Room (k + 1) X.A) (hg : Gl X x) (ha : PA X (e :: es) ta)
    (hG : ∀ (g : Addr) (cdg : Value) (pins : List (Addr × Obj)) (s : Shared) (σ : L2.St) (H : Hp) (vs : List V) (Q : VK), Inv X pins σ H s → Room k (X.A.deeper (envOfC x (defScope st) s.heap.objs.size g cdg)) → TT vs σ H Q →
      vs.length = ps.length ∧ ∃ t, PSs (cxOf C8.CX0 X.prog X.w X.K X.mg X.base Ng x (defScope st) g cdg X.A X.stack s H C8.E0).nox (defBody st) t ∧ t { nx := fun _ H' => Q .non H', rt := Q } (L2.start Ng vs) H)
    (hdb : (x == ("__debug__" : Str)) = false := by decide) (he : starEach (e :: es) X.env = (false, eval e X.env) :: starEach es X.env := by rfl) (hpl : (backTo pos (starEach es X.env)).any (·.1) = false := by rfl) :
    PE X (.Call (.Name x p) (e :: es) [] pos) (fun σ H Q => ta σ H fun vs H1 => TT vs σ H1 Q) := by
  obtain ⟨g, fd, hm, F, hb⟩ := T
  obtain ⟨oc, od, kV, doc, pm, an, cdv, ct, osl, rfl, lk, hcd⟩ := F.ex
  refine ⟨fun pins s σ H Q I h => ?_⟩
  refine wpAny_Call_Name_kw (ld_glob I hg hm ?_ hdb)
  refine PySem.W.callWith_K (h₀ := X.base) I.ok.mod.kin F.kp (thn (ha.run pos pins s σ H _ I h) fun us s1 ⟨vs, H1, I1, r, q⟩ => ⟨I1.kIn, ?_⟩) he hpl
  have hlen := (hG g cdv pins s1 σ H1 vs Q I1 (hr.deeper _) q).1
  have rc : codeAny (model X.prog X.w) X.A (.call (.ref g) ⟨us, []⟩) (CR C8.CX0 X.stack X.prog X.w H1 s1 Q C8.E0) s1 := by
    have hbb := hb s1 us I1.kIn (by rw [List.append_nil, ← r.length, hlen])
    rw [List.append_nil] at hbb
    refine run_ofS (N := Ng) (ps := ps) (us := us) (vs := vs) lk hcd Sg hr I1.env0 hbb r hlen fun hr' => ?_
    obtain ⟨_, t', ht', hq'⟩ := hG g cdv pins s1 σ H1 vs Q I1 hr' q
    exact ⟨t', ht'.nox, hq'⟩
  refine wpAny_call (codeAny_mono rc fun o s2 hq => ?_)
  cases o with
  | error e => exact (show False from hq).elim
  | ok fl =>
    cases fl with
    | ret u => exact I1.after hq
    | next => exact False.elim hq
    | brk => exact False.elim hq
    | cont => exact False.elim hq
end LmX

set_option Elab.async false
set_option linter.all false
set_option maxRecDepth 100000
set_option maxHeartbeats 2000000
/-! _law_said_session, with a lambda -/
namespace Lt
open PySem PySem.Spec PyProof.Rows L2 NdefX LamX LmX MaX
abbrev saidN : List Str := ["work", "e"]
theorem sc_law_said_session : FnScope saidN ["work"] (defScope s_law_said_session) := ⟨rfl, rfl, rfl, by decide +kernel, rfl, by decide +kernel, by decide +kernel⟩
def tsL (CB : Addr) (a : Addr) (cls : Value) (d : Option Addr) : TS := tRet (tTup (tCons (tXf a cls d CB "line" (tVar 1)) (tCons (tXf a cls d CB "place" (tVar 1)) tNil)))
def tsS (_ : Addr) (_ : Value) (_ : Option Addr) : TS := tRet (tC (.str "string"))
def clsW (CB CS : Addr) : List Cl := [(.ref CB, tsL CB), (.ref CS, tsS)]
/-- what the helper makes of an error -/
structure SaidK (CB CS : Addr) (Q : VK) (E : XK) : Prop where
  line : ∀ ln pl H, (∀ r H', Same H H' → TK H' r [ln, pl] → Q r H') → BadF2 CB "line" (nI ln) "place" (nI pl) H E
  str : ∀ H, (∀ H', Same H H' → Q (.str "string") H') → Bad0 CS H E
theorem saidK_of {K : PySem.W.Frag} {CB CS : Addr} {Q : VK} {D : Ends} {σ : L2.St} (hD : D.rt = Q) (hσ : ∀ a, (σ.set 1 (some (V.ref a)))[1]? = some (some (V.ref a))) (bb : PySem.W.exmOne K (.ref CB) (.ref CB) = some true) (sb : PySem.W.exmOne K (.ref CS) (.ref CB) = some false) (ss : PySem.W.exmOne K (.ref CS) (.ref CS) = some true) :
    SaidK CB CS Q (WE (wMA K 1 (fun _ _ _ _ => False) D (clsW CB CS)) σ) := by
  subst hD
  refine ⟨fun ln pl H q d H' s h => ⟨true, bb, fun _ a ha => ?_, fun z => (by cases z)⟩, fun H q H' s => ⟨false, sb, fun z => (by cases z), fun _ => ⟨true, ss, fun _ a ha => q H' s, fun z => (by cases z)⟩⟩⟩
  refine ⟨_, hσ a, rfl, rfl, d, _, nI ln, rfl, h, rfl, _, hσ a, rfl, rfl, d, _, nI pl, rfl, h, rfl, Nat.le_of_ble_eq_true rfl, fun tp htp => ?_⟩
  exact q _ _ (s.trans (same_new htp)) ⟨tp, rfl, upd_same⟩
/-- the helper's frame -/
abbrev saidX (X : Cx) (g : Addr) (cdg : Value) (s : Shared) (H : Hp) : Cx := (cxOf C8.CX0 X.prog X.w X.K X.mg X.base saidN "_law_said_session" (defScope s_law_said_session) g cdg X.A X.stack s H C8.E0).nox
section
variable {X : Cx} {CB CS : Addr}
theorem pe_said {le : Expr} {tl : TE} {p pos : Pos} {k : Nat} (T : Lt.Top X.K X.mg "_law_said_session" s_law_said_session ["work"]) (eB : ErrI2 X.prog X.w X.K X.mg X.base "BadLine" "line" "place" CB) (eS : Err0 X.K X.mg "BadString" CS) (ne : PySem.W.exmOne X.K (.ref CS) (.ref CB) = some false)
    (Rn : L2.St → XK → Addr → Hp → VK → Prop) (hr : Room (k + 1) X.A) (hg : Gl X "_law_said_session") (hl : PE X le tl)
    (hrun : ∀ (pins : List (Addr × Obj)) (s : Shared) (σ : L2.St) (H : Hp), Inv X pins σ H s → ∀ (g : Addr) (cdg : Value) (pn : List (Addr × Obj)) (xe : Value → Shared → Prop) (W : WX), Room k (saidX X g cdg s H).A → Takes ((saidX X g cdg s H).tr pn xe) W → ∀ (f : Addr) (pins2 : List (Addr × Obj)) (s2 : Shared) (σ2 : L2.St) (H2 : Hp) (Q2 : VK),
      Inv ((saidX X g cdg s H).tr pn xe) pins2 σ2 H2 s2 → Rn σ (WE W σ2) f H2 Q2 → PySem.W.FnAt f s2.heap ∧ wpAny (model X.prog X.w) (saidX X g cdg s H).A (call (.ref f) []) (EP ((saidX X g cdg s H).tr pn xe) pins2 σ2 Q2) xe s2)
    (he : starEach (le :: []) X.env = (false, eval le X.env) :: starEach [] X.env := by rfl) (hpl : (backTo pos (starEach [] X.env)).any (·.1) = false := by rfl) :
    PE X (.Call (.Name "_law_said_session" p) [le] [] pos) (fun σ H Q => tl σ H fun v H1 => ∃ f, [v] = [V.ref f] ∧ ∀ E, SaidK CB CS Q E → Rn σ E f H1 fun _ H' => Q .non H') := by
  refine pe_fcall (X := X) (TT := fun vs σ H Q => ∃ f, vs = [V.ref f] ∧ ∀ E, SaidK CB CS Q E → Rn σ E f H fun _ H' => Q .non H') (e := le) (es := []) (p := p) (pos := pos) T sc_law_said_session hr hg (pa_cons hl pa_nil he) (fun g cdg pins s σ H vs Q I hr2 tt => ?_) (by decide) he hpl
  · obtain ⟨f, rfl, h⟩ := tt
    refine ⟨rfl, _, pss_cons (ps_try_asM (n := "e") (i := 1) (l := clsW CB CS) (tb := fun W => tDrop (fun σ2 H2 Q2 => ∃ f, σ2[0]? = some (some (.ref f)) ∧ Rn σ (WE W σ2) f H2 Q2)) (Wo := fun _ _ _ _ => False) rfl rfl sc_law_said_session.nd rfl rfl L2.takes0
        (fun W pn xe tk _ => pss_one (ps_expr (pe_ap0 (fun f2 pins2 s2 σ2 H2 Q2 I2 h2 => hrun pins s σ H I g cdg pn xe W hr2 tk f2 pins2 s2 σ2 H2 Q2 I2 h2) rfl (Or.inl rfl))))
        (.cons ⟨rfl, by decide, Or.inl eB.g⟩ (fun a oe cls d pn hz hf => pss_one (ps_ret (by exact (pe_tup (pa_cons (pe_xf eB.xf eB.no1 hz hf (pv 1)) (pa_cons (pe_xf eB.xf eB.no2 hz hf (pv 1)) pa_nil))))))
        (.cons ⟨rfl, by decide, Or.inl eS.g⟩ (fun a oe cls d pn hz hf => pss_one (ps_ret pe_str)) .nil)))
      (pss_one (ps_ret pe_non)), ?_⟩
    exact ⟨f, rfl, h _ (saidK_of rfl (fun a => rfl) eB.exm ne eS.exm)⟩
abbrev LmA (cells : List (Str × Addr)) (lm : Expr) (dV : Value) (c' f : Addr) : HO := LmO f (lmF q_lam (lamP lm) (lamS lm) cells c') (lamB lm) dV
/-- a lambda without defaults, of a frame whose slots are σ -/
def Rn0 (cells : List (Str × Addr)) (lm : Expr) (N : List Str) (js : List Nat) (tb : XK → TE) : L2.St → XK → Addr → Hp → VK → Prop := fun σ E f H Q => ∃ c', H f = some (LmA cells lm .none c' f) ∧ H c' = some (CodeO c' q_lam) ∧ tb E (startF N [] (js.map (slotAt σ))) H Q
/-- .. with the default 0 -/
def Rn1 (cells : List (Str × Addr)) (lm : Expr) (N : List Str) (js : List Nat) (tb : XK → TE) : L2.St → XK → Addr → Hp → VK → Prop := fun σ E f H Q => ∃ c' p, H f = some (LmA cells lm (.ref p) c' f) ∧ H p = some (.tup [V.int 0]) ∧ H c' = some (CodeO c' q_lam) ∧ tb E (startF N [V.int 0] (js.map (slotAt σ))) H Q
theorem run0 {lm : Expr} {N fr : List Str} {js : List Nat} {tb : XK → TE} {k : Nat} (S : NScope N [] fr (lamS lm)) (lb : ndefB X.env.scope (lamS lm) fr = true) (hjs : js.map (fun j => X.N[j]?) = fr.map some) (hnd : ∀ c' doc pm ctv s, BindsTo s (lmFd (lmF q_lam (lamP lm) (lamS lm) X.env.cells c') (lamB lm) .none doc pm ctv) ⟨[], []⟩ [])
    (hbody : ∀ (c' : Addr) (A : Around) (st : List Env) (f : Addr) (s : Shared) (H : Hp) (E : XK), Room k (A.deeper (envF (lmF q_lam (lamP lm) (lamS lm) X.env.cells c') f s.heap.objs.size)) → PE (ncx (L2.CX X.prog X.w) X.prog X.w X.K X.mg X.base N (lmF q_lam (lamP lm) (lamS lm) X.env.cells c') f A st s H E) (lamB lm) (tb E))
    (pins : List (Addr × Obj)) (s : Shared) (σ : L2.St) (H : Hp) (I : Inv X pins σ H s) (g : Addr) (cdg : Value) (pn : List (Addr × Obj)) (xe : Value → Shared → Prop) (W : WX) (hr : Room (k + 1) (saidX X g cdg s H).A) (tk : Takes ((saidX X g cdg s H).tr pn xe) W) (f : Addr) (pins2 : List (Addr × Obj)) (s2 : Shared) (σ2 : L2.St) (H2 : Hp) (Q2 : VK)
    (I2 : Inv ((saidX X g cdg s H).tr pn xe) pins2 σ2 H2 s2) (h : Rn0 X.env.cells lm N js tb σ (WE W σ2) f H2 Q2) : PySem.W.FnAt f s2.heap ∧ wpAny (model X.prog X.w) (saidX X g cdg s H).A (call (.ref f) []) (EP ((saidX X g cdg s H).tr pn xe) pins2 σ2 Q2) xe s2 := by
  obtain ⟨c', h1, h2, h3⟩ := h
  have C := cells_of I (Caps.made (scope := lamS lm) (fr := fr) (js := js) I.ok (ndef_free lb) (ndef_fr lb) hjs)
  exact lm_runC (X := (saidX X g cdg s H).tr pn xe) (k := k) (us := []) (ps := []) (ws := js.map (slotAt σ)) I2 S h1 h2 (fun doc pm ctv => hnd _ doc pm ctv s2) .nil rfl (cells_move C I2.base) hr (passAt tk σ2) (fun hr2 => hbody _ _ _ _ _ _ _ hr2) h3
theorem run1 {lm : Expr} {x : Str} {N fr : List Str} {js : List Nat} {tb : XK → TE} {k : Nat} (S : NScope N [x] fr (lamS lm)) (lb : ndefB X.env.scope (lamS lm) fr = true) (hjs : js.map (fun j => X.N[j]?) = fr.map some)
    (hnd : ∀ c' doc pm ctv s p u o n, s.heap.get? p = some o → o.data = .seq #[u] n → BindsTo s (lmFd (lmF q_lam (lamP lm) (lamS lm) X.env.cells c') (lamB lm) (.ref p) doc pm ctv) ⟨[], []⟩ [(x, u)])
    (hbody : ∀ (c' : Addr) (A : Around) (st : List Env) (f : Addr) (s : Shared) (H : Hp) (E : XK), Room k (A.deeper (envF (lmF q_lam (lamP lm) (lamS lm) X.env.cells c') f s.heap.objs.size)) → PE (ncx (L2.CX X.prog X.w) X.prog X.w X.K X.mg X.base N (lmF q_lam (lamP lm) (lamS lm) X.env.cells c') f A st s H E) (lamB lm) (tb E))
    (pins : List (Addr × Obj)) (s : Shared) (σ : L2.St) (H : Hp) (I : Inv X pins σ H s) (g : Addr) (cdg : Value) (pn : List (Addr × Obj)) (xe : Value → Shared → Prop) (W : WX) (hr : Room (k + 1) (saidX X g cdg s H).A) (tk : Takes ((saidX X g cdg s H).tr pn xe) W) (f : Addr) (pins2 : List (Addr × Obj)) (s2 : Shared) (σ2 : L2.St) (H2 : Hp) (Q2 : VK)
    (I2 : Inv ((saidX X g cdg s H).tr pn xe) pins2 σ2 H2 s2) (h : Rn1 X.env.cells lm N js tb σ (WE W σ2) f H2 Q2) : PySem.W.FnAt f s2.heap ∧ wpAny (model X.prog X.w) (saidX X g cdg s H).A (call (.ref f) []) (EP ((saidX X g cdg s H).tr pn xe) pins2 σ2 Q2) xe s2 := by
  obtain ⟨c', p, h1, hp, h2, h3⟩ := h
  have C := cells_of I (Caps.made (scope := lamS lm) (fr := fr) (js := js) I.ok (ndef_free lb) (ndef_fr lb) hjs)
  obtain ⟨u, o, n, r, ho, hd⟩ := dflt_of I2 hp
  exact lm_runC (X := (saidX X g cdg s H).tr pn xe) (k := k) (us := [u]) (ps := [x]) (ws := js.map (slotAt σ)) I2 S h1 h2 (fun doc pm ctv => hnd _ doc pm ctv s2 p u o n ho hd) (.cons r .nil) rfl (cells_move C I2.base) hr (passAt tk σ2) (fun hr2 => hbody _ _ _ _ _ _ _ hr2) h3
end
end Lt

set_option Elab.async false
set_option linter.all false
set_option maxRecDepth 100000
set_option maxHeartbeats 1000000
/-! texts and their words -/
namespace Lt
open PySem PySem.Spec PyProof.Rows L2
open TL (tl spl joinL pre)
theorem e32 : tl sSp = [32] := by decide +kernel
theorem e10 : tl sNl = [10] := by decide +kernel
theorem pre_one {s c : Nat} (r : List Nat) : pre [s] (c :: r) = true ↔ c = s := by
  show (([c] : List Nat) == [s]) = true ↔ _
  rw [beq_iff_eq]
  exact ⟨fun h => by injection h, fun h => by rw [h]⟩
theorem spl_free {s : Nat} : ∀ (l : List Nat) (acc p : List Nat), s ∉ acc → p ∈ spl [s] 0 acc l → s ∉ p
  | [], acc, p, ha, h => by
    rw [TL.spl_nil, List.mem_singleton] at h
    rw [h]
    exact ha
  | c :: r, acc, p, ha, h => by
    have h : p ∈ (if pre [s] (c :: r) = true then acc :: spl [s] 0 [] r else spl [s] 0 (acc ++ [c]) r) := h
    split at h
    · rcases List.mem_cons.mp h with e | h
      · rw [e]
        exact ha
      · exact spl_free r _ _ (List.not_mem_nil) h
    · rename_i hc
      refine spl_free r _ _ (fun z => ?_) h
      rcases List.mem_append.mp z with z | z
      · exact ha z
      · rw [List.mem_singleton] at z
        exact hc ((pre_one r).mpr z.symm)
theorem spl_sub {c : Nat} (S : List Nat) : ∀ (l : List Nat) (k : Nat) (acc p : List Nat), c ∉ acc → c ∉ l → p ∈ spl S k acc l → c ∉ p
  | [], k, acc, p, ha, hl, h => by
    rw [TL.spl_nil, List.mem_singleton] at h
    rw [h]
    exact ha
  | d :: r, 0, acc, p, ha, hl, h => by
    have h : p ∈ (if pre S (d :: r) = true then acc :: spl S (S.length - 1) [] r else spl S 0 (acc ++ [d]) r) := h
    have hr : c ∉ r := fun z => hl (List.mem_cons_of_mem _ z)
    split at h
    · rcases List.mem_cons.mp h with e | h
      · rw [e]
        exact ha
      · exact spl_sub S r _ _ _ (List.not_mem_nil) hr h
    · refine spl_sub S r _ _ _ (fun z => ?_) hr h
      rcases List.mem_append.mp z with z | z
      · exact ha z
      · rw [List.mem_singleton] at z
        exact hl (z ▸ List.mem_cons_self)
  | d :: r, k + 1, acc, p, ha, hl, h => spl_sub S r k acc p ha (fun z => hl (List.mem_cons_of_mem _ z)) h
theorem spl_sum (S : List Nat) : ∀ (l : List Nat) (k : Nat) (acc : List Nat), ((spl S k acc l).map (·.length)).sum ≤ acc.length + l.length
  | [], k, acc => by
    rw [TL.spl_nil]
    exact Nat.le_refl _
  | d :: r, 0, acc => by
    show ((if pre S (d :: r) = true then acc :: spl S (S.length - 1) [] r else spl S 0 (acc ++ [d]) r).map (·.length)).sum ≤ acc.length + (r.length + 1)
    split
    · have := spl_sum S r (S.length - 1) []
      rw [List.map_cons, List.sum_cons]
      rw [List.length_nil] at this
      omega
    · have := spl_sum S r 0 (acc ++ [d])
      rw [List.length_append] at this
      have e : [d].length = 1 := rfl
      omega
  | d :: r, k + 1, acc => by
    have := spl_sum S r k acc
    show ((spl S k acc r).map (·.length)).sum ≤ acc.length + (r.length + 1)
    omega
theorem splS_tl (x y : Str) : (splS x y).map tl = spl (tl y) 0 [] (tl x) := by
  unfold splS
  rw [List.map_map]
  exact List.map_id _
theorem splS_sp {x z : Str} (h : z ∈ splS x sSp) : 32 ∉ tl z := by
  have m : tl z ∈ spl [32] 0 [] (tl x) := by
    rw [← e32, ← splS_tl]
    exact List.mem_map.mpr ⟨z, h, rfl⟩
  exact spl_free _ _ _ (List.not_mem_nil) m
theorem splS_nl {x z : Str} (h : z ∈ splS x sNl) : 10 ∉ tl z := by
  have m : tl z ∈ spl [10] 0 [] (tl x) := by
    rw [← e10, ← splS_tl]
    exact List.mem_map.mpr ⟨z, h, rfl⟩
  exact spl_free _ _ _ (List.not_mem_nil) m
theorem splS_sub {c : Nat} {x y z : Str} (hc : c ∉ tl x) (h : z ∈ splS x y) : c ∉ tl z := by
  have m : tl z ∈ spl (tl y) 0 [] (tl x) := by
    rw [← splS_tl]
    exact List.mem_map.mpr ⟨z, h, rfl⟩
  exact spl_sub _ _ _ _ _ (List.not_mem_nil) hc m
theorem splS_sum (x y : Str) : ((splS x y).map (·.length)).sum ≤ x.length := by
  have := spl_sum (tl y) (tl x) 0 []
  rw [← splS_tl, List.map_map, List.length_nil, Nat.zero_add, ← TL.len_tl] at this
  refine Nat.le_trans (Nat.le_of_eq ?_) this
  congr 1
theorem spl_ne (S : List Nat) : ∀ (l : List Nat) (k : Nat) (acc : List Nat), spl S k acc l ≠ []
  | [], k, acc => by
    rw [TL.spl_nil]
    exact fun z => nomatch z
  | d :: r, 0, acc => by
    show (if pre S (d :: r) = true then acc :: spl S (S.length - 1) [] r else spl S 0 (acc ++ [d]) r) ≠ []
    split
    · exact fun z => nomatch z
    · exact spl_ne S r 0 _
  | d :: r, k + 1, acc => spl_ne S r k acc
theorem splS_ne (x y : Str) : splS x y ≠ [] := fun z => spl_ne (tl y) (tl x) 0 [] (by rw [← splS_tl, z]; rfl)
theorem joinS_sp {ps : List Str} (hn : ps ≠ []) (h : ∀ p ∈ ps, 32 ∉ tl p) : splS (Txt.join sSp ps) sSp = ps := by
  rw [← split_sp]
  exact TL.split_join e32 (by decide +kernel) hn h
theorem joinS_nl {ps : List Str} (hn : ps ≠ []) (h : ∀ p ∈ ps, 10 ∉ tl p) : splS (Txt.join sNl ps) sNl = ps := by
  rw [← split_nl]
  exact TL.split_join e10 (by decide +kernel) hn h
/-! ### words -/
def neW (p : List Nat) : Bool := (p.length : Int) != 0
def wd (l : List Nat) : List (List Nat) := (spl [32] 0 [] l).filter neW
theorem wordsIn_wd (x : Str) : (wordsIn x).map tl = wd (tl x) := by
  unfold wordsIn wd
  rw [← e32, ← splS_tl, List.filter_map]
  congr 1
theorem words_eq {x y : Str} (h : wd (tl x) = wd (tl y)) : wordsIn x = wordsIn y := TL.map_tl_inj (by rw [wordsIn_wd, wordsIn_wd, h])
theorem wd_any {w : List Nat} (r : List Nat) (h : 32 ∉ w) : wd (w ++ 32 :: r) = [w].filter neW ++ wd r := by
  unfold wd
  have e := TL.spl_part1 (s := 32) (S := []) (p := w) (rest := r) (acc := []) h
  rw [show w ++ 32 :: r = w ++ ([32] ++ r) from rfl, e, List.nil_append]
  show (([w] ++ spl [32] 0 [] r).filter neW) = _
  rw [List.filter_append]
theorem wd_last {w : List Nat} (h : 32 ∉ w) : wd w = [w].filter neW := by
  unfold wd
  rw [TL.spl_last1 h, List.nil_append]
theorem wd_nil : wd [] = [] := rfl
theorem wd_sp (r : List Nat) : wd (32 :: r) = wd r := wd_any (w := []) r (List.not_mem_nil)
theorem wd_sps (r : List Nat) : ∀ k, wd (List.replicate k 32 ++ r) = wd r
  | 0 => rfl
  | k + 1 => by
    rw [List.replicate_succ, List.cons_append, wd_sp]
    exact wd_sps r k
theorem filter_cons_app (p : List Nat) (L : List (List Nat)) : (p :: L).filter neW = [p].filter neW ++ L.filter neW := by
  rw [show p :: L = [p] ++ L from rfl, List.filter_append]
theorem wd_loose : ∀ {ps : List (List Nat)}, (∀ p ∈ ps, 32 ∉ p) → wd (joinL [32, 32, 32] ps ++ [32]) = ps.filter neW
  | [], _ => wd_sp []
  | [p], h => by
    show wd (p ++ 32 :: []) = _
    rw [wd_any [] (h p (List.mem_cons_self ..)), wd_nil, List.append_nil]
  | p :: q :: r, h => by
    show wd ((p ++ ([32, 32, 32] ++ joinL [32, 32, 32] (q :: r))) ++ [32]) = _
    rw [List.append_assoc, show [32, 32, 32] ++ joinL [32, 32, 32] (q :: r) ++ [32] = 32 :: (32 :: 32 :: (joinL [32, 32, 32] (q :: r) ++ [32])) from rfl, wd_any _ (h p (List.mem_cons_self ..)), wd_sp, wd_sp, wd_loose fun z hz => h z (List.mem_cons_of_mem _ hz)]
    exact (filter_cons_app p (q :: r)).symm
theorem wd_join : ∀ {ps : List (List Nat)}, (∀ p ∈ ps, 32 ∉ p) → wd (joinL [32] ps) = ps.filter neW
  | [], _ => wd_nil
  | [p], h => wd_last (h p (List.mem_cons_self ..))
  | p :: q :: r, h => by
    show wd (p ++ ([32] ++ joinL [32] (q :: r))) = _
    rw [show p ++ ([32] ++ joinL [32] (q :: r)) = p ++ 32 :: joinL [32] (q :: r) from rfl, wd_any _ (h p (List.mem_cons_self ..)), wd_join fun z hz => h z (List.mem_cons_of_mem _ hz)]
    exact (filter_cons_app p (q :: r)).symm
/-- words, no sign of which parts them -/
def Wo (w : Str) : Prop := tl w ≠ [] ∧ 32 ∉ tl w ∧ 10 ∉ tl w
theorem Wo.ne {w : Str} (h : Wo w) : neW (tl w) = true := by
  show (((tl w).length : Int) != 0) = true
  have := h.1
  cases e : tl w with
  | nil => exact absurd e this
  | cons a l =>
    refine bne_iff_ne.mpr ?_
    rw [List.length_cons]
    omega
theorem wordsIn_join {ws : List Str} (h : ∀ w ∈ ws, Wo w) : wordsIn (Txt.join sSp ws) = ws := by
  refine TL.map_tl_inj ?_
  rw [wordsIn_wd, TL.join_eq, TL.tl_join, e32, wd_join fun p hp => ?_]
  · refine List.filter_eq_self.mpr fun p hp => ?_
    obtain ⟨w, hw, rfl⟩ := List.mem_map.mp hp
    exact (h w hw).ne
  · obtain ⟨w, hw, rfl⟩ := List.mem_map.mp hp
    exact (h w hw).2.1
theorem mem_joinL {c : Nat} {S : List Nat} : ∀ {L : List (List Nat)}, c ∈ joinL S L → c ∈ S ∨ ∃ p ∈ L, c ∈ p
  | [], h => nomatch h
  | [p], h => .inr ⟨p, List.mem_cons_self .., h⟩
  | p :: q :: r, h => by
    have h : c ∈ p ++ (S ++ joinL S (q :: r)) := h
    rcases List.mem_append.mp h with h | h
    · exact .inr ⟨p, List.mem_cons_self .., h⟩
    · rcases List.mem_append.mp h with h | h
      · exact .inl h
      · rcases mem_joinL h with h | ⟨z, hz, h⟩
        · exact .inl h
        · exact .inr ⟨z, List.mem_cons_of_mem _ hz, h⟩
theorem join_free {c : Nat} {y : Str} {xs : List Str} (hy : c ∉ tl y) (h : ∀ x ∈ xs, c ∉ tl x) : c ∉ tl (Txt.join y xs) := fun z => by
  rw [TL.join_eq, TL.tl_join] at z
  rcases mem_joinL z with z | ⟨p, hp, z⟩
  · exact hy z
  · obtain ⟨x, hx, rfl⟩ := List.mem_map.mp hp
    exact h x hx z
abbrev s3 : Str := "   "
theorem mul_tl (n : Nat) : tl (Txt.mul sSp (n : Int)) = List.replicate n 32 := by
  have e : sSp = ⟨#[32]⟩ := by decide +kernel
  rw [e]
  exact mul_one_list 32 (n : Int)
/-- a line with more spaces -/
def looseL (k : Nat) (l : Str) : Str := (Txt.mul sSp (k : Int) ++ Txt.join s3 (splS l sSp)) ++ sSp
theorem looseL_words (k : Nat) (l : Str) : wordsIn (looseL k l) = wordsIn l := by
  refine words_eq ?_
  unfold looseL
  rw [TL.tl_append, TL.tl_append, mul_tl, e32, List.append_assoc, wd_sps, TL.join_eq, TL.tl_join, splS_tl, e32, show tl s3 = [32, 32, 32] by decide +kernel, wd_loose fun p hp => spl_free _ _ _ (List.not_mem_nil) hp]
  rfl
theorem looseL_free {k : Nat} {l : Str} (h : 10 ∉ tl l) : 10 ∉ tl (looseL k l) := fun z => by
  unfold looseL at z
  rw [TL.tl_append, TL.tl_append, mul_tl, e32] at z
  rcases List.mem_append.mp z with z | z
  · rcases List.mem_append.mp z with z | z
    · have := (List.mem_replicate.mp z).2
      omega
    · exact join_free (by decide +kernel) (fun x hx => splS_sub h hx) z
  · exact absurd z (by decide)
theorem looseL_len {k : Nat} {l : Str} (h : k ≤ 2) : (looseL k l).length ≤ 4 * l.length + 6 := by
  unfold looseL
  rw [app_len, app_len, TL.len_tl (Txt.mul sSp (k : Int)), mul_tl, List.length_replicate]
  have h1 := joinS_len s3 (splS l sSp)
  have h2 := splS_sum l sSp
  have h3 := splS_len l sSp
  have e1 : s3.length = 3 := by decide +kernel
  have e2 : sSp.length = 1 := by decide +kernel
  rw [e1] at h1
  rw [e2]
  omega
theorem void_words (k : Nat) : wordsIn (Txt.mul sSp (k : Int)) = [] := by
  refine TL.map_tl_inj ?_
  rw [wordsIn_wd, mul_tl, ← List.append_nil (List.replicate k 32), wd_sps]
  rfl
theorem void_free (k : Nat) : 10 ∉ tl (Txt.mul sSp (k : Int)) := fun z => by
  rw [mul_tl] at z
  have := (List.mem_replicate.mp z).2
  omega
theorem void_len (k : Nat) : (Txt.mul sSp (k : Int)).length = k := by rw [TL.len_tl, mul_tl, List.length_replicate]
theorem mulOk_s2 : ∀ n : Nat, n ≤ 2 → MulOk sSp (n : Int) := by
  intro n h
  have : n = 0 ∨ n = 1 ∨ n = 2 := by omega
  rcases this with rfl | rfl | rfl <;> (unfold MulOk; decide +kernel)
theorem op_mulStr {X : Cx} : OpR X (binaryOp .Mult) (fun x y H Q => ∃ a n, x = .str a ∧ y = .int n ∧ MulOk a n ∧ Q (.str (Txt.mul a n)) H) := by
  intro pins s σ H x y v u Q I rx ry h
  obtain ⟨a, n, rfl, rfl, hok, q⟩ := h
  obtain ⟨t, rfl⟩ := rx
  obtain ⟨t', rfl⟩ := ry
  exact SB.mul hok (fun t' k => ⟨.str _, H, I.tok _, ⟨_, rfl⟩, q⟩)
/-- what a loose text keeps -/
def SameW (x y : Str) : Prop := (linesIn x).filter (fun l => !l.isEmpty) = (linesIn y).filter (fun l => !l.isEmpty)
theorem numWs_snd (L : List (List Str)) : (numWs L).map (·.2) = L.filter fun l => !l.isEmpty := by
  unfold numWs
  rw [List.map_map]
  exact filt_range [] (fun l : List Str => !l.isEmpty) L
theorem linesIn_join {fs : List Str} (hn : fs ≠ []) (h : ∀ f ∈ fs, 10 ∉ tl f) : linesIn (Txt.join sNl fs) = fs.map wordsIn := by
  unfold linesIn
  rw [joinS_nl hn h]
end Lt

set_option Elab.async false
set_option linter.all false
set_option maxRecDepth 100000
set_option maxHeartbeats 1000000
/-! k12: the law's helpers -/
namespace Lt
open PySem PySem.Spec PyProof.Rows L2
section
variable {P : Program} {w : World} {K : PySem.W.Frag} {mg : Str → Option Value} {base : Heap}
theorem sc_law_words : FnScope ["turn", "place"] ["turn"] (defScope s_law_words) := ⟨rfl, rfl, rfl, by decide +kernel, rfl, by decide +kernel, by decide +kernel⟩
theorem has_law_wordsT (T : Top K mg "_law_words" s_law_words ["turn"]) (B : Bi mg) : Has P w K mg base CX0 1 "_law_words" ["turn"] spSpaced := by
  refine T.ok sc_law_words (fun vs H Q E h => ?_) (fun f cdv A outer s H vs Q E hr h => ?_)
  · obtain ⟨v, t, rfl, _⟩ := h
    rfl
  · obtain ⟨v, t, rfl, ⟨a, rfl, ha⟩, hl, h10, q⟩ := h
    refine ⟨_, pss_one (ps_ret (pe_join pe_str (pe_lc (own := [("place", 1)]) (g := gName 1) (te := tCB rStrI (tCons (tVar 1) tNil)) (by rfl) sc_law_words.nd (pi_tup (pv 0)) (blkOk_by (own := [("place", 1)]) (N := ["turn", "place"]) (sc := defScope s_law_words) (by decide +kernel))
      (fun _ _ _ _ _ => pg_name (i := 1) sc_law_words.nd rfl (Or.inl rfl)) (fun _ _ _ _ _ => pts_nil) (fun _ _ _ _ _ => pe_callTy call_str_int (by rfl) B.str PyProof.Rows.boot_str (pa_cons (pv 1) pa_nil))))), ?_⟩
    refine ⟨⟨_, rfl⟩, _, rfl, a, rfl, ⟨_, ha.sq⟩, fun D hD => lc_tupM RStr (t.map sN) (fun _ _ _ _ _ r => r) ha.sq (fun H' sm => (ha.sm sm).sq) (by rw [nIs_len]; omega) (by rw [List.length_map, nIs_len]) hD (fun x => rfl) (fun i x b hx hb H' sm Q' q' => ?_) (fun H2 zs s2 hz pr => ?_)⟩
    · unfold nIs at hx
      rw [List.getElem?_map] at hx hb
      obtain ⟨j, hj, rfl⟩ := Option.map_eq_some_iff.mp hx
      rw [hj] at hb
      have eb : sN j = b := Option.some.inj hb
      have hj10 := h10 j (List.mem_of_getElem? hj)
      exact ⟨_, rfl, (j : Int), rfl, log_small (by omega), q' _ H' (Same.refl _) (congrArg V.str eb)⟩
    · rw [RStr.all pr] at hz
      refine ⟨sSp, D, t.map sN, rfl, rfl, .inl (SqL.of hz), ?_, q H2 s2⟩
      rw [sum_one h10, List.length_map]
      have : sSp.length = 1 := by decide +kernel
      rw [this]
      omega
/-- steps whose numbers have one figure -/
def StS (s : StepT) : Prop := s.1 < 10 ∧ (s.2.1.length ≤ 9 ∧ ∀ x ∈ s.2.1, x < 10) ∧ s.2.2.length ≤ 9 ∧ ∀ x ∈ s.2.2, x < 10
theorem stT_len {s : StepT} (h : StS s) : (stT s).length ≤ 60 := by
  obtain ⟨h1, ⟨h2, h3⟩, h4, h5⟩ := h
  have a1 := spT_len h3
  have a2 := spT_len h5
  have a3 := sN_len s.1 h1
  have l1 : ("x" : Str).length = 1 := by decide +kernel
  have l2 : (" no " : Str).length = 4 := by decide +kernel
  have l3 : (" yes " : Str).length = 5 := by decide +kernel
  unfold stT
  rw [app_len, app_len, app_len, app_len, app_len, l1, l2, l3, a3]
  omega
def spRowText : Sp := fun vs H Q _ => ∃ (rv : V) (ss : List StepT), vs = [rv] ∧ RwK H rv ss ∧ (∀ s ∈ ss, StS s) ∧ ss.length ≤ 1000 ∧ ∀ H', Same H H' → Q (.str (rowTx ss)) H'
abbrev rtN : List Str := ["steps", "own", "no", "yes"]
theorem sc_law_row_text : FnScope rtN ["steps"] (defScope s_law_row_text) := ⟨rfl, rfl, rfl, by decide +kernel, rfl, by decide +kernel, by decide +kernel⟩
abbrev rApp : V → V → Hp → VK → Prop := fun x y H Q => ∃ i j, x = .str i ∧ y = .str j ∧ i.length + j.length ≤ sizeLine ∧ Q (.str (i ++ j)) H
def tRt : TE := tOp rApp (tOp rApp (tOp rApp (tOp rApp (tOp rApp (tC (.str "x")) (tCB rStrI (tCons (tVar 1) tNil))) (tC (.str " no "))) (tCall spSpaced [] E0 (tCons (tVar 2) tNil))) (tC (.str " yes "))) (tCall spSpaced [] E0 (tCons (tVar 3) tNil))
theorem has_law_row_text (T : Top K mg "_law_row_text" s_law_row_text ["steps"]) (B : Bi mg) (hS : Has P w K mg base CX0 1 "_law_words" ["turn"] spSpaced) : Has P w K mg base CX0 2 "_law_row_text" ["steps"] spRowText := by
  refine T.ok sc_law_row_text (fun vs H Q E h => ?_) (fun f cdv A outer s H vs Q E hr h => ?_)
  · obtain ⟨rv, ss, rfl, _⟩ := h
    rfl
  · obtain ⟨rv, ss, rfl, ⟨a, xs, rfl, ha, px⟩, hS1, hss, q⟩ := h
    refine ⟨_, pss_one (ps_ret (pe_join pe_str (pe_lc (own := [("own", 1), ("no", 2), ("yes", 3)]) (g := gTup K 3 (gCons (gName 1) (gCons (gName 2) (gCons (gName 3) gNil)))) (te := tRt) (by rfl) sc_law_row_text.nd (pi_tup (pv 0)) (blkOk_by (own := [("own", 1), ("no", 2), ("yes", 3)]) (N := rtN) (sc := defScope s_law_row_text) (by decide +kernel))
        (fun _ _ _ _ _ => pg_tup rfl (pgs_cons (pg_name (i := 1) sc_law_row_text.nd rfl (Or.inl rfl)) (pgs_cons (pg_name (i := 2) sc_law_row_text.nd rfl (Or.inl rfl)) (pgs_cons (pg_name (i := 3) sc_law_row_text.nd rfl (Or.inl rfl)) pgs_nil)))) (fun _ _ _ _ _ => pts_nil)
        (fun _ _ _ _ _ => pe_op op_add_str (pe_op op_add_str (pe_op op_add_str (pe_op op_add_str (pe_op op_add_str pe_str (pe_callTy call_str_int (by rfl) B.str PyProof.Rows.boot_str (pa_cons (pv 1) pa_nil))) pe_str) (pe_has hS hr (by rfl) (pa_cons (pv 2) pa_nil))) pe_str) (pe_has hS hr (by rfl) (pa_cons (pv 3) pa_nil)))))), ?_⟩
    have lx := Paired.length px
    have l1 : ("x" : Str).length = 1 := by decide +kernel
    have l2 : (" no " : Str).length = 4 := by decide +kernel
    have l3 : (" yes " : Str).length = 5 := by decide +kernel
    refine ⟨⟨_, rfl⟩, _, rfl, a, rfl, ⟨_, SqT.of ha⟩, fun D hD => lc_genF (J := Itt K a) (n := xs.length) RStr (fun _ => true) (fun i => stT (ss.getD i (0, [], []))) (fun _ _ _ _ _ r => r) (by omega) hD (fun i H3 hi s3 => ⟨xs, _, SqT.of (s3 _ _ ha), List.getElem?_eq_getElem hi⟩) (fun H3 s3 => ⟨xs, SqT.of (s3 _ _ ha), Nat.le_refl _⟩) (fun i H3 x' H4 hi s3 y => ?_) (fun H3 zs s3 hz pr => ?_)⟩
    · obtain ⟨rfl, hx'⟩ := y
      have hx' := hx' _ (SqT.of (s3 _ _ ha))
      obtain ⟨st, hst, tp, x1, x2, rfl, htp, kx1, kx2⟩ := Lt.Paired.getL px hx'
      rw [getD_of (d := ((0, [], []) : StepT)) (by omega)] at hst
      have hst := (Option.some.inj hst).symm
      have hmem : st ∈ ss := by
        rw [hst]
        exact List.mem_of_getElem? (getD_of (by omega))
      rw [← hst]
      obtain ⟨o1, ⟨b1, c1⟩, b2, c2⟩ := hS1 st hmem
      have a1 := spT_len c1
      have a2 := spT_len c2
      have a3 := sN_len st.1 o1
      refine ⟨Same.refl _, _, fun Kk q => ⟨tp, _, rfl, SqT.of (s3 _ _ htp), rfl, _, _, rfl, _, _, rfl, _, _, rfl, rfl, q⟩, rfl, fun Q q => q _ (Same.refl _), fun hp H5 s5 Q q => ?_⟩
      have s35 := s3.trans s5
      refine ⟨_, rfl, (st.1 : Int), rfl, log_small (by omega), _, sN st.1, rfl, rfl, by rw [sizeLine_eq, l1, a3]; decide, _, _, rfl, rfl, by rw [sizeLine_eq, app_len, l1, l2, a3]; decide, _, rfl, x1, st.2.1, rfl, (kx1.tm (.of s35)).tn, by omega, c1, fun H6 s6 => ?_⟩
      refine ⟨_, _, rfl, rfl, by rw [sizeLine_eq, app_len, app_len, l1, l2, a3]; omega, _, _, rfl, rfl, by rw [sizeLine_eq, app_len, app_len, app_len, l1, l2, l3, a3]; omega, _, rfl, x2, st.2.2, rfl, (kx2.tm (.of (s35.trans s6))).tn, by omega, c2, fun H7 s7 => ?_⟩
      exact ⟨_, _, rfl, rfl, by rw [sizeLine_eq, app_len, app_len, app_len, app_len, l1, l2, l3, a3]; omega, q _ H7 (s6.trans s7) rfl⟩
    · have e1 : ((List.range xs.length).filter fun _ => true).map (fun i => stT (ss.getD i (0, [], []))) = ss.map stT := by
        rw [List.filter_eq_self.mpr fun _ _ => rfl, lx]
        conv => rhs; rw [← getDd_range ((0, [], []) : StepT) ss, List.map_map]
        rfl
      rw [e1] at pr
      rw [RStr.all pr] at hz
      refine ⟨sNl, D, ss.map stT, rfl, rfl, .inl (SqL.of hz), ?_, q H3 s3⟩
      rw [List.map_map, List.length_map]
      have e2 : sNl.length = 1 := by decide +kernel
      rw [e2]
      have := sum_le ((fun x : Str => x.length) ∘ stT) 60 (l := ss) fun s hs => stT_len (hS1 s hs)
      omega
end
end Lt

set_option Elab.async false
set_option linter.all false
set_option maxRecDepth 100000
set_option maxHeartbeats 1000000
/-! k12: loose and bent texts -/
namespace Lt
open PySem PySem.Spec PyProof.Rows L2
open TL (tl)
theorem cut_take (xs : List V) {i : Nat} (h : i ≤ xs.length) : cutV xs none (some (i : Int)) = xs.take i := by
  unfold cutV
  rw [HT.sIx_none, HT.sIx_nat, Nat.min_eq_left h, List.drop_zero, Nat.sub_zero]
theorem cut_drop (xs : List V) {i : Nat} (h : i ≤ xs.length) : cutV xs (some (i : Int)) none = xs.drop i := by
  unfold cutV
  rw [HT.sIx_none, HT.sIx_nat, Nat.min_eq_left h]
  exact List.take_of_length_le (by rw [List.length_drop]; omega)
/-- the weight of some lines -/
def wt (fs : List Str) : Nat := (fs.map fun f => f.length + 1).sum
theorem wt_app (a b : List Str) : wt (a ++ b) = wt a + wt b := by unfold wt; rw [List.map_append, List.sum_append]
theorem wt_one (f : Str) : wt [f] = f.length + 1 := rfl
theorem wt_sum : ∀ fs : List Str, wt fs = (fs.map (·.length)).sum + fs.length
  | [] => rfl
  | f :: fs => by
    show wt ([f] ++ fs) = _
    rw [wt_app, wt_one, wt_sum fs, List.map_cons, List.sum_cons, List.length_cons]
    omega
theorem wt_rep (f : Str) : ∀ b : Nat, wt (List.replicate b f) = b * (f.length + 1)
  | 0 => by rw [Nat.zero_mul]; rfl
  | b + 1 => by
    rw [List.replicate_succ]
    show wt ([f] ++ List.replicate b f) = _
    rw [wt_app, wt_one, wt_rep f b, Nat.add_mul, Nat.one_mul]
    omega
def ltT (ls : List Str) : Nat := (ls.map fun l => 4 * l.length + 10).sum
theorem ltT_le : ∀ ls : List Str, ltT ls = 4 * (ls.map (·.length)).sum + 10 * ls.length
  | [] => rfl
  | l :: ls => by
    unfold ltT
    rw [List.map_cons, List.sum_cons, List.map_cons, List.sum_cons, List.length_cons]
    have := ltT_le ls
    unfold ltT at this
    rw [this]
    omega
theorem repS_flat {α : Type} (x : α) : ∀ j : Nat, (List.replicate j [x]).flatten = List.replicate j x
  | 0 => rfl
  | j + 1 => by rw [List.replicate_succ, List.flatten_cons, repS_flat x j]; rfl
section
variable {P : Program} {w : World} {K : PySem.W.Frag} {mg : Str → Option Value} {base : Heap}
def spLoose (K : PySem.W.Frag) : Sp := fun vs H Q _ => ∃ (r sc : Addr) (ns : List Int) (x : Str), vs = [.ref r, .str x] ∧ RowAt K H r sc ns ∧ x.length ≤ 380 ∧ ∀ y H', StepR r H H' → RowAt K H' r sc ns → SameW y x → y.length ≤ 5800 → Q (.str y) H'
abbrev loN : List Str := ["row", "text", "found", "line"]
theorem sc_law_loose : FnScope loN ["row", "text"] (defScope s_law_loose) := ⟨rfl, rfl, rfl, by decide +kernel, rfl, by decide +kernel, by decide +kernel⟩
theorem has_law_loose (T : Top K mg "_law_loose" s_law_loose ["row", "text"]) (hT : Has P w K mg base CX0 1 "_law_taken" ["row", "many"] (spTaken K)) : Has P w K mg base CX0 2 "_law_loose" ["row", "text"] (spLoose K) := by
  refine T.ok sc_law_loose (fun vs H Q E h => ?_) (fun f cdv A outer s H vs Q E hr h => ?_)
  · obtain ⟨r, sc, ns, x, rfl, _⟩ := h
    rfl
  · obtain ⟨r, sc, ns, x, rfl, ra, hx, q⟩ := h
    refine ⟨_, pss_cons (ps_set (i := 2) sc_law_loose.nd rfl (Or.inl rfl) (pe_lst pa_nil))
      (pss_cons (ps_for PassesOwn.never rfl (pi_list (pe_split (pv 1) pe_str)) (pg_name (i := 3) sc_law_loose.nd rfl (Or.inl rfl))
        (pss_cons (ps_set (i := 2) sc_law_loose.nd rfl (Or.inl rfl) (pe_op op_cat (pv 2) (pe_op op_rep (pe_lst (pa_cons (pe_op op_mulStr pe_str (pe_has hT hr (by rfl) (pa_cons (pv 0) (pa_cons pe_int pa_nil)))) pa_nil)) (pe_has hT hr (by rfl) (pa_cons (pv 0) (pa_cons pe_int pa_nil))))))
        (pss_one (ps_expr (pe_bm PySem.F.plainAttrs_list PySem.F.slot_list_append PySem.F.type_list_append mt_append (pv 2) (pa_cons (pe_op op_add_str (pe_op op_add_str (pe_op op_mulStr pe_str (pe_has hT hr (by rfl) (pa_cons (pv 0) (pa_cons pe_int pa_nil)))) (pe_join pe_str (pe_split (pv 3) pe_str))) pe_str) pa_nil))))))
      (pss_one (ps_ret (pe_join pe_str (pv 2))))), ?_⟩
    refine ⟨Nat.zero_le _, fun fl hfl => ?_⟩
    have s1 := same_new (o := .lst []) hfl
    have k1 : (upd H fl (.lst [])) fl = some (.lst ([] : List V)) := upd_same
    have ra1 := ra.step s1
    generalize upd H fl (.lst []) = H1 at *
    refine ⟨_, rfl, ⟨x, rfl⟩, x, sNl, rfl, rfl, by decide +kernel, by rw [sizeLine_eq]; omega, fun la hla => ?_⟩
    rw [split_nl]
    have s2 := same_new (o := .lst ((splS x sNl).map V.str)) hla
    have k2 : (upd H1 la (.lst ((splS x sNl).map V.str))) la = some (.lst ((splS x sNl).map V.str)) := upd_same
    have ra2 := ra1.step s2
    have nlr : la ≠ r := (ra1.ne hla).symm
    have k12 := s2 _ _ k1
    have nfr : fl ≠ r := (ra.ne hfl).symm
    generalize upd H1 la (.lst ((splS x sNl).map V.str)) = H2 at *
    have hL := splS_len x sNl
    have hsum := splS_sum x sNl
    have hfree : ∀ l ∈ splS x sNl, 10 ∉ tl l := fun l hl => splS_nl hl
    have hmem : ∀ l ∈ splS x sNl, l.length ≤ 380 := fun l hl => Nat.le_trans (splS_mem hl) hx
    have hLe : linesIn x = (splS x sNl).map wordsIn := rfl
    have hne := splS_ne x sNl
    generalize splS x sNl = ls at *
    have wt_le : ∀ i, ltT (ls.take i) ≤ 5400 := fun i => by
      have e : ltT (ls.take i) + ltT (ls.drop i) = ltT ls := by
        unfold ltT
        rw [← List.sum_append, ← List.map_append, List.take_append_drop]
      have := ltT_le ls
      omega
    refine ⟨la, rfl, ⟨_, SqL.of k2⟩, for_list (K := K) (a := la) (xs := ls.map V.str) (fun i σ H' => ∃ y3 fl fs, σ = [some (.ref r), some (.str x), some (.ref fl), y3] ∧ StepR r H H' ∧ RowAt K H' r sc ns ∧ H' la = some (.lst (ls.map V.str)) ∧ H' fl = some (.lst (fs.map V.str)) ∧ fl ≠ la ∧ fl ≠ r ∧ H fl = none ∧
        (fs.map wordsIn).filter (fun l => !l.isEmpty) = ((ls.take i).map wordsIn).filter (fun l => !l.isEmpty) ∧ (∀ f ∈ fs, 10 ∉ tl f) ∧ wt fs ≤ ltT (ls.take i) ∧ i ≤ fs.length)
      ⟨none, fl, [], rfl, .of (s1.trans s2), ra2, k2, k12, ne_of_none k1 hla, nfr, hfl, rfl, (fun _ h => nomatch h), Nat.zero_le _, Nat.le_refl _⟩ (fun i σ H' _ ⟨_, _, _, _, _, _, h, _⟩ => SqL.of h) ?_ ?_⟩
    · rintro i xv σ H' hi ⟨y3, fl, fs, rfl, st, ra', hla', hfl', nfl, nfr, hf0, hw, hf, hwt, hil⟩
      rw [List.getElem?_map] at hi
      obtain ⟨l, hl, rfl⟩ := Option.map_eq_some_iff.mp hi
      have hlm := List.mem_of_getElem? hl
      have hl3 := hmem l hlm
      have h0 := wt_le i
      have hfs : fs.length ≤ 5400 := by
        have := wt_sum fs
        omega
      have et : ls.take (i + 1) = ls.take i ++ [l] := by rw [List.take_add_one, hl]; rfl
      refine ⟨_, rfl, _, rfl, r, sc, ns, 3, rfl, ra', by decide, by decide, fun a H3 ha st3 ra3 => ?_⟩
      have hla3 := st3 _ _ nlr hla'
      have hfl3 := st3 _ _ nfr hfl'
      have st03 := st.trans st3
      refine ⟨sSp, (a : Int), rfl, rfl, mulOk_s2 a (by omega), by show 1 ≤ sizeLine; decide, fun vl hvl => ?_⟩
      have s4 := same_new (o := .lst [V.str (Txt.mul sSp (a : Int))]) hvl
      have k4 : (upd H3 vl (.lst [V.str (Txt.mul sSp (a : Int))])) vl = some (.lst [V.str (Txt.mul sSp (a : Int))]) := upd_same
      have ra4 := ra3.step s4
      have nvr : vl ≠ r := (ra3.ne hvl).symm
      have hla4 := s4 _ _ hla3
      have hfl4 := s4 _ _ hfl3
      have st04 := st03.trans (.of s4)
      generalize upd H3 vl (.lst [V.str (Txt.mul sSp (a : Int))]) = H4 at *
      refine ⟨_, rfl, r, sc, ns, 2, rfl, ra4, by decide, by decide, fun b H5 hb st5 ra5 => ?_⟩
      have k5 := st5 _ _ nvr k4
      have hla5 := st5 _ _ nlr hla4
      have hfl5 := st5 _ _ nfr hfl4
      have st05 := st04.trans st5
      refine ⟨vl, (b : Int), _, rfl, rfl, k5, by omega, by omega, by rw [sizeLine_eq, Int.toNat_natCast]; show 1 * b ≤ _; omega, fun pl hpl => ?_⟩
      rw [Int.toNat_natCast, repS_flat]
      have s6 := same_new (o := .lst (List.replicate b (V.str (Txt.mul sSp (a : Int))))) hpl
      have k6 : (upd H5 pl (.lst (List.replicate b (V.str (Txt.mul sSp (a : Int)))))) pl = some (.lst (List.replicate b (V.str (Txt.mul sSp (a : Int))))) := upd_same
      have ra6 := ra5.step s6
      have hla6 := s6 _ _ hla5
      have hfl6 := s6 _ _ hfl5
      have st06 := st05.trans (.of s6)
      generalize upd H5 pl (.lst (List.replicate b (V.str (Txt.mul sSp (a : Int))))) = H6 at *
      refine ⟨fl, pl, _, _, rfl, rfl, hfl6, k6, by rw [List.length_map, List.length_replicate, sizeLine_eq]; omega, fun gl hgl => ?_⟩
      have e7 : fs.map V.str ++ List.replicate b (V.str (Txt.mul sSp (a : Int))) = (fs ++ List.replicate b (Txt.mul sSp (a : Int))).map V.str := by rw [List.map_append, List.map_replicate]
      rw [e7]
      have s7 := same_new (o := .lst ((fs ++ List.replicate b (Txt.mul sSp (a : Int))).map V.str)) hgl
      have k7 : (upd H6 gl (.lst ((fs ++ List.replicate b (Txt.mul sSp (a : Int))).map V.str))) gl = some (.lst ((fs ++ List.replicate b (Txt.mul sSp (a : Int))).map V.str)) := upd_same
      have ra7 := ra6.step s7
      have hla7 := s7 _ _ hla6
      have ngr : gl ≠ r := (ra6.ne hgl).symm
      have ngl : gl ≠ la := (ne_of_none hla6 hgl).symm
      have hg0 : H gl = none := by
        cases e : H gl with
        | none => rfl
        | some o => rw [st06 _ _ ngr e] at hgl; cases hgl
      have st07 := st06.trans (.of s7)
      generalize upd H6 gl (.lst ((fs ++ List.replicate b (Txt.mul sSp (a : Int))).map V.str)) = H7 at *
      refine ⟨_, rfl, .inl ⟨rfl, _, SqL.of k7⟩, _, rfl, r, sc, ns, 2, rfl, ra7, by decide, by decide, fun c H8 hc st8 ra8 => ?_⟩
      have k8 := st8 _ _ ngr k7
      have hla8 := st8 _ _ nlr hla7
      have st08 := st07.trans st8
      refine ⟨sSp, (c : Int), rfl, rfl, mulOk_s2 c (by omega), ⟨_, rfl⟩, _, rfl, ⟨l, rfl⟩, l, sSp, rfl, rfl, by decide +kernel, by rw [sizeLine_eq]; omega, fun wl hwl => ?_⟩
      rw [split_sp]
      have s9 := same_new (o := .lst ((splS l sSp).map V.str)) hwl
      have k9 : (upd H8 wl (.lst ((splS l sSp).map V.str))) wl = some (.lst ((splS l sSp).map V.str)) := upd_same
      have ra9 := ra8.step s9
      have hla9 := s9 _ _ hla8
      have kg9 := s9 _ _ k8
      have st09 := st08.trans (.of s9)
      generalize upd H8 wl (.lst ((splS l sSp).map V.str)) = H9 at *
      have w1 := splS_sum l sSp
      have w2 := splS_len l sSp
      have w3 : s3.length = 3 := by decide +kernel
      have w4 : sSp.length = 1 := by decide +kernel
      have w5 := joinS_len s3 (splS l sSp)
      rw [w3] at w5
      refine ⟨s3, wl, splS l sSp, rfl, rfl, .inl (SqL.of k9), by rw [w3]; omega, _, _, rfl, rfl, by rw [sizeLine_eq, void_len]; omega, _, _, rfl, rfl, by rw [sizeLine_eq, app_len, void_len, w4]; omega, ?_⟩
      refine ⟨gl, _, _, rfl, rfl, kg9, by rw [List.length_map, List.length_append, List.length_replicate, sizeLine_eq]; omega, ?_⟩
      have e10 : (fs ++ List.replicate b (Txt.mul sSp (a : Int))).map V.str ++ [V.str ((Txt.mul sSp (c : Int) ++ Txt.join s3 (splS l sSp)) ++ sSp)] = (fs ++ List.replicate b (Txt.mul sSp (a : Int)) ++ [looseL c l]).map V.str := by
        rw [List.map_append (l₂ := [looseL c l])]
        rfl
      rw [e10]
      refine ⟨_, gl, fs ++ List.replicate b (Txt.mul sSp (a : Int)) ++ [looseL c l], rfl, st09.mut hg0, ra.far' hg0 ra9 (StepR.put _ _ _), (upd_ne ngl.symm).trans hla9, upd_same, ngl, ngr, hg0, ?_, ?_, ?_, ?_⟩
      · rw [List.map_append, List.map_append, List.filter_append, List.filter_append, hw, et, List.map_append, List.filter_append]
        have v0 : ((List.replicate b (Txt.mul sSp (a : Int))).map wordsIn).filter (fun l => !l.isEmpty) = [] := by
          rw [List.map_replicate, void_words]
          refine List.filter_eq_nil_iff.mpr fun z hz => ?_
          rw [(List.mem_replicate.mp hz).2]
          decide
        rw [v0, List.append_nil]
        show _ ++ List.filter _ [wordsIn (looseL c l)] = _ ++ List.filter _ [wordsIn l]
        rw [looseL_words]
      · intro f hf'
        rcases List.mem_append.mp hf' with h | h
        · rcases List.mem_append.mp h with h | h
          · exact hf f h
          · rw [(List.mem_replicate.mp h).2]
            exact void_free a
        · rw [List.mem_singleton.mp h]
          exact looseL_free (hfree l hlm)
      · rw [wt_app, wt_app, et]
        have ll := looseL_len (k := c) (l := l) (by omega)
        have e11 : ltT (ls.take i ++ [l]) = ltT (ls.take i) + (4 * l.length + 10) := by
          unfold ltT
          rw [List.map_append, List.sum_append]
          rfl
        have e12 : wt (List.replicate b (Txt.mul sSp (a : Int))) = b * (a + 1) := by
          rw [wt_rep, void_len]
        have e13 : b * (a + 1) ≤ 3 := by
          have : b = 0 ∨ b = 1 := by omega
          rcases this with rfl | rfl <;> omega
        rw [e11, e12, wt_one]
        omega
      · rw [List.length_append, List.length_append]
        show i + 1 ≤ _ + 1
        omega
    · rintro σ H' ⟨y3, fl, fs, rfl, st, ra', hla', hfl', nfl, nfr, hf0, hw, hf, hwt, hil⟩
      rw [List.length_map] at hil hw hwt
      rw [List.take_length] at hw
      have h0 := wt_le ls.length
      have h1 := wt_sum fs
      have w1 : sNl.length = 1 := by decide +kernel
      refine ⟨⟨_, rfl⟩, _, rfl, sNl, fl, fs, rfl, rfl, .inl (SqL.of hfl'), by rw [w1]; omega, q _ H' st ra' ?_ ?_⟩
      · unfold SameW
        rw [linesIn_join (fun z => ?_) hf, hw, hLe]
        rw [z] at hil
        exact hne (List.eq_nil_of_length_eq_zero (Nat.le_zero.mp hil))
      · have := joinS_len sNl fs
        rw [w1] at this
        omega
end
end Lt

set_option Elab.async false
set_option linter.all false
set_option maxRecDepth 100000
set_option maxHeartbeats 1000000
/-! k12: bent texts -/
namespace Lt
open PySem PySem.Spec PyProof.Rows L2
open TL (tl)
/-- a text with a word in another one's place -/
def bentT (x : Str) (at_ pl : Nat) (w : Str) : Str := Txt.join sNl ((splS x sNl).set at_ (Txt.join sSp ((splS ((splS x sNl).getD at_ ("" : Str)) sSp).set pl w)))
theorem set_cut {α : Type} (l : List α) (i : Nat) (a : α) (h : i < l.length) : l.take i ++ [a] ++ l.drop (i + 1) = l.set i a := by
  rw [List.set_eq_take_append_cons_drop, if_pos h, List.append_assoc]
  rfl
section
variable {P : Program} {w : World} {K : PySem.W.Frag} {mg : Str → Option Value} {base : Heap}
def spBent (K : PySem.W.Frag) : Sp := fun vs H Q _ => ∃ (r sc wa : Addr) (ns : List Int) (x : Str) (wds : List Str), vs = [.ref r, .str x, .ref wa] ∧ RowAt K H r sc ns ∧ H wa = some (.lst (wds.map V.str)) ∧ wa ≠ r ∧ 1 ≤ wds.length ∧ wds.length ≤ 1000 ∧ (∀ u ∈ wds, u.length ≤ 100) ∧ x.length ≤ 900 ∧
  ∀ p H' at_ pl u, at_ < (splS x sNl).length → pl < (splS ((splS x sNl).getD at_ ("" : Str)) sSp).length → u ∈ wds → StepR r H H' → RowAt K H' r sc ns → H' p = some (.tup [.str (bentT x at_ pl u), nI (at_ + 1), nI (pl + 1)]) → Q (.ref p) H'
abbrev beN : List Str := ["row", "text", "words", "rows", "at", "parts", "place"]
theorem sc_law_bent : FnScope beN ["row", "text", "words"] (defScope s_law_bent) := ⟨rfl, rfl, rfl, by decide +kernel, rfl, by decide +kernel, by decide +kernel⟩
theorem has_law_bent (T : Top K mg "_law_bent" s_law_bent ["row", "text", "words"]) (B : Bi mg) (hT : Has P w K mg base CX0 1 "_law_taken" ["row", "many"] (spTaken K)) (hP : Has P w K mg base CX0 2 "_law_pick" ["row", "things"] (spPick K)) : Has P w K mg base CX0 3 "_law_bent" ["row", "text", "words"] (spBent K) := by
  refine T.ok sc_law_bent (fun vs H Q E h => ?_) (fun f cdv A outer s H vs Q E hr h => ?_)
  · obtain ⟨r, sc, wa, ns, x, wds, rfl, _⟩ := h
    rfl
  · obtain ⟨r, sc, wa, ns, x, wds, rfl, ra, hwa, nwr, w1, w1000, wl, hx, q⟩ := h
    have hr1 : Room 1 _ := hr.mono (by decide)
    refine ⟨_, pss_cons (ps_set (i := 3) sc_law_bent.nd rfl (Or.inl rfl) (pe_split (pv 1) pe_str))
      (pss_cons (ps_set (i := 4) sc_law_bent.nd rfl (Or.inl rfl) (pe_has hT hr1 (by rfl) (pa_cons (pv 0) (pa_cons (pe_callB call_len_seq (by rfl) B.len PySem.boot_len (pa_cons (pv 3) pa_nil)) pa_nil))))
      (pss_cons (ps_set (i := 5) sc_law_bent.nd rfl (Or.inl rfl) (pe_split (pe_ix ix_list (pv 3) (pv 4) (fun _ _ => rfl)) pe_str))
      (pss_cons (ps_set (i := 6) sc_law_bent.nd rfl (Or.inl rfl) (pe_has hT hr1 (by rfl) (pa_cons (pv 0) (pa_cons (pe_callB call_len_seq (by rfl) B.len PySem.boot_len (pa_cons (pv 5) pa_nil)) pa_nil))))
      (pss_cons (ps_asg (pe_has hP hr (by rfl) (pa_cons (pv 0) (pa_cons (pv 2) pa_nil))) (pg_sub (pv 5) (pv 6) set_list))
      (pss_one (ps_ret (pe_tup (pa_cons (pe_join pe_str (pe_op op_cat (pe_op op_cat (pe_slice sl_list (pv 3) po_none (po_some (pv 4))) (pe_lst (pa_cons (pe_join pe_str (pv 5)) pa_nil))) (pe_slice sl_list (pv 3) (po_some (pe_op op_add (pv 4) pe_int)) po_none)))
        (pa_cons (pe_op op_add (pv 4) pe_int) (pa_cons (pe_op op_add (pv 6) pe_int) pa_nil)))))))))), ?_⟩
    have l1 : sNl.length = 1 := by decide +kernel
    have l2 : sSp.length = 1 := by decide +kernel
    refine ⟨_, rfl, ⟨x, rfl⟩, x, sNl, rfl, rfl, by decide +kernel, by rw [sizeLine_eq]; omega, fun la hla => ?_⟩
    rw [split_nl]
    have s1 := same_new (o := .lst ((splS x sNl).map V.str)) hla
    have k1 : (upd H la (.lst ((splS x sNl).map V.str))) la = some (.lst ((splS x sNl).map V.str)) := upd_same
    have ra1 := ra.step s1
    have nlr : la ≠ r := (ra.ne hla).symm
    have hwa1 := s1 _ _ hwa
    generalize upd H la (.lst ((splS x sNl).map V.str)) = H1 at *
    have hne := splS_ne x sNl
    have hL := splS_len x sNl
    have hsum := splS_sum x sNl
    have hl : ∀ z ∈ splS x sNl, z.length ≤ 900 := fun z hz => Nat.le_trans (splS_mem hz) hx
    unfold bentT at q
    generalize splS x sNl = ls at *
    have hL1 : 1 ≤ ls.length := by
      cases ls with
      | nil => exact absurd rfl hne
      | cons a l => exact Nat.succ_le_succ (Nat.zero_le _)
    have en : V.int ((ls.map V.str).length : Nat) = nI ls.length := by rw [List.length_map]; rfl
    refine ⟨_, rfl, _, rfl, la, _, rfl, .inl (SqL.of k1), ?_⟩
    dsimp only [tNil, List.cons_append, List.nil_append, List.append_nil]
    rw [en]
    refine ⟨r, sc, ns, ls.length, rfl, ra1, hL1, by omega, fun at_ H2 hat st2 ra2 => ?_⟩
    have k2 := st2 _ _ nlr k1
    have hwa2 := st2 _ _ nwr hwa1
    have st02 := (StepR.of (r := r) s1).trans st2
    have ga : (ls.map V.str)[at_]? = some (.str (ls.getD at_ ("" : Str))) := by rw [List.getElem?_map, getD_of hat]; rfl
    have hlm : (ls.getD at_ ("" : Str)).length ≤ 900 := hl _ (List.mem_of_getElem? (getD_of hat))
    refine ⟨_, rfl, _, rfl, la, _, (at_ : Int), .str (ls.getD at_ ("" : Str)), rfl, rfl, SqL.of k2, atI_nat ga, ⟨_, rfl⟩, _, sSp, rfl, rfl, by decide +kernel, by rw [sizeLine_eq]; omega, fun pa hpa => ?_⟩
    have q := fun p H' pl u => q p H' at_ pl u hat
    generalize ls.getD at_ ("" : Str) = line at *
    rw [split_sp]
    have s3 := same_new (o := .lst ((splS line sSp).map V.str)) hpa
    have k3 : (upd H2 pa (.lst ((splS line sSp).map V.str))) pa = some (.lst ((splS line sSp).map V.str)) := upd_same
    have ra3 := ra2.step s3
    have npr : pa ≠ r := (ra2.ne hpa).symm
    have npl : pa ≠ la := (ne_of_none k2 hpa).symm
    have hla3 := s3 _ _ k2
    have hwa3 := s3 _ _ hwa2
    have npw : wa ≠ pa := ne_of_none hwa2 hpa
    have hp0 : H pa = none := by
      cases e : H pa with
      | none => rfl
      | some o => rw [st02 _ _ npr e] at hpa; cases hpa
    have st03 := st02.trans (.of s3)
    generalize upd H2 pa (.lst ((splS line sSp).map V.str)) = H3 at *
    have hpn := splS_ne line sSp
    have hpL := splS_len line sSp
    have hpl : ∀ z ∈ splS line sSp, z.length ≤ 900 := fun z hz => Nat.le_trans (splS_mem hz) hlm
    generalize splS line sSp = ps at *
    have hP1 : 1 ≤ ps.length := by
      cases ps with
      | nil => exact absurd rfl hpn
      | cons a l => exact Nat.succ_le_succ (Nat.zero_le _)
    have en2 : V.int ((ps.map V.str).length : Nat) = nI ps.length := by rw [List.length_map]; rfl
    refine ⟨_, rfl, _, rfl, pa, _, rfl, .inl (SqL.of k3), ?_⟩
    dsimp only [tNil, List.cons_append, List.nil_append, List.append_nil]
    rw [en2]
    refine ⟨r, sc, ns, ps.length, rfl, ra3, hP1, by omega, fun pl H4 hpl4 st4 ra4 => ?_⟩
    have k4 := st4 _ _ npr k3
    have hla4 := st4 _ _ nlr hla3
    have hwa4 := st4 _ _ nwr hwa3
    have st04 := st03.trans st4
    refine ⟨_, rfl, _, rfl, r, wa, sc, ns, wds.map V.str, rfl, ra4, hwa4, nwr, by rw [List.length_map]; exact w1, by rw [List.length_map]; exact w1000, fun uv H5 hu st5 ra5 => ?_⟩
    obtain ⟨u, hu2, rfl⟩ := List.mem_map.mp hu
    have k5 := st5 _ _ npr k4
    have hla5 := st5 _ _ nlr hla4
    have st05 := st04.trans st5
    have ul := wl u hu2
    refine ⟨_, rfl, _, rfl, pa, _, (pl : Int), pl, rfl, rfl, k5, Evl.ixN_nat (by rw [List.length_map]; exact hpl4), ?_⟩
    have e6 : (ps.map V.str).set pl (.str u) = (ps.set pl u).map V.str := (List.map_set ..).symm
    rw [e6]
    have st6 : StepR r H (upd H5 pa (.lst ((ps.set pl u).map V.str))) := st05.mut hp0
    have k6 : (upd H5 pa (.lst ((ps.set pl u).map V.str))) pa = some (.lst ((ps.set pl u).map V.str)) := upd_same
    have hla6 : (upd H5 pa (.lst ((ps.set pl u).map V.str))) la = some (.lst (ls.map V.str)) := (upd_ne npl.symm).trans hla5
    have ra6 : RowAt K (upd H5 pa (.lst ((ps.set pl u).map V.str))) r sc ns := ra.far' hp0 ra5 (StepR.put _ _ _)
    generalize upd H5 pa (.lst ((ps.set pl u).map V.str)) = H6 at *
    have hps : ∀ z ∈ ps.set pl u, z.length ≤ 900 := fun z hz => by
      rcases List.mem_or_eq_of_mem_set hz with h | h
      · exact hpl z h
      · rw [h]
        omega
    have hpsl : (ps.set pl u).length = ps.length := List.length_set
    have sm1 := sum_le (fun z : Str => z.length) 900 hps
    have jl := joinS_len sSp (ps.set pl u)
    rw [l2] at jl
    refine ⟨⟨_, rfl⟩, _, rfl, _, rfl, (at_ : Int), rfl, la, _, rfl, SqL.of hla6, fun t1 ht1 => ?_⟩
    rw [cut_take _ (by rw [List.length_map]; omega)]
    have s7 := same_new (o := .lst ((ls.map V.str).take at_)) ht1
    have k7 : (upd H6 t1 (.lst ((ls.map V.str).take at_))) t1 = some (.lst ((ls.map V.str).take at_)) := upd_same
    generalize upd H6 t1 (.lst ((ls.map V.str).take at_)) = H7 at *
    refine ⟨⟨_, rfl⟩, _, rfl, sSp, pa, ps.set pl u, rfl, rfl, .inl (SqL.of (s7 _ _ k6)), by rw [l2]; omega, by show 1 ≤ sizeLine; decide, fun t2 ht2 => ?_⟩
    have s8 := same_new (o := .lst [V.str (Txt.join sSp (ps.set pl u))]) ht2
    have k8 : (upd H7 t2 (.lst [V.str (Txt.join sSp (ps.set pl u))])) t2 = some (.lst [V.str (Txt.join sSp (ps.set pl u))]) := upd_same
    have k78 := s8 _ _ k7
    have s68 := s7.trans s8
    generalize upd H7 t2 (.lst [V.str (Txt.join sSp (ps.set pl u))]) = H8 at *
    refine ⟨t1, t2, _, _, rfl, rfl, k78, k8, by rw [List.length_take, List.length_map, sizeLine_eq]; show min at_ ls.length + 1 ≤ _; omega, fun t3 ht3 => ?_⟩
    have s9 := same_new (o := .lst ((ls.map V.str).take at_ ++ [V.str (Txt.join sSp (ps.set pl u))])) ht3
    have k9 : (upd H8 t3 (.lst ((ls.map V.str).take at_ ++ [V.str (Txt.join sSp (ps.set pl u))]))) t3 = some (.lst ((ls.map V.str).take at_ ++ [V.str (Txt.join sSp (ps.set pl u))])) := upd_same
    have s69 := s68.trans s9
    generalize upd H8 t3 (.lst ((ls.map V.str).take at_ ++ [V.str (Txt.join sSp (ps.set pl u))])) = H9 at *
    refine ⟨_, rfl, _, rfl, (at_ : Int), 1, rfl, rfl, ((at_ + 1 : Nat) : Int), by rw [Int.natCast_succ], la, _, rfl, SqL.of (s69 _ _ hla6), fun t4 ht4 => ?_⟩
    rw [cut_drop _ (by rw [List.length_map]; omega)]
    have s10 := same_new (o := .lst ((ls.map V.str).drop (at_ + 1))) ht4
    have k10 : (upd H9 t4 (.lst ((ls.map V.str).drop (at_ + 1)))) t4 = some (.lst ((ls.map V.str).drop (at_ + 1))) := upd_same
    have k910 := s10 _ _ k9
    have s610 := s69.trans s10
    generalize upd H9 t4 (.lst ((ls.map V.str).drop (at_ + 1))) = H10 at *
    refine ⟨t3, t4, _, _, rfl, rfl, k910, k10, by rw [List.length_append, List.length_take, List.length_drop, List.length_map, sizeLine_eq]; show min at_ ls.length + 1 + _ ≤ _; omega, fun t5 ht5 => ?_⟩
    have e11 : (ls.map V.str).take at_ ++ [V.str (Txt.join sSp (ps.set pl u))] ++ (ls.map V.str).drop (at_ + 1) = (ls.set at_ (Txt.join sSp (ps.set pl u))).map V.str := by
      rw [set_cut _ _ _ (by rw [List.length_map]; exact hat)]
      exact (List.map_set ..).symm
    rw [e11]
    have s11 := same_new (o := .lst ((ls.set at_ (Txt.join sSp (ps.set pl u))).map V.str)) ht5
    have k11 : (upd H10 t5 (.lst ((ls.set at_ (Txt.join sSp (ps.set pl u))).map V.str))) t5 = some (.lst ((ls.set at_ (Txt.join sSp (ps.set pl u))).map V.str)) := upd_same
    have s611 := s610.trans s11
    generalize upd H10 t5 (.lst ((ls.set at_ (Txt.join sSp (ps.set pl u))).map V.str)) = H11 at *
    have sm2 : ((ls.set at_ (Txt.join sSp (ps.set pl u))).map (·.length)).sum ≤ 813000 := by
      rw [← set_cut _ _ _ hat, List.map_append, List.map_append, List.sum_append, List.sum_append]
      have e : ((ls.take at_).map (·.length)).sum + ((ls.drop (at_ + 1)).map (·.length)).sum ≤ (ls.map (·.length)).sum := by
        conv => rhs; rw [← List.take_append_drop at_ ls, List.map_append, List.sum_append]
        refine Nat.add_le_add_left ?_ _
        rw [List.drop_eq_getElem_cons hat, List.map_cons, List.sum_cons]
        omega
      have e2 : (([Txt.join sSp (ps.set pl u)] : List Str).map (·.length)).sum = (Txt.join sSp (ps.set pl u)).length := rfl
      rw [e2]
      omega
    refine ⟨sNl, t5, ls.set at_ (Txt.join sSp (ps.set pl u)), rfl, rfl, .inl (SqL.of k11), by rw [l1, List.length_set]; omega, _, rfl, (at_ : Int), 1, rfl, rfl, _, rfl, (pl : Int), 1, rfl, rfl, Nat.le_of_ble_eq_true rfl, fun tp htp => ?_⟩
    have s12 := same_new (o := .tup [V.str (Txt.join sNl (ls.set at_ (Txt.join sSp (ps.set pl u)))), V.int ((at_ : Int) + 1), V.int ((pl : Int) + 1)]) htp
    have ev : ∀ i : Nat, V.int ((i : Int) + 1) = nI (i + 1) := fun i => congrArg V.int (by omega)
    refine q tp _ pl u hpl4 hu2 ((st6.trans (.of s611)).trans (.of s12)) ((ra6.step s611).step s12) ?_
    rw [← ev, ← ev]
    exact upd_same
end
end Lt

set_option Elab.async false
set_option linter.all false
set_option maxRecDepth 100000
set_option maxHeartbeats 1000000
/-! what is read from what was written -/
namespace Lt
open PySem PySem.Spec PyProof.Rows L2
open TL (tl spl joinL)
instance (w : Str) : Decidable (Wo w) := by unfold Wo; exact inferInstance
theorem sN_wo : ∀ i, i < 10 → Wo (sN i) := by decide +kernel
theorem xN_wo : ∀ i, i < 10 → Wo (xN i) := by decide +kernel
theorem sN_inj : ∀ a, a < 10 → ∀ b, b < 10 → sN a = sN b → a = b := by decide +kernel
theorem figs_ix : ∀ n, n < 10 → ∀ q, q < n → sN q ∈ figs n ∧ (figs n).idxOf (sN q) = q := by decide +kernel
theorem nmL_ix : ∀ k, k < 7 → ∀ q, q < k → xN q ∈ nmL k ∧ (nmL k).idxOf (xN q) = q := by decide +kernel
/-! ### a word at a time -/
theorem drop_next {α : Type} {l r : List α} {i : Nat} {a : α} (h : l.drop i = a :: r) : l.drop (i + 1) = r := by
  have z := congrArg (List.drop 1) h
  rw [List.drop_drop] at z
  exact z
theorem dropg {α : Type} {l r : List α} {i : Nat} {a : α} (h : l.drop i = a :: r) : l[i]? = some a := by
  have z : (l.drop i)[0]? = some a := by rw [h]; rfl
  rw [List.getElem?_drop] at z
  exact z
theorem tk1_go {ws r wanted : List Str} {i : Nat} {w : Str} (h : ws.drop i = w :: r) (hw : w ∈ wanted) : tk1 ws i wanted = some (wanted.idxOf w) := by
  unfold tk1
  rw [dropg h]
  exact if_pos hw
theorem tk1_back {ws wanted : List Str} {i j : Nat} (h : tk1 ws i wanted = some j) : ∃ w, w ∈ wanted ∧ j = wanted.idxOf w ∧ ws.drop i = w :: ws.drop (i + 1) := by
  obtain ⟨x, e, hm, hj, hl⟩ := tk1_lt h
  refine ⟨x, hm, hj, ?_⟩
  rw [List.drop_eq_getElem_cons hl]
  rw [List.getElem?_eq_getElem hl] at e
  rw [Option.some.inj e]
theorem tkP_go {ws r : List Str} {n : Nat} (hn : n < 10) : ∀ (t : List Nat) (i : Nat) (acc : List Nat), ws.drop i = t.map sN ++ r → (∀ x ∈ t, x < n) → (acc ++ t).Nodup → tkP ws (figs n) i t.length acc = .ok (acc ++ t) ∧ ws.drop (i + t.length) = r
  | [], i, acc, h, _, _ => by
    rw [List.append_nil]
    exact ⟨rfl, h⟩
  | a :: t, i, acc, h, ha, hd => by
    have h : ws.drop i = sN a :: (t.map sN ++ r) := h
    obtain ⟨f1, f2⟩ := figs_ix n hn a (ha a (List.mem_cons_self ..))
    have h1 := tk1_go h f1
    rw [f2] at h1
    have hna : a ∉ acc := fun z => by
      have := (List.nodup_append.mp hd).2.2 a z a (List.mem_cons_self ..)
      exact this rfl
    obtain ⟨g1, g2⟩ := tkP_go hn t (i + 1) (acc ++ [a]) (drop_next h) (fun x hx => ha x (List.mem_cons_of_mem _ hx)) (by rw [List.append_assoc]; exact hd)
    refine ⟨?_, ?_⟩
    · rw [List.length_cons, tkP_step h1 hna, g1, List.append_assoc]
      rfl
    · rw [List.length_cons, ← Nat.add_assoc, Nat.add_right_comm]
      exact g2
theorem tkP_back {ws : List Str} {n : Nat} (hn : n < 10) : ∀ (k i : Nat) (acc t : List Nat), tkP ws (figs n) i k acc = .ok t → ∃ t', t = acc ++ t' ∧ t'.length = k ∧ (∀ x ∈ t', x < n) ∧ ws.drop i = t'.map sN ++ ws.drop (i + k)
  | 0, i, acc, t, h => by
    have h : Except.ok acc = (Except.ok t : Except Nat (List Nat)) := h
    injection h with h
    exact ⟨[], by rw [List.append_nil, h], rfl, (fun _ z => nomatch z), rfl⟩
  | k + 1, i, acc, t, h => by
    cases e : tk1 ws i (figs n) with
    | none => rw [tkP_none e] at h; cases h
    | some q =>
      obtain ⟨w, hw, hq, hd⟩ := tk1_back e
      by_cases hm : q ∈ acc
      · rw [tkP_twice e hm] at h; cases h
      · rw [tkP_step e hm] at h
        obtain ⟨t', e1, e2, e3, e4⟩ := tkP_back hn k (i + 1) (acc ++ [q]) t h
        obtain ⟨a, ha, rfl⟩ := List.mem_map.mp (show w ∈ (List.range n).map sN from hw)
        have han := List.mem_range.mp ha
        rw [(figs_ix n hn a han).2] at hq
        subst hq
        refine ⟨q :: t', by rw [e1, List.append_assoc]; rfl, by rw [List.length_cons, e2], fun x hx => ?_, ?_⟩
        · rcases List.mem_cons.mp hx with rfl | hx
          · exact han
          · exact e3 x hx
        · rw [hd, e4, Nat.add_right_comm, Nat.add_assoc]
          rfl
/-! ### lines -/
def lineL (t : List Nat) : List Str := ("turn" : Str) :: t.map sN
def lineS (s : StepT) : List Str := xN s.1 :: ("no" : Str) :: (s.2.1.map sN ++ ("yes" : Str) :: s.2.2.map sN)
theorem joinL_app {S : List Nat} : ∀ {l m : List (List Nat)}, l ≠ [] → m ≠ [] → joinL S (l ++ m) = joinL S l ++ (S ++ joinL S m)
  | [], _, h, _ => absurd rfl h
  | [a], b :: m, _, _ => rfl
  | [a], [], _, h => absurd rfl h
  | a :: b :: l, m, _, h => by
    show a ++ (S ++ joinL S (b :: l ++ m)) = (a ++ (S ++ joinL S (b :: l))) ++ _
    rw [joinL_app (l := b :: l) (fun z => nomatch z) h, List.append_assoc, List.append_assoc]
theorem tl_spT (t : List Nat) : tl (spT t) = joinL [32] ((t.map sN).map tl) := by
  unfold spT
  rw [TL.join_eq, TL.tl_join, e32]
theorem lnT_join {t : List Nat} (h : t ≠ []) : lnT t = Txt.join sSp (lineL t) := by
  refine TL.ext_tl ?_
  unfold lnT lineL
  rw [TL.tl_append, tl_spT, TL.join_eq, TL.tl_join, e32]
  have e : tl ("turn " : Str) = tl ("turn" : Str) ++ [32] := by decide +kernel
  rw [e, List.append_assoc]
  exact (joinL_app (l := [tl ("turn" : Str)]) (m := (t.map sN).map tl) (fun z => nomatch z) (fun z => h (List.map_eq_nil_iff.mp (List.map_eq_nil_iff.mp z)))).symm
theorem stT_join {s : StepT} (h1 : s.2.1 ≠ []) (h2 : s.2.2 ≠ []) : stT s = Txt.join sSp (lineS s) := by
  refine TL.ext_tl ?_
  have hm1 : (s.2.1.map sN).map tl ≠ [] := fun z => h1 (List.map_eq_nil_iff.mp (List.map_eq_nil_iff.mp z))
  have hm2 : (s.2.2.map sN).map tl ≠ [] := fun z => h2 (List.map_eq_nil_iff.mp (List.map_eq_nil_iff.mp z))
  rw [TL.join_eq, TL.tl_join, e32]
  have e1 : (lineS s).map tl = [tl (xN s.1), tl ("no" : Str)] ++ ((s.2.1.map sN).map tl ++ ([tl ("yes" : Str)] ++ (s.2.2.map sN).map tl)) := by
    unfold lineS
    rw [List.map_cons, List.map_cons, List.map_append, List.map_cons]
    rfl
  rw [e1, joinL_app (l := [tl (xN s.1), tl ("no" : Str)]) (fun z => nomatch z) (fun z => hm1 (List.append_eq_nil_iff.mp z).1), joinL_app (m := [tl ("yes" : Str)] ++ (s.2.2.map sN).map tl) hm1 (fun z => nomatch z), joinL_app (l := [tl ("yes" : Str)]) (fun z => nomatch z) hm2]
  unfold stT
  rw [TL.tl_append, TL.tl_append, TL.tl_append, TL.tl_append, ← xN_eq, tl_spT, tl_spT]
  have e2 : tl (" no " : Str) = [32] ++ tl ("no" : Str) ++ [32] := by decide +kernel
  have e3 : tl (" yes " : Str) = [32] ++ tl ("yes" : Str) ++ [32] := by decide +kernel
  rw [e2, e3]
  show _ = (tl (xN s.1) ++ ([32] ++ tl ("no" : Str))) ++ ([32] ++ (_ ++ ([32] ++ (tl ("yes" : Str) ++ ([32] ++ _)))))
  simp only [List.append_assoc]
theorem lineL_wo {t : List Nat} (h : ∀ x ∈ t, x < 10) : ∀ w ∈ lineL t, Wo w := fun w hw => by
  rcases List.mem_cons.mp hw with rfl | hw
  · decide +kernel
  · obtain ⟨x, hx, rfl⟩ := List.mem_map.mp hw
    exact sN_wo x (h x hx)
theorem lineS_wo {s : StepT} (h : StS s) : ∀ w ∈ lineS s, Wo w := fun w hw => by
  obtain ⟨h1, ⟨_, h2⟩, _, h3⟩ := h
  rcases List.mem_cons.mp hw with rfl | hw
  · exact xN_wo _ h1
  rcases List.mem_cons.mp hw with rfl | hw
  · decide +kernel
  rcases List.mem_append.mp hw with hw | hw
  · obtain ⟨x, hx, rfl⟩ := List.mem_map.mp hw
    exact sN_wo x (h2 x hx)
  rcases List.mem_cons.mp hw with rfl | hw
  · decide +kernel
  · obtain ⟨x, hx, rfl⟩ := List.mem_map.mp hw
    exact sN_wo x (h3 x hx)
/-! ### steps -/
theorem stepOf_go {made : List (List Nat)} {n k : Nat} {s : StepT} (hn : n < 10) (hk : k < 7) (h1 : s.1 < k) (hp1 : IsP n s.2.1) (hp2 : IsP n s.2.2) (hm1 : s.2.1 ∈ made) (hm2 : s.2.2 ∈ made) : stepOf made n (nmL k) (lineS s) = .ok s := by
  obtain ⟨own, no, yes⟩ := s
  dsimp only at h1 hp1 hp2 hm1 hm2
  have d0 : (lineS (own, no, yes)).drop 0 = xN own :: ("no" : Str) :: (no.map sN ++ ("yes" : Str) :: yes.map sN) := rfl
  obtain ⟨f1, f2⟩ := nmL_ix k hk own h1
  have a1 := tk1_go d0 f1
  rw [f2] at a1
  have d1 : (lineS (own, no, yes)).drop 1 = ("no" : Str) :: (no.map sN ++ ("yes" : Str) :: yes.map sN) := rfl
  have a2 := tk1_go (wanted := wNo) d1 (List.mem_cons_self ..)
  have d2 : (lineS (own, no, yes)).drop 2 = no.map sN ++ ("yes" : Str) :: yes.map sN := rfl
  obtain ⟨a3, d3⟩ := tkP_go hn no 2 [] d2 hp1.lt hp1.nd
  rw [hp1.len] at a3 d3
  have b3 : tkT (lineS (own, no, yes)) made n 2 = .ok no := by
    unfold tkT
    rw [a3]
    exact if_pos hm1
  have a4 := tk1_go (wanted := wYes) d3 (List.mem_cons_self ..)
  have d4 := drop_next d3
  obtain ⟨a5, d5⟩ := tkP_go (r := []) hn yes (2 + n + 1) [] (by rw [d4, List.append_nil]) hp2.lt hp2.nd
  rw [hp2.len] at a5 d5
  have b5 : tkT (lineS (own, no, yes)) made n (2 + n + 1) = .ok yes := by
    unfold tkT
    rw [a5]
    exact if_pos hm2
  rw [so_6 a1 a2 b3 a4 b5]
  have hl : (lineS (own, no, yes)).length ≤ 2 + n + 1 + n := by
    have := congrArg List.length d5
    rw [List.length_drop] at this
    exact Nat.le_of_sub_eq_zero this
  exact if_neg (by omega)
theorem tkT_back {ws : List Str} {made : List (List Nat)} {n i : Nat} {t : List Nat} (hn : n < 10) (h : tkT ws made n i = .ok t) : t ∈ made ∧ ws.drop i = t.map sN ++ ws.drop (i + n) := by
  unfold tkT at h
  cases e : tkP ws (figs n) i n [] with
  | error z => rw [e] at h; cases h
  | ok t' =>
    rw [e] at h
    have h : (if t' ∈ made then Except.ok t' else Except.error (i + 1)) = (Except.ok t : Except Nat (List Nat)) := h
    split at h
    · rename_i hm
      injection h with h
      subst h
      obtain ⟨t2, e1, _, _, e4⟩ := tkP_back hn n i [] t' e
      rw [List.nil_append] at e1
      subst e1
      exact ⟨hm, e4⟩
    · cases h
theorem stepOf_back {made : List (List Nat)} {n k : Nat} {ws : List Str} {s : StepT} (hn : n < 10) (hk : k < 7) (h : stepOf made n (nmL k) ws = .ok s) : ws = lineS s ∧ s.1 < k ∧ s.2.1 ∈ made ∧ s.2.2 ∈ made := by
  cases h1 : tk1 ws 0 (nmL k) with
  | none => rw [so_1 h1] at h; cases h
  | some own =>
  cases h2 : tk1 ws 1 wNo with
  | none => rw [so_2 h1 h2] at h; cases h
  | some j =>
  cases h3 : tkT ws made n 2 with
  | error e => rw [so_3 h1 h2 h3] at h; cases h
  | ok no =>
  cases h4 : tk1 ws (2 + n) wYes with
  | none => rw [so_4 h1 h2 h3 h4] at h; cases h
  | some j2 =>
  cases h5 : tkT ws made n (2 + n + 1) with
  | error e => rw [so_5 h1 h2 h3 h4 h5] at h; cases h
  | ok yes =>
  rw [so_6 h1 h2 h3 h4 h5] at h
  split at h
  · cases h
  rename_i hl
  injection h with h
  subst h
  obtain ⟨w1, m1, e1, d1⟩ := tk1_back h1
  obtain ⟨w2, m2, _, d2⟩ := tk1_back h2
  obtain ⟨m3, d3⟩ := tkT_back hn h3
  obtain ⟨w4, m4, _, d4⟩ := tk1_back h4
  obtain ⟨m5, d5⟩ := tkT_back hn h5
  obtain ⟨a, ha, rfl⟩ := List.mem_map.mp (show w1 ∈ (List.range k).map xN from m1)
  have hak := List.mem_range.mp ha
  rw [(nmL_ix k hk a hak).2] at e1
  subst e1
  rw [List.mem_singleton] at m2 m4
  refine ⟨?_, hak, m3, m5⟩
  have d0 : ws = ws.drop 0 := rfl
  rw [d0, d1, d2, d3, d4, d5, List.drop_eq_nil_of_le (Nat.le_of_not_lt hl), m2, m4, List.append_nil]
  rfl
theorem stepsOf_app {made : List (List Nat)} {n : Nat} {xs : List Str} : ∀ {A : List (Nat × List Str)} {ss : List StepT} (R : List (Nat × List Str)), Paired (fun b s => stepOf made n xs b.2 = .ok s) A ss → stepsOf made n xs (A ++ R) = appE ss (stepsOf made n xs R)
  | _, _, R, .nil => by
    show stepsOf made n xs R = appE [] (stepsOf made n xs R)
    cases stepsOf made n xs R <;> rfl
  | b :: A, s :: ss, R, .cons r t => by
    have z := stepsOf_ok (made := made) (n := n) (xs := xs) (b := b) (rest := A ++ R) r []
    have e : appE [] (stepsOf made n xs (b :: (A ++ R))) = stepsOf made n xs (b :: (A ++ R)) := by cases stepsOf made n xs (b :: (A ++ R)) <;> rfl
    rw [List.cons_append, ← e, z, stepsOf_app R t]
    cases stepsOf made n xs R with
    | error e => rfl
    | ok ts => rfl
end Lt

set_option Elab.async false
set_option linter.all false
set_option maxRecDepth 100000
set_option maxHeartbeats 1000000
/-! texts of rows and locks, loose and bent -/
namespace Lt
open PySem PySem.Spec PyProof.Rows L2
open TL (tl spl joinL)
theorem numWs_full {L : List (List Str)} (h : ∀ l ∈ L, l ≠ []) : numWs L = (List.range L.length).map fun i => (i + 1, L.getD i []) := by
  unfold numWs
  rw [List.filter_eq_self.mpr fun i hi => ?_]
  have hi := List.mem_range.mp hi
  have := h _ (List.mem_of_getElem? (getD_of (d := []) hi))
  cases e : L.getD i [] with
  | nil => exact absurd e this
  | cons a l => rfl
theorem numWs_snd' {L : List (List Str)} (h : ∀ l ∈ L, l ≠ []) : (numWs L).map (·.2) = L := by
  rw [numWs_snd]
  refine List.filter_eq_self.mpr fun l hl => ?_
  cases l with
  | nil => exact absurd rfl (h _ hl)
  | cons a l => rfl
theorem paired_of_snd {α : Type} {f : α → List Str} {R : Nat × List Str → α → Prop} : ∀ {NL : List (Nat × List Str)} {ss : List α}, NL.map (·.2) = ss.map f → (∀ b s, s ∈ ss → b.2 = f s → R b s) → Paired R NL ss
  | [], [], _, _ => .nil
  | b :: NL, s :: ss, h, hr => by
    injection h with h1 h2
    exact .cons (hr b s (List.mem_cons_self ..) h1) (paired_of_snd h2 fun b s hs => hr b s (List.mem_cons_of_mem _ hs))
  | [], s :: ss, h, _ => nomatch h
  | b :: NL, [], h, _ => nomatch h
/-! ### rows -/
/-- a step of a lock's -/
structure StL (made : List (List Nat)) (n k : Nat) (s : StepT) : Prop where
  own : s.1 < k
  p1 : IsP n s.2.1
  p2 : IsP n s.2.2
  m1 : s.2.1 ∈ made
  m2 : s.2.2 ∈ made
theorem StL.sts {made : List (List Nat)} {n k : Nat} {s : StepT} (h : StL made n k s) (hn : n ≤ 9) (hk : k ≤ 6) : StS s :=
  ⟨by have := h.own; omega, ⟨by rw [h.p1.len]; exact hn, fun x hx => by have := h.p1.lt x hx; omega⟩, by rw [h.p2.len]; exact hn, fun x hx => by have := h.p2.lt x hx; omega⟩
theorem isP_ne {n : Nat} {t : List Nat} (h : IsP n t) (hn : 2 ≤ n) : t ≠ [] := fun z => by
  have := h.len
  rw [z, List.length_nil] at this
  omega
theorem join_wo10 {ws : List Str} (h : ∀ w ∈ ws, Wo w) : 10 ∉ tl (Txt.join sSp ws) := join_free (by decide +kernel) fun w hw => (h w hw).2.2
section
variable {made : List (List Nat)} {n k : Nat} {ss : List StepT}
theorem rowTx_lines (hn : 2 ≤ n) (n9 : n ≤ 9) (k6 : k ≤ 6) (h : ∀ s ∈ ss, StL made n k s) (hne : ss ≠ []) : splS (rowTx ss) sNl = ss.map stT := by
  unfold rowTx
  refine joinS_nl (fun z => hne (List.map_eq_nil_iff.mp z)) fun p hp => ?_
  obtain ⟨s, hs, rfl⟩ := List.mem_map.mp hp
  rw [stT_join (isP_ne (h s hs).p1 hn) (isP_ne (h s hs).p2 hn)]
  exact join_wo10 (lineS_wo ((h s hs).sts n9 k6))
theorem stT_words {s : StepT} (hn : 2 ≤ n) (n9 : n ≤ 9) (k6 : k ≤ 6) (h : StL made n k s) : wordsIn (stT s) = lineS s ∧ splS (stT s) sSp = lineS s := by
  have e := stT_join (isP_ne h.p1 hn) (isP_ne h.p2 hn)
  have w := lineS_wo (h.sts n9 k6)
  rw [e]
  exact ⟨wordsIn_join w, joinS_sp (fun z => nomatch z) fun p hp => (w p hp).2.1⟩
theorem rowTx_ne (hn : 2 ≤ n) (n9 : n ≤ 9) (k6 : k ≤ 6) (h : ∀ s ∈ ss, StL made n k s) : (linesIn (rowTx ss)).filter (fun l => !l.isEmpty) = ss.map lineS := by
  by_cases hne : ss = []
  · subst hne
    decide +kernel
  · unfold linesIn
    rw [rowTx_lines hn n9 k6 h hne, List.map_map, show ss.map (wordsIn ∘ stT) = ss.map lineS from List.map_congr_left fun s hs => (stT_words hn n9 k6 (h s hs)).1]
    refine List.filter_eq_self.mpr fun l hl => ?_
    obtain ⟨s, hs, rfl⟩ := List.mem_map.mp hl
    rfl
theorem row_loose (hn : 2 ≤ n) (n9 : n ≤ 9) (k6 : k ≤ 6) (h : ∀ s ∈ ss, StL made n k s) {y : Str} (hy : SameW y (rowTx ss)) : rowOf made n k y = .ok ss := by
  have e : (numWs (linesIn y)).map (·.2) = ss.map lineS := by
    rw [numWs_snd, show (linesIn y).filter (fun l => !l.isEmpty) = _ from hy, rowTx_ne hn n9 k6 h]
  have p : Paired (fun b s => stepOf made n (nmL k) b.2 = .ok s) (numWs (linesIn y)) ss := paired_of_snd e fun b s hs hb => by
    have z := h s hs
    rw [hb]
    exact stepOf_go (by omega) (by omega) z.own z.p1 z.p2 z.m1 z.m2
  have z := stepsOf_app (made := made) (n := n) (xs := nmL k) [] p
  rw [List.append_nil] at z
  unfold rowOf
  rw [z]
  show Except.ok (ss ++ []) = _
  rw [List.append_nil]
theorem row_bent (hn : 2 ≤ n) (n9 : n ≤ 9) (k6 : k ≤ 6) (hmade : ∀ t ∈ made, IsP n t) (h : ∀ s ∈ ss, StL made n k s) (hne : ss ≠ []) {at_ pl : Nat} {u : Str} (hu : Wo u) (ha : at_ < (splS (rowTx ss) sNl).length) :
    (∃ e, rowOf made n k (bentT (rowTx ss) at_ pl u) = .error (at_ + 1, e)) ∨ ∃ ss', rowOf made n k (bentT (rowTx ss) at_ pl u) = .ok ss' ∧ rowTx ss' = bentT (rowTx ss) at_ pl u ∧ (∀ s ∈ ss', StL made n k s) ∧ ss'.length = ss.length := by
  have el := rowTx_lines hn n9 k6 h hne
  unfold bentT
  rw [el] at ha ⊢
  rw [List.length_map] at ha
  have hs0 : ss[at_]? = some ss[at_] := List.getElem?_eq_getElem ha
  generalize ss[at_] = s0 at hs0
  have hm0 : s0 ∈ ss := List.mem_of_getElem? hs0
  have eg : (ss.map stT).getD at_ ("" : Str) = stT s0 := by
    rw [List.getD_eq_getElem?_getD, List.getElem?_map, hs0]
    rfl
  rw [eg, (stT_words hn n9 k6 (h s0 hm0)).2]
  have hw0 := lineS_wo ((h s0 hm0).sts n9 k6)
  have hws : ∀ w ∈ (lineS s0).set pl u, Wo w := fun w hw => by
    rcases List.mem_or_eq_of_mem_set hw with z | z
    · exact hw0 w z
    · rw [z]
      exact hu
  have hwn : (lineS s0).set pl u ≠ [] := fun z => by
    have := congrArg List.length z
    rw [List.length_set] at this
    cases this
  generalize (lineS s0).set pl u = ws at *
  have hcut : ss.take at_ ++ [s0] ++ ss.drop (at_ + 1) = ss := by
    rw [set_cut ss at_ s0 ha]
    refine List.ext_getElem? fun i => ?_
    by_cases e : at_ = i
    · subst e
      rw [List.getElem?_set_self ha, hs0]
    · rw [List.getElem?_set_ne e]
  have hset : (ss.map stT).set at_ (Txt.join sSp ws) = (ss.take at_).map stT ++ Txt.join sSp ws :: (ss.drop (at_ + 1)).map stT := by
    rw [← set_cut _ _ _ (by rw [List.length_map]; exact ha), List.append_assoc, List.map_take, List.map_drop]
    rfl
  have hA : ∀ s ∈ ss.take at_, StL made n k s := fun s hs => h s (List.mem_of_mem_take hs)
  have hB : ∀ s ∈ ss.drop (at_ + 1), StL made n k s := fun s hs => h s (List.mem_of_mem_drop hs)
  have hlA : (ss.take at_).length = at_ := by rw [List.length_take]; omega
  have hss : ss.length = at_ + 1 + (ss.drop (at_ + 1)).length := by rw [List.length_drop]; omega
  have wA : (ss.take at_).map (wordsIn ∘ stT) = (ss.take at_).map lineS := List.map_congr_left fun s hs => (stT_words hn n9 k6 (hA s hs)).1
  have wB : (ss.drop (at_ + 1)).map (wordsIn ∘ stT) = (ss.drop (at_ + 1)).map lineS := List.map_congr_left fun s hs => (stT_words hn n9 k6 (hB s hs)).1
  rw [hset]
  generalize ss.take at_ = sA at *
  generalize ss.drop (at_ + 1) = sB at *
  have fA : ∀ s, StL made n k s → 10 ∉ tl (stT s) := fun s hs => by
    rw [stT_join (isP_ne hs.p1 hn) (isP_ne hs.p2 hn)]
    exact join_wo10 (lineS_wo (hs.sts n9 k6))
  have eL : linesIn (Txt.join sNl (sA.map stT ++ Txt.join sSp ws :: sB.map stT)) = sA.map lineS ++ ws :: sB.map lineS := by
    rw [linesIn_join (fun z => by cases sA <;> cases z) fun f hf => ?_]
    · rw [List.map_append, List.map_cons, List.map_map, List.map_map, wA, wB, wordsIn_join hws]
    · rcases List.mem_append.mp hf with z | z
      · obtain ⟨s, hs, rfl⟩ := List.mem_map.mp z
        exact fA s (hA s hs)
      rcases List.mem_cons.mp z with rfl | z
      · exact join_wo10 hws
      · obtain ⟨s, hs, rfl⟩ := List.mem_map.mp z
        exact fA s (hB s hs)
  have nL : ∀ l ∈ sA.map lineS ++ ws :: sB.map lineS, l ≠ [] := fun l hl => by
    rcases List.mem_append.mp hl with z | z
    · obtain ⟨s, hs, rfl⟩ := List.mem_map.mp z
      exact fun z => nomatch z
    rcases List.mem_cons.mp z with rfl | z
    · exact hwn
    · obtain ⟨s, hs, rfl⟩ := List.mem_map.mp z
      exact fun z => nomatch z
  have eN2 := numWs_snd' nL
  have eN := numWs_full nL
  unfold rowOf
  rw [eL]
  have hb : (numWs (sA.map lineS ++ ws :: sB.map lineS))[at_]? = some (at_ + 1, ws) := by
    have hl : at_ < (sA.map lineS ++ ws :: sB.map lineS).length := by
      rw [List.length_append, List.length_map, hlA, List.length_cons]
      omega
    rw [eN, List.getElem?_map, List.getElem?_range hl]
    have : (sA.map lineS ++ ws :: sB.map lineS).getD at_ [] = ws := by
      rw [List.getD_eq_getElem?_getD, List.getElem?_append_right (by rw [List.length_map, hlA]; exact Nat.le_refl _), List.length_map, hlA, Nat.sub_self]
      rfl
    rw [Option.map_some, this]
  generalize numWs (sA.map lineS ++ ws :: sB.map lineS) = NL at *
  have hlt : at_ < NL.length := (List.getElem?_eq_some_iff.mp hb).1
  have cN : NL = NL.take at_ ++ (at_ + 1, ws) :: NL.drop (at_ + 1) := by
    conv => lhs; rw [← List.take_append_drop at_ NL, List.drop_eq_getElem_cons hlt, (List.getElem?_eq_some_iff.mp hb).2]
  have sA2 : (NL.take at_).map (·.2) = sA.map lineS := by
    rw [List.map_take, eN2]
    exact List.take_left' (by rw [List.length_map, hlA])
  have sB2 : (NL.drop (at_ + 1)).map (·.2) = sB.map lineS := by
    rw [List.map_drop, eN2, show sA.map lineS ++ ws :: sB.map lineS = (sA.map lineS ++ [ws]) ++ sB.map lineS by rw [List.append_assoc]; rfl]
    exact List.drop_left' (by rw [List.length_append, List.length_map, hlA]; rfl)
  have go : ∀ s, StL made n k s → stepOf made n (nmL k) (lineS s) = .ok s := fun s z => stepOf_go (by omega) (by omega) z.own z.p1 z.p2 z.m1 z.m2
  have pA : Paired (fun b s => stepOf made n (nmL k) b.2 = .ok s) (NL.take at_) sA := paired_of_snd sA2 fun b s hs hb => by rw [hb]; exact go s (hA s hs)
  have pB : Paired (fun b s => stepOf made n (nmL k) b.2 = .ok s) (NL.drop (at_ + 1)) sB := paired_of_snd sB2 fun b s hs hb => by rw [hb]; exact go s (hB s hs)
  have z := stepsOf_app (made := made) (n := n) (xs := nmL k) ((at_ + 1, ws) :: NL.drop (at_ + 1)) pA
  rw [← cN] at z
  rw [z]
  cases e : stepOf made n (nmL k) ws with
  | error e' =>
    rw [stepsOf_bad (b := (at_ + 1, ws)) e]
    exact .inl ⟨e', rfl⟩
  | ok st =>
    refine .inr ⟨sA ++ [st] ++ sB, ?_, ?_, ?_, ?_⟩
    · have zB := stepsOf_app (made := made) (n := n) (xs := nmL k) [] pB
      rw [List.append_nil] at zB
      rw [stepsOf_ok (b := (at_ + 1, ws)) e, zB]
      show Except.ok (sA ++ [st] ++ (sB ++ [])) = _
      rw [List.append_nil]
    · obtain ⟨e1, o1, o2, o3⟩ := stepOf_back (by omega) (by omega) e
      unfold rowTx
      rw [e1, ← stT_join (isP_ne (hmade _ o2) hn) (isP_ne (hmade _ o3) hn), List.map_append, List.map_append, List.append_assoc]
      rfl
    · obtain ⟨e1, o1, o2, o3⟩ := stepOf_back (by omega) (by omega) e
      intro s hs
      rcases List.mem_append.mp hs with y | y
      · rcases List.mem_append.mp y with y | y
        · exact hA s y
        · rw [List.mem_singleton.mp y]
          exact ⟨o1, hmade _ o2, hmade _ o3, o2, o3⟩
      · exact hB s y
    · rw [List.length_append, List.length_append, hlA, hss]
      rfl
end
end Lt

set_option Elab.async false
set_option linter.all false
set_option maxRecDepth 100000
set_option maxHeartbeats 1000000
/-! texts of locks, loose and bent -/
namespace Lt
open PySem PySem.Spec PyProof.Rows L2
open TL (tl spl joinL)
theorem sizeL_at {acc : List (List Nat)} {n size : Nat} {t : List Nat} (h2 : 2 ≤ n) (h9 : n ≤ 9) (hl : t.length = n) (hs : acc = [] ∨ size = n) : sizeL acc (lineL t) size = n := by
  unfold sizeL
  rcases hs with rfl | rfl
  · show max 2 (min 9 (((t.map sN).length + 1) - 1)) = n
    rw [List.length_map, hl]
    omega
  · split
    · show max 2 (min 9 (((t.map sN).length + 1) - 1)) = size
      rw [List.length_map, hl]
      omega
    · rfl
theorem sizeL_ws {acc : List (List Nat)} {n size : Nat} {ws : List Str} (h2 : 2 ≤ n) (h9 : n ≤ 9) (hl : ws.length = n + 1) (hs : acc = [] ∨ size = n) : sizeL acc ws size = n := by
  unfold sizeL
  rcases hs with rfl | rfl
  · show max 2 (min 9 (ws.length - 1)) = n
    omega
  · split
    · omega
    · rfl
theorem rdL_go {n : Nat} (h2 : 2 ≤ n) (h9 : n ≤ 9) : ∀ {NL : List (Nat × List Str)} {ts : List (List Nat)} (size : Nat) (acc : List (List Nat)), NL.map (·.2) = ts.map lineL → (∀ t ∈ ts, IsP n t) → acc.length + ts.length ≤ 4 → (acc = [] ∨ size = n) → rdL NL size acc = .ok (acc ++ ts)
  | [], [], size, acc, _, _, _, _ => by
    rw [List.append_nil]
    rfl
  | b :: NL, t :: ts, size, acc, h, hp, hl, hs => by
    injection h with h1 h3
    have pt := hp t (List.mem_cons_self ..)
    have hb : b = (b.1, lineL t) := by rw [← h1]
    have ez := sizeL_at (acc := acc) h2 h9 pt.len hs
    have d0 : (lineL t).drop 0 = ("turn" : Str) :: t.map sN := rfl
    have a1 := tk1_go (wanted := wTurn) d0 (List.mem_cons_self ..)
    obtain ⟨a2, a3⟩ := tkP_go (ws := lineL t) (r := []) (by omega : n < 10) t 1 [] (by rw [List.append_nil]; rfl) pt.lt pt.nd
    rw [pt.len] at a2
    have ll : (lineL t).length = n + 1 := by
      show (t.map sN).length + 1 = _
      rw [List.length_map, pt.len]
    rw [List.length_cons] at hl
    rw [hb, rdL_more (b := (b.1, lineL t)) (by omega) a1 (t := t) (by dsimp only; rw [ez]; exact a2)]
    dsimp only
    rw [ez, if_neg (by omega), rdL_go h2 h9 n (acc ++ [t]) h3 (fun t ht => hp t (List.mem_cons_of_mem _ ht)) (by rw [List.length_append]; show acc.length + 1 + _ ≤ 4; omega) (.inr rfl), List.append_assoc]
    rfl
  | [], t :: ts, _, _, h, _, _, _ => nomatch h
  | b :: NL, [], _, _, h, _, _, _ => nomatch h
theorem tkP_nd {ws fs : List Str} : ∀ (k i : Nat) (acc t : List Nat), tkP ws fs i k acc = .ok t → acc.Nodup → t.Nodup
  | 0, i, acc, t, h, hn => by
    have h : Except.ok acc = (Except.ok t : Except Nat (List Nat)) := h
    injection h with h
    rwa [← h]
  | k + 1, i, acc, t, h, hn => by
    cases e : tk1 ws i fs with
    | none => rw [tkP_none e] at h; cases h
    | some q =>
      by_cases hm : q ∈ acc
      · rw [tkP_twice e hm] at h; cases h
      · rw [tkP_step e hm] at h
        refine tkP_nd k (i + 1) _ t h ?_
        refine List.nodup_append.mpr ⟨hn, List.nodup_cons.mpr ⟨List.not_mem_nil, List.nodup_nil⟩, fun a ha b hb z => ?_⟩
        rw [List.mem_singleton] at hb
        rw [z, hb] at ha
        exact hm ha
theorem rdL_back {n : Nat} (h2 : 2 ≤ n) (h9 : n ≤ 9) : ∀ {NL : List (Nat × List Str)} (size : Nat) (acc res : List (List Nat)), (∀ b ∈ NL, b.2.length = n + 1) → (acc = [] ∨ size = n) → rdL NL size acc = .ok res → ∃ ts, res = acc ++ ts ∧ NL.map (·.2) = ts.map lineL ∧ ∀ t ∈ ts, t.length = n ∧ t.Nodup ∧ ∀ x ∈ t, x < n
  | [], size, acc, res, _, _, h => by
    have h : Except.ok acc = (Except.ok res : Except (Nat × Nat) (List (List Nat))) := h
    injection h with h
    exact ⟨[], by rw [List.append_nil, h], rfl, fun _ z => nomatch z⟩
  | b :: NL, size, acc, res, hl, hs, h => by
    have ez := sizeL_ws (acc := acc) h2 h9 (hl b (List.mem_cons_self ..)) hs
    by_cases h4 : acc.length = 4
    · rw [rdL_full h4] at h; cases h
    cases e1 : tk1 b.2 0 wTurn with
    | none => rw [rdL_no h4 e1] at h; cases h
    | some j =>
    cases e2 : tkP b.2 (figs n) 1 n [] with
    | error e => rw [rdL_places h4 e1 (by rw [ez]; exact e2)] at h; cases h
    | ok t =>
    rw [rdL_more h4 e1 (by rw [ez]; exact e2), ez] at h
    split at h
    · cases h
    rename_i hn
    obtain ⟨ts, g1, g2, g3⟩ := rdL_back h2 h9 n (acc ++ [t]) res (fun b hb => hl b (List.mem_cons_of_mem _ hb)) (.inr rfl) h
    obtain ⟨w1, m1, _, d1⟩ := tk1_back e1
    obtain ⟨t', k1, k2, k3, k4⟩ := tkP_back (by omega : n < 10) n 1 [] t e2
    rw [List.nil_append] at k1
    subst k1
    rw [List.mem_singleton] at m1
    have eb : b.2 = lineL t := by
      have d0 : b.2 = b.2.drop 0 := rfl
      rw [d0, d1, k4, List.drop_eq_nil_of_le (Nat.le_of_not_lt hn), m1, List.append_nil]
      rfl
    refine ⟨t :: ts, by rw [g1, List.append_assoc]; rfl, by rw [List.map_cons, List.map_cons, g2, eb], fun u hu => ?_⟩
    rcases List.mem_cons.mp hu with rfl | hu
    · exact ⟨k2, tkP_nd n 1 [] _ e2 List.nodup_nil, k3⟩
    · exact g3 u hu
theorem sNs_inj : ∀ {t u : List Nat}, (∀ x ∈ t, x < 10) → (∀ x ∈ u, x < 10) → t.map sN = u.map sN → t = u
  | [], [], _, _, _ => rfl
  | a :: t, b :: u, h1, h2, h => by
    injection h with g1 g2
    rw [sN_inj a (h1 a (List.mem_cons_self ..)) b (h2 b (List.mem_cons_self ..)) g1, sNs_inj (fun x hx => h1 x (List.mem_cons_of_mem _ hx)) (fun x hx => h2 x (List.mem_cons_of_mem _ hx)) g2]
  | [], b :: u, _, _, h => nomatch h
  | a :: t, [], _, _, h => nomatch h
/-- a turn that is another one but for one place -/
theorem perm_set {n : Nat} {t u : List Nat} {pl : Nat} {w : Str} (h9 : n ≤ 9) (hu : IsP n u) (hl : t.length = n) (hnd : t.Nodup) (hlt : ∀ x ∈ t, x < n) (h : lineL t = (lineL u).set pl w) : t = u := by
  have t10 : ∀ x ∈ t, x < 10 := fun x hx => by have := hlt x hx; omega
  have u10 : ∀ x ∈ u, x < 10 := fun x hx => by have := hu.lt x hx; omega
  cases pl with
  | zero =>
    injection h with _ h
    exact sNs_inj t10 u10 h
  | succ j =>
    injection h with _ h
    have h : t.map sN = (u.map sN).set j w := h
    have off : ∀ i, i ≠ j → t[i]? = u[i]? := fun i hi => by
      have z := congrArg (fun l : List Str => l[i]?) h
      rw [List.getElem?_set_ne (Ne.symm hi), List.getElem?_map, List.getElem?_map] at z
      cases e1 : t[i]? with
      | none =>
        cases e2 : u[i]? with
        | none => rfl
        | some b => rw [e1, e2] at z; cases z
      | some a =>
        cases e2 : u[i]? with
        | none => rw [e1, e2] at z; cases z
        | some b =>
          rw [e1, e2] at z
          rw [sN_inj a (t10 a (List.mem_of_getElem? e1)) b (u10 b (List.mem_of_getElem? e2)) (Option.some.inj z)]
    refine List.ext_getElem? fun i => ?_
    by_cases hi : i = j
    · subst hi
      by_cases hin : i < n
      · have ti : t[i]? = some (t[i]'(by omega)) := List.getElem?_eq_getElem (by omega)
        have hm : t[i]'(by omega) ∈ u := hu.mem.mpr (hlt _ (List.mem_of_getElem? ti))
        obtain ⟨m, hm1, hm2⟩ := List.getElem_of_mem hm
        by_cases e : m = i
        · subst e
          rw [ti, List.getElem?_eq_getElem hm1, hm2]
        · have z := off m e
          rw [List.getElem?_eq_getElem hm1, hm2] at z
          obtain ⟨g1, g2⟩ := List.getElem?_eq_some_iff.mp z
          exact absurd ((List.getElem_inj hnd).mp g2) e
      · rw [List.getElem?_eq_none (by omega), List.getElem?_eq_none (by rw [hu.len]; omega)]
    · exact off i hi
section
variable {ls : List (List Nat)} {n : Nat}
theorem lnT_words {t : List Nat} (hn : 2 ≤ n) (n9 : n ≤ 9) (h : IsP n t) : wordsIn (lnT t) = lineL t ∧ splS (lnT t) sSp = lineL t ∧ 10 ∉ tl (lnT t) := by
  have w := lineL_wo (t := t) fun x hx => by have := h.lt x hx; omega
  rw [lnT_join (isP_ne h hn)]
  exact ⟨wordsIn_join w, joinS_sp (fun z => nomatch z) (fun p hp => (w p hp).2.1), join_wo10 w⟩
theorem lockTx_lines (g : GL ls n) : splS (lockTx ls) sNl = ls.map lnT := by
  obtain ⟨l1, _, n2, n9, hp⟩ := g
  unfold lockTx
  refine joinS_nl (fun z => ?_) fun p hm => ?_
  · rw [List.map_eq_nil_iff.mp z] at l1
    cases l1
  · obtain ⟨t, ht, rfl⟩ := List.mem_map.mp hm
    exact (lnT_words n2 n9 (hp t ht)).2.2
theorem lockTx_ne (g : GL ls n) : (linesIn (lockTx ls)).filter (fun l => !l.isEmpty) = ls.map lineL := by
  unfold linesIn
  rw [lockTx_lines g, List.map_map, show ls.map (wordsIn ∘ lnT) = ls.map lineL from List.map_congr_left fun t ht => (lnT_words g.2.2.1 g.2.2.2.1 (g.2.2.2.2 t ht)).1]
  refine List.filter_eq_self.mpr fun l hl => ?_
  obtain ⟨s, hs, rfl⟩ := List.mem_map.mp hl
  rfl
theorem lockOf_ok {y : Str} {ts : List (List Nat)} (h : rdL (numWs (linesIn y)) 0 [] = .ok ts) (hne : ts ≠ []) : lockOf y = .ok ts := by
  unfold lockOf
  rw [h]
  cases ts with
  | nil => exact absurd rfl hne
  | cons a l => rfl
theorem lock_loose (g : GL ls n) {y : Str} (hy : SameW y (lockTx ls)) : lockOf y = .ok ls := by
  have e : (numWs (linesIn y)).map (·.2) = ls.map lineL := by
    rw [numWs_snd, show (linesIn y).filter (fun l => !l.isEmpty) = _ from hy, lockTx_ne g]
  obtain ⟨l1, l4, n2, n9, hp⟩ := g
  refine lockOf_ok (rdL_go n2 n9 0 [] e hp (by rw [List.length_nil]; omega) (.inl rfl)) fun z => ?_
  rw [z] at l1
  cases l1
theorem lock_bent (g : GL ls n) {at_ pl : Nat} {u : Str} (hu : Wo u) (ha : at_ < (splS (lockTx ls) sNl).length) :
    (∃ e, lockOf (bentT (lockTx ls) at_ pl u) = .error e) ∨ (lockOf (bentT (lockTx ls) at_ pl u) = .ok ls ∧ bentT (lockTx ls) at_ pl u = lockTx ls) := by
  have el := lockTx_lines g
  obtain ⟨l1, l4, n2, n9, hp⟩ := id g
  unfold bentT
  rw [el] at ha ⊢
  rw [List.length_map] at ha
  have ht0 : ls[at_]? = some ls[at_] := List.getElem?_eq_getElem ha
  generalize ls[at_] = t0 at ht0
  have hm0 := List.mem_of_getElem? ht0
  have eg : (ls.map lnT).getD at_ ("" : Str) = lnT t0 := by
    rw [List.getD_eq_getElem?_getD, List.getElem?_map, ht0]
    rfl
  rw [eg, (lnT_words n2 n9 (hp t0 hm0)).2.1]
  have hw0 := lineL_wo (t := t0) fun x hx => by have := (hp t0 hm0).lt x hx; omega
  have hws : ∀ w ∈ (lineL t0).set pl u, Wo w := fun w hw => by
    rcases List.mem_or_eq_of_mem_set hw with z | z
    · exact hw0 w z
    · rw [z]
      exact hu
  have hwl : ((lineL t0).set pl u).length = n + 1 := by
    rw [List.length_set]
    show (t0.map sN).length + 1 = _
    rw [List.length_map, (hp t0 hm0).len]
  have hwd : ∀ t, lineL t = (lineL t0).set pl u → t.length = n → t.Nodup → (∀ x ∈ t, x < n) → t = t0 := fun t h a b c => perm_set n9 (hp t0 hm0) a b c h
  generalize (lineL t0).set pl u = ws at *
  have eL : linesIn (Txt.join sNl ((ls.map lnT).set at_ (Txt.join sSp ws))) = (ls.map lineL).set at_ ws := by
    rw [linesIn_join (fun z => ?_) fun f hf => ?_]
    · rw [List.map_set, List.map_map, wordsIn_join hws, show ls.map (wordsIn ∘ lnT) = ls.map lineL from List.map_congr_left fun t ht => (lnT_words n2 n9 (hp t ht)).1]
    · have := congrArg List.length z
      rw [List.length_set, List.length_map, List.length_nil] at this
      omega
    · rcases List.mem_or_eq_of_mem_set hf with z | z
      · obtain ⟨t, ht, rfl⟩ := List.mem_map.mp z
        exact (lnT_words n2 n9 (hp t ht)).2.2
      · rw [z]
        exact join_wo10 hws
  have hlen : ∀ l ∈ (ls.map lineL).set at_ ws, l.length = n + 1 := fun l hl => by
    rcases List.mem_or_eq_of_mem_set hl with z | z
    · obtain ⟨t, ht, rfl⟩ := List.mem_map.mp z
      show (t.map sN).length + 1 = _
      rw [List.length_map, (hp t ht).len]
    · rw [z]
      exact hwl
  have nL : ∀ l ∈ (ls.map lineL).set at_ ws, l ≠ [] := fun l hl z => by
    have := hlen l hl
    rw [z] at this
    cases this
  have eN2 := numWs_snd' nL
  cases e : lockOf (Txt.join sNl ((ls.map lnT).set at_ (Txt.join sSp ws))) with
  | error e' => exact .inl ⟨e', rfl⟩
  | ok res =>
    right
    unfold lockOf at e
    rw [eL] at e
    generalize numWs ((ls.map lineL).set at_ ws) = NL at *
    cases er : rdL NL 0 [] with
    | error e' => rw [er] at e; cases e
    | ok ts =>
      obtain ⟨ts', q1, q2, q3⟩ := rdL_back n2 n9 0 [] ts (fun b hb => hlen _ (by rw [← eN2]; exact List.mem_map.mpr ⟨b, hb, rfl⟩)) (.inl rfl) er
      rw [List.nil_append] at q1
      subst q1
      rw [eN2] at q2
      have eq : ts = ls := by
        refine List.ext_getElem? fun i => ?_
        have z := congrArg (fun l : List (List Str) => l[i]?) q2
        rw [List.getElem?_map] at z
        by_cases hi : at_ = i
        · subst hi
          rw [List.getElem?_set_self (by rw [List.length_map]; exact ha)] at z
          cases et : ts[at_]? with
          | none => rw [et] at z; cases z
          | some t =>
            rw [et] at z
            obtain ⟨g1, g2, g3⟩ := q3 t (List.mem_of_getElem? et)
            rw [hwd t (Option.some.inj z).symm g1 g2 g3, ht0]
        · rw [List.getElem?_set_ne hi, List.getElem?_map] at z
          cases et : ts[i]? with
          | none =>
            cases eu : ls[i]? with
            | none => rfl
            | some v => rw [et, eu] at z; cases z
          | some t =>
            cases eu : ls[i]? with
            | none => rw [et, eu] at z; cases z
            | some v =>
              rw [et, eu] at z
              obtain ⟨g1, g2, g3⟩ := q3 t (List.mem_of_getElem? et)
              have pv := hp v (List.mem_of_getElem? eu)
              injection (Option.some.inj z) with _ z
              rw [sNs_inj (fun x hx => by have := g3 x hx; omega) (fun x hx => by have := pv.lt x hx; omega) z.symm]
      subst eq
      rw [er] at e
      have hz : ts.isEmpty = false := by
        cases ts with
        | nil => cases l1
        | cons a l => rfl
      have e : (if ts.isEmpty then Except.error ((splS (Txt.join sNl ((ts.map lnT).set at_ (Txt.join sSp ws))) sNl).length + 1, 1) else Except.ok ts) = Except.ok res := e
      rw [hz] at e
      refine ⟨e.symm, ?_⟩
      have ews : ws = lineL t0 := by
        have z := congrArg (fun l : List (List Str) => l[at_]?) q2
        rw [List.getElem?_set_self (by rw [List.length_map]; exact ha), List.getElem?_map, ht0] at z
        exact Option.some.inj z
      rw [ews, ← lnT_join (isP_ne (hp t0 hm0) n2)]
      unfold lockTx
      congr 1
      refine List.ext_getElem? fun i => ?_
      by_cases hi : at_ = i
      · subst hi
        rw [List.getElem?_set_self (by rw [List.length_map]; exact ha), List.getElem?_map, ht0]
        rfl
      · rw [List.getElem?_set_ne hi]
end
end Lt

set_option Elab.async false
set_option linter.all false
set_option maxRecDepth 100000
set_option maxHeartbeats 1000000
namespace Lt
open PySem PySem.Spec PyProof.Rows L2
theorem Paired.perm {α β : Type} {R : α → β → Prop} {ys xs : List α} (p : ys.Perm xs) : ∀ {ts : List β}, Paired R xs ts → ∃ us, Paired R ys us ∧ us.Perm ts := by
  induction p with
  | nil => intro ts h; cases h; exact ⟨[], .nil, List.Perm.refl _⟩
  | cons x _ ih =>
    intro ts h
    cases h with
    | cons r t =>
      obtain ⟨us, h1, h2⟩ := ih t
      exact ⟨_ :: us, .cons r h1, h2.cons _⟩
  | swap x y l =>
    intro ts h
    cases h with
    | cons r t =>
      cases t with
      | cons r2 t => exact ⟨_, .cons r2 (.cons r t), List.Perm.swap _ _ _⟩
  | trans _ _ ih1 ih2 =>
    intro ts h
    obtain ⟨us, h1, h2⟩ := ih2 h
    obtain ⟨ws, h3, h4⟩ := ih1 h1
    exact ⟨ws, h3, h4.trans h2⟩
theorem Paired.pairwise {α β : Type} {R : α → β → Prop} {S : α → α → Prop} {S' : β → β → Prop} (h : ∀ x y s t, R x s → R y t → S x y → S' s t) : ∀ {xs : List α} {ts : List β}, Paired R xs ts → xs.Pairwise S → ts.Pairwise S'
  | _, _, .nil, _ => .nil
  | _, _, .cons r t, .cons a b => .cons (fun s hs => by
      obtain ⟨i, hi, e⟩ := List.getElem_of_mem hs
      obtain ⟨x, hx, rx⟩ := Paired.getR t (show _[i]? = some s by rw [List.getElem?_eq_getElem hi, e])
      exact h _ _ _ _ r rx (a x (List.mem_of_getElem? hx))) (Paired.pairwise h t b)
theorem Paired.memL {α β : Type} {R : α → β → Prop} {xs : List α} {ts : List β} (p : Paired R xs ts) {x : α} (h : x ∈ xs) : ∃ t ∈ ts, R x t := by
  obtain ⟨i, hi, e⟩ := List.getElem_of_mem h
  obtain ⟨t, ht, r⟩ := Paired.getL p (show xs[i]? = some x by rw [List.getElem?_eq_getElem hi, e])
  exact ⟨t, List.mem_of_getElem? ht, r⟩
theorem paired_imp {α β : Type} {R R' : α → β → Prop} (h : ∀ a b, R a b → R' a b) : ∀ {xs : List α} {ts : List β}, Paired R xs ts → Paired R' xs ts := paired_mono h
/-- a list of turns whose objects are known -/
def LF (H : Hp) (a : Addr) (ts : List (List Nat)) : Prop := ∃ xs, H a = some (.lst xs) ∧ Paired (TF H) xs ts
theorem TFs.tm {H H' : Hp} (e : Tm H H') {xs : List V} {ts : List (List Nat)} (p : Paired (TF H) xs ts) : Paired (TF H') xs ts := paired_mono (fun _ _ r => TF.tm e r) p
theorem LF.same {H H' : Hp} {a : Addr} {ts : List (List Nat)} (h : LF H a ts) (e : Same H H') : LF H' a ts := let ⟨xs, h1, h2⟩ := h; ⟨xs, e _ _ h1, TFs.tm (.of e) h2⟩
theorem LF.step {K : PySem.W.Frag} {r sc : Addr} {ns : List Int} {H H' : Hp} {a : Addr} {ts : List (List Nat)} (h : LF H a ts) (ra : RowAt K H r sc ns) (hr : a ≠ r) (e : StepR r H H') : LF H' a ts := let ⟨xs, h1, h2⟩ := h; ⟨xs, e _ _ hr h1, TFs.tm (e.tm ra) h2⟩
theorem LF.lt {H : Hp} {a : Addr} {ts : List (List Nat)} (h : LF H a ts) : LT H a ts := let ⟨xs, h1, h2⟩ := h; ⟨xs, h1, paired_mono (fun _ _ r => TF.tn r) h2⟩
/-- the addresses and numbers -/
theorem ks_of {H : Hp} : ∀ {xs : List V} {ts : List (List Nat)}, Paired (TF H) xs ts → ∃ ks : List (Addr × List Int), xs = ks.map (fun p => V.ref p.1) ∧ ks.map (·.2) = ts.map iN ∧ ∀ p ∈ ks, ∃ t ∈ ts, p.2 = iN t ∧ TF H (.ref p.1) t
  | _, _, .nil => ⟨[], rfl, rfl, fun p h => by cases h⟩
  | _, _, .cons (a := x) (b := t) r s => by
    obtain ⟨ks, h1, h2, h3⟩ := ks_of s
    obtain ⟨a, o, e, ho, hd⟩ := id r
    refine ⟨(a, iN t) :: ks, by rw [e, h1]; rfl, by rw [List.map_cons, h2]; rfl, fun p hp => ?_⟩
    rcases List.mem_cons.mp hp with z | hp
    · rw [z]
      exact ⟨t, List.mem_cons_self, rfl, a, o, rfl, ho, hd⟩
    · obtain ⟨t', ht, z⟩ := h3 p hp
      exact ⟨t', List.mem_cons_of_mem _ ht, z⟩
theorem cut_one (xs : List V) (j : Nat) : cutV xs (some (j : Int)) (some ((j : Int) + 1)) = (xs.drop j).take 1 := by
  unfold cutV
  have e : ((j : Int) + 1) = ((j + 1 : Nat) : Int) := by omega
  rw [e, HT.sIx_nat, HT.sIx_nat]
  by_cases h : j < xs.length
  · rw [Nat.min_eq_left (Nat.le_of_lt h), Nat.min_eq_left h]
    congr 1
    omega
  · rw [Nat.min_eq_right (by omega), Nat.min_eq_right (by omega), List.drop_of_length_le (Nat.le_refl _), List.drop_of_length_le (by omega), List.take_nil, List.take_nil]
/-! ### the mirror -/
structure SpI (gs : List (List Nat)) (n j : Nat) (F : List (List Nat)) : Prop where
  nd : F.Nodup
  made : ∀ t ∈ F, Mk gs n t
  st : List.range n ∈ F
  cl : ∀ (i : Nat) (t : List Nat), i < j → F[i]? = some t → ∀ g ∈ gs, prod t g ∈ F
theorem SpI.skip {gs : List (List Nat)} {n j : Nat} {F : List (List Nat)} (h : SpI gs n j F) (hj : F.length ≤ j) : SpI gs n (j + 1) F :=
  ⟨h.nd, h.made, h.st, fun i t hi e => by
    have := (List.getElem?_eq_some_iff.mp e).1
    exact h.cl i t (by omega) e⟩
theorem SpI.next {gs : List (List Nat)} {n j : Nat} {F M : List (List Nat)} {one : List Nat} (h : SpI gs n j F) (h1 : F[j]? = some one) (hM : M.Nodup) (hM1 : ∀ t ∈ M, ∃ g ∈ gs, t = prod one g) (hM2 : ∀ g ∈ gs, prod one g ∈ M) :
    SpI gs n (j + 1) (F ++ M.filter fun t => decide (t ∉ F)) := by
  have hjl := (List.getElem?_eq_some_iff.mp h1).1
  have hone := h.made one (List.mem_of_getElem? h1)
  refine ⟨List.nodup_append.mpr ⟨h.nd, hM.filter _, fun a ha b hb e => ?_⟩, fun t ht => ?_, List.mem_append.mpr (.inl h.st), fun i t hi e g hg => ?_⟩
  · subst e
    have := (List.mem_filter.mp hb).2
    exact (of_decide_eq_true this) ha
  · rcases List.mem_append.mp ht with z | z
    · exact h.made t z
    · obtain ⟨g, hg, e⟩ := hM1 t (List.mem_filter.mp z).1
      rw [e]
      exact .step hone hg
  · rw [List.getElem?_append_left (by omega)] at e
    by_cases hij : i < j
    · exact List.mem_append.mpr (.inl (h.cl i t hij e g hg))
    · have : i = j := by omega
      subst this
      rw [h1] at e
      have e := Option.some.inj e
      subst e
      by_cases hin : prod one g ∈ F
      · exact List.mem_append.mpr (.inl hin)
      · exact List.mem_append.mpr (.inr (List.mem_filter.mpr ⟨hM2 g hg, decide_eq_true hin⟩))
theorem SpI.all {gs : List (List Nat)} {n j : Nat} {F : List (List Nat)} (h : SpI gs n j F) (hj : F.length ≤ j) : ∀ t, t ∈ F ↔ Mk gs n t := fun t => by
  refine ⟨h.made t, fun m => ?_⟩
  induction m with
  | still => exact h.st
  | @step t g _ hg ih =>
    obtain ⟨i, hi, e⟩ := List.getElem_of_mem ih
    exact h.cl i t (by omega) (by rw [List.getElem?_eq_getElem hi, e]) g hg
/-! ### a tuple or a list of turns -/
def GS (H : Hp) (v : V) (ts : List (List Nat)) : Prop := TT H v ts ∨ ∃ a, v = .ref a ∧ LT H a ts
theorem GS.same {H H' : Hp} {v : V} {ts : List (List Nat)} (h : GS H v ts) (e : Same H H') : GS H' v ts := by
  rcases h with h | ⟨a, rfl, h⟩
  · exact .inl (h.tm (.of e))
  · exact .inr ⟨a, rfl, h.same e⟩
def iSq (K : PySem.W.Frag) (i : Nat) : TI := fun σ H R => iTup K (tVar i) σ H R ∨ iList K (tVar i) σ H R
theorem pi_sq {X : Cx} {tg : Expr} {l : Expr} {i : Nat} (h : PE X l (tVar i)) : PI X tg l (iSq X.K i) :=
  ⟨fun pins s σ H R I q => q.elim ((pi_tup h).run pins s σ H R I) ((pi_list h).run pins s σ H R I)⟩
theorem sq_lc {K : PySem.W.Frag} {te : TE} {vs : List Nat} {σ : L2.St} {H1 : Hp} {β : Type} {i j : Nat} {gv : V} {gs : List (List Nat)} {Q : VK} (R : Hp → V → β → Prop) (ys : List β) (mono : ∀ H H' v b, Tm H H' → R H v b → R H' v b) (hgs : GS H1 gv gs) (hσ : σ[i]? = some (some gv)) (hz : gs.length ≤ 100000) (hy : ys.length = gs.length)
    (hw : ∀ x, wipe ((wipe σ vs).set j (some x)) vs = wipe σ vs)
    (he : ∀ (k : Nat) (x : V) (b : β) (g : List Nat), gs[k]? = some g → ys[k]? = some b → TN H1 x g → ∀ H, Same H1 H → ∀ Q : VK, (∀ v H', Same H H' → R H' v b → Q v H') → te ((wipe σ vs).set j (some x)) H Q)
    (hd : ∀ D H zs, H1 D = none → Same H1 H → H D = some (.lst zs) → Paired (R H) zs ys → Q (.ref D) H) : tLc (iSq K i) (gName j) tYes te vs σ H1 Q := by
  rcases hgs with ⟨a, xs, rfl, ha, p⟩ | ⟨a, rfl, xs, ha, p⟩
  · refine .inl ⟨_, hσ, a, rfl, ⟨_, SqT.of ha⟩, fun D hD => lc_tupM R ys mono (SqT.of ha) (fun H s => SqT.of (s _ _ ha)) (by rw [Paired.length p]; exact hz) (by rw [Paired.length p]; exact hy) hD hw (fun k x b hx hb => ?_) (fun H zs => hd D H zs hD)⟩
    obtain ⟨g, hg, r⟩ := Paired.getL p hx
    exact he k x b g hg hb r
  · refine .inr ⟨_, hσ, a, rfl, ⟨_, SqL.of ha⟩, fun D hD => lc_listM R ys mono (fun H s => SqL.of (s _ _ ha)) (by rw [Paired.length p]; exact hz) (by rw [Paired.length p]; exact hy) hD hw (fun k x b hx hb => ?_) (fun H zs => hd D H zs hD)⟩
    obtain ⟨g, hg, r⟩ := Paired.getL p hx
    exact he k x b g hg hb r
section
variable {P : Program} {w : World} {K : PySem.W.Frag} {mg : Str → Option Value} {base : Heap}
def spSpan : Sp := fun vs H Q _ => ∃ (gv : V) (gs : List (List Nat)) (n : Nat), vs = [nI n, gv] ∧ GS H gv gs ∧ (∀ g ∈ gs, IsP n g) ∧ 1 ≤ n ∧ n ≤ 9 ∧ gs.length ≤ 60 ∧ Few gs n 63 ∧
  ∀ p H' ts, Same H H' → H p = none → LF H' p ts → ts.Nodup → (∀ t, t ∈ ts ↔ Mk gs n t) → Asc ts → Q (.ref p) H'
theorem sc_law_span : FnScope ["places", "given", "found", "turn", "one", "later", "other"] ["places", "given"] (defScope s_law_span) := ⟨rfl, rfl, rfl, by decide +kernel, rfl, by decide +kernel, by decide +kernel⟩
theorem has_law_span (T : Top K mg "_law_span" s_law_span ["places", "given"]) (B : Bi mg) (hP : Has P w K mg base CX0 1 "_law_behind" ["one", "other"] spProdF) : Has P w K mg base CX0 2 "_law_span" ["places", "given"] spSpan := by
  refine T.ok sc_law_span (fun vs H Q E h => ?_) (fun f cdv A outer s H vs Q E hr h => ?_)
  · obtain ⟨gv, gs, n, rfl, _⟩ := h
    rfl
  · obtain ⟨gv, gs, n, rfl, hgv, hg, hn1, hn9, hgl, hf, q⟩ := h
    have hu64 := hr.units
    have hu65 : A.units + 3 + 65 < cLine := by have := hr.un; show A.units + 3 + 65 < cLine; have e : (A.deeper (envOfC "_law_span" (defScope s_law_span) s.heap.objs.size f cdv)).units = A.units + 3 := rfl; omega
    refine ⟨_, pss_cons (ps_set (i := 2) sc_law_span.nd rfl (Or.inr rfl) (pe_lst (pa_cons (pe_tupRgF (by rfl) (by rfl) B.tuple (prg_1 (by rfl) B.range (pv 0))) pa_nil)))
      (pss_cons (ps_for PassesOwn.never rfl (pi_range1 (by rfl) B.range (pa_cons pe_int pa_nil)) (pg_name (i := 3) sc_law_span.nd rfl (Or.inl rfl))
        (pss_one (ps_for PassesOwn.never rfl (pi_list (pe_slice sl_list (pv 2) (po_some (pv 3)) (po_some (pe_op op_add (pv 3) pe_int)))) (pg_name (i := 4) sc_law_span.nd rfl (Or.inr rfl))
          (pss_cons (ps_setLc (i := 5) (own := [("other", 6)]) (g := gName 6) (te := tCall spProdF [] E0 (tCons (tVar 4) (tCons (tVar 6) tNil))) (by rfl) sc_law_span.nd rfl rfl (sw_true rfl rfl rfl (by decide +kernel)) (pi_sq (pv 1)) (blkOk_by (own := [("other", 6)]) (N := ["places", "given", "found", "turn", "one", "later", "other"]) (sc := defScope s_law_span) (by decide +kernel))
            (fun _ _ _ _ _ => pg_name (i := 6) sc_law_span.nd rfl (Or.inl rfl)) (fun _ _ _ _ _ => pts_nil) (fun _ _ _ _ _ => pe_has hP hr (by rfl) (pa_cons (pv 4) (pa_cons (pv 6) pa_nil))))
          (pss_one (ps_set (i := 2) sc_law_span.nd rfl (Or.inr rfl) (pe_op op_cat (pv 2) (pe_lc (own := [("other", 6)]) (g := gName 6) (tt := tTest (tOp (rNotInD K) (tVar 6) (tVar 2))) (te := tVar 6) (by rfl) sc_law_span.nd
            (pi_list (pe_callB (cr_sortedT (by rfl)) (by rfl) B.sorted PyProof.Rows.boot_sorted (pa_cons (pe_callTy (cr_setOfT (by rfl) hu64) (by rfl) B.set PyProof.Rows.boot_set (pa_cons (pv 5) pa_nil)) pa_nil)))
            (blkOk_by (own := [("other", 6)]) (N := ["places", "given", "found", "turn", "one", "later", "other"]) (sc := defScope s_law_span) (by decide +kernel))
            (fun _ _ _ _ _ => pg_name (i := 6) sc_law_span.nd rfl (Or.inl rfl)) (fun _ _ _ _ _ => pts_one (pt_cmpR (op_notInD hu65) (pv 6) (pv 2) (by rfl))) (fun _ _ _ _ _ => pv 6)))))))))
      (pss_one (ps_ret (pe_callB (cr_sortT (d := n) (B := 9) hn1) (by rfl) B.sorted PyProof.Rows.boot_sorted (pa_cons (pv 2) pa_nil))))), ?_⟩
    refine ⟨_, rfl, n, rfl, .of_le (by omega) (by omega) (by omega) (by omega), fun q0 o ho hq0 => ⟨by show 1 ≤ sizeLine; decide, fun fl hfl => ?_⟩⟩
    have s1 := same_new (o := .frz o (.tup (rgV 0 n))) hq0
    have s2 := s1.trans (same_new (o := .lst [.ref q0]) hfl)
    have hq0l : q0 ≠ fl := fun z => by rw [← z, upd_same] at hfl; cases hfl
    refine ⟨300, rfl, by decide, by decide, for_range (lo := 0) (n := 300) (fun j σ H' => ∃ fl F x3 x4 x5 x6, σ = [some (nI n), some gv, some (.ref fl), x3, x4, x5, x6] ∧ Same H H' ∧ LF H' fl F ∧ SpI gs n j F)
      ⟨fl, [List.range n], none, none, none, none, rfl, s2, ⟨[.ref q0], upd_same, .cons ⟨q0, o, rfl, by rw [upd_ne hq0l, upd_same, rgV_nat], ho⟩ .nil⟩, ⟨List.pairwise_singleton _ _, fun t ht => by rw [List.mem_singleton.mp ht]; exact .still, List.mem_singleton.mpr rfl, fun i t hi => absurd hi (Nat.not_lt_zero i)⟩⟩ ?_ ?_⟩
    · rintro j σ H' hj ⟨fl, F, x3, x4, x5, x6, rfl, sm, ⟨xs, hxs, hp⟩, sp⟩
      simp only [Int.zero_add]
      have hFl : F.length ≤ 63 := hf.le sp.nd sp.made
      have hxl : xs.length = F.length := Paired.length hp
      refine ⟨_, rfl, _, rfl, (j : Int), rfl, _, rfl, (j : Int), 1, rfl, rfl, (j : Int) + 1, rfl, fl, xs, rfl, SqL.of hxs, fun sl hsl => ?_⟩
      have ssl := same_new (o := .lst (cutV xs (some (j : Int)) (some ((j : Int) + 1)))) hsl
      refine ⟨sl, rfl, ⟨_, SqL.of upd_same⟩, for_list (K := K) (a := sl) (xs := cutV xs (some (j : Int)) (some ((j : Int) + 1)))
        (fun i σ H2 => ∃ fl' F' x4 x5 x6, σ = [some (nI n), some gv, some (.ref fl'), some (nI j), x4, x5, x6] ∧ Same H' H2 ∧ LF H2 fl' F' ∧ (i = 0 → F' = F) ∧ (1 ≤ i → SpI gs n (j + 1) F') ∧ H2 sl = some (.lst (cutV xs (some (j : Int)) (some ((j : Int) + 1)))))
        ⟨fl, F, x4, x5, x6, rfl, ssl, LF.same ⟨xs, hxs, hp⟩ ssl, fun _ => rfl, fun h => absurd h (by omega), upd_same⟩ (fun i σ H2 _ ⟨_, _, _, _, _, _, _, _, _, _, h⟩ => SqL.of h) ?_ ?_⟩
      · rintro i x σ H2 hi ⟨fl', F', x4, x5, x6, rfl, sm1, ⟨xs2, hxs2, hp2⟩, h0, _, hsl2⟩
        have sm2 := sm.trans sm1
        rw [cut_one] at hi
        have hi0 : i = 0 := by
          have := (List.getElem?_eq_some_iff.mp hi).1
          rw [List.length_take] at this
          omega
        subst hi0
        have eF := h0 rfl
        subst eF
        rw [List.getElem?_take_of_lt (by omega), List.getElem?_drop, Nat.add_zero] at hi
        obtain ⟨one, hone, htf0⟩ := Paired.getL hp hi
        have hi := hone
        have htf : TF H2 x one := htf0.tm (.of sm1)
        have honeP := (sp.made one (List.mem_of_getElem? hone)).isP hg
        -- later
        dsimp only [gName, tSeq, tAsg, List.set]
        refine sq_lc TF (gs.map (prod one)) (fun _ _ _ _ e r => TF.tm e r) (hgv.same sm2) (by rfl) (by omega) (by rw [List.length_map]) (by intro _; rfl) (fun k y b g hgk hb hyg H3 s3 Q' q' => ?_) (fun D H3 zs hD s3 hz pz => ?_)
        · rw [List.getElem?_map, hgk] at hb
          have hb := Option.some.inj hb
          subst hb
          have hgP := hg g (List.mem_of_getElem? hgk)
          exact ⟨_, rfl, _, rfl, x, y, one, g, rfl, htf.tn.tm (.of s3), hyg.tm (.of s3), fun i hi => by rw [hgP.len]; exact honeP.lt i hi, by rw [honeP.len]; omega, q'⟩
        · -- found = found + [..]
          obtain ⟨ks, ek1, ek2, ek3⟩ := ks_of pz
          have hksl : ks.length < 64 := by
            have e := congrArg List.length ek2
            rw [List.length_map, List.length_map, List.length_map] at e
            omega
          have hks : ∀ p ∈ ks, SqT K H3 p.1 (p.2.map V.int) := fun p hp => by
            obtain ⟨t, _, e, a, o, ea, hao, _⟩ := ek3 p hp
            cases ea
            rw [e, show (iN t).map V.int = nIs t from (nIs_int t).symm]
            exact RT.sq (.inr ⟨o, hao⟩)
          have hz' : H3 D = some (.lst (ks.map fun p => V.ref p.1)) := by rw [hz, ek1]
          refine ⟨_, rfl, _, rfl, D, ks, rfl, SqL.of hz', hks, hksl, fun aS L haS hL1 hL2 => ?_⟩
          have s4 := same_new (o := SetTO P w aS L) haS
          have hLP : ∀ p ∈ L, ∃ t ∈ gs.map (prod one), p.2 = iN t ∧ TF H3 (.ref p.1) t := fun p hp => ek3 p (hL1 p hp)
          have hmulP : ∀ t ∈ gs.map (prod one), IsP n t := fun t ht => by
            obtain ⟨g, hgm, e⟩ := List.mem_map.mp ht
            rw [← e]
            exact honeP.prod (hg g hgm)
          refine ⟨aS, L, n, 9, rfl, upd_same, fun p hp => ?_, hn1, fun p hp => ?_, fun L' sp' pm nd h64 pw hsp' => ?_⟩
          · rcases hks p (hL1 p hp) with (z | ⟨o, z⟩) | z
            · exact .inl (.inl (s4 _ _ z))
            · exact .inl (.inr ⟨o, s4 _ _ z⟩)
            · exact .inr z
          · obtain ⟨t, ht, e, _⟩ := hLP p hp
            rw [e]
            exact ⟨by rw [iN_len, (hmulP t ht).len], bd_iN (hmulP t ht) hn9⟩
          have s5 := same_new (o := .lst (L'.map fun q : Addr × List Int => V.ref q.1)) hsp'
          have s45 := s4.trans s5
          refine ⟨sp', rfl, ⟨_, SqL.of upd_same⟩, fun D2 hD2 => ?_⟩
          have hL' : ∀ q ∈ L', q.2 = iN (q.2.map Int.toNat) ∧ q.2.map Int.toNat ∈ gs.map (prod one) ∧ TF H3 (.ref q.1) (q.2.map Int.toNat) := fun q hq => by
            obtain ⟨t, ht, e, tf⟩ := hLP q (pm.mem_iff.mp hq)
            have et : q.2.map Int.toNat = t := by
              rw [e]
              show (t.map Int.ofNat).map Int.toNat = t
              rw [List.map_map]
              exact (List.map_congr_left (g := id) fun _ _ => rfl).trans (List.map_id t)
            rw [et]
            exact ⟨e, ht, tf⟩
          have hM : (L'.map fun q : Addr × List Int => q.2.map Int.toNat).Nodup := by
            have e : (L'.map fun q : Addr × List Int => q.2.map Int.toNat).map iN = L'.map (·.2) := by
              rw [List.map_map]
              exact List.map_congr_left fun q hq => (hL' q hq).1.symm
            rw [← e] at nd
            exact nodup_of_map nd
          have hM1 : ∀ t ∈ (L'.map fun q : Addr × List Int => q.2.map Int.toNat), ∃ g ∈ gs, t = prod one g := fun t ht => by
            obtain ⟨q, hq, e⟩ := List.mem_map.mp ht
            obtain ⟨g, hgm, e2⟩ := List.mem_map.mp (hL' q hq).2.1
            exact ⟨g, hgm, by rw [← e, ← e2]⟩
          have hM2 : ∀ g ∈ gs, prod one g ∈ (L'.map fun q : Addr × List Int => q.2.map Int.toNat) := fun g hgm => by
            have h1 : iN (prod one g) ∈ ks.map (·.2) := by
              rw [ek2]
              exact List.mem_map.mpr ⟨_, List.mem_map.mpr ⟨g, hgm, rfl⟩, rfl⟩
            obtain ⟨p, hp, e⟩ := List.mem_map.mp h1
            obtain ⟨q, hq, e2⟩ := List.mem_map.mp (hL2 p hp)
            have hq' := pm.mem_iff.mpr hq
            refine List.mem_map.mpr ⟨q, hq', iN_inj ?_⟩
            rw [← (hL' q hq').1]
            exact e2.trans e
          have hlfl : L'.length ≤ 64 := Nat.le_of_lt h64
          have sB := s3.trans s45
          have hp2B := TFs.tm (.of sB) hp2
          have hxs2B := sB _ _ hxs2
          refine lc_list (xs := L'.map fun q : Addr × List Int => V.ref q.1) (fun i H4 => Same (upd (upd H3 aS (SetTO P w aS L)) sp' (.lst (L'.map fun q : Addr × List Int => V.ref q.1))) H4 ∧ ∃ zs, H4 D2 = some (.lst zs) ∧ Paired (TF H4) zs (((L'.map fun q : Addr × List Int => q.2.map Int.toNat).take i).filter fun t => decide (t ∉ F')) ∧ zs.length ≤ i)
            ⟨same_new hD2, [], upd_same, .nil, Nat.le_refl 0⟩ (fun i H4 _ h => SqL.of (h.1 _ _ upd_same)) ?_ ?_
          · rintro i x' H4 hi' ⟨sD, zs, hz4, pz4, hzl⟩
            rw [List.getElem?_map] at hi'
            obtain ⟨qe, hqe, rfl⟩ := Option.map_eq_some_iff.mp hi'
            have hqm := List.mem_of_getElem? hqe
            obtain ⟨_, ht1, ht2⟩ := hL' qe hqm
            have hil : i < 64 := by have := (List.getElem?_eq_some_iff.mp hqe).1; omega
            have tf4 : TF H4 (.ref qe.1) (qe.2.map Int.toNat) := ht2.tm (.of (s45.trans sD))
            have etake : (L'.map fun q : Addr × List Int => q.2.map Int.toNat).take (i + 1) = (L'.map fun q : Addr × List Int => q.2.map Int.toNat).take i ++ [qe.2.map Int.toNat] := by
              rw [List.take_add_one, List.getElem?_map, hqe]
              rfl
            refine ⟨rfl, _, rfl, _, rfl, dT (qe.2.map Int.toNat), F'.map dT, tf4.tn.dp, .lst (SqL.of (sD _ _ hxs2B)) (TNs.dp (paired_mono (fun _ _ r => TF.tn r) (TFs.tm (.of sD) hp2B))), sh_T _, sh_LT _, _, rfl, ?_⟩
            rw [any_dT]
            by_cases hin : qe.2.map Int.toNat ∈ F'
            · rw [decide_eq_true hin]
              refine iteF ⟨sD, zs, hz4, ?_, by omega⟩
              rw [etake, List.filter_append, List.filter_cons, if_neg (by simpa using hin), List.filter_nil, List.append_nil]
              exact pz4
            · rw [decide_eq_false hin]
              have t4 := Tm.lst (o := .lst (zs ++ [V.ref qe.1])) hz4
              refine iteT ⟨_, rfl, zs, hz4, by rw [sizeLine_eq]; omega, same_mut sD hD2, zs ++ [V.ref qe.1], upd_same, ?_, by rw [List.length_append]; show zs.length + 1 ≤ i + 1; omega⟩
              rw [etake, List.filter_append, List.filter_cons, if_pos (by simpa using hin), List.filter_nil]
              exact Paired.app (TFs.tm t4 pz4) (Paired.one (tf4.tm t4))
          · rintro H4 ⟨sD, zs, hz4, pz4, hzl⟩
            rw [List.length_map, show L'.length = (L'.map fun q : Addr × List Int => q.2.map Int.toNat).length from (List.length_map ..).symm, List.take_length] at pz4
            rw [List.length_map] at hzl
            have hxs4 := sD _ _ hxs2B
            have hx2l : xs2.length ≤ 63 := by rw [Paired.length hp2]; exact hFl
            refine ⟨fl', D2, xs2, zs, rfl, rfl, hxs4, hz4, by rw [sizeLine_eq]; omega, fun np hnp => ?_⟩
            have s6 := same_new (o := .lst (xs2 ++ zs)) hnp
            have sE := (sB.trans sD).trans s6
            refine ⟨np, _, _, _, _, rfl, sm1.trans sE, ⟨xs2 ++ zs, upd_same, Paired.app (TFs.tm (.of (sD.trans s6)) hp2B) (TFs.tm (.of s6) pz4)⟩, fun h => absurd h (by omega), fun _ => sp.next hi hM hM1 hM2, sE _ _ hsl2⟩
      · rintro σ H2 ⟨fl', F', x4, x5, x6, rfl, sm1, lf2, h0, h1, _⟩
        refine ⟨fl', F', _, _, _, _, rfl, sm.trans sm1, lf2, ?_⟩
        rw [cut_one, List.length_take, List.length_drop] at h0 h1
        by_cases hlt : j < xs.length
        · exact h1 (by omega)
        · rw [h0 (by omega)]
          exact sp.skip (by omega)
    · rintro σ H' ⟨fl, F, x3, x4, x5, x6, rfl, sm, ⟨xs, hxs, hp⟩, sp⟩
      have hFl : F.length ≤ 63 := hf.le sp.nd sp.made
      have hxl : xs.length = F.length := Paired.length hp
      refine ⟨_, rfl, fl, xs, rfl, SqL.of hxs, by omega, fun x hx => ?_, fun ys p pm pw hp2 => ?_⟩
      · obtain ⟨t, ht, a, o, rfl, hao, _⟩ := Paired.memL hp hx
        have htP := (sp.made t ht).isP hg
        exact ⟨iN t, ⟨a, rfl, by rw [show (iN t).map V.int = nIs t from (nIs_int t).symm]; exact RT.sq (.inr ⟨o, hao⟩)⟩, by rw [iN_len, htP.len], bd_iN htP hn9⟩
      · obtain ⟨ts, h1, h2⟩ := Paired.perm pm hp
        have s2 := same_new (o := .lst ys) hp2
        refine q p _ ts (sm.trans s2) (sm.free hp2) ⟨ys, upd_same, TFs.tm (.of s2) h1⟩ (h2.nodup_iff.mpr sp.nd) (fun t => h2.mem_iff.trans (sp.all (by omega) t)) ?_
        refine Paired.pairwise (R := TF H') (fun x y s t rx ry hxy => ?_) h1 pw
        obtain ⟨a, o, rfl, hao, _⟩ := rx
        obtain ⟨a', o', rfl, hao', _⟩ := ry
        exact hxy (iN s) (iN t) ⟨a, rfl, by rw [show (iN s).map V.int = nIs s from (nIs_int s).symm]; exact RT.sq (.inr ⟨o, hao⟩)⟩ ⟨a', rfl, by rw [show (iN t).map V.int = nIs t from (nIs_int t).symm]; exact RT.sq (.inr ⟨o', hao'⟩)⟩
end
end Lt

set_option linter.all false
set_option Elab.async false
set_option maxRecDepth 100000
/-! locks whose places are called otherwise; small locks -/
namespace Lt
def cj (s t : List Nat) : List Nat := prod (prod (inv s) t) s
theorem cj_isP {n : Nat} {s t : List Nat} (hs : IsP n s) (ht : IsP n t) : IsP n (cj s t) := (hs.inv.prod ht).prod hs
theorem cj_still {n : Nat} {s : List Nat} (hs : IsP n s) : cj s (List.range n) = List.range n := by
  unfold cj
  rw [prod_still_r hs.inv.lt, prod_inv_l hs]
theorem bd {n : Nat} {x y : List Nat} (hx : IsP n x) (hy : IsP n y) : ∀ i ∈ x, i < y.length := fun i hi => by rw [hy.len]; exact hx.lt i hi
theorem cj_prod {n : Nat} {s a b : List Nat} (hs : IsP n s) (ha : IsP n a) (hb : IsP n b) : cj s (prod a b) = prod (cj s a) (cj s b) := by
  unfold cj
  have h1 : prod (prod (prod (inv s) a) s) (prod (prod (inv s) b) s) = prod (prod (inv s) a) (prod s (prod (prod (inv s) b) s)) := prod_assoc (bd (hs.inv.prod ha) hs)
  have h2 : prod s (prod (prod (inv s) b) s) = prod b s := by
    rw [← prod_assoc (bd hs (hs.inv.prod hb)), ← prod_assoc (bd hs hs.inv), prod_inv_r hs, prod_still_l hb.len]
  rw [h1, h2, ← prod_assoc (bd hs.inv ha), prod_assoc (bd (hs.inv.prod ha) hb)]
theorem Mk.cj {gs : List (List Nat)} {n : Nat} {s : List Nat} (hg : ∀ g ∈ gs, IsP n g) (hs : IsP n s) {u : List Nat} (h : Mk (gs.map (Lt.cj s)) n u) : ∃ t, Mk gs n t ∧ u = Lt.cj s t := by
  induction h with
  | still => exact ⟨_, .still, (cj_still hs).symm⟩
  | @step a g _ hm ih =>
    obtain ⟨t, ht, e⟩ := ih
    obtain ⟨g', hg', e'⟩ := List.mem_map.mp hm
    exact ⟨_, .step ht hg', by rw [cj_prod hs (ht.isP hg) (hg g' hg'), e, e']⟩
theorem Few.cj {gs : List (List Nat)} {n m : Nat} {s : List Nat} (hg : ∀ g ∈ gs, IsP n g) (hs : IsP n s) (h : Few gs n m) : Few (gs.map (Lt.cj s)) n m := by
  obtain ⟨D, h1, h2⟩ := h
  refine ⟨D.map (Lt.cj s), by rw [List.length_map]; exact h1, fun u hu => ?_⟩
  obtain ⟨t, ht, e⟩ := hu.cj hg hs
  rw [e]
  exact List.mem_map.mpr ⟨t, h2 t ht, rfl⟩
theorem few_of {gs : List (List Nat)} {n k : Nat} (h : (qq gs n k).length ≤ k) : Few gs n k :=
  ⟨(qq gs n k).map (·.1), by rw [List.length_map]; exact h, fun t ht => (qq_full h t).mpr ht⟩
theorem Few.mono {gs : List (List Nat)} {n m m' : Nat} (h : Few gs n m) (l : m ≤ m') : Few gs n m' := let ⟨D, h1, h2⟩ := h; ⟨D, Nat.le_trans h1 l, h2⟩
/-- what is led where -/
theorem cj_at {n : Nat} {s t u : List Nat} (hs : IsP n s) (ht : IsP n t) (hl : u.length = n) (h : ∀ (i si ti : Nat), s[i]? = some si → t[i]? = some ti → u[si]? = s[ti]?) : u = cj s t := by
  apply List.ext_getElem?
  intro p
  by_cases hp : p < n
  · have hm : p ∈ s := hs.mem.mpr hp
    have hj := List.idxOf_lt_length_of_mem hm
    have hjn : s.idxOf p < n := by rw [← hs.len]; exact hj
    have e1 : s[s.idxOf p]? = some p := by rw [List.getElem?_eq_getElem hj, List.getElem_idxOf]
    have e2 : t[s.idxOf p]? = some (t[s.idxOf p]'(by rw [ht.len]; exact hjn)) := List.getElem?_eq_getElem _
    have htl : t[s.idxOf p]'(by rw [ht.len]; exact hjn) < s.length := by rw [hs.len]; exact ht.lt _ (List.getElem_mem _)
    rw [h _ _ _ e1 e2]
    unfold cj prod inv
    rw [List.getElem?_map, List.getElem?_map, List.getElem?_map, hs.len, List.getElem?_range hp]
    simp only [Option.map_some]
    rw [List.getD_eq_getElem?_getD (l := t), e2, Option.getD_some, List.getD_eq_getElem?_getD, List.getElem?_eq_getElem htl, Option.getD_some]
  · rw [List.getElem?_eq_none (by omega), List.getElem?_eq_none (by rw [(cj_isP hs ht).len]; omega)]
/-! ### all permutations of few places -/
def lists (n : Nat) : Nat → List (List Nat)
  | 0 => [[]]
  | k + 1 => (List.range n).flatMap fun a => (lists n k).map (a :: ·)
theorem mem_lists {n : Nat} : ∀ (t : List Nat), (∀ i ∈ t, i < n) → t ∈ lists n t.length
  | [], _ => List.mem_singleton.mpr rfl
  | a :: t, h => List.mem_flatMap.mpr ⟨a, List.mem_range.mpr (h a List.mem_cons_self), List.mem_map.mpr ⟨t, mem_lists t fun i hi => h i (List.mem_cons_of_mem _ hi), rfl⟩⟩
theorem few_all {gs : List (List Nat)} {n m : Nat} (hg : ∀ g ∈ gs, IsP n g) (h : ((lists n n).filter fun t => decide (IsP n t)).length ≤ m) : Few gs n m :=
  ⟨_, h, fun t ht => by
    have hp := ht.isP hg
    have z := mem_lists t hp.lt
    rw [hp.len] at z
    exact List.mem_filter.mpr ⟨z, decide_eq_true hp⟩⟩
theorem all4 : ((lists 4 4).filter fun t => decide (IsP 4 t)).length ≤ 60 := by decide +kernel
theorem all3 : ((lists 3 3).filter fun t => decide (IsP 3 t)).length ≤ 60 := by decide +kernel
theorem all2 : ((lists 2 2).filter fun t => decide (IsP 2 t)).length ≤ 60 := by decide +kernel
/-! ### the known locks -/
def known : List (List (List Nat)) := [[[1, 2, 3, 0]], [[1, 0, 3, 2], [2, 3, 0, 1]], [[1, 2, 3, 0], [3, 2, 1, 0]], [[1, 0, 2, 3, 4, 5], [0, 1, 3, 2, 4, 5], [0, 1, 2, 3, 5, 4]],
  [[1, 2, 3, 4, 5, 6, 7, 0]], [[1, 2, 3, 4, 5, 6, 7, 8, 0]], [[1, 2, 3, 0, 5, 6, 7, 4], [4, 7, 6, 5, 2, 1, 0, 3]], [[1, 2, 0, 3, 4, 5], [0, 1, 2, 4, 5, 3]], [[1, 2, 0], [1, 0, 2]],
  [[1, 2, 0, 3], [1, 0, 3, 2]], [[1, 2, 0, 3, 4], [0, 1, 2, 4, 3]], [[3, 4, 5, 6, 7, 8, 0, 1, 2], [0, 1, 2, 4, 5, 3, 8, 6, 7]], [[1, 2, 3, 4, 0], [1, 2, 0, 3, 4]], [[1, 2, 3, 0], [1, 0, 2, 3]],
  [[1, 2, 3, 4, 0], [0, 4, 3, 2, 1]]]
def fine (gs : List (List Nat)) : Bool := match gs with
  | [] => false
  | g :: _ => decide (gs.length ≤ 4) && decide (2 ≤ g.length) && decide (g.length ≤ 9) && gs.all (fun t => decide (IsP g.length t)) && decide ((qq gs g.length 60).length ≤ 60)
theorem known_fine : known.all fine = true := by decide +kernel
theorem fine_of {gs : List (List Nat)} (h : gs ∈ known) : ∃ n, 1 ≤ gs.length ∧ gs.length ≤ 4 ∧ 2 ≤ n ∧ n ≤ 9 ∧ (∀ g ∈ gs, IsP n g) ∧ Few gs n 60 := by
  have z := List.all_eq_true.mp known_fine gs h
  cases gs with
  | nil => cases z
  | cons g gs =>
    have z : (decide ((g :: gs).length ≤ 4) && decide (2 ≤ g.length) && decide (g.length ≤ 9) && (g :: gs).all (fun t => decide (IsP g.length t)) && decide ((qq (g :: gs) g.length 60).length ≤ 60)) = true := z
    simp only [Bool.and_eq_true, decide_eq_true_eq, List.all_eq_true] at z
    obtain ⟨⟨⟨⟨z1, z2⟩, z3⟩, z4⟩, z5⟩ := z
    exact ⟨g.length, by show 1 ≤ gs.length + 1; omega, z1, z2, z3, z4, few_of z5⟩
end Lt

set_option Elab.async false
set_option linter.all false
set_option maxRecDepth 100000
set_option maxHeartbeats 1000000
namespace Lt
open PySem PySem.Spec PyProof.Rows L2
/-! ### a written table of locks -/
def isInts : List Expr → List Nat → Bool
  | [], [] => true
  | .Constant (.int i) _ _ :: es, n :: t => decide (i = Int.ofNat n) && isInts es t
  | _, _ => false
def isTurns : List Expr → List (List Nat) → Bool
  | [], [] => true
  | .Tuple es _ _ :: r, t :: ts => isInts es t && isTurns r ts
  | _, _ => false
def isTab : List (Option Expr) → List Expr → List (Str × List (List Nat)) → Bool
  | [], [], [] => true
  | some (.Constant (.str x) _ _) :: ks, .Tuple es _ _ :: vs, (y, ts) :: tab => decide (x = y) && isTurns es ts && isTab ks vs tab
  | _, _, _ => false
theorem PA.imp {X : Cx} {es : List Expr} {t t' : TA} (h : PA X es t) (i : ∀ σ H Q, t' σ H Q → t σ H Q) : PA X es t' := ⟨fun pos pins s σ H Q I q => h.run pos pins s σ H Q I (i σ H Q q)⟩
theorem PE.imp {X : Cx} {e : Expr} {t t' : TE} (h : PE X e t) (i : ∀ σ H Q, t' σ H Q → t σ H Q) : PE X e t' := ⟨fun pins s σ H Q I q => h.run pins s σ H Q I (i σ H Q q)⟩
section
variable {X : Cx}
theorem pa_ints : ∀ {es : List Expr} {t : List Nat}, isInts es t = true → PA X es (fun _ H Q => Q (nIs t) H)
  | [], [], _ => pa_nil
  | [], _ :: _, h => by cases h
  | e :: es, [], h => by
    cases e with
    | Constant c j p => cases c <;> cases h
    | _ => cases h
  | e :: es, n :: t, h => by
    cases e with
    | Constant c j p =>
      cases c with
      | int i =>
        have h : (decide (i = Int.ofNat n) && isInts es t) = true := h
        rw [Bool.and_eq_true, decide_eq_true_eq] at h
        obtain ⟨rfl, h2⟩ := h
        exact PA.imp (pa_cons pe_int (pa_ints h2)) fun σ H Q q => q
      | _ => cases h
    | _ => cases h
theorem pe_turn {es : List Expr} {k : Nat} {pos : Pos} {t : List Nat} (h : isInts es t = true) (hl : t.length ≤ 1000) : PE X (.Tuple es k pos) (fun _ H Q => ∀ v H', Same H H' → TK H' v t → Q v H') :=
  PE.imp (pe_tup (pa_ints h)) fun σ H Q q => ⟨by rw [nIs_len, sizeLine_eq]; omega, fun p hp => q _ _ (same_new hp) ⟨p, rfl, upd_same⟩⟩
theorem pa_turns : ∀ {es : List Expr} {ts : List (List Nat)}, isTurns es ts = true → (∀ t ∈ ts, t.length ≤ 1000) → PA X es (fun _ H Q => ∀ vs H', Same H H' → Paired (TN H') vs ts → Q vs H')
  | [], [], _, _ => PA.imp pa_nil fun σ H Q q => q _ _ (Same.refl _) .nil
  | [], _ :: _, h, _ => by cases h
  | e :: es, [], h, _ => by cases e <;> cases h
  | e :: es, t :: ts, h, hl => by
    cases e with
    | Tuple es2 k pos =>
      have h : (isInts es2 t && isTurns es ts) = true := h
      rw [Bool.and_eq_true] at h
      refine PA.imp (pa_cons (pe_turn h.1 (hl t List.mem_cons_self)) (pa_turns h.2 fun x hx => hl x (List.mem_cons_of_mem _ hx))) fun σ H Q q => ?_
      exact fun v H1 s1 hv vs H2 s2 hvs => q _ _ (s1.trans s2) (.cons (hv.tn.tm (.of s2)) hvs)
    | _ => cases h
def Tb (H : Hp) (p : V × V) (x : Str × List (List Nat)) : Prop := p.1 = .str x.1 ∧ TT H p.2 x.2
theorem pps_tab {pos : Pos} : ∀ {ks : List (Option Expr)} {vs : List Expr} {tab : List (Str × List (List Nat))}, isTab ks vs tab = true → (∀ x ∈ tab, x.2.length ≤ 1000 ∧ ∀ t ∈ x.2, t.length ≤ 1000) →
    ∃ trs, PPs X pos ks vs trs ∧ ∀ σ H Q, (∀ ps H', Same H H' → Paired (Tb H') ps tab → Q ps H') → tPairs trs σ H Q
  | [], [], [], _, _ => ⟨[], pps_nil, fun σ H Q q => q _ _ (Same.refl _) .nil⟩
  | [], [], _ :: _, h, _ => by cases h
  | [], _ :: _, _, h, _ => by cases h
  | k :: ks, [], tab, h, _ => by
    cases k with
    | none => cases h
    | some e => cases e with
      | Constant c j p => cases c <;> cases h
      | _ => cases h
  | k :: ks, v :: vs, [], h, _ => by
    cases k with
    | none => cases h
    | some e => cases e with
      | Constant c j p => cases c <;> cases v <;> cases h
      | _ => cases h
  | k :: ks, v :: vs, (y, ts) :: tab, h, hl => by
    cases k with
    | none => cases h
    | some e => cases e with
      | Constant c j p => cases c with
        | str x => cases v with
          | Tuple es k2 pos2 =>
            have h : (decide (x = y) && isTurns es ts && isTab ks vs tab) = true := h
            rw [Bool.and_eq_true, Bool.and_eq_true, decide_eq_true_eq] at h
            obtain ⟨⟨rfl, h1⟩, h2⟩ := h
            obtain ⟨hl1, hl2⟩ := hl (x, ts) List.mem_cons_self
            obtain ⟨trs, p, r⟩ := pps_tab h2 fun z hz => hl z (List.mem_cons_of_mem _ hz)
            refine ⟨_, pps_cons pe_str (pe_tup (pa_turns h1 hl2)) p, fun σ H Q q => ?_⟩
            refine fun us H1 s1 hus => ⟨by rw [Paired.length hus, sizeLine_eq]; exact Nat.le_trans hl1 (by decide), fun pt hpt => ?_⟩
            have s2 := same_new (o := .tup us) hpt
            refine r σ _ _ fun ps H3 s3 hps => q _ _ ((s1.trans s2).trans s3) (.cons ⟨rfl, TT.tm (.of s3) ⟨pt, us, rfl, upd_same, TNs.tm (.of s2) hus⟩⟩ hps)
          | _ => cases h
        | _ => cases h
      | _ => cases h
/-- what a dict of names and locks holds -/
def DB (H : Hp) (kv : Key × V) (x : Str × List (List Nat)) : Prop := kv.1 = Sum.inr x.1 ∧ TT H kv.2 x.2
theorem tb_kvs {H : Hp} : ∀ {ps : List (V × V)} {tab : List (Str × List (List Nat))}, Paired (Tb H) ps tab → ∃ kvs : List (Key × V), ps = kvs.map (fun kv => (kV kv.1, kv.2)) ∧ Paired (DB H) kvs tab
  | _, _, .nil => ⟨[], rfl, .nil⟩
  | p :: _, x :: _, .cons r t => by
    obtain ⟨kvs, h1, h2⟩ := tb_kvs t
    refine ⟨(Sum.inr x.1, p.2) :: kvs, ?_, .cons ⟨rfl, r.2⟩ h2⟩
    rw [h1]
    have e : p = (V.str x.1, p.2) := Prod.ext r.1 rfl
    rw [e]
    rfl
theorem db_val {H : Hp} {x : Str} {ts : List (List Nat)} : ∀ {kvs : List (Key × V)} {tab : List (Str × List (List Nat))}, Paired (DB H) kvs tab → (tab.map (·.1)).Nodup → (x, ts) ∈ tab → ∃ v, valV kvs (Sum.inr x) = some v ∧ TT H v ts
  | _, _, .nil, _, h => by cases h
  | p :: ps, q :: qs, .cons r s, hn, h => by
    rw [List.map_cons] at hn
    obtain ⟨h1, h2⟩ := List.nodup_cons.mp hn
    rcases List.mem_cons.mp h with e | h
    · subst e
      exact ⟨p.2, valV_pos r.1, r.2⟩
    · have hne : ¬ p.1 = Sum.inr x := fun e => h1 (by
        rw [r.1] at e
        injection e with e
        rw [e]
        exact List.mem_map.mpr ⟨_, h, rfl⟩)
      rw [valV_neg hne]
      exact db_val s h2 h
theorem mergeK_nil {H : Hp} : ∀ {kvs : List (Key × V)} {tab : List (Str × List (List Nat))} {acc : List (Key × V)} {at_ : List (Str × List (List Nat))}, Paired (DB H) kvs tab → Paired (DB H) acc at_ → ((at_ ++ tab).map (·.1)).Nodup → mergeK acc kvs = acc ++ kvs
  | _, _, acc, _, .nil, _, _ => by
    show acc = acc ++ []
    rw [List.append_nil]
  | p :: ps, q :: qs, acc, at_, .cons r s, ha, hn => by
    have hnone : valV acc p.1 = none := by
      cases e : valV acc p.1 with
      | none => rfl
      | some v =>
        exfalso
        have m := valV_in e
        obtain ⟨kv, hkv, ekv⟩ := List.mem_map.mp m
        obtain ⟨y, hy, ry⟩ := Paired.memL ha hkv
        have e1 : y.1 = q.1 := by
          have z : (Sum.inr y.1 : Key) = Sum.inr q.1 := ry.1.symm.trans (ekv.trans r.1)
          injection z
        rw [List.map_append, List.map_cons] at hn
        exact (List.nodup_append.mp hn).2.2 y.1 (List.mem_map.mpr ⟨y, hy, rfl⟩) q.1 List.mem_cons_self e1
    show mergeK (putK acc p.1 p.2) ps = acc ++ p :: ps
    rw [putK_new p.2 hnone, mergeK_nil (acc := acc ++ [(p.1, p.2)]) (at_ := at_ ++ [q]) s (Paired.app ha (Paired.one r)) (by rw [List.append_assoc]; exact hn), List.append_assoc]
    rfl
/-- {'a': ((..), ..), ..} -/
def tTab (tab : List (Str × List (List Nat))) : TE := fun _ H Q => ∀ p H' kvs, Same H H' → H p = none → H' p = some (.dK kvs) → Paired (DB H') kvs tab → Q (.ref p) H'
theorem pe_tab {ks : List (Option Expr)} {vs : List Expr} {pos : Pos} {tab : List (Str × List (List Nat))} (h : isTab ks vs tab = true) (hl : ∀ x ∈ tab, x.2.length ≤ 1000 ∧ ∀ t ∈ x.2, t.length ≤ 1000) (hn : (tab.map (·.1)).Nodup) (h15 : tab.length ≤ 15)
    (hall : ks.all (·.isSome) = true) (hlen : ks.length = vs.length) (h0 : ks ≠ []) (hk15 : ks.length ≤ 15) : PE X (.Dict ks vs pos) (tTab tab) := by
  obtain ⟨trs, p, r⟩ := pps_tab (X := X) (pos := pos) h hl
  refine PE.imp (pe_disp p hall hlen h0 hk15) fun σ H Q q => ?_
  refine fun d hd => r σ _ _ fun ps H2 s2 hps => ⟨s2 _ _ upd_same, ?_⟩
  obtain ⟨kvs, e, hb⟩ := tb_kvs hps
  refine ⟨kvs, e, by rw [Paired.length hb]; exact h15, ?_⟩
  have em : mergeK [] kvs = kvs := mergeK_nil (acc := []) (at_ := []) hb .nil hn
  rw [em]
  have hd2 : H2 d = some (.dK []) := s2 _ _ upd_same
  have tm : Tm H2 (upd H2 d (.dK kvs)) := .mut hd2 (fun _ z => nomatch z) fun _ _ z => nomatch z
  have sH : Same H (upd H2 d (.dK kvs)) := same_mut ((same_new hd).trans s2) hd
  exact q d _ kvs sH hd upd_same (paired_mono (fun a b z => ⟨z.1, z.2.tm tm⟩) hb)
end
def names : List Str := ["four", "klein", "square", "cube", "eight", "nine", "quaternions", "threes", "three", "tetra", "six", "heis", "five", "whole", "ten"]
def table : List (Str × List (List Nat)) := names.zip known
theorem table_nd : (table.map (·.1)).Nodup := by decide +kernel
theorem table_len : ∀ x ∈ table, x.2.length ≤ 1000 ∧ ∀ t ∈ x.2, t.length ≤ 1000 := by decide +kernel
theorem table_known {x : Str × List (List Nat)} (h : x ∈ table) : x.2 ∈ known := by
  unfold table at h
  exact (List.of_mem_zip (a := x.1) (b := x.2) h).2
end Lt

set_option Elab.async false
set_option linter.all false
set_option maxRecDepth 100000
set_option maxHeartbeats 1000000
namespace Lt
open PySem PySem.Spec PyProof.Rows L2
theorem names_in : ∀ nm ∈ names, ∃ ts, (nm, ts) ∈ table := fun nm h => by
  have z : (names.all fun nm => table.any fun x => decide (x.1 = nm)) = true := by decide +kernel
  obtain ⟨x, hx, e⟩ := List.any_eq_true.mp (List.all_eq_true.mp z nm h)
  have e := of_decide_eq_true e
  exact ⟨x.2, by rw [← e]; exact hx⟩
theorem three_of {nm : Str} {ts : List (List Nat)} (h : (nm, ts) ∈ table) : ts.length ≤ 3 := by
  have z : (table.all fun x => decide (x.2.length ≤ 3)) = true := by decide +kernel
  exact of_decide_eq_true (List.all_eq_true.mp z _ h)
section
variable {P : Program} {w : World} {K : PySem.W.Frag} {mg : Str → Option Value} {base : Heap}
def spKnown (K : PySem.W.Frag) : Sp := fun vs H Q _ => ∃ (r kl sc : Addr) (ns : List Int) (kn : List Str), vs = [.ref r, .ref kl] ∧ RowAt K H r sc ns ∧ H kl = some (.lst (kn.map V.str)) ∧ kl ≠ r ∧ 1 ≤ kn.length ∧ kn.length ≤ 100 ∧ (∀ x ∈ kn, x ∈ names) ∧
  ∀ v H' ls n, ls.length ≤ 3 → GL ls n → Few ls n 60 → StepR r H H' → RowAt K H' r sc ns → TT H' v ls → Q v H'
theorem sc_law_known : FnScope ["row", "kinds", "locks", "lock", "order", "found", "turn", "named", "place", "comes"] ["row", "kinds"] (defScope s_law_known) := ⟨rfl, rfl, rfl, by decide +kernel, rfl, by decide +kernel, by decide +kernel⟩
theorem has_law_known (T : Top K mg "_law_known" s_law_known ["row", "kinds"]) (B : Bi mg) (hK : Has P w K mg base CX0 2 "_law_pick" ["row", "things"] (spPick K)) (hM : Has P w K mg base CX0 2 "_law_permutation" ["row", "places"] (spLawPerm K)) : Has P w K mg base CX0 3 "_law_known" ["row", "kinds"] (spKnown K) := by
  refine T.ok sc_law_known (fun vs H Q E h => ?_) (fun f cdv A outer s H vs Q E hr h => ?_)
  · obtain ⟨r, kl, sc, ns, kn, rfl, _⟩ := h
    rfl
  · obtain ⟨r, kl, sc, ns, kn, rfl, ra, hkl, hne, hk1, hk2, hkn, q⟩ := h
    have hu := hu_of hr
    refine ⟨_, pss_cons (ps_set (i := 2) sc_law_known.nd rfl (Or.inl rfl) (pe_tab (tab := table) (by decide +kernel) table_len table_nd (by decide) (by rfl) (by rfl) (fun z => by cases z) (by decide)))
      (pss_cons (ps_set (i := 3) sc_law_known.nd rfl (Or.inl rfl) (pe_dget hu (pv 2) (pe_has hK hr (by rfl) (pa_cons (pv 0) (pa_cons (pv 1) pa_nil))) (fun _ _ => rfl)))
      (pss_cons (ps_set (i := 4) sc_law_known.nd rfl (Or.inl rfl) (pe_has hM hr (by rfl) (pa_cons (pv 0) (pa_cons (pe_callB call_len_seq (by rfl) B.len PySem.boot_len (pa_cons (pe_ix ix_tup (pv 3) pe_int (fun _ _ => rfl)) pa_nil)) pa_nil))))
      (pss_cons (ps_set (i := 5) sc_law_known.nd rfl (Or.inl rfl) (pe_lst pa_nil))
      (pss_cons (ps_for PassesOwn.never rfl (pi_tup (pv 3)) (pg_name (i := 6) sc_law_known.nd rfl (Or.inl rfl))
        (pss_cons (ps_set (i := 7) sc_law_known.nd rfl (Or.inl rfl) (pe_op op_rep (pe_lst (pa_cons pe_int pa_nil)) (pe_callB call_len_seq (by rfl) B.len PySem.boot_len (pa_cons (pv 6) pa_nil))))
        (pss_cons (ps_for PassesOwn.never rfl (pi_enumT (by rfl) B.enumerate (pa_cons (pv 6) pa_nil)) (pg_tup rfl (pgs_cons (pg_name (i := 8) sc_law_known.nd rfl (Or.inl rfl)) (pgs_cons (pg_name (i := 9) sc_law_known.nd rfl (Or.inl rfl)) pgs_nil)))
          (pss_one (ps_asg (pe_ix ix_tup (pv 4) (pv 9) (fun _ _ => rfl)) (pg_sub (pv 7) (pe_ix ix_tup (pv 4) (pv 8) (fun _ _ => rfl)) set_list))))
        (pss_one (ps_expr (pe_bm PySem.F.plainAttrs_list PySem.F.slot_list_append PySem.F.type_list_append mt_append (pv 5) (pa_cons (pe_tupleOf (by rfl) B.tuple (pv 7)) pa_nil)))))))
      (pss_one (ps_ret (pe_tupleOf (by rfl) B.tuple (pv 5)))))))), ?_⟩
    refine fun d H1 kvs s1 hd hd1 hDB => ?_
    refine ⟨_, rfl, _, rfl, _, rfl, r, kl, sc, ns, kn.map V.str, rfl, ra.step s1, s1 _ _ hkl, hne, by rw [List.length_map]; exact hk1, by rw [List.length_map]; omega, fun x H2 hx st2 ra2 => ?_⟩
    obtain ⟨nm, hnm, rfl⟩ := List.mem_map.mp hx
    obtain ⟨ts, hts⟩ := names_in nm (hkn nm hnm)
    obtain ⟨n, hf1, hf2, hf3, hf4, hf5, hf6⟩ := fine_of (table_known hts)
    obtain ⟨lv, hlv, htt1⟩ := db_val hDB table_nd hts
    have hdr : d ≠ r := (ra.ne hd).symm
    have hd2 := st2 _ _ hdr hd1
    have htt2 := htt1.tm (st2.tm (ra.step s1))
    refine ⟨d, lv, rfl, by rw [← hlv]; exact DGet.k (k := Sum.inr nm) hd2, ?_⟩
    have gl : GL ts n := ⟨hf1, hf2, hf3, hf4, hf5⟩
    obtain ⟨a, xs, b, rfl, ha, hp, h0, t0, hbt, htl⟩ := htt2.head gl
    refine ⟨_, rfl, _, rfl, a, xs, 0, .ref b, rfl, rfl, SqT.of ha, h0, b, _, rfl, .inr hbt.sq, r, sc, ns, n, by rw [nIs_len, htl]; rfl, ra2, by omega, fun o H3 s hs st3 ra3 ho => ?_⟩
    have ha3 : H3 a = some (.tup xs) := (st3.tm ra2).1 _ _ ha
    have hp3 : Paired (TN H3) xs ts := TNs.tm (st3.tm ra2) hp
    obtain ⟨po, rfl, hpo⟩ := ho
    have st13 : StepR r H H3 := ((StepR.of s1).trans st2).trans st3
    refine ⟨Nat.zero_le _, fun fl hfl => ?_⟩
    have sl := same_new (o := .lst []) hfl
    refine ⟨_, rfl, a, rfl, ⟨_, SqT.of (sl _ _ ha3)⟩, for_tup (K := K) (a := a) (xs := xs) (fun i σ H' => ∃ x6 x7 x8 x9 us, σ = [some (.ref r), some (.ref kl), some (.ref d), some (.ref a), some (.ref po), some (.ref fl), x6, x7, x8, x9] ∧ Same H3 H' ∧ H' fl = some (.lst us) ∧ Paired (TN H') us ((ts.take i).map (cj s)))
      ⟨none, none, none, none, [], rfl, sl, upd_same, .nil⟩ (fun i σ H' _ ⟨_, _, _, _, _, _, s, _⟩ => SqT.of (s _ _ ha3)) ?_ ?_⟩
    · rintro i x σ H' hi ⟨x6, x7, x8, x9, us, rfl, sm, hus, pus⟩
      obtain ⟨t, ht, htn0⟩ := Paired.getL hp3 hi
      have htP := hf5 t (List.mem_of_getElem? ht)
      obtain ⟨pt, rfl, hpt⟩ := htn0.tm (.of sm)
      have hil : i < 4 := Nat.lt_of_lt_of_le (List.getElem?_eq_some_iff.mp ht).1 hf2
      refine ⟨by show 1 ≤ sizeLine; decide, fun l hl => ?_⟩
      have s5 := same_new (o := .lst [V.int 0]) hl
      refine ⟨_, rfl, pt, _, rfl, .inr (hpt.sm s5).sq, l, (t.length : Int), [V.int 0], rfl, by rw [nIs_len], upd_same, by omega, by rw [htP.len]; omega, ?_, fun nm hnm => ?_⟩
      · show 1 * (t.length : Int).toNat ≤ sizeLine
        rw [htP.len, sizeLine_eq]
        omega
      have s6 := s5.trans (same_new (o := .lst (List.replicate (t.length : Int).toNat [V.int 0]).flatten) hnm)
      have hnm0 : H' nm = none := s5.free hnm
      refine ⟨_, rfl, pt, _, rfl, (hpt.sm s6).sq, for_enumT (K := K) (xs := nIs t) (fun k σ2 H2' => ∃ (acc : List Nat) (y z : Option V), σ2 = [some (.ref r), some (.ref kl), some (.ref d), some (.ref a), some (.ref po), some (.ref fl), some (.ref pt), some (.ref nm), y, z] ∧ Same H' H2' ∧ H2' nm = some (.lst (nIs acc)) ∧ acc.length = n ∧ ∀ (i si ti : Nat), i < k → s[i]? = some si → t[i]? = some ti → acc[si]? = s[ti]?)
        ⟨List.replicate n 0, x8, x9, rfl, s6, by rw [upd_same, ← rep_zero, htP.len]; rfl, List.length_replicate .., fun i si ti h => absurd h (Nat.not_lt_zero i)⟩ (fun k σ2 H2' _ ⟨_, _, _, _, s, _⟩ => (hpt.sm s).sq) ?_ ?_⟩
      · rintro k y σ2 H2' T' hk ⟨acc, y8, y9, rfl, sm2, hnm2, hacc, hj⟩ hT'
        rw [nIs_get] at hk
        obtain ⟨m, hm, rfl⟩ := Option.map_eq_some_iff.mp hk
        have hmn : m < n := htP.lt m (List.mem_of_getElem? hm)
        have hkn' : k < n := by have := (List.getElem?_eq_some_iff.mp hm).1; rw [htP.len] at this; exact this
        have sT := same_new (o := .tup [nI k, nI m]) hT'
        have hnT : nm ≠ T' := ne_of_none hnm2 hT'
        have hsk : s[k]? = some (s[k]'(by rw [hs.len]; exact hkn')) := List.getElem?_eq_getElem _
        have hsm : s[m]? = some (s[m]'(by rw [hs.len]; exact hmn)) := List.getElem?_eq_getElem _
        generalize (s[k]'(by rw [hs.len]; exact hkn')) = sk at hsk
        generalize (s[m]'(by rw [hs.len]; exact hmn)) = smv at hsm
        have hskn : sk < n := hs.lt sk (List.mem_of_getElem? hsk)
        have hpo2 : (upd H2' T' (.tup [nI k, nI m])) po = some (.tup (nIs s)) := sT _ _ (sm2 _ _ (sm _ _ hpo))
        refine ⟨T', _, rfl, SqT.of upd_same, rfl, nI k, _, rfl, nI m, _, rfl, rfl, ?_⟩
        refine ⟨_, rfl, _, rfl, po, _, (m : Int), nI smv, rfl, rfl, SqT.of hpo2, atI_nat (by rw [nIs_get, hsm]; rfl), _, rfl, _, rfl, _, rfl, po, _, (k : Int), nI sk, rfl, rfl, SqT.of hpo2, atI_nat (by rw [nIs_get, hsk]; rfl), nm, nIs acc, (sk : Int), sk, rfl, rfl, sT _ _ hnm2, Evl.ixN_nat (by rw [nIs_len, hacc]; exact hskn), ?_⟩
        refine ⟨acc.set sk smv, _, _, rfl, same_mut (sm2.trans sT) hnm0, by rw [upd_same, nIs_set], by rw [List.length_set]; exact hacc, fun i si ti hik hsi hti => ?_⟩
        by_cases e : i = k
        · subst e
          rw [hsk] at hsi
          have hsi := Option.some.inj hsi
          subst hsi
          rw [hm] at hti
          have hti := Option.some.inj hti
          subst hti
          rw [List.getElem?_set_self (by omega), hsm]
        · have hne2 : sk ≠ si := fun z => e (nd_ix hs.nd hsi (z ▸ hsk))
          rw [List.getElem?_set_ne hne2]
          exact hj i si ti (by omega) hsi hti
      · rintro σ2 H2' ⟨acc, y8, y9, rfl, sm2, hnm2, hacc, hj⟩
        have ecj : acc = cj s t := cj_at hs htP hacc fun i si ti hsi hti => hj i si ti (by rw [nIs_len]; exact (List.getElem?_eq_some_iff.mp hti).1) hsi hti
        have hus2 := sm2 _ _ hus
        refine ⟨_, rfl, .inl ⟨rfl, _, SqL.of hus2⟩, _, rfl, .inl ⟨nm, nIs acc, rfl, SqL.of hnm2, fun p hp' => ?_⟩⟩
        have s7 := same_new (o := .tup (nIs acc)) hp'
        have hus3 := s7 _ _ hus2
        have husl : us.length ≤ 4 := by rw [Paired.length pus, List.length_map, List.length_take]; omega
        refine ⟨fl, us, _, rfl, rfl, hus3, by rw [sizeLine_eq]; omega, ?_⟩
        have t8 := Tm.lst (o := .lst (us ++ [V.ref p])) hus3
        refine ⟨_, _, _, _, us ++ [.ref p], rfl, same_mut ((sm.trans sm2).trans s7) hfl, upd_same, ?_⟩
        rw [List.take_add_one, ht, List.map_append]
        exact Paired.app (TNs.tm ((Tm.of (sm2.trans s7)).trans t8) pus) (Paired.one (TK.tn (TK.tm t8 ⟨p, rfl, by rw [upd_same, ecj]⟩)))
    · rintro σ H' ⟨x6, x7, x8, x9, us, rfl, sm, hus, pus⟩
      rw [Paired.length hp3, List.take_length] at pus
      refine ⟨_, rfl, .inl ⟨fl, us, rfl, SqL.of hus, fun p hp' => ?_⟩⟩
      have s7 := same_new (o := .tup us) hp'
      refine q _ _ (ts.map (cj s)) n (by rw [List.length_map]; exact three_of hts) ⟨by rw [List.length_map]; exact hf1, by rw [List.length_map]; exact hf2, hf3, hf4, fun g hg => ?_⟩ ((Few.cj hf5 hs hf6).mono (by omega)) (st13.trans (.of (sm.trans s7))) (ra3.step (sm.trans s7)) ⟨p, us, rfl, upd_same, TNs.tm (.of s7) pus⟩
      obtain ⟨t, ht, e⟩ := List.mem_map.mp hg
      rw [← e]
      exact cj_isP hs (hf5 t ht)
/-! ### _law_lock -/
def spLock (K : PySem.W.Frag) : Sp := fun vs H Q _ => ∃ (r kl sc : Addr) (ns : List Int) (kn : List Str), vs = [.ref r, .ref kl] ∧ RowAt K H r sc ns ∧ H kl = some (.lst (kn.map V.str)) ∧ kl ≠ r ∧ 1 ≤ kn.length ∧ kn.length ≤ 100 ∧ (∀ x ∈ kn, x ∈ names) ∧
  ∀ v H' ls n, ls.length ≤ 3 → GL ls n → Few ls n 60 → StepR r H H' → RowAt K H' r sc ns → TT H' v ls → Q v H'
theorem sc_law_lock : FnScope ["row", "kinds", "places", "turn"] ["row", "kinds"] (defScope s_law_lock) := ⟨rfl, rfl, rfl, by decide +kernel, rfl, by decide +kernel, by decide +kernel⟩
theorem few4 {ls : List (List Nat)} {n : Nat} (h1 : 2 ≤ n) (h2 : n ≤ 4) (hg : ∀ g ∈ ls, IsP n g) : Few ls n 60 := by
  have : n = 2 ∨ n = 3 ∨ n = 4 := by omega
  rcases this with e | e | e
  · subst e; exact (few_all hg all2).mono (by omega)
  · subst e; exact (few_all hg all3).mono (by omega)
  · subst e; exact (few_all hg all4).mono (by omega)
theorem has_law_lock (T : Top K mg "_law_lock" s_law_lock ["row", "kinds"]) (B : Bi mg) (hT : Has P w K mg base CX0 1 "_law_taken" ["row", "many"] (spTaken K)) (hK : Has P w K mg base CX0 3 "_law_known" ["row", "kinds"] (spKnown K)) (hM : Has P w K mg base CX0 2 "_law_permutation" ["row", "places"] (spLawPerm K)) :
    Has P w K mg base CX0 4 "_law_lock" ["row", "kinds"] (spLock K) := by
  refine T.ok sc_law_lock (fun vs H Q E h => ?_) (fun f cdv A outer s H vs Q E hr h => ?_)
  · obtain ⟨r, kl, sc, ns, kn, rfl, _⟩ := h
    rfl
  · obtain ⟨r, kl, sc, ns, kn, rfl, ra, hkl, hne, hk1, hk2, hkn, q⟩ := h
    have hr1 : Room 1 _ := hr.mono (by decide)
    have hr2 : Room 2 _ := hr.mono (by decide)
    refine ⟨_, pss_cons (ps_if (pt_cmpR op_gt (pe_has hT hr1 (by rfl) (pa_cons (pv 0) (pa_cons pe_int pa_nil))) pe_int (nomark _))
        (pss_one (ps_ret (pe_has hK hr (by rfl) (pa_cons (pv 0) (pa_cons (pv 1) pa_nil))))) pss_nil)
      (pss_cons (ps_set (i := 2) sc_law_lock.nd rfl (Or.inr rfl) (pe_op op_add pe_int (pe_has hT hr1 (by rfl) (pa_cons (pv 0) (pa_cons pe_int pa_nil)))))
      (pss_one (ps_ret (pe_tupleOf (by rfl) B.tuple (pe_lc (own := [("turn", 3)]) (g := gName 3) (te := tCall (spLawPerm K) [] E0 (tCons (tVar 0) (tCons (tVar 2) tNil))) (by rfl) sc_law_lock.nd
        (pi_range1 (by rfl) B.range (pa_cons (pe_op op_add pe_int (pe_has hT hr1 (by rfl) (pa_cons (pv 0) (pa_cons pe_int pa_nil)))) pa_nil)) (blkOk_by (own := [("turn", 3)]) (N := ["row", "kinds", "places", "turn"]) (sc := defScope s_law_lock) (by decide +kernel))
        (fun _ _ _ _ _ => pg_name (i := 3) sc_law_lock.nd rfl (Or.inl rfl)) (fun _ _ _ _ _ => pts_nil) (fun _ _ _ _ _ => pe_has hM hr2 (by rfl) (pa_cons (pv 0) (pa_cons (pv 2) pa_nil)))))))), ?_⟩
    refine ⟨_, rfl, r, sc, ns, 3, rfl, ra, by omega, by omega, fun x H1 hx st1 ra1 => ?_⟩
    refine ⟨(x : Int), 0, rfl, rfl, _, rfl, ite2 (fun h => ?_) (fun h => ?_)⟩
    · exact ⟨_, rfl, _, rfl, r, kl, sc, ns, kn, rfl, ra1, st1 _ _ hne hkl, hne, hk1, hk2, hkn, fun v H2 ls n l3 gl fw st2 ra2 tt => q v H2 ls n l3 gl fw (st1.trans st2) ra2 tt⟩
    · refine ⟨_, rfl, r, sc, ns, 3, rfl, ra1, by omega, by omega, fun y H2 hy st2 ra2 => ?_⟩
      refine ⟨2, (y : Int), rfl, rfl, ?_⟩
      refine ⟨_, rfl, r, sc, ns, 2, rfl, ra2, by omega, by omega, fun z H3 hz st3 ra3 => ?_⟩
      have st03 := (st1.trans st2).trans st3
      refine ⟨1, (z : Int), rfl, rfl, (1 : Int) + (z : Int), rfl, by omega, by omega, fun D hD => ?_⟩
      have hDr : D ≠ r := (ra3.ne hD).symm
      refine lc_range (lo := 0) (n := ((1 : Int) + (z : Int)).toNat) (fun i H' => StepR r H3 H' ∧ RowAt K H' r sc ns ∧ ∃ us ls, H' D = some (.lst us) ∧ Paired (TN H') us ls ∧ ls.length = i ∧ ∀ g ∈ ls, IsP (2 + y) g)
        ⟨.of (same_new hD), ra3.step (same_new hD), [], [], upd_same, .nil, rfl, fun g h => by cases h⟩ ?_ ?_
      · rintro i H' hi ⟨st4, ra4, us, ls, hus, pus, hll, hP⟩
        refine ⟨rfl, iteT (B := StepR r H3 H' ∧ RowAt K H' r sc ns ∧ ∃ us ls, H' D = some (.lst us) ∧ Paired (TN H') us ls ∧ ls.length = i ∧ ∀ g ∈ ls, IsP (2 + y) g) ⟨_, rfl, _, rfl, r, sc, ns, 2 + y, ?_, ra4, by omega, fun v H5 t ht st5 ra5 hv => ?_⟩⟩
        · show [V.ref r, V.int ((2 : Int) + (y : Int))] = [V.ref r, V.int ((2 + y : Nat) : Int)]
          rw [show ((2 + y : Nat) : Int) = (2 : Int) + (y : Int) by omega]
        · have hus5 := st5 _ _ hDr hus
          have t6 := Tm.lst (o := .lst (us ++ [v])) hus5
          refine ⟨us, hus5, by rw [Paired.length pus, hll, sizeLine_eq]; omega, (st4.trans st5).mut hD, RowAt.mut ra3 hD ra5, us ++ [v], ls ++ [t], upd_same, Paired.app (TNs.tm ((st5.tm ra4).trans t6) pus) (Paired.one (TK.tn (TK.tm t6 hv))), by rw [List.length_append, hll]; rfl, fun g hg => ?_⟩
          rcases List.mem_append.mp hg with z | z
          · exact hP g z
          · rw [List.mem_singleton.mp z]
            exact ht
      · rintro H' ⟨st4, ra4, us, ls, hus, pus, hll, hP⟩
        refine .inl ⟨D, us, rfl, SqL.of hus, fun p hp => ?_⟩
        have s7 := same_new (o := .tup us) hp
        exact q _ _ ls (2 + y) (by omega) ⟨by omega, by omega, by omega, by omega, hP⟩ (few4 (by omega) (by omega) hP) ((st03.trans st4).trans (.of s7)) (ra4.step s7) ⟨p, us, rfl, upd_same, TNs.tm (.of s7) pus⟩
end
end Lt

set_option Elab.async false
set_option linter.all false
set_option maxRecDepth 100000
set_option maxHeartbeats 2000000
/-! _law_span: its turns are new -/
namespace Lt
open PySem PySem.Spec PyProof.Rows L2
/-- .. and not of G -/
def TFn (G H : Hp) (v : V) (t : List Nat) : Prop := TF H v t ∧ ∀ a, v = .ref a → G a = none
theorem TFn.tn {G H : Hp} {v : V} {t : List Nat} (h : TFn G H v t) : TN H v t := h.1.tn
theorem TFn.tm {G H H' : Hp} {v : V} {t : List Nat} (e : Tm H H') (h : TFn G H v t) : TFn G H' v t := ⟨h.1.tm e, h.2⟩
def LFn (G H : Hp) (a : Addr) (ts : List (List Nat)) : Prop := ∃ xs, H a = some (.lst xs) ∧ Paired (TFn G H) xs ts
theorem TFns.tm {G H H' : Hp} (e : Tm H H') {xs : List V} {ts : List (List Nat)} (p : Paired (TFn G H) xs ts) : Paired (TFn G H') xs ts := paired_mono (fun _ _ r => TFn.tm e r) p
theorem LFn.same {G H H' : Hp} {a : Addr} {ts : List (List Nat)} (h : LFn G H a ts) (e : Same H H') : LFn G H' a ts := let ⟨xs, h1, h2⟩ := h; ⟨xs, e _ _ h1, TFns.tm (.of e) h2⟩
theorem LFn.lf {G H : Hp} {a : Addr} {ts : List (List Nat)} (h : LFn G H a ts) : LF H a ts := let ⟨xs, h1, h2⟩ := h; ⟨xs, h1, paired_mono (fun _ _ r => r.1) h2⟩
theorem ks_ofn {G H : Hp} : ∀ {xs : List V} {ts : List (List Nat)}, Paired (TFn G H) xs ts → ∃ ks : List (Addr × List Int), xs = ks.map (fun p => V.ref p.1) ∧ ks.map (·.2) = ts.map iN ∧ ∀ p ∈ ks, ∃ t ∈ ts, p.2 = iN t ∧ TFn G H (.ref p.1) t
  | _, _, .nil => ⟨[], rfl, rfl, fun p h => by cases h⟩
  | _, _, .cons (a := x) (b := t) r s => by
    obtain ⟨ks, h1, h2, h3⟩ := ks_ofn s
    obtain ⟨⟨a, o, e, ho, hd⟩, hn⟩ := id r
    subst e
    refine ⟨(a, iN t) :: ks, by rw [h1]; rfl, by rw [List.map_cons, h2]; rfl, fun p hp => ?_⟩
    rcases List.mem_cons.mp hp with z | hp
    · rw [z]
      exact ⟨t, List.mem_cons_self, rfl, ⟨a, o, rfl, ho, hd⟩, hn⟩
    · obtain ⟨t', ht, z⟩ := h3 p hp
      exact ⟨t', List.mem_cons_of_mem _ ht, z⟩
section
variable {P : Program} {w : World} {K : PySem.W.Frag} {mg : Str → Option Value} {base : Heap}
def spProdFn : Sp := fun vs H Q _ => ∃ (a b : V) (x y : List Nat), vs = [a, b] ∧ TN H a x ∧ TN H b y ∧ (∀ i ∈ x, i < y.length) ∧ x.length ≤ 1000 ∧ ∀ v H', Same H H' → TFn H H' v (prod x y) → Q v H'
theorem has_law_behindFn (T : Top K mg "_law_behind" s_law_behind ["one", "other"]) (B : Bi mg) : Has P w K mg base CX0 1 "_law_behind" ["one", "other"] spProdFn := by
  refine T.ok sc_law_behind (fun vs H Q E h => ?_) (fun f cdv A outer s H vs Q E hr h => ?_)
  · obtain ⟨a, b, x, y, rfl, _⟩ := h
    rfl
  · obtain ⟨a, b, x, y, rfl, ha, hb, hxy, hx, q⟩ := h
    refine ⟨_, pss_one (ps_ret (pe_tupleOfF (by rfl) B.tuple (pe_lc (own := [("place", 2)]) (g := gName 2) (te := tOp (rIxT K) (tVar 1) (tVar 2)) (by rfl) sc_law_behind.nd (pi_tup (pv 0)) (blkOk_by (own := [("place", 2)]) (N := ["one", "other", "place"]) (sc := defScope s_law_behind) (by decide +kernel))
      (fun _ _ _ _ _ => pg_name (i := 2) sc_law_behind.nd rfl (Or.inl rfl)) (fun _ _ _ _ _ => pts_nil) (fun _ _ _ _ _ => pe_ix ix_tup (pv 1) (pv 2) (fun _ _ => rfl))))), ?_⟩
    obtain ⟨pa, rfl, ea⟩ := ha
    obtain ⟨pb, rfl, eb⟩ := hb
    refine ⟨_, rfl, pa, rfl, ⟨_, ea.sq⟩, fun D hD => lc_tupM RN (prod x y) (fun _ _ _ _ _ r => r) ea.sq (fun H' sm => (ea.sm sm).sq) (by rw [nIs_len]; omega) (by rw [prod_len, nIs_len]) hD (fun x => rfl) (fun i v n hi hn H' sm Q' q' => ?_) (fun H' zs sm hz pr => ?_)⟩
    · rw [nIs_get] at hi
      obtain ⟨m, hm, rfl⟩ := Option.map_eq_some_iff.mp hi
      have hlt := hxy m (List.mem_of_getElem? hm)
      have e : n = y.getD m 0 := by
        have z : (prod x y)[i]? = some (y.getD m 0) := by
          unfold prod
          rw [List.getElem?_map, hm]
          rfl
        exact Option.some.inj (hn.symm.trans z)
      refine ⟨_, rfl, _, rfl, pb, _, _, nI n, rfl, rfl, (eb.sm sm).sq, atI_nat ?_, q' _ _ (Same.refl _) rfl⟩
      rw [nIs_get, e, List.getD_eq_getElem?_getD, List.getElem?_eq_getElem hlt]
      rfl
    · refine ⟨D, zs, rfl, SqL.of hz, fun p o ho hp => q _ _ (sm.trans (same_new hp)) ⟨⟨p, o, rfl, by rw [upd_same, RN.all pr], ho⟩, fun a e => by cases e; exact sm.free hp⟩⟩
def spSpanN : Sp := fun vs H Q _ => ∃ (gv : V) (gs : List (List Nat)) (n : Nat), vs = [nI n, gv] ∧ GS H gv gs ∧ (∀ g ∈ gs, IsP n g) ∧ 1 ≤ n ∧ n ≤ 9 ∧ gs.length ≤ 60 ∧ Few gs n 63 ∧
  ∀ p H' ts, Same H H' → H p = none → LFn H H' p ts → ts.Nodup → (∀ t, t ∈ ts ↔ Mk gs n t) → Asc ts → Q (.ref p) H'
theorem has_law_spanN (T : Top K mg "_law_span" s_law_span ["places", "given"]) (B : Bi mg) (hP : Has P w K mg base CX0 1 "_law_behind" ["one", "other"] spProdFn) : Has P w K mg base CX0 2 "_law_span" ["places", "given"] spSpanN := by
  refine T.ok sc_law_span (fun vs H Q E h => ?_) (fun f cdv A outer s H vs Q E hr h => ?_)
  · obtain ⟨gv, gs, n, rfl, _⟩ := h
    rfl
  · obtain ⟨gv, gs, n, rfl, hgv, hg, hn1, hn9, hgl, hf, q⟩ := h
    have hu64 := hr.units
    have hu65 : A.units + 3 + 65 < cLine := by have := hr.un; show A.units + 3 + 65 < cLine; have e : (A.deeper (envOfC "_law_span" (defScope s_law_span) s.heap.objs.size f cdv)).units = A.units + 3 := rfl; omega
    refine ⟨_, pss_cons (ps_set (i := 2) sc_law_span.nd rfl (Or.inr rfl) (pe_lst (pa_cons (pe_tupRgF (by rfl) (by rfl) B.tuple (prg_1 (by rfl) B.range (pv 0))) pa_nil)))
      (pss_cons (ps_for PassesOwn.never rfl (pi_range1 (by rfl) B.range (pa_cons pe_int pa_nil)) (pg_name (i := 3) sc_law_span.nd rfl (Or.inl rfl))
        (pss_one (ps_for PassesOwn.never rfl (pi_list (pe_slice sl_list (pv 2) (po_some (pv 3)) (po_some (pe_op op_add (pv 3) pe_int)))) (pg_name (i := 4) sc_law_span.nd rfl (Or.inr rfl))
          (pss_cons (ps_setLc (i := 5) (own := [("other", 6)]) (g := gName 6) (te := tCall spProdFn [] E0 (tCons (tVar 4) (tCons (tVar 6) tNil))) (by rfl) sc_law_span.nd rfl rfl (sw_true rfl rfl rfl (by decide +kernel)) (pi_sq (pv 1)) (blkOk_by (own := [("other", 6)]) (N := ["places", "given", "found", "turn", "one", "later", "other"]) (sc := defScope s_law_span) (by decide +kernel))
            (fun _ _ _ _ _ => pg_name (i := 6) sc_law_span.nd rfl (Or.inl rfl)) (fun _ _ _ _ _ => pts_nil) (fun _ _ _ _ _ => pe_has hP hr (by rfl) (pa_cons (pv 4) (pa_cons (pv 6) pa_nil))))
          (pss_one (ps_set (i := 2) sc_law_span.nd rfl (Or.inr rfl) (pe_op op_cat (pv 2) (pe_lc (own := [("other", 6)]) (g := gName 6) (tt := tTest (tOp (rNotInD K) (tVar 6) (tVar 2))) (te := tVar 6) (by rfl) sc_law_span.nd
            (pi_list (pe_callB (cr_sortedT (by rfl)) (by rfl) B.sorted PyProof.Rows.boot_sorted (pa_cons (pe_callTy (cr_setOfT (by rfl) hu64) (by rfl) B.set PyProof.Rows.boot_set (pa_cons (pv 5) pa_nil)) pa_nil)))
            (blkOk_by (own := [("other", 6)]) (N := ["places", "given", "found", "turn", "one", "later", "other"]) (sc := defScope s_law_span) (by decide +kernel))
            (fun _ _ _ _ _ => pg_name (i := 6) sc_law_span.nd rfl (Or.inl rfl)) (fun _ _ _ _ _ => pts_one (pt_cmpR (op_notInD hu65) (pv 6) (pv 2) (by rfl))) (fun _ _ _ _ _ => pv 6)))))))))
      (pss_one (ps_ret (pe_callB (cr_sortT (d := n) (B := 9) hn1) (by rfl) B.sorted PyProof.Rows.boot_sorted (pa_cons (pv 2) pa_nil))))), ?_⟩
    refine ⟨_, rfl, n, rfl, .of_le (by omega) (by omega) (by omega) (by omega), fun q0 o ho hq0 => ⟨by show 1 ≤ sizeLine; decide, fun fl hfl => ?_⟩⟩
    have s1 := same_new (o := .frz o (.tup (rgV 0 n))) hq0
    have s2 := s1.trans (same_new (o := .lst [.ref q0]) hfl)
    have hq0l : q0 ≠ fl := fun z => by rw [← z, upd_same] at hfl; cases hfl
    refine ⟨300, rfl, by decide, by decide, for_range (lo := 0) (n := 300) (fun j σ H' => ∃ fl F x3 x4 x5 x6, σ = [some (nI n), some gv, some (.ref fl), x3, x4, x5, x6] ∧ Same H H' ∧ LFn H H' fl F ∧ SpI gs n j F)
      ⟨fl, [List.range n], none, none, none, none, rfl, s2, ⟨[.ref q0], upd_same, .cons ⟨⟨q0, o, rfl, by rw [upd_ne hq0l, upd_same, rgV_nat], ho⟩, fun a e => by cases e; exact hq0⟩ .nil⟩, ⟨List.pairwise_singleton _ _, fun t ht => by rw [List.mem_singleton.mp ht]; exact .still, List.mem_singleton.mpr rfl, fun i t hi => absurd hi (Nat.not_lt_zero i)⟩⟩ ?_ ?_⟩
    · rintro j σ H' hj ⟨fl, F, x3, x4, x5, x6, rfl, sm, ⟨xs, hxs, hp⟩, sp⟩
      simp only [Int.zero_add]
      have hFl : F.length ≤ 63 := hf.le sp.nd sp.made
      have hxl : xs.length = F.length := Paired.length hp
      refine ⟨_, rfl, _, rfl, (j : Int), rfl, _, rfl, (j : Int), 1, rfl, rfl, (j : Int) + 1, rfl, fl, xs, rfl, SqL.of hxs, fun sl hsl => ?_⟩
      have ssl := same_new (o := .lst (cutV xs (some (j : Int)) (some ((j : Int) + 1)))) hsl
      refine ⟨sl, rfl, ⟨_, SqL.of upd_same⟩, for_list (K := K) (a := sl) (xs := cutV xs (some (j : Int)) (some ((j : Int) + 1)))
        (fun i σ H2 => ∃ fl' F' x4 x5 x6, σ = [some (nI n), some gv, some (.ref fl'), some (nI j), x4, x5, x6] ∧ Same H' H2 ∧ LFn H H2 fl' F' ∧ (i = 0 → F' = F) ∧ (1 ≤ i → SpI gs n (j + 1) F') ∧ H2 sl = some (.lst (cutV xs (some (j : Int)) (some ((j : Int) + 1)))))
        ⟨fl, F, x4, x5, x6, rfl, ssl, LFn.same ⟨xs, hxs, hp⟩ ssl, fun _ => rfl, fun h => absurd h (by omega), upd_same⟩ (fun i σ H2 _ ⟨_, _, _, _, _, _, _, _, _, _, h⟩ => SqL.of h) ?_ ?_⟩
      · rintro i x σ H2 hi ⟨fl', F', x4, x5, x6, rfl, sm1, ⟨xs2, hxs2, hp2⟩, h0, _, hsl2⟩
        have sm2 := sm.trans sm1
        rw [cut_one] at hi
        have hi0 : i = 0 := by
          have := (List.getElem?_eq_some_iff.mp hi).1
          rw [List.length_take] at this
          omega
        subst hi0
        have eF := h0 rfl
        subst eF
        rw [List.getElem?_take_of_lt (by omega), List.getElem?_drop, Nat.add_zero] at hi
        obtain ⟨one, hone, htf0⟩ := Paired.getL hp hi
        have hi := hone
        have htf : TFn H H2 x one := htf0.tm (.of sm1)
        have honeP := (sp.made one (List.mem_of_getElem? hone)).isP hg
        -- later
        dsimp only [gName, tSeq, tAsg, List.set]
        refine sq_lc (TFn H) (gs.map (prod one)) (fun _ _ _ _ e r => TFn.tm e r) (hgv.same sm2) (by rfl) (by omega) (by rw [List.length_map]) (by intro _; rfl) (fun k y b g hgk hb hyg H3 s3 Q' q' => ?_) (fun D H3 zs hD s3 hz pz => ?_)
        · rw [List.getElem?_map, hgk] at hb
          have hb := Option.some.inj hb
          subst hb
          have hgP := hg g (List.mem_of_getElem? hgk)
          exact ⟨_, rfl, _, rfl, x, y, one, g, rfl, htf.tn.tm (.of s3), hyg.tm (.of s3), fun i hi => by rw [hgP.len]; exact honeP.lt i hi, by rw [honeP.len]; omega, fun v H9 s9 t9 => q' v H9 s9 ⟨t9.1, fun a e => (sm2.trans s3).free (t9.2 a e)⟩⟩
        · -- found = found + [..]
          obtain ⟨ks, ek1, ek2, ek3⟩ := ks_ofn pz
          have hksl : ks.length < 64 := by
            have e := congrArg List.length ek2
            rw [List.length_map, List.length_map, List.length_map] at e
            omega
          have hks : ∀ p ∈ ks, SqT K H3 p.1 (p.2.map V.int) := fun p hp => by
            obtain ⟨t, _, e, ⟨a, o, ea, hao, _⟩, _⟩ := ek3 p hp
            cases ea
            rw [e, show (iN t).map V.int = nIs t from (nIs_int t).symm]
            exact RT.sq (.inr ⟨o, hao⟩)
          have hz' : H3 D = some (.lst (ks.map fun p => V.ref p.1)) := by rw [hz, ek1]
          refine ⟨_, rfl, _, rfl, D, ks, rfl, SqL.of hz', hks, hksl, fun aS L haS hL1 hL2 => ?_⟩
          have s4 := same_new (o := SetTO P w aS L) haS
          have hLP : ∀ p ∈ L, ∃ t ∈ gs.map (prod one), p.2 = iN t ∧ TFn H H3 (.ref p.1) t := fun p hp => ek3 p (hL1 p hp)
          have hmulP : ∀ t ∈ gs.map (prod one), IsP n t := fun t ht => by
            obtain ⟨g, hgm, e⟩ := List.mem_map.mp ht
            rw [← e]
            exact honeP.prod (hg g hgm)
          refine ⟨aS, L, n, 9, rfl, upd_same, fun p hp => ?_, hn1, fun p hp => ?_, fun L' sp' pm nd h64 pw hsp' => ?_⟩
          · rcases hks p (hL1 p hp) with (z | ⟨o, z⟩) | z
            · exact .inl (.inl (s4 _ _ z))
            · exact .inl (.inr ⟨o, s4 _ _ z⟩)
            · exact .inr z
          · obtain ⟨t, ht, e, _⟩ := hLP p hp
            rw [e]
            exact ⟨by rw [iN_len, (hmulP t ht).len], bd_iN (hmulP t ht) hn9⟩
          have s5 := same_new (o := .lst (L'.map fun q : Addr × List Int => V.ref q.1)) hsp'
          have s45 := s4.trans s5
          refine ⟨sp', rfl, ⟨_, SqL.of upd_same⟩, fun D2 hD2 => ?_⟩
          have hL' : ∀ q ∈ L', q.2 = iN (q.2.map Int.toNat) ∧ q.2.map Int.toNat ∈ gs.map (prod one) ∧ TFn H H3 (.ref q.1) (q.2.map Int.toNat) := fun q hq => by
            obtain ⟨t, ht, e, tf⟩ := hLP q (pm.mem_iff.mp hq)
            have et : q.2.map Int.toNat = t := by
              rw [e]
              show (t.map Int.ofNat).map Int.toNat = t
              rw [List.map_map]
              exact (List.map_congr_left (g := id) fun _ _ => rfl).trans (List.map_id t)
            rw [et]
            exact ⟨e, ht, tf⟩
          have hM : (L'.map fun q : Addr × List Int => q.2.map Int.toNat).Nodup := by
            have e : (L'.map fun q : Addr × List Int => q.2.map Int.toNat).map iN = L'.map (·.2) := by
              rw [List.map_map]
              exact List.map_congr_left fun q hq => (hL' q hq).1.symm
            rw [← e] at nd
            exact nodup_of_map nd
          have hM1 : ∀ t ∈ (L'.map fun q : Addr × List Int => q.2.map Int.toNat), ∃ g ∈ gs, t = prod one g := fun t ht => by
            obtain ⟨q, hq, e⟩ := List.mem_map.mp ht
            obtain ⟨g, hgm, e2⟩ := List.mem_map.mp (hL' q hq).2.1
            exact ⟨g, hgm, by rw [← e, ← e2]⟩
          have hM2 : ∀ g ∈ gs, prod one g ∈ (L'.map fun q : Addr × List Int => q.2.map Int.toNat) := fun g hgm => by
            have h1 : iN (prod one g) ∈ ks.map (·.2) := by
              rw [ek2]
              exact List.mem_map.mpr ⟨_, List.mem_map.mpr ⟨g, hgm, rfl⟩, rfl⟩
            obtain ⟨p, hp, e⟩ := List.mem_map.mp h1
            obtain ⟨q, hq, e2⟩ := List.mem_map.mp (hL2 p hp)
            have hq' := pm.mem_iff.mpr hq
            refine List.mem_map.mpr ⟨q, hq', iN_inj ?_⟩
            rw [← (hL' q hq').1]
            exact e2.trans e
          have hlfl : L'.length ≤ 64 := Nat.le_of_lt h64
          have sB := s3.trans s45
          have hp2B := TFns.tm (.of sB) hp2
          have hxs2B := sB _ _ hxs2
          refine lc_list (xs := L'.map fun q : Addr × List Int => V.ref q.1) (fun i H4 => Same (upd (upd H3 aS (SetTO P w aS L)) sp' (.lst (L'.map fun q : Addr × List Int => V.ref q.1))) H4 ∧ ∃ zs, H4 D2 = some (.lst zs) ∧ Paired (TFn H H4) zs (((L'.map fun q : Addr × List Int => q.2.map Int.toNat).take i).filter fun t => decide (t ∉ F')) ∧ zs.length ≤ i)
            ⟨same_new hD2, [], upd_same, .nil, Nat.le_refl 0⟩ (fun i H4 _ h => SqL.of (h.1 _ _ upd_same)) ?_ ?_
          · rintro i x' H4 hi' ⟨sD, zs, hz4, pz4, hzl⟩
            rw [List.getElem?_map] at hi'
            obtain ⟨qe, hqe, rfl⟩ := Option.map_eq_some_iff.mp hi'
            have hqm := List.mem_of_getElem? hqe
            obtain ⟨_, ht1, ht2⟩ := hL' qe hqm
            have hil : i < 64 := by have := (List.getElem?_eq_some_iff.mp hqe).1; omega
            have tf4 : TFn H H4 (.ref qe.1) (qe.2.map Int.toNat) := ht2.tm (.of (s45.trans sD))
            have etake : (L'.map fun q : Addr × List Int => q.2.map Int.toNat).take (i + 1) = (L'.map fun q : Addr × List Int => q.2.map Int.toNat).take i ++ [qe.2.map Int.toNat] := by
              rw [List.take_add_one, List.getElem?_map, hqe]
              rfl
            refine ⟨rfl, _, rfl, _, rfl, dT (qe.2.map Int.toNat), F'.map dT, tf4.tn.dp, .lst (SqL.of (sD _ _ hxs2B)) (TNs.dp (paired_mono (fun _ _ r => TFn.tn r) (TFns.tm (.of sD) hp2B))), sh_T _, sh_LT _, _, rfl, ?_⟩
            rw [any_dT]
            by_cases hin : qe.2.map Int.toNat ∈ F'
            · rw [decide_eq_true hin]
              refine iteF ⟨sD, zs, hz4, ?_, by omega⟩
              rw [etake, List.filter_append, List.filter_cons, if_neg (by simpa using hin), List.filter_nil, List.append_nil]
              exact pz4
            · rw [decide_eq_false hin]
              have t4 := Tm.lst (o := .lst (zs ++ [V.ref qe.1])) hz4
              refine iteT ⟨_, rfl, zs, hz4, by rw [sizeLine_eq]; omega, same_mut sD hD2, zs ++ [V.ref qe.1], upd_same, ?_, by rw [List.length_append]; show zs.length + 1 ≤ i + 1; omega⟩
              rw [etake, List.filter_append, List.filter_cons, if_pos (by simpa using hin), List.filter_nil]
              exact Paired.app (TFns.tm t4 pz4) (Paired.one (tf4.tm t4))
          · rintro H4 ⟨sD, zs, hz4, pz4, hzl⟩
            rw [List.length_map, show L'.length = (L'.map fun q : Addr × List Int => q.2.map Int.toNat).length from (List.length_map ..).symm, List.take_length] at pz4
            rw [List.length_map] at hzl
            have hxs4 := sD _ _ hxs2B
            have hx2l : xs2.length ≤ 63 := by rw [Paired.length hp2]; exact hFl
            refine ⟨fl', D2, xs2, zs, rfl, rfl, hxs4, hz4, by rw [sizeLine_eq]; omega, fun np hnp => ?_⟩
            have s6 := same_new (o := .lst (xs2 ++ zs)) hnp
            have sE := (sB.trans sD).trans s6
            refine ⟨np, _, _, _, _, rfl, sm1.trans sE, ⟨xs2 ++ zs, upd_same, Paired.app (TFns.tm (.of (sD.trans s6)) hp2B) (TFns.tm (.of s6) pz4)⟩, fun h => absurd h (by omega), fun _ => sp.next hi hM hM1 hM2, sE _ _ hsl2⟩
      · rintro σ H2 ⟨fl', F', x4, x5, x6, rfl, sm1, lf2, h0, h1, _⟩
        refine ⟨fl', F', _, _, _, _, rfl, sm.trans sm1, lf2, ?_⟩
        rw [cut_one, List.length_take, List.length_drop] at h0 h1
        by_cases hlt : j < xs.length
        · exact h1 (by omega)
        · rw [h0 (by omega)]
          exact sp.skip (by omega)
    · rintro σ H' ⟨fl, F, x3, x4, x5, x6, rfl, sm, ⟨xs, hxs, hp⟩, sp⟩
      have hFl : F.length ≤ 63 := hf.le sp.nd sp.made
      have hxl : xs.length = F.length := Paired.length hp
      refine ⟨_, rfl, fl, xs, rfl, SqL.of hxs, by omega, fun x hx => ?_, fun ys p pm pw hp2 => ?_⟩
      · obtain ⟨t, ht, ⟨a, o, rfl, hao, _⟩, _⟩ := Paired.memL hp hx
        have htP := (sp.made t ht).isP hg
        exact ⟨iN t, ⟨a, rfl, by rw [show (iN t).map V.int = nIs t from (nIs_int t).symm]; exact RT.sq (.inr ⟨o, hao⟩)⟩, by rw [iN_len, htP.len], bd_iN htP hn9⟩
      · obtain ⟨ts, h1, h2⟩ := Paired.perm pm hp
        have s2 := same_new (o := .lst ys) hp2
        refine q p _ ts (sm.trans s2) (sm.free hp2) ⟨ys, upd_same, TFns.tm (.of s2) h1⟩ (h2.nodup_iff.mpr sp.nd) (fun t => h2.mem_iff.trans (sp.all (by omega) t)) ?_
        refine Paired.pairwise (R := TFn H H') (fun x y s t rx ry hxy => ?_) h1 pw
        obtain ⟨⟨a, o, rfl, hao, _⟩, _⟩ := rx
        obtain ⟨⟨a', o', rfl, hao', _⟩, _⟩ := ry
        exact hxy (iN s) (iN t) ⟨a, rfl, by rw [show (iN s).map V.int = nIs s from (nIs_int s).symm]; exact RT.sq (.inr ⟨o, hao⟩)⟩ ⟨a', rfl, by rw [show (iN t).map V.int = nIs t from (nIs_int t).symm]; exact RT.sq (.inr ⟨o', hao'⟩)⟩
end
end Lt

set_option Elab.async false
set_option linter.all false
set_option maxRecDepth 100000
set_option maxHeartbeats 1000000
/-! what is known of a tuple's object may be forgotten: then it may be put as a key -/
namespace Lt
open PySem PySem.Spec PyProof.Rows L2
/-- some tuples with a known object, new since H0, are mere tuples -/
def Wk (H0 H H' : Hp) : Prop := ∀ b, H' b = H b ∨ ∃ o xs, H b = some (.frz o (.tup xs)) ∧ H0 b = none ∧ H' b = some (.tup xs)
theorem Wk.none {H0 H H' : Hp} (w : Wk H0 H H') {b : Addr} (h : H b = none) : H' b = none := by
  rcases w b with e | ⟨o, xs, e, _⟩
  · rw [e]; exact h
  · rw [h] at e; cases e
theorem Wk.keep {H0 H H' : Hp} (w : Wk H0 H H') {b : Addr} {u : HO} (h : H b = some u) (n : ∀ o xs, u ≠ .frz o (.tup xs)) : H' b = some u := by
  rcases w b with e | ⟨o, xs, e, _⟩
  · rw [e]; exact h
  · rw [h] at e
    cases e
    exact absurd rfl (n o xs)
theorem ObjOk.wk {P : Program} {w : World} {H0 H H' : Hp} {h : Heap} {a : Addr} (wk : Wk H0 H H') : ∀ {o : HO}, ObjOk P w H h a o → ObjOk P w H' h a o
  | .lst _, x => x
  | .tup _, x => x
  | .dK _, x => x
  | .dT kvs, x => by
    obtain ⟨h1, h2, xs, p, r⟩ := x
    refine ⟨h1, h2, xs, ?_, r⟩
    refine Paired.mapP p fun u v q => ⟨q.1, wk.keep q.2.1 (fun _ _ z => by cases z), q.2.2⟩
  | .set _ _, x => x
  | .ins C dx fs, x => by
    obtain ⟨h1, r⟩ := x
    exact ⟨wk.keep h1 (fun _ _ z => by cases z), r⟩
  | .own _, x => x
  | .xd _, x => x
  | .rng _ _, x => x
  | .frz o u, x => ⟨x.1, ObjOk.wk wk x.2⟩
  | .tbl _, x => x
  | .met _ _, x => x
  | .ext _, x => x
section
variable {X : Cx} {pins : List (Addr × Obj)} {σ : L2.St} {H H' : Hp} {s : Shared}
theorem invWk (I : Inv X pins σ H s) (w : Wk X.H_0 H H') : Inv X pins σ H' s where
  ok := I.ok
  os := I.os
  bare := I.bare
  base := {
    keep := I.base.keep
    slot := I.base.slot
    free := fun b o h1 h2 h3 => w.none (I.base.free b o h1 h2 h3)
    there := I.base.there
    tups := fun b xs h => w.keep (I.base.tups b xs h) (fun _ _ z => by cases z)
    frzs := fun b o u h => by
      have e := I.base.frzs b o u h
      rcases w b with e2 | ⟨o2, xs, _, e3, _⟩
      · rw [e2]; exact e
      · rw [h] at e3; cases e3
    tbls := fun b ps h => by
      obtain ⟨m, e⟩ := I.base.tbls b ps h
      exact ⟨m, w.keep e (fun _ _ z => by cases z)⟩ }
  loc := I.loc
  cell := I.cell
  free := w.none I.free
  freeC := fun x c h => w.none (I.freeC x c h)
  pin := fun p hp => let ⟨h1, h2, h3⟩ := I.pin p hp; ⟨h1, w.none h2, h3⟩
  hok := fun a o h => by
    rcases w a with e | ⟨ob, xs, e, _, e2⟩
    · exact ObjOk.wk w (I.hok a o (e ▸ h))
    · rw [e2] at h
      cases h
      exact ObjOk.wk w (I.hok a _ e).2
  len := I.len
def tWk (H0 : Hp) (t : TS) : TS := fun D σ H => ∃ H', Wk H0 H H' ∧ t D σ H'
theorem pss_wk {st : List Stmt} {t : TS} (h : PSs X st t) : PSs X st (tWk X.H_0 t) :=
  ⟨fun pins s σ H D I ⟨H', w, q⟩ => h.run pins s σ H' D (invWk I w) q⟩
end
/-- all tuples with known objects that are new since H0 -/
noncomputable def wkAll (H0 H : Hp) : Hp := fun b => match H0 b, H b with
  | none, some (.frz _ (.tup xs)) => some (.tup xs)
  | _, o => o
theorem wk_all (H0 H : Hp) : Wk H0 H (wkAll H0 H) := fun b => by
  unfold wkAll
  split
  · rename_i xs e1 e2
    exact .inr ⟨_, xs, e2, e1, rfl⟩
  · exact .inl rfl
end Lt

set_option Elab.async false
set_option linter.all false
set_option maxRecDepth 100000
set_option maxHeartbeats 1000000
/-! k06: a drawn row -/
namespace Lt
open PySem PySem.Spec PyProof.Rows L2
theorem pmem {α β : Type} {R : α → β → Prop} : ∀ {xs : List α} {ys : List β} {x : α}, Paired R xs ys → x ∈ xs → ∃ y ∈ ys, R x y
  | _, _, _, .cons r t, h => by
    rcases List.mem_cons.mp h with rfl | h
    · exact ⟨_, List.mem_cons_self, r⟩
    · obtain ⟨y, hy, q⟩ := pmem t h
      exact ⟨y, List.mem_cons_of_mem _ hy, q⟩
section
variable {P : Program} {w : World} {K : PySem.W.Frag} {mg : Str → Option Value} {base : Heap}
def spDrawn (K : PySem.W.Frag) : Sp := fun vs H Q _ => ∃ (r sc wa : Addr) (ns : List Int) (ws : List V) (ts : List (List Nat)) (k most : Nat), vs = [.ref r, .ref wa, nI k, nI most] ∧ RowAt K H r sc ns ∧ H wa = some (.lst ws) ∧ wa ≠ r ∧ Paired (TK H) ws ts ∧ 1 ≤ ts.length ∧ ts.length ≤ 1000 ∧ 1 ≤ k ∧ k ≤ 1000 ∧ most ≤ 100 ∧
  ∀ v H' ss, StepR r H H' → RowAt K H' r sc ns → RwK H' v ss → (∀ s ∈ ss, s.1 < k ∧ s.2.1 ∈ ts ∧ s.2.2 ∈ ts) → ss.length ≤ most → Q v H'
theorem sc_law_drawn_row : FnScope ["row", "whole", "inputs", "most", "found", "turn"] ["row", "whole", "inputs", "most"] (defScope s_law_drawn_row) := ⟨rfl, rfl, rfl, by decide +kernel, rfl, by decide +kernel, by decide +kernel⟩
theorem has_law_drawn_row (T : Top K mg "_law_drawn_row" s_law_drawn_row ["row", "whole", "inputs", "most"]) (B : Bi mg) (hT : Has P w K mg base CX0 1 "_law_taken" ["row", "many"] (spTaken K)) (hP : Has P w K mg base CX0 2 "_law_pick" ["row", "things"] (spPick K)) : Has P w K mg base CX0 3 "_law_drawn_row" ["row", "whole", "inputs", "most"] (spDrawn K) := by
  refine T.ok sc_law_drawn_row (fun vs H Q E h => ?_) (fun f cdv A outer s H vs Q E hr h => ?_)
  · obtain ⟨r, sc, wa, ns, ws, ts, k, most, rfl, _⟩ := h
    rfl
  · obtain ⟨r, sc, wa, ns, ws, ts, k, most, rfl, ra, hw, hwr, pw, t1, t1000, k1, k1000, hm, q⟩ := h
    have hr1 : Room 1 _ := hr.mono (by decide)
    refine ⟨_, pss_cons (ps_set (i := 4) sc_law_drawn_row.nd rfl (Or.inl rfl) (pe_lst pa_nil))
      (pss_cons (ps_for PassesOwn.never rfl (pi_range1 (by rfl) B.range (pa_cons (pe_has hT hr1 (by rfl) (pa_cons (pv 0) (pa_cons (pe_op op_add (pv 3) pe_int) pa_nil))) pa_nil)) (pg_name (i := 5) sc_law_drawn_row.nd rfl (Or.inl rfl))
        (pss_one (ps_expr (pe_bm PySem.F.plainAttrs_list PySem.F.slot_list_append PySem.F.type_list_append mt_append (pv 4) (pa_cons (pe_tup (pa_cons (pe_has hT hr1 (by rfl) (pa_cons (pv 0) (pa_cons (pv 2) pa_nil))) (pa_cons (pe_has hP hr (by rfl) (pa_cons (pv 0) (pa_cons (pv 1) pa_nil))) (pa_cons (pe_has hP hr (by rfl) (pa_cons (pv 0) (pa_cons (pv 1) pa_nil))) pa_nil)))) pa_nil)))))
      (pss_one (ps_ret (pe_tupleOf (by rfl) B.tuple (pv 4))))), ?_⟩
    have lw := Paired.length pw
    refine ⟨Nat.zero_le _, fun lf hlf => ?_⟩
    have s1 := same_new (o := .lst []) hlf
    have hfr : lf ≠ r := (ra.ne hlf).symm
    have ra1 := ra.step s1
    refine ⟨_, rfl, _, rfl, (most : Int), 1, rfl, rfl, r, sc, ns, most + 1, ?_, ra1, by omega, by omega, fun g H2 hg st2 ra2 => ⟨(g : Int), rfl, by omega, by omega, ?_⟩⟩
    · show [V.ref r, V.int ((most : Int) + 1)] = [V.ref r, nI (most + 1)]
      have : (most : Int) + 1 = ((most + 1 : Nat) : Int) := by omega
      rw [this]
      rfl
    have kf2 := st2 _ _ hfr (upd_same (H := H) (a := lf) (o := HO.lst []))
    refine for_range (lo := 0) (n := (g : Int).toNat) (fun i σ H' => ∃ y5 zs ss, σ = [some (.ref r), some (.ref wa), some (nI k), some (nI most), some (.ref lf), y5] ∧ StepR r H H' ∧ RowAt K H' r sc ns ∧ H' lf = some (.lst zs) ∧ Paired (StK H') zs ss ∧ (∀ s ∈ ss, s.1 < k ∧ s.2.1 ∈ ts ∧ s.2.2 ∈ ts) ∧ ss.length = i)
      ⟨none, [], [], rfl, (StepR.of s1).trans st2, ra2, kf2, .nil, (fun s h => by cases h), rfl⟩ ?_ ?_
    · rintro i σ H' hi ⟨y5, zs, ss, rfl, st, ra', hz, pz, ok, hl⟩
      have lz := Paired.length pz
      have W : ∀ {H1}, StepR r H H1 → RowAt K H1 r sc ns → H1 wa = some (.lst ws) := fun sx _ => sx _ _ hwr hw
      refine ⟨_, rfl, .inl ⟨rfl, zs, SqL.of hz⟩, _, rfl, _, rfl, r, sc, ns, k, rfl, ra', k1, k1000, fun o H3 ho st3 ra3 => ?_⟩
      have st03 := st.trans st3
      refine ⟨_, rfl, _, rfl, r, wa, sc, ns, ws, rfl, ra3, W st03 ra3, hwr, by omega, by omega, fun x H4 hx st4 ra4 => ?_⟩
      have st04 := st03.trans st4
      refine ⟨_, rfl, _, rfl, r, wa, sc, ns, ws, rfl, ra4, W st04 ra4, hwr, by omega, by omega, fun y H5 hy st5 ra5 => ?_⟩
      have st05 := st04.trans st5
      refine ⟨by show 3 ≤ sizeLine; decide, fun p hp => ?_⟩
      have s6 := same_new (o := .tup [nI o, x, y]) hp
      obtain ⟨tx, htx, rx⟩ := pmem pw hx
      obtain ⟨ty, hty, ry⟩ := pmem pw hy
      have tm06 := (st05.tm ra).trans (Tm.of s6)
      have st35 := st3.trans (st4.trans st5)
      have tm36 := (st35.tm ra').trans (Tm.of s6)
      have hz6 := s6 _ _ (st35 _ _ hfr hz)
      have ra6 := ra5.step s6
      refine ⟨lf, zs, .ref p, rfl, rfl, hz6, by rw [sizeLine_eq]; omega, _, zs ++ [.ref p], ss ++ [(o, tx, ty)], rfl, (st05.trans (.of s6)).mut hlf, RowAt.mut ra hlf ra6, upd_same, ?_, fun s hs => ?_, by rw [List.length_append, hl]; rfl⟩
      · have tmL : Tm (upd H5 p (.tup [nI o, x, y])) (upd (upd H5 p (.tup [nI o, x, y])) lf (.lst (zs ++ [.ref p]))) := Tm.lst hz6
        refine Paired.app (paired_mono (fun _ _ r => StK.tm (tm36.trans tmL) r) pz) (Paired.one ?_)
        exact StK.tm tmL ⟨p, x, y, rfl, upd_same, rx.tm tm06, ry.tm tm06⟩
      · rcases List.mem_append.mp hs with h | h
        · exact ok s h
        · rw [List.mem_singleton.mp h]
          exact ⟨ho, htx, hty⟩
    · rintro σ H' ⟨y5, zs, ss, rfl, st, ra', hz, pz, ok, hl⟩
      refine ⟨_, rfl, .inl ⟨lf, zs, rfl, SqL.of hz, fun p hp => ?_⟩⟩
      have s6 := same_new (o := .tup zs) hp
      exact q (.ref p) _ ss (st.trans (.of s6)) (ra'.step s6) ⟨p, zs, rfl, upd_same, paired_mono (fun _ _ r => StK.tm (.of s6) r) pz⟩ ok (by omega)
end
end Lt

set_option Elab.async false
set_option linter.all false
set_option maxRecDepth 100000
set_option maxHeartbeats 1000000
namespace Lt
open PySem PySem.Spec PyProof.Rows L2
/-! ### _law_alike, of equal data -/
def Pl : Nat → PyData → Prop
  | _, .int _ => True
  | _, .none => True
  | k + 1, .tuple ds => ds.length ≤ 1000 ∧ ∀ e ∈ ds, Pl k e
  | k + 1, .list ds => ds.length ≤ 1000 ∧ ∀ e ∈ ds, Pl k e
  | _, _ => False
def isTL (d : PyData) : Bool := isTup d || isLst d
theorem kit_TL {K : PySem.W.Frag} (d : PyData) : PySem.W.kitAny K (.type (tyN d)) [.type "tuple", .type "list"] = some (isTL d) := by
  refine kitAny_cons (b := isTup d) (kit_ty (kit_tup d)) (fun h => ?_) (fun h => by unfold isTL; rw [h]; rfl)
  refine kitAny_cons (b := isLst d) (kit_ty (kit_lst d)) (fun h2 => ?_) (fun h2 => by unfold isTL; rw [h, h2]; rfl)
  unfold isTL
  rw [h, h2]
  exact kitAny_nil
theorem cls_TL : Paired ClsV [V.ty "tuple", V.ty "list"] [.type "tuple", .type "list"] := .cons (.ty _) (.cons (.ty _) .nil)
section
variable {P : Program} {w : World} {K : PySem.W.Frag} {mg : Str → Option Value} {base : Heap}
def spAlike (k : Nat) : Sp := fun vs H Q _ => ∃ (v u : V) (d : PyData), vs = [v, u] ∧ Rp H v d ∧ Rp H u d ∧ Pl k d ∧ ∀ H', Same H H' → Q (.bl true) H'
theorem sc_law_alike : FnScope ["found", "due", "k"] ["found", "due"] (defScope s_law_alike) := ⟨rfl, rfl, rfl, by decide +kernel, rfl, by decide +kernel, by decide +kernel⟩
theorem Rp.ix {K : PySem.W.Frag} {H : Hp} {a : Addr} {xs : List V} {i : Nat} {v : V} {Q : VK} (h : H a = some (.lst xs) ∨ RT H a xs) (hi : xs[i]? = some v) (q : Q v H) : rIx K (.ref a) (.int ((0 : Int) + (i : Nat))) H Q := by
  have e : atI xs ((0 : Int) + (i : Nat)) = some v := by rw [Int.zero_add]; exact atI_nat hi
  rcases h with h | h
  · exact .inl ⟨a, xs, _, v, rfl, rfl, SqL.of h, e, q⟩
  · exact .inr (.inl ⟨a, xs, _, v, rfl, rfl, h.sq, e, q⟩)
theorem RpAll.getR {H : Hp} : ∀ {ds : List PyData} {vs : List V} {i : Nat}, RpAll H vs ds → i < ds.length → ∃ v d, vs[i]? = some v ∧ ds[i]? = some d ∧ Rp H v d := fun {ds vs i} h hi => by
  have hl := h.len
  have hv : vs[i]? = some (vs[i]'(by omega)) := List.getElem?_eq_getElem (by omega)
  obtain ⟨d, h1, h2⟩ := h.get hv
  exact ⟨_, d, hv, h1, h2⟩
/-- a list or tuple -/
theorem Rp.seq {H : Hp} {v : V} {d : PyData} (h : Rp H v d) (ht : isTL d = true) : ∃ a xs ds, v = .ref a ∧ (H a = some (.lst xs) ∨ RT H a xs) ∧ RpAll H xs ds ∧ (d = .tuple ds ∨ d = .list ds) := by
  cases h with
  | lst h a => exact ⟨_, _, _, rfl, .inl h, a, .inr rfl⟩
  | tup h a => exact ⟨_, _, _, rfl, .inr h, a, .inl rfl⟩
  | non => cases ht
  | bl => cases ht
  | int => cases ht
  | str => cases ht
theorem sq_or {K : PySem.W.Frag} {H : Hp} {a : Addr} {xs : List V} (h : H a = some (.lst xs) ∨ RT H a xs) : SqL K H a xs ∨ SqT K H a xs := by
  rcases h with h | h
  · exact .inl (SqL.of h)
  · exact .inr h.sq
theorem or_same {H H' : Hp} {a : Addr} {xs : List V} (s : Same H H') (h : H a = some (.lst xs) ∨ RT H a xs) : H' a = some (.lst xs) ∨ RT H' a xs := by
  rcases h with h | h
  · exact .inl (s _ _ h)
  · exact .inr (h.sm s)
theorem has_law_alike (T : Top K mg "_law_alike" s_law_alike ["found", "due"]) (B : Bi mg) : ∀ k, Has P w K mg base CX0 (k + 1) "_law_alike" ["found", "due"] (spAlike k) := by
  have step : ∀ (k : Nat) (sp : Sp) (hsp : ∀ (v u : V) (d : PyData) (H : Hp) (Q : VK), (∃ k', k = k' + 1 ∧ Pl k' d) → Rp H v d → Rp H u d → (∀ H', Same H H' → Q (.bl true) H') → sp [v, u] H Q E0), Has P w K mg base CX0 k "_law_alike" ["found", "due"] sp → Has P w K mg base CX0 (k + 1) "_law_alike" ["found", "due"] (spAlike k) := by
    intro k sp hsp hA
    refine T.ok sc_law_alike (fun vs H Q E h => ?_) (fun f cdv A outer s H vs Q E hr h => ?_)
    · obtain ⟨v, u, d, rfl, _⟩ := h
      rfl
    · obtain ⟨v, u, d, rfl, hv, hu, hp, q⟩ := h
      refine ⟨_, pss_cons (ps_if (pt_val (pe_callB call_isiT (by rfl) B.isinstance PyProof.Rows.boot_isinstance (pa_cons (pv 1) (pa_cons (pe_tup (pa_cons (pe_bltn (by rfl) B.tuple PyProof.Rows.boot_tuple (rr_ty "tuple")) (pa_cons (pe_bltn (by rfl) B.list PyProof.Rows.boot_list (rr_ty "list")) pa_nil))) pa_nil))))
          (pss_cons (ps_if (PW.pt (pw_or (pt_not (pt_val (pe_callB call_isiT (by rfl) B.isinstance PyProof.Rows.boot_isinstance (pa_cons (pv 0) (pa_cons (pe_tup (pa_cons (pe_bltn (by rfl) B.tuple PyProof.Rows.boot_tuple (rr_ty "tuple")) (pa_cons (pe_bltn (by rfl) B.list PyProof.Rows.boot_list (rr_ty "list")) pa_nil))) pa_nil)))))
            (pw_or1 (pt_cmpR op_ne (pe_callB call_isi (by rfl) B.isinstance PyProof.Rows.boot_isinstance (pa_cons (pv 0) (pa_cons (pe_bltn (by rfl) B.list PyProof.Rows.boot_list (rr_ty "list")) pa_nil))) (pe_callB call_isi (by rfl) B.isinstance PyProof.Rows.boot_isinstance (pa_cons (pv 1) (pa_cons (pe_bltn (by rfl) B.list PyProof.Rows.boot_list (rr_ty "list")) pa_nil))) (nomark _)))))
            (pss_one (ps_ret pe_bl)) pss_nil)
          (pss_cons (ps_if (pt_cmpR op_ne (pe_callB call_len_seq (by rfl) B.len PySem.boot_len (pa_cons (pv 0) pa_nil)) (pe_callB call_len_seq (by rfl) B.len PySem.boot_len (pa_cons (pv 1) pa_nil)) (nomark _)) (pss_one (ps_ret pe_bl)) pss_nil)
          (pss_one (ps_ret (pe_cmpR (op_eqD hr.units) (pe_lc (own := [("k", 2)]) (g := gName 2) (tt := tNot (tB (tCall sp [] E0 (tCons (tOp (rIx K) (tVar 0) (tVar 2)) (tCons (tOp (rIx K) (tVar 1) (tVar 2)) tNil))))) (te := tVar 2) (by rfl) sc_law_alike.nd (pi_range1 (by rfl) B.range (pa_cons (pe_callB call_len_seq (by rfl) B.len PySem.boot_len (pa_cons (pv 1) pa_nil)) pa_nil))
              (blkOk_by (own := [("k", 2)]) (N := ["found", "due", "k"]) (sc := defScope s_law_alike) (by decide +kernel)) (fun _ _ _ _ _ => pg_name (i := 2) sc_law_alike.nd rfl (Or.inl rfl))
              (fun _ _ _ _ _ => pts_one (pt_not (pt_val (pe_has hA hr (by rfl) (pa_cons (pe_ix ix_seq (pv 0) (pv 2) (fun _ _ => rfl)) (pa_cons (pe_ix ix_seq (pv 1) (pv 2) (fun _ _ => rfl)) pa_nil))))))
              (fun _ _ _ _ _ => pv 2)) (pe_lst pa_nil) (nomark _)))))) pss_nil)
        (pss_cons (ps_if (PW.pt (pw_or (pt_cmp (pc_isN (pv 1))) (pw_or1 (pt_val (pe_callB call_isi (by rfl) B.isinstance PyProof.Rows.boot_isinstance (pa_cons (pv 1) (pa_cons (pe_bltn (by rfl) B.str PyProof.Rows.boot_str (rr_ty "str")) pa_nil)))))))
          (pss_one (ps_ret (pe_and (pe_cmpR (op_eqD hr.units) (pv 0) (pv 1) (nomark _)) (pe_one (pe_cmpR op_eq (pe_callB call_isi (by rfl) B.isinstance PyProof.Rows.boot_isinstance (pa_cons (pv 0) (pa_cons (pe_bltn (by rfl) B.str PyProof.Rows.boot_str (rr_ty "str")) pa_nil))) (pe_callB call_isi (by rfl) B.isinstance PyProof.Rows.boot_isinstance (pa_cons (pv 1) (pa_cons (pe_bltn (by rfl) B.str PyProof.Rows.boot_str (rr_ty "str")) pa_nil))) (nomark _)))))) pss_nil)
        (pss_one (ps_ret (pe_and (pe_callB call_isi (by rfl) B.isinstance PyProof.Rows.boot_isinstance (pa_cons (pv 0) (pa_cons (pe_bltn (by rfl) B.int PyProof.Rows.boot_int (rr_ty "int")) pa_nil)))
          (pe_and (pe_cmpR op_eq (pe_callB call_isi (by rfl) B.isinstance PyProof.Rows.boot_isinstance (pa_cons (pv 0) (pa_cons (pe_bltn (by rfl) B.bool PyProof.Rows.boot_bool (rr_ty "bool")) pa_nil))) (pe_callB call_isi (by rfl) B.isinstance PyProof.Rows.boot_isinstance (pa_cons (pv 1) (pa_cons (pe_bltn (by rfl) B.bool PyProof.Rows.boot_bool (rr_ty "bool")) pa_nil))) (nomark _))
            (pe_one (pe_cmpR op_eq (pv 0) (pv 1) (nomark _)))))))), ?_⟩
      refine ⟨_, rfl, by show 2 ≤ sizeLine; decide, fun tp htp => ?_⟩
      have s1 := same_new (o := .tup [V.ty "tuple", V.ty "list"]) htp
      have hv1 := Rp.same s1 _ _ hv
      have hu1 := Rp.same s1 _ _ hu
      refine ⟨u, tp, _, _, _, isTL d, rfl, upd_same, cls_TL, rp_ty hu1, kit_TL d, isTL d, rfl, ?_⟩
      by_cases hT : isTL d = true
      · rw [hT]
        refine iteT ⟨_, rfl, by show 2 ≤ sizeLine; decide, fun tp2 htp2 => ?_⟩
        have s2 := same_new (o := .tup [V.ty "tuple", V.ty "list"]) htp2
        have s12 := s1.trans s2
        have hv2 := Rp.same s2 _ _ hv1
        have hu2 := Rp.same s2 _ _ hu1
        refine ⟨v, tp2, _, _, _, isTL d, rfl, upd_same, cls_TL, rp_ty hv2, kit_TL d, isTL d, rfl, ?_⟩
        rw [hT]
        refine iteF ⟨_, rfl, v, .ty "list", _, _, isLst d, rfl, .ty _, rp_ty hv2, kit_ty (kit_lst d), _, rfl, u, .ty "list", _, _, isLst d, rfl, .ty _, rp_ty hu2, kit_ty (kit_lst d), rfl, _, rfl, iteNS rfl ?_⟩
        obtain ⟨a, xs, ds, rfl, ha, hx, hd⟩ := hv2.seq hT
        obtain ⟨b, ys, ds2, rfl, hb, hy, hd2⟩ := hu2.seq hT
        have eds : ds2 = ds := by
          rcases hd with e | e <;> rcases hd2 with e2 | e2 <;> rw [e] at e2 <;> first | (injection e2 with z; exact z.symm) | cases e2
        subst eds
        have hxl := hx.len
        have hyl := hy.len
        have hpl : ∃ k', k = k' + 1 ∧ ds2.length ≤ 1000 ∧ ∀ e ∈ ds2, Pl k' e := by
          cases k with
          | zero => rcases hd with e | e <;> rw [e] at hp <;> exact hp.elim
          | succ k' => rcases hd with e | e <;> rw [e] at hp <;> exact ⟨k', rfl, hp⟩
        obtain ⟨k', ek, hl, hpe⟩ := hpl
        refine ⟨_, rfl, a, xs, rfl, sq_or ha, _, rfl, b, ys, rfl, sq_or hb, rfl, _, rfl, iteNS (by rw [hxl, hyl]) ?_⟩
        refine ⟨_, rfl, b, ys, rfl, sq_or hb, (ys.length : Int), rfl, by omega, by omega, fun D hD => ?_⟩
        refine lc_range (lo := 0) (n := (ys.length : Int).toNat) (fun i H' => Same (upd (upd H tp (.tup [V.ty "tuple", V.ty "list"])) tp2 (.tup [V.ty "tuple", V.ty "list"])) H' ∧ H' D = some (.lst [])) ⟨same_new hD, upd_same⟩ ?_ ?_
        · rintro i H' hi ⟨sm, hDl⟩
          refine ⟨rfl, ?_⟩
          have hid : i < ds2.length := by omega
          obtain ⟨x1, d1, e1, e2, r1⟩ := hx.getR hid
          obtain ⟨x2, d2, e3, e4, r2⟩ := hy.getR hid
          have ed : d1 = d2 := Option.some.inj (e2.symm.trans e4)
          subst ed
          refine ⟨_, rfl, _, rfl, Rp.ix (or_same sm ha) e1 ⟨_, rfl, _, rfl, Rp.ix (or_same sm hb) e3 ?_⟩⟩
          refine hsp x1 x2 d1 H' _ ⟨k', ek, hpe d1 (List.mem_of_getElem? e2)⟩ (Rp.same sm _ _ r1) (Rp.same sm _ _ r2) fun H4 s4 => ?_
          exact ⟨true, rfl, iteF ⟨sm.trans s4, s4 _ _ hDl⟩⟩
        · rintro H' ⟨sm, hDl⟩
          refine ⟨Nat.zero_le _, fun p2 hp2 => ?_⟩
          have s5 := same_new (o := .lst []) hp2
          refine ⟨.list [], .list [], .lst (SqL.of (s5 _ _ hDl)) .nil, .lst (SqL.of upd_same) .nil, rfl, rfl, ?_⟩
          exact q _ ((s12.trans sm).trans s5)
      · have hF : isTL d = false := by simpa using hT
        rw [hF]
        have hi : (∃ i, d = .int i) ∨ d = .none := by
          cases d with
          | int i => exact .inl ⟨i, rfl⟩
          | tuple ds => exact absurd rfl hT
          | list ds => exact absurd rfl hT
          | none => exact .inr rfl
          | bool b => cases k <;> exact hp.elim
          | str b => cases k <;> exact hp.elim
          | dict b => cases k <;> exact hp.elim
        rcases hi with ⟨i, rfl⟩ | rfl
        rotate_left
        · cases hv
          cases hu
          refine iteF ⟨_, rfl, _, rfl, iteT (iteT ?_)⟩
          refine ⟨_, rfl, _, rfl, .none, .none, .non, .non, rfl, rfl, true, congrArg V.bl rfl, iteT ?_⟩
          exact ⟨_, rfl, .non, .ty "str", _, _, false, rfl, .ty _, .base .non, kit_ty (kit_str .none), _, rfl, .non, .ty "str", _, _, false, rfl, .ty _, .base .non, kit_ty (kit_str .none), rfl, q _ s1⟩
        cases hv
        cases hu
        refine iteF ⟨_, rfl, _, rfl, iteF ?_⟩
        refine ⟨_, rfl, .int i, .ty "str", _, _, false, rfl, .ty _, .base (.int i), kit_ty (kit_str (.int i)), false, rfl, iteF ?_⟩
        refine ⟨_, rfl, .int i, .ty "int", _, _, true, rfl, .ty _, .base (.int i), kit_ty (kit_int (.int i)), true, rfl, iteT ?_⟩
        refine ⟨_, rfl, .int i, .ty "bool", _, _, false, rfl, .ty _, .base (.int i), kit_ty (kit_bool (.int i)), _, rfl, .int i, .ty "bool", _, _, false, rfl, .ty _, .base (.int i), kit_ty (kit_bool (.int i)), rfl, true, rfl, iteT ?_⟩
        refine ⟨_, rfl, _, rfl, rfl, ?_⟩
        have e : decide (V.int i = V.int i) = true := decide_eq_true rfl
        rw [e]
        exact q _ s1
  intro k
  induction k with
  | zero =>
    obtain ⟨f, fd, hm, F, b⟩ := T
    exact step 0 (fun _ _ _ _ => False) (fun v u d H Q h _ _ _ => by obtain ⟨k', e, _⟩ := h; cases e) ⟨f, fd, hm, F.kp, b, ⟨fun _ _ _ _ h => h.elim, fun _ _ _ _ _ _ _ _ _ _ _ _ _ h => h.elim⟩⟩
  | succ k ih => exact step (k + 1) (spAlike k) (fun v u d H Q h hv hu q => by
      obtain ⟨k', e, hp⟩ := h
      cases e
      exact ⟨v, u, d, rfl, hv, hu, hp, q⟩) ih
end
end Lt

set_option Elab.async false
set_option linter.all false
set_option maxRecDepth 100000
set_option maxHeartbeats 4000000
/-! k12: the law's cases and lambdas -/
namespace Lt
open PySem PySem.Spec PyProof.Rows L2 NdefX LamX LmX MaX
def lockErr (c : Str × Nat × Nat) : Bool := match lockOf c.1 with
  | .error e => decide (e = c.2)
  | .ok _ => false
theorem lockErr_is {c : Str × Nat × Nat} (h : lockErr c = true) : lockOf c.1 = .error c.2 := by
  unfold lockErr at h
  cases e : lockOf c.1 with
  | error z => rw [e] at h; rw [of_decide_eq_true h]
  | ok z => rw [e] at h; cases h
def five : Str := Txt.join sNl (List.replicate 5 ("turn 0 1" : Str))
def lcs1 : List (Str × Nat × Nat) := [("", 2, 1), ("turn", 1, 2), ("turn 0", 1, 3), ("turn 1 1", 1, 3), ("turn 0 1 2 1", 1, 5)]
def lcs2 : List (Str × Nat × Nat) := [("spin 0 1", 1, 1), ("turn 0 1\nturn 1", 2, 3), ("turn 0 1\nturn 1 0 2", 2, 4)]
def lcs3 : List (Str × Nat × Nat) := [("turn 0 1 2 3 4 5 6 7 8 9", 1, 11), (" \n \n", 4, 1), ("turn 0 2", 1, 3)]
def lcs : List (Str × Nat × Nat) := lcs1 ++ lcs2 ++ [(five, 5, 1)] ++ lcs3
theorem lcs_ok : ∀ c ∈ lcs, lockErr c = true := by decide +kernel
theorem lcs_len : ∀ c ∈ lcs, c.1.length ≤ 100 := by decide +kernel
def made3 : List (List Nat) := (LL [[1, 2, 0]] 3).map (·.1)
theorem made3_is : made3 = [[0, 1, 2], [1, 2, 0], [2, 0, 1]] := by decide +kernel
def rowErr (c : Str × Nat × Nat) : Bool := match rowOf [[0, 1, 2], [1, 2, 0], [2, 0, 1]] 3 2 c.1 with
  | .error e => decide (e = c.2)
  | .ok _ => false
theorem rowErr_is {c : Str × Nat × Nat} (h : rowErr c = true) : rowOf made3 3 2 c.1 = .error c.2 := by
  rw [made3_is]
  unfold rowErr at h
  cases e : rowOf [[0, 1, 2], [1, 2, 0], [2, 0, 1]] 3 2 c.1 with
  | error z => rw [e] at h; rw [of_decide_eq_true h]
  | ok z => rw [e] at h; cases h
def rcs1 : List (Str × Nat × Nat) := [("x0", 1, 2), ("x0 no 0 1 2", 1, 6), ("x0 no 0 1 2 yes 1 0 2", 1, 7), ("x2 no", 1, 1)]
def rcs2 : List (Str × Nat × Nat) := [("x0 no 0 1 2 yes 1 2 0 0", 1, 10), ("x0 yes", 1, 2), ("x0 no 0 0 1", 1, 4)]
def rcs3 : List (Str × Nat × Nat) := [("y0", 1, 1), ("x00 no", 1, 1)]
def rcs : List (Str × Nat × Nat) := rcs1 ++ rcs2 ++ rcs3
theorem rcs_ok : ∀ c ∈ rcs, rowErr c = true := by decide +kernel
theorem rcs_len : ∀ c ∈ rcs, c.1.length ≤ 100 := by decide +kernel
def rowVoid : Bool := match rowOf [[0, 1, 2], [1, 2, 0], [2, 0, 1]] 3 2 (" \n" : Str) with
  | .error _ => false
  | .ok ss => ss.isEmpty
theorem rowVoid_ok : rowVoid = true := by decide +kernel
theorem row_void : rowOf made3 3 2 (" \n" : Str) = .ok [] := by
  have h := rowVoid_ok
  rw [made3_is]
  unfold rowVoid at h
  cases e : rowOf [[0, 1, 2], [1, 2, 0], [2, 0, 1]] 3 2 (" \n" : Str) with
  | error z => rw [e] at h; cases h
  | ok z =>
    rw [e] at h
    cases z with
    | nil => rfl
    | cons a l => cases h
abbrev lawN : List Str := ["script", "row", "text", "at", "place", "told", "cases", "due", "whole", "steps", "bent", "case", "inputs", "lock", "three", "turn"]
theorem sc_law : FnScope lawN ["script"] (defScope s_law) := ⟨rfl, rfl, rfl, by decide +kernel, rfl, by decide +kernel, by decide +kernel⟩
abbrev LX (P : Program) (w : World) (K : PySem.W.Frag) (mg : Str → Option Value) (base : Heap) (f : Addr) (cd : Value) (A : Around) (outer : List Env) (s : Shared) (H : Hp) (E : XK) : Cx := cxOf CX0 P w K mg base lawN "law" (defScope s_law) f cd A outer s H E
def lawS (i : Nat) : Stmt := (defBody s_law).getD i (.Pass ⟨0, 0, 0, 0⟩)
def cmpL : Expr → Expr
  | .Compare l _ _ _ => l
  | e => e
def orL : Expr → Expr
  | .BoolOp _ vs _ => vs.getD 0 noX
  | e => e
def ifBody (i : Nat) : Stmt → Stmt
  | .If _ b _ _ => b.getD i (.Pass ⟨0, 0, 0, 0⟩)
  | s => s
def lm0 : Expr := argX 0 (valX (lawS 5))
def lm1 : Expr := argX 0 (cmpL (valX (lawS 12)))
def lm2 : Expr := argX 0 (cmpL (valX (lawS 13)))
def lm3 : Expr := argX 0 (valX (ifBody 1 (lawS 18)))
def lm4 : Expr := argX 0 (cmpL (orL (valX (lawS 24))))
def lm5 : Expr := argX 0 (cmpL (valX (lawS 25)))
theorem nsc0 : NScope ["bent"] [] ["bent"] (lamS lm0) := nscope_by (by decide +kernel)
theorem nsc1 : NScope ["a", "case"] ["a"] ["case"] (lamS lm1) := nscope_by (by decide +kernel)
theorem nsc2 : NScope ["b"] ["b"] [] (lamS lm2) := nscope_by (by decide +kernel)
theorem nsc3 : NScope ["c", "bent", "inputs", "lock"] ["c"] ["bent", "inputs", "lock"] (lamS lm3) := nscope_by (by decide +kernel)
theorem nsc4 : NScope ["d", "case", "three"] ["d"] ["case", "three"] (lamS lm4) := nscope_by (by decide +kernel)
theorem nsc5 : NScope ["g", "three"] ["g"] ["three"] (lamS lm5) := nscope_by (by decide +kernel)
theorem lb0 : ndefB (defScope s_law) (lamS lm0) ["bent"] = true := by decide +kernel
theorem lb1 : ndefB (defScope s_law) (lamS lm1) ["case"] = true := by decide +kernel
theorem lb2 : ndefB (defScope s_law) (lamS lm2) [] = true := by decide +kernel
theorem lb3 : ndefB (defScope s_law) (lamS lm3) ["bent", "inputs", "lock"] = true := by decide +kernel
theorem lb4 : ndefB (defScope s_law) (lamS lm4) ["case", "three"] = true := by decide +kernel
theorem lb5 : ndefB (defScope s_law) (lamS lm5) ["three"] = true := by decide +kernel
/-- all that the law calls -/
structure LawHas (P : Program) (w : World) (K : PySem.W.Frag) (mg : Str → Option Value) (base : Heap) (CB CS : Addr) : Prop where
  bi : Bi mg
  wl : Has P w K mg base (L2.CX P w) 6 "write_lock" ["lock"] spWriteLock
  rl : Has P w K mg base (L2.CX P w) 5 "read_lock" ["text"] (spReadLock CB CS)
  wr : Has P w K mg base (L2.CX P w) 6 "write_row" ["lock", "inputs", "row"] spWriteRow
  rr : Has P w K mg base (L2.CX P w) 7 "read_row" ["lock", "inputs", "text"] (spReadRow CB CS)
  eB : ErrI2 P w K mg base "BadLine" "line" "place" CB
  eS : Err0 K mg "BadString" CS
  ne : PySem.W.exmOne K (.ref CS) (.ref CB) = some false
  said : Lt.Top K mg "_law_said_session" s_law_said_session ["work"]
  alike : ∀ k, Has P w K mg base CX0 (k + 1) "_law_alike" ["found", "due"] (spAlike k)
  taken : Has P w K mg base CX0 1 "_law_taken" ["row", "many"] (spTaken K)
  pick : Has P w K mg base CX0 2 "_law_pick" ["row", "things"] (spPick K)
  lock : Has P w K mg base CX0 4 "_law_lock" ["row", "kinds"] (spLock K)
  span : Has P w K mg base CX0 2 "_law_span" ["places", "given"] spSpanN
  drawn : Has P w K mg base CX0 3 "_law_drawn_row" ["row", "whole", "inputs", "most"] (spDrawn K)
  loose : Has P w K mg base CX0 2 "_law_loose" ["row", "text"] (spLoose K)
  bent : Has P w K mg base CX0 3 "_law_bent" ["row", "text", "words"] (spBent K)
  words : Has P w K mg base CX0 1 "_law_words" ["turn"] spSpaced
  rtext : Has P w K mg base CX0 2 "_law_row_text" ["steps"] spRowText
section
variable {P : Program} {w : World} {K : PySem.W.Frag} {mg : Str → Option Value} {base : Heap} {CB CS : Addr}
abbrev tb0 (CB CS : Addr) : XK → TE := fun E => tCall (spReadLock CB CS) [] E (tCons (tVar 0) tNil)
abbrev tb1 (CB CS : Addr) : XK → TE := fun E => tCall (spReadLock CB CS) [] E (tCons (tVar 1) tNil)
abbrev tb2 (CB CS : Addr) : XK → TE := fun E => tCall (spReadLock CB CS) [] E (tCons (tC (.int 7)) tNil)
abbrev tb3 (CB CS : Addr) : XK → TE := fun E => tCall (spReadRow CB CS) [] E (tCons (tVar 3) (tCons (tVar 2) (tCons (tVar 1) tNil)))
abbrev tb4 (CB CS : Addr) : XK → TE := fun E => tCall (spReadRow CB CS) [] E (tCons (tVar 2) (tCons (tC (.int 2)) (tCons (tVar 1) tNil)))
abbrev tb5 (CB CS : Addr) : XK → TE := fun E => tCall (spReadRow CB CS) [] E (tCons (tVar 1) (tCons (tC (.int 2)) (tCons (tC .non) tNil)))
theorem hb0 {cells : List (Str × Addr)} (L : LawHas P w K mg base CB CS) (c' : Addr) (A : Around) (st : List Env) (f : Addr) (s : Shared) (H : Hp) (E : XK) (hr : Room 7 (A.deeper (envF (lmF q_lam (lamP lm0) (lamS lm0) cells c') f s.heap.objs.size))) : PE (ncx (L2.CX P w) P w K mg base ["bent"] (lmF q_lam (lamP lm0) (lamS lm0) cells c') f A st s H E) (lamB lm0) (tb0 CB CS E) :=
  pe_hasX (E := E) L.rl (hr.mono (by decide)) (by rfl) (passes_call (takes_of rfl rfl rfl rfl) (fun _ _ _ _ h => h)) (pa_cons (pv 0) pa_nil)
theorem hb1 {cells : List (Str × Addr)} (L : LawHas P w K mg base CB CS) (c' : Addr) (A : Around) (st : List Env) (f : Addr) (s : Shared) (H : Hp) (E : XK) (hr : Room 7 (A.deeper (envF (lmF q_lam (lamP lm1) (lamS lm1) cells c') f s.heap.objs.size))) : PE (ncx (L2.CX P w) P w K mg base ["a", "case"] (lmF q_lam (lamP lm1) (lamS lm1) cells c') f A st s H E) (lamB lm1) (tb1 CB CS E) :=
  pe_hasX (E := E) L.rl (hr.mono (by decide)) (by rfl) (passes_call (takes_of rfl rfl rfl rfl) (fun _ _ _ _ h => h)) (pa_cons (pv 1) pa_nil)
theorem hb2 {cells : List (Str × Addr)} (L : LawHas P w K mg base CB CS) (c' : Addr) (A : Around) (st : List Env) (f : Addr) (s : Shared) (H : Hp) (E : XK) (hr : Room 7 (A.deeper (envF (lmF q_lam (lamP lm2) (lamS lm2) cells c') f s.heap.objs.size))) : PE (ncx (L2.CX P w) P w K mg base ["b"] (lmF q_lam (lamP lm2) (lamS lm2) cells c') f A st s H E) (lamB lm2) (tb2 CB CS E) :=
  pe_hasX (E := E) L.rl (hr.mono (by decide)) (by rfl) (passes_call (takes_of rfl rfl rfl rfl) (fun _ _ _ _ h => h)) (pa_cons pe_int pa_nil)
theorem hb3 {cells : List (Str × Addr)} (L : LawHas P w K mg base CB CS) (c' : Addr) (A : Around) (st : List Env) (f : Addr) (s : Shared) (H : Hp) (E : XK) (hr : Room 7 (A.deeper (envF (lmF q_lam (lamP lm3) (lamS lm3) cells c') f s.heap.objs.size))) : PE (ncx (L2.CX P w) P w K mg base ["c", "bent", "inputs", "lock"] (lmF q_lam (lamP lm3) (lamS lm3) cells c') f A st s H E) (lamB lm3) (tb3 CB CS E) :=
  pe_hasX (E := E) L.rr hr (by rfl) (passes_call (takes_of rfl rfl rfl rfl) (fun _ _ _ _ h => h)) (pa_cons (pv 3) (pa_cons (pv 2) (pa_cons (pv 1) pa_nil)))
theorem hb4 {cells : List (Str × Addr)} (L : LawHas P w K mg base CB CS) (c' : Addr) (A : Around) (st : List Env) (f : Addr) (s : Shared) (H : Hp) (E : XK) (hr : Room 7 (A.deeper (envF (lmF q_lam (lamP lm4) (lamS lm4) cells c') f s.heap.objs.size))) : PE (ncx (L2.CX P w) P w K mg base ["d", "case", "three"] (lmF q_lam (lamP lm4) (lamS lm4) cells c') f A st s H E) (lamB lm4) (tb4 CB CS E) :=
  pe_hasX (E := E) L.rr hr (by rfl) (passes_call (takes_of rfl rfl rfl rfl) (fun _ _ _ _ h => h)) (pa_cons (pv 2) (pa_cons pe_int (pa_cons (pv 1) pa_nil)))
theorem hb5 {cells : List (Str × Addr)} (L : LawHas P w K mg base CB CS) (c' : Addr) (A : Around) (st : List Env) (f : Addr) (s : Shared) (H : Hp) (E : XK) (hr : Room 7 (A.deeper (envF (lmF q_lam (lamP lm5) (lamS lm5) cells c') f s.heap.objs.size))) : PE (ncx (L2.CX P w) P w K mg base ["g", "three"] (lmF q_lam (lamP lm5) (lamS lm5) cells c') f A st s H E) (lamB lm5) (tb5 CB CS E) :=
  pe_hasX (E := E) L.rr hr (by rfl) (passes_call (takes_of rfl rfl rfl rfl) (fun _ _ _ _ h => h)) (pa_cons (pv 1) (pa_cons pe_int (pa_cons pe_non pa_nil)))
end
end Lt

set_option Elab.async false
set_option linter.all false
set_option maxRecDepth 100000
set_option maxHeartbeats 4000000
/-! k12: the end of the law -/
namespace Lt
open PySem PySem.Spec PyProof.Rows L2 NdefX LamX LmX MaX
/-- a case: a text and what it is told -/
def CaseAt (H : Hp) (v : V) (c : Str × Nat × Nat) : Prop := ∃ p q, v = .ref p ∧ H p = some (.tup [.str c.1, .ref q]) ∧ H q = some (.tup [nI c.2.1, nI c.2.2])
theorem CaseAt.tm {H H' : Hp} {v : V} {c : Str × Nat × Nat} (e : Tm H H') (h : CaseAt H v c) : CaseAt H' v c := let ⟨p, q, h1, h2, h3⟩ := h; ⟨p, q, h1, e.1 _ _ h2, e.1 _ _ h3⟩
abbrev tCase (c : Str × Nat × Nat) : TE := tTup (tCons (tC (.str c.1)) (tCons (tTup (tCons (tC (nI c.2.1)) (tCons (tC (nI c.2.2)) tNil))) tNil))
def tCases : List (Str × Nat × Nat) → TA
  | [] => tNil
  | c :: cs => tCons (tCase c) (tCases cs)
theorem cases_read : ∀ (cs : List (Str × Nat × Nat)) {σ : L2.St} {H : Hp} {Q : List V → Hp → Prop}, (∀ vs H', Same H H' → Paired (CaseAt H') vs cs → Q vs H') → tCases cs σ H Q
  | [], σ, H, Q, q => q [] H (Same.refl _) .nil
  | c :: cs, σ, H, Q, q => by
    refine ⟨Nat.le_of_ble_eq_true rfl, fun a ha => ⟨Nat.le_of_ble_eq_true rfl, fun b hb => ?_⟩⟩
    have s1 := same_new (o := .tup [nI c.2.1, nI c.2.2]) ha
    have s2 := same_new (o := .tup [V.str c.1, V.ref a]) hb
    have k1 := s2 _ _ (show (upd H a (.tup [nI c.2.1, nI c.2.2])) a = some (.tup [nI c.2.1, nI c.2.2]) from upd_same)
    refine cases_read cs fun vs H' s p => q _ _ ((s1.trans s2).trans s) (.cons ⟨b, a, rfl, s _ _ upd_same, s _ _ k1⟩ p)
theorem casesL_read (cs : List (Str × Nat × Nat)) (hc : cs.length ≤ 100) {σ : L2.St} {H : Hp} {Q : VK} (q : ∀ p vs H', Same H H' → H p = none → H' p = some (.lst vs) → Paired (CaseAt H') vs cs → Q (.ref p) H') : tLst (tCases cs) σ H Q :=
  cases_read cs fun vs H' s pr => ⟨by rw [Paired.length pr, sizeLine_eq]; omega, fun p hp => q p vs _ (s.trans (same_new hp)) (s.free hp) upd_same (paired_mono (fun _ _ r => r.tm (.of (same_new hp))) pr)⟩
/-- a list of cases that is written out -/
def tCL (cs : List (Str × Nat × Nat)) : TE := fun _ H Q => ∀ p vs H', Same H H' → H p = none → H' p = some (.lst vs) → Paired (CaseAt H') vs cs → Q (.ref p) H'
theorem pe_cases {X : Cx} {e : Expr} {cs : List (Str × Nat × Nat)} (hc : cs.length ≤ 100) (h : PE X e (tLst (tCases cs))) : PE X e (tCL cs) := ⟨fun pins s σ H Q I q => h.run pins s σ H Q I (casesL_read cs hc q)⟩
section
variable {P : Program} {w : World} {K : PySem.W.Frag} {mg : Str → Option Value} {base : Heap} {CB CS c Pt : Addr}
theorem g3 : GL [[1, 2, 0]] 3 := ⟨by decide, by decide, by decide, by decide, fun g hg => by rw [List.mem_singleton.mp hg]; exact (by decide : ([1, 2, 0] : List Nat).Perm (List.range 3))⟩
theorem said_ne {H : Hp} {r v : V} {t u : List Nat} {Q : VK} (h1 : TK H r t) (h2 : TK H v u) (e : t = u) (q : Q (.bl false) H) : rNeD K r v H Q := by
  refine ⟨dT t, dT u, h1.tn.dp, h2.tn.dp, sh_T _, sh_T _, ?_⟩
  rw [eqv_dT, decide_eq_true e]
  exact q
theorem law_d {TS : List (Addr × Str)} {f0 : Addr} {A : Around} {outer : List Env} {s0 : Shared} {H0 : Hp} {E0' : XK} (hr : Room 10 (LX P w K mg base f0 (.ref c) A outer s0 H0 E0').A) (TB : TabB base mg c Pt) (hm : (Pt, q_lam) ∈ TS) (hone : ∀ p ∈ TS, p.1 = Pt → p.2 = q_lam)
    (L : LawHas P w K mg base CB CS) :
    ∃ t, PSs (LX P w K mg base f0 (.ref c) A outer s0 H0 E0') ((defBody s_law).drop 19) t ∧ ∀ (D : Ends) (H : Hp) (x0 x2 x3 x4 x5 x6 x7 x8 x9 x10 x11 x12 x13 x14 x15 : Option V) (r sc : Addr) (ns : List Int),
      RowAt K H r sc ns → Tabs TS H → (∀ H', D.rt (.bl true) H') → t D [x0, some (.ref r), x2, x3, x4, x5, x6, x7, x8, x9, x10, x11, x12, x13, x14, x15] H := by
  have hu := hr.units
  have B := L.bi
  have hr2 : Room 2 (LX P w K mg base f0 (.ref c) A outer s0 H0 E0').A := hr.mono (by decide)
  have hr7 : Room 7 (LX P w K mg base f0 (.ref c) A outer s0 H0 E0').A := hr.mono (by decide)
  have hr9 : Room 9 (LX P w K mg base f0 (.ref c) A outer s0 H0 E0').A := hr.mono (by decide)
  refine ⟨_, pss_cons (ps_set (i := 14) sc_law.nd rfl (Or.inr rfl) (pe_tup (pa_cons (pe_tup (pa_cons pe_int (pa_cons pe_int (pa_cons pe_int pa_nil)))) pa_nil)))
    (pss_cons (ps_set (i := 6) sc_law.nd rfl (Or.inl rfl) (pe_cases (cs := rcs1) (by decide) (pe_lst (t := tCases rcs1) (pa_cons (pe_tup (pa_cons pe_str (pa_cons (pe_tup (pa_cons pe_int (pa_cons pe_int pa_nil))) pa_nil))) (pa_cons (pe_tup (pa_cons pe_str (pa_cons (pe_tup (pa_cons pe_int (pa_cons pe_int pa_nil))) pa_nil))) (pa_cons (pe_tup (pa_cons pe_str (pa_cons (pe_tup (pa_cons pe_int (pa_cons pe_int pa_nil))) pa_nil))) (pa_cons (pe_tup (pa_cons pe_str (pa_cons (pe_tup (pa_cons pe_int (pa_cons pe_int pa_nil))) pa_nil))) pa_nil)))))))
    (pss_cons (ps_set (i := 6) sc_law.nd rfl (Or.inl rfl) (pe_op op_cat (pv 6) (pe_cases (cs := rcs2) (by decide) (pe_lst (t := tCases rcs2) (pa_cons (pe_tup (pa_cons pe_str (pa_cons (pe_tup (pa_cons pe_int (pa_cons pe_int pa_nil))) pa_nil))) (pa_cons (pe_tup (pa_cons pe_str (pa_cons (pe_tup (pa_cons pe_int (pa_cons pe_int pa_nil))) pa_nil))) (pa_cons (pe_tup (pa_cons pe_str (pa_cons (pe_tup (pa_cons pe_int (pa_cons pe_int pa_nil))) pa_nil))) pa_nil)))))))
    (pss_cons (ps_set (i := 6) sc_law.nd rfl (Or.inl rfl) (pe_op op_cat (pv 6) (pe_cases (cs := rcs3) (by decide) (pe_lst (t := tCases rcs3) (pa_cons (pe_tup (pa_cons pe_str (pa_cons (pe_tup (pa_cons pe_int (pa_cons pe_int pa_nil))) pa_nil))) (pa_cons (pe_tup (pa_cons pe_str (pa_cons (pe_tup (pa_cons pe_int (pa_cons pe_int pa_nil))) pa_nil))) pa_nil))))))
    (pss_cons (ps_asg (pe_has L.pick hr2 (by rfl) (pa_cons (pv 1) (pa_cons (pv 6) pa_nil))) (pg_tup rfl (pgs_cons (pg_name (i := 11) sc_law.nd rfl (Or.inr rfl)) (pgs_cons (pg_name (i := 7) sc_law.nd rfl (Or.inl rfl)) pgs_nil))))
    (pss_cons (ps_if (PW.pt (pw_or (pt_cmpR (op_neD hu) (pe_said (k := 8) L.said L.eB L.eS L.ne (Rn1 (LX P w K mg base f0 (.ref c) A outer s0 H0 E0').env.cells lm4 ["d", "case", "three"] [11, 14] (tb4 CB CS)) hr9 (by rfl) (pe_lm1 (T := TS) TB rfl hm hone (ndef_free lb4) rfl rfl pe_int)
          (run1 nsc4 lb4 rfl (fun _ _ _ _ _ _ _ _ _ ho hd => .of_defaults rfl ho hd rfl rfl) (hb4 L))) (pv 7) (nomark _))
        (pw_or1 (pt_cmpR (op_neD hu) (pe_hasL L.rr hr7 (by rfl) (pa_cons (pv 14) (pa_cons pe_int (pa_cons pe_str pa_nil)))) (pe_tup pa_nil) (nomark _))))) (pss_one (ps_ret pe_bl)) pss_nil)
    (pss_one (ps_ret (pe_cmpR op_eq (pe_said (k := 8) L.said L.eB L.eS L.ne (Rn1 (LX P w K mg base f0 (.ref c) A outer s0 H0 E0').env.cells lm5 ["g", "three"] [14] (tb5 CB CS)) hr9 (by rfl) (pe_lm1 (T := TS) TB rfl hm hone (ndef_free lb5) rfl rfl pe_int)
          (run1 nsc5 lb5 rfl (fun _ _ _ _ _ _ _ _ _ ho hd => .of_defaults rfl ho hd rfl rfl) (hb5 L))) pe_str (nomark _))))))))), ?_⟩
  intro D H x0 x2 x3 x4 x5 x6 x7 x8 x9 x10 x11 x12 x13 x14 x15 r sc ns ra hT q
  refine ⟨Nat.le_of_ble_eq_true rfl, fun a1 h1 => ⟨Nat.le_of_ble_eq_true rfl, fun a2 h2 => ?_⟩⟩
  have s1 := same_new (o := .tup [V.int 1, V.int 2, V.int 0]) h1
  have s2 := same_new (o := .tup [V.ref a1]) h2
  have k1 := s2 _ _ (show (upd H a1 (.tup [V.int 1, V.int 2, V.int 0])) a1 = some (.tup (nIs [1, 2, 0])) from upd_same)
  have k2 : (upd (upd H a1 (.tup [V.int 1, V.int 2, V.int 0])) a2 (.tup [V.ref a1])) a2 = some (.tup [V.ref a1]) := upd_same
  have s12 := s1.trans s2
  have g2 : Good (upd (upd H a1 (.tup [V.int 1, V.int 2, V.int 0])) a2 (.tup [V.ref a1])) (.ref a2) [[1, 2, 0]] 3 := ⟨⟨a2, _, rfl, k2, .cons ⟨a1, rfl, .inl k1⟩ .nil⟩, g3, (few4 (by decide) (by decide) g3.2.2.2.2).mono (by decide)⟩
  have ra2 := ra.step s12
  have hT2 := hT.ext s12
  generalize upd (upd H a1 (.tup [V.int 1, V.int 2, V.int 0])) a2 (.tup [V.ref a1]) = H2 at *
  have e1 : rcs1.length = 4 := rfl
  have e2 : rcs2.length = 3 := rfl
  have e3 : rcs3.length = 2 := rfl
  refine fun l1 vs1 H3 s3 n1 k3 p3 => ⟨_, rfl, fun l2 vs2 H4 s4 n2 k4 p4 => ?_⟩
  refine ⟨l1, l2, vs1, vs2, rfl, rfl, s4 _ _ k3, k4, by rw [Paired.length p3, Paired.length p4, sizeLine_eq, e1, e2]; omega, fun l3 h3 => ?_⟩
  have s5 := same_new (o := .lst (vs1 ++ vs2)) h3
  have k5 : (upd H4 l3 (.lst (vs1 ++ vs2))) l3 = some (.lst (vs1 ++ vs2)) := upd_same
  have p5 : Paired (CaseAt (upd H4 l3 (.lst (vs1 ++ vs2)))) (vs1 ++ vs2) (rcs1 ++ rcs2) := Paired.app (paired_mono (fun _ _ r => r.tm (.of (s4.trans s5))) p3) (paired_mono (fun _ _ r => r.tm (.of s5)) p4)
  have s25 := s3.trans (s4.trans s5)
  have g5 := g2.same s25
  have ra5 := ra2.step s25
  have hT5 := hT2.ext s25
  generalize upd H4 l3 (.lst (vs1 ++ vs2)) = H5 at *
  refine ⟨_, rfl, fun l4 vs3 H6 s6 n4 k6 p6 => ?_⟩
  refine ⟨l3, l4, _, vs3, rfl, rfl, s6 _ _ k5, k6, by rw [Paired.length p5, Paired.length p6, sizeLine_eq, List.length_append, e1, e2, e3]; omega, fun l5 h5 => ?_⟩
  have s7 := same_new (o := .lst (vs1 ++ vs2 ++ vs3)) h5
  have k7 : (upd H6 l5 (.lst (vs1 ++ vs2 ++ vs3))) l5 = some (.lst (vs1 ++ vs2 ++ vs3)) := upd_same
  have p7 : Paired (CaseAt (upd H6 l5 (.lst (vs1 ++ vs2 ++ vs3)))) (vs1 ++ vs2 ++ vs3) rcs := Paired.app (paired_mono (fun _ _ r => r.tm (.of (s6.trans s7))) p5) (paired_mono (fun _ _ r => r.tm (.of s7)) p6)
  have s57 := s6.trans s7
  have g7 := g5.same s57
  have ra7 := ra5.step s57
  have hT7 := hT5.ext s57
  have n5r : l5 ≠ r := ((ra5.step s6).ne h5).symm
  generalize upd H6 l5 (.lst (vs1 ++ vs2 ++ vs3)) = H7 at *
  have lp : (vs1 ++ vs2 ++ vs3).length = 9 := (Paired.length p7).trans rfl
  refine ⟨_, rfl, _, rfl, r, l5, sc, ns, _, rfl, ra7, k7, n5r, by rw [lp]; omega, by rw [lp]; omega, fun xv H8 hx st8 ra8 => ?_⟩
  obtain ⟨cs, hcs, cp, cq, rfl, hcp, hcq⟩ := Lt.Paired.memL (paired_mono (fun _ _ r => r.tm (st8.tm ra7)) p7) hx
  have g8 := g7.tm (st8.tm ra7)
  have hT8 := Tabs.rowX ra7 st8 hT7
  refine ⟨cp, _, rfl, SqT.of hcp, rfl, _, _, rfl, _, _, rfl, rfl, ?_⟩
  have hle := rcs_len cs hcs
  have her := rowErr_is (rcs_ok cs hcs)
  refine ⟨hT8, fun pe fe ce H9 e9 T9 _ fe9 pe9 ce9 => ⟨fe, rfl, fun E SK => ⟨ce, pe, fe9, pe9, ce9, ?_⟩⟩⟩
  have nt : ∀ {xs : List V} (ps), HO.tup xs ≠ .tbl ps := fun _ z => nomatch z
  have tm9 := extN_tm e9
  have g9 := g8.tm tm9
  have hcq9 := e9 _ _ hcq nt
  refine ⟨_, rfl, _, rfl, .ref a2, .str cs.1, [[1, 2, 0]], 3, 2, rfl, g9, by decide, by decide, .str cs.1, .str _, (fun z => nomatch z), fun x hx => ?_⟩
  injection hx with hx
  subst hx
  refine ⟨rfl, by omega, by omega, fun e he => ?_, fun ss hs => ?_⟩
  · have he2 : (Except.error e : Except (Nat × Nat) (List StepT)) = .error cs.2 := he.symm.trans her
    injection he2 with he2
    subst he2
    refine SK.line cs.2.1 cs.2.2 H9 fun rv H10 s10 tk10 => ⟨_, rfl, said_ne (u := [cs.2.1, cs.2.2]) tk10 ⟨cq, rfl, s10 _ _ hcq9⟩ rfl ?_⟩
    refine ⟨false, rfl, iteF ⟨_, rfl, .ref a2, .str (" \n" : Str), [[1, 2, 0]], 3, 2, rfl, g9.same s10, by decide, by decide, .str (" \n" : Str), .str _, (fun z => nomatch z), fun x hx => ?_⟩⟩
    injection hx with hx
    subst hx
    refine ⟨rfl, by decide +kernel, by decide +kernel, fun e he => ?_, fun ss hs rv2 H11 s11 rw11 => ?_⟩
    · have := he.symm.trans row_void
      cases this
    · have hs2 : (Except.ok ss : Except (Nat × Nat) (List StepT)) = .ok [] := hs.symm.trans row_void
      injection hs2 with hs2
      subst hs2
      obtain ⟨ra0, rx, rfl, hra, prx⟩ := rw11
      cases prx
      refine ⟨Nat.le_of_ble_eq_true rfl, fun ep hep => ?_⟩
      have s12 := same_new (o := .tup []) hep
      refine said_ne (t := []) (u := []) ⟨ra0, rfl, s12 _ _ hra⟩ ⟨ep, rfl, upd_same⟩ rfl ⟨false, rfl, iteF ?_⟩
      have s9 := s10.trans (s11.trans s12)
      have T12 := T9.ext s9
      have g12 := g9.same s9
      refine ⟨T12, fun pe2 fe2 ce2 H13 e13 T13 _ fe13 pe13 ce13 => ⟨fe2, rfl, fun E2 SK2 => ⟨ce2, pe2, fe13, pe13, ce13, ?_⟩⟩⟩
      refine ⟨_, rfl, .ref a2, .non, [[1, 2, 0]], 3, 2, rfl, g12.tm (extN_tm e13), by decide, by decide, .none, .non, (fun _ => SK2.str _ fun H14 s14 => ?_), fun x hx => nomatch hx⟩
      refine ⟨rfl, ?_⟩
      rw [decide_eq_true rfl]
      exact q _
  · have := hs.symm.trans her
    cases this
end
end Lt

set_option Elab.async false
set_option linter.all false
set_option maxRecDepth 100000
set_option maxHeartbeats 4000000
/-! k12: the law's rows -/
namespace Lt
open PySem PySem.Spec PyProof.Rows L2 NdefX LamX LmX MaX
theorem TFnK {H0 G H : Hp} {v : V} {t : List Nat} (h : TFn G H v t) (g : ExtN H0 G) (tb : ∀ b ps, H0 b = some (.tbl ps) → ∃ more, H b = some (.tbl (ps ++ more))) : TK (wkAll H0 H) v t := by
  obtain ⟨⟨a, o, rfl, ho, _⟩, hn⟩ := h
  have h0 : H0 a = none := by
    cases e : H0 a with
    | none => rfl
    | some z =>
      exfalso
      by_cases n : ∃ ps, z = .tbl ps
      · obtain ⟨ps, rfl⟩ := n
        obtain ⟨more, q⟩ := tb a ps e
        rw [ho] at q
        cases q
      · have q := g a z e fun ps y => n ⟨ps, y⟩
        rw [hn a rfl] at q
        cases q
  refine ⟨a, rfl, ?_⟩
  unfold wkAll
  rw [h0, ho]
/-- .. with what is known of the tables -/
def tWkT (H0 : Hp) (t : TS) : TS := fun D σ H => (∀ b ps, H0 b = some (.tbl ps) → ∃ more, H b = some (.tbl (ps ++ more))) → ∃ H', Wk H0 H H' ∧ t D σ H'
theorem pss_wkT {X : Cx} {st : List Stmt} {t : TS} (h : PSs X st t) : PSs X st (tWkT X.H_0 t) := ⟨fun pins s σ H D I q => (pss_wk h).run pins s σ H D I (q I.base.tbls)⟩
theorem extN_step {H0 H H' : Hp} {r : Addr} (e : ExtN H0 H) (hr : H0 r = none) (s : StepR r H H') : ExtN H0 H' := fun b o h n => s b o (ne_of_none h hr) (e b o h n)
theorem extN_mut {H0 G H : Hp} {l : Addr} {o : HO} (g : ExtN H0 G) (hl : G l = none) (e : ExtN H0 H) : ExtN H0 (upd H l o) := fun b o' h n => (upd_ne (ne_of_none (g b o' h n) hl)).trans (e b o' h n)
theorem tabs_lst {T : List (Addr × Str)} {H : Hp} {l : Addr} {xs ys : List V} (h : Tabs T H) (hl : H l = some (.lst xs)) : Tabs T (upd H l (.lst ys)) := fun p hp => by
  obtain ⟨ps, h1, h2, h3⟩ := h p hp
  refine ⟨ps, (upd_ne (ne_of h1 hl (fun z => nomatch z))).trans h1, h2, fun pos cv hc => ?_⟩
  obtain ⟨c, e1, e2⟩ := h3 pos cv hc
  exact ⟨c, e1, (upd_ne (ne_of e2 hl (codeO_is.1 _))).trans e2⟩
theorem wkTN {H0 H H' : Hp} (w : Wk H0 H H') {v : V} {t : List Nat} (h : TN H v t) : TN H' v t := by
  obtain ⟨a, e, h⟩ := h
  refine ⟨a, e, ?_⟩
  rcases h with h | ⟨o, h⟩
  · exact .inl (w.keep h (fun _ _ z => nomatch z))
  · rcases w a with e | ⟨o2, ys, e, _, e2⟩
    · exact .inr ⟨o, e.trans h⟩
    · rw [h] at e
      cases e
      exact .inl e2
theorem wkTT {H0 H H' : Hp} (w : Wk H0 H H') {v : V} {ts : List (List Nat)} (h : TT H v ts) : TT H' v ts := let ⟨a, xs, e, h, p⟩ := h; ⟨a, xs, e, w.keep h (fun _ _ z => nomatch z), paired_mono (fun _ _ r => wkTN w r) p⟩
theorem wkTabs {H0 H H' : Hp} (w : Wk H0 H H') {T : List (Addr × Str)} (h : Tabs T H) : Tabs T H' := fun p hp => by
  obtain ⟨ps, h1, h2, h3⟩ := h p hp
  refine ⟨ps, w.keep h1 (fun _ _ z => nomatch z), h2, fun pos cv hc => ?_⟩
  obtain ⟨c, e1, e2⟩ := h3 pos cv hc
  exact ⟨c, e1, w.keep e2 (fun _ _ z => by unfold CodeO at z; cases z)⟩
theorem wkRow {K : PySem.W.Frag} {H0 H H' : Hp} (w : Wk H0 H H') {r sc : Addr} {ns : List Int} (h : RowAt K H r sc ns) : RowAt K H' r sc ns := by
  obtain ⟨a, b, c, R⟩ := h
  refine ⟨a, b, c, w.keep R.at_ (fun _ _ z => nomatch z), ?_, R.a0, R.b0, R.b1⟩
  rcases R.sc with (z | ⟨ob, z⟩) | z
  · exact .inl (.inl (w.keep z (fun _ _ z => nomatch z)))
  · exact .inl (.inr ⟨ob, w.keep z (fun _ _ z => nomatch z)⟩)
  · exact .inr z
theorem Pl_S {ss : List StepT} (h : ss.length ≤ 1000) (hS : ∀ s ∈ ss, StS s) : Pl 3 (.tuple (ss.map dS)) := by
  refine ⟨by rw [List.length_map]; exact h, fun e he => ?_⟩
  obtain ⟨s, hs, rfl⟩ := List.mem_map.mp he
  obtain ⟨_, ⟨a1, _⟩, a2, _⟩ := hS s hs
  refine ⟨by show 3 ≤ 1000; decide, fun e he => ?_⟩
  simp only [List.mem_cons, List.not_mem_nil, or_false] at he
  rcases he with rfl | rfl | rfl
  · exact trivial
  · refine ⟨by rw [List.length_map]; omega, fun e he => ?_⟩
    obtain ⟨k, _, rfl⟩ := List.mem_map.mp he
    exact trivial
  · refine ⟨by rw [List.length_map]; omega, fun e he => ?_⟩
    obtain ⟨k, _, rfl⟩ := List.mem_map.mp he
    exact trivial
theorem eqv_void (ss : List StepT) : PyData.eqv (.tuple (ss.map dS)) (.tuple []) = decide (ss = []) := by
  cases ss with
  | nil => rfl
  | cons a l => rfl
theorem sh_S (ss : List StepT) : SeqAt.shaped (.tuple (ss.map dS)) = true := by
  have h1 : PyData.canLayAll0 (ss.map dS) = true ∧ PyData.depthAll (ss.map dS) ≤ 2 := by
    induction ss with
    | nil => exact ⟨rfl, Nat.zero_le _⟩
    | cons s ss ih =>
      refine ⟨?_, ?_⟩
      · show ((true && (PyData.canLayAll0 (s.2.1.map dN) && (PyData.canLayAll0 (s.2.2.map dN) && true))) && PyData.canLayAll0 (ss.map dS)) = true
        rw [can_nats, can_nats, ih.1]
        rfl
      · show max (max 0 (max (PyData.depthAll (s.2.1.map dN) + 1) (max (PyData.depthAll (s.2.2.map dN) + 1) 0)) + 1) (PyData.depthAll (ss.map dS)) ≤ 2
        rw [depth_nats, depth_nats]
        have := ih.2
        omega
  show (PyData.canLayAll0 (ss.map dS) && decide (PyData.depthAll (ss.map dS) + 1 ≤ 64)) = true
  rw [h1.1, decide_eq_true (by have := h1.2; omega)]
  rfl
abbrev ws12 : List Str := ["no", "yes", "x0", "x6", "0", "8", "00", "turn"]
theorem ws12_wo : ∀ u ∈ ws12, Wo u := by decide +kernel
theorem ws12_len : ∀ u ∈ ws12, u.length ≤ 100 := by decide +kernel
theorem sum_set (l : List Str) (i : Nat) (a : Str) : ((l.set i a).map (·.length)).sum ≤ (l.map (·.length)).sum + a.length := by
  by_cases h : i < l.length
  · rw [← set_cut _ _ _ h, List.map_append, List.map_append, List.sum_append, List.sum_append]
    have e : ((l.take i).map (·.length)).sum + ((l.drop (i + 1)).map (·.length)).sum ≤ (l.map (·.length)).sum := by
      conv => rhs; rw [← List.take_append_drop i l, List.map_append, List.sum_append]
      refine Nat.add_le_add_left ?_ _
      rw [List.drop_eq_getElem_cons h, List.map_cons, List.sum_cons]
      omega
    have e2 : (([a] : List Str).map (·.length)).sum = a.length := rfl
    rw [e2]
    omega
  · rw [List.set_eq_of_length_le (by omega)]
    omega
theorem bentT_len {x u : Str} {at_ pl : Nat} (hx : x.length ≤ 380) (hu : u.length ≤ 100) : (bentT x at_ pl u).length ≤ 2000 := by
  unfold bentT
  have l1 : sNl.length = 1 := by decide +kernel
  have l2 : sSp.length = 1 := by decide +kernel
  have hl : ((splS x sNl).getD at_ ("" : Str)).length ≤ 380 := by
    by_cases h : at_ < (splS x sNl).length
    · exact Nat.le_trans (splS_mem (List.mem_of_getElem? (getD_of h))) hx
    · rw [List.getD_eq_getElem?_getD, List.getElem?_eq_none (by omega)]
      exact Nat.zero_le _
  generalize (splS x sNl).getD at_ ("" : Str) = line at hl
  have a1 := joinS_len sNl ((splS x sNl).set at_ (Txt.join sSp ((splS line sSp).set pl u)))
  have a2 := sum_set (splS x sNl) at_ (Txt.join sSp ((splS line sSp).set pl u))
  have a3 := joinS_len sSp ((splS line sSp).set pl u)
  have a4 := sum_set (splS line sSp) pl u
  have b1 := splS_sum x sNl
  have b2 := splS_sum line sSp
  have b3 := splS_len x sNl
  have b4 := splS_len line sSp
  rw [l1, List.length_set] at a1
  rw [l2, List.length_set] at a3
  omega
section
variable {P : Program} {w : World} {K : PySem.W.Frag} {mg : Str → Option Value} {base : Heap} {CB CS c Pt : Addr}
theorem law_c {TS : List (Addr × Str)} {f0 : Addr} {A : Around} {outer : List Env} {s0 : Shared} {H0 : Hp} {E0' : XK} (hr : Room 10 (LX P w K mg base f0 (.ref c) A outer s0 H0 E0').A) (TB : TabB base mg c Pt) (hm : (Pt, q_lam) ∈ TS) (hone : ∀ p ∈ TS, p.1 = Pt → p.2 = q_lam)
    (L : LawHas P w K mg base CB CS) :
    ∃ t, PSs (LX P w K mg base f0 (.ref c) A outer s0 H0 E0') ((defBody s_law).drop 14) t ∧ ∀ (D : Ends) (H : Hp) (x0 x2 x3 x4 x5 x6 x7 x8 x9 x10 x11 x12 x14 x15 : Option V) (r sc : Addr) (ns : List Int) (lv : V) (ls : List (List Nat)) (n : Nat),
      RowAt K H r sc ns → Tabs TS H → TT H lv ls → GL ls n → Few ls n 60 → ExtN H0 H → (∀ H', D.rt (.bl true) H') → t D [x0, some (.ref r), x2, x3, x4, x5, x6, x7, x8, x9, x10, x11, x12, some lv, x14, x15] H := by
  have hu := hr.units
  have B := L.bi
  have hr1 : Room 1 (LX P w K mg base f0 (.ref c) A outer s0 H0 E0').A := hr.mono (by decide)
  have hr2 : Room 2 (LX P w K mg base f0 (.ref c) A outer s0 H0 E0').A := hr.mono (by decide)
  have hr3 : Room 3 (LX P w K mg base f0 (.ref c) A outer s0 H0 E0').A := hr.mono (by decide)
  have hr4 : Room 4 (LX P w K mg base f0 (.ref c) A outer s0 H0 E0').A := hr.mono (by decide)
  have hr6 : Room 6 (LX P w K mg base f0 (.ref c) A outer s0 H0 E0').A := hr.mono (by decide)
  have hr7 : Room 7 (LX P w K mg base f0 (.ref c) A outer s0 H0 E0').A := hr.mono (by decide)
  have hr9 : Room 9 (LX P w K mg base f0 (.ref c) A outer s0 H0 E0').A := hr.mono (by decide)
  obtain ⟨td, hd, qd⟩ := law_d (outer := outer) (s0 := s0) (H0 := H0) (E0' := E0') hr TB hm hone L
  refine ⟨_, pss_cons (ps_asg (pe_tup (pa_cons (pe_has L.span hr2 (by rfl) (pa_cons (pe_callB call_len_seq (by rfl) B.len PySem.boot_len (pa_cons (pe_ix ix_tup (pv 13) pe_int (fun _ _ => rfl)) pa_nil)) (pa_cons (pv 13) pa_nil))) (pa_cons (pe_op op_add pe_int (pe_has L.taken hr1 (by rfl) (pa_cons (pv 1) (pa_cons pe_int pa_nil)))) pa_nil))) (pg_tup (by rfl) (pgs_cons (pg_name (i := 8) sc_law.nd rfl (Or.inl rfl)) (pgs_cons (pg_name (i := 12) sc_law.nd rfl (Or.inr rfl)) pgs_nil))))
    (pss_wkT (pss_cons (ps_set (i := 9) sc_law.nd rfl (Or.inl rfl) (pe_has L.drawn hr3 (by rfl) (pa_cons (pv 1) (pa_cons (pv 8) (pa_cons (pv 12) (pa_cons pe_int pa_nil))))))
    (pss_cons (ps_set (i := 2) sc_law.nd rfl (Or.inl rfl) (pe_has L.rtext hr2 (by rfl) (pa_cons (pv 9) pa_nil)))
    (pss_cons (ps_if (PW.pt (pw_or (pt_cmpR op_ne (pe_hasL L.wr hr6 (by rfl) (pa_cons (pv 13) (pa_cons (pv 12) (pa_cons (pv 9) pa_nil)))) (pv 2) (nomark _)) (pw_or1 (pt_not (pt_val (pe_has (L.alike 3) hr4 (by rfl) (pa_cons (pe_hasL L.rr hr7 (by rfl) (pa_cons (pv 13) (pa_cons (pv 12) (pa_cons (pe_has L.loose hr2 (by rfl) (pa_cons (pv 1) (pa_cons (pv 2) pa_nil))) pa_nil)))) (pa_cons (pv 9) pa_nil)))))))) (pss_one (ps_ret pe_bl)) pss_nil)
    (pss_cons (ps_if (pt_cmpR (op_neD hu) (pv 9) (pe_tup pa_nil) (nomark _))
      (pss_cons (ps_asg (pe_has L.bent hr3 (by rfl) (pa_cons (pv 1) (pa_cons (pv 2) (pa_cons (pe_lst (pa_cons pe_str (pa_cons pe_str (pa_cons pe_str (pa_cons pe_str (pa_cons pe_str (pa_cons pe_str (pa_cons pe_str (pa_cons pe_str pa_nil))))))))) pa_nil)))) (pg_tup (by rfl) (pgs_cons (pg_name (i := 10) sc_law.nd rfl (Or.inr rfl)) (pgs_cons (pg_name (i := 3) sc_law.nd rfl (Or.inl rfl)) (pgs_cons (pg_name (i := 4) sc_law.nd rfl (Or.inl rfl)) pgs_nil)))))
      (pss_cons (ps_set (i := 5) sc_law.nd rfl (Or.inl rfl) (pe_said (k := 8) L.said L.eB L.eS L.ne (Rn1 (LX P w K mg base f0 (.ref c) A outer s0 H0 E0').env.cells lm3 ["c", "bent", "inputs", "lock"] [10, 12, 13] (tb3 CB CS)) hr9 (by rfl) (pe_lm1 (T := TS) TB rfl hm hone (ndef_free lb3) rfl rfl pe_int)
          (run1 nsc3 lb3 rfl (fun _ _ _ _ _ _ _ _ _ ho hd => .of_defaults rfl ho hd rfl rfl) (hb3 L))))
      (pss_cons (ps_if (PW.pt (pw_and (pt_cmp (pc_isN (pv 5))) (pw_and1 (pt_cmpR op_ne (pe_hasL L.wr hr6 (by rfl) (pa_cons (pv 13) (pa_cons (pv 12) (pa_cons (pe_hasL L.rr hr7 (by rfl) (pa_cons (pv 13) (pa_cons (pv 12) (pa_cons (pv 10) pa_nil)))) pa_nil)))) (pv 10) (nomark _))))) (pss_one (ps_ret pe_bl)) pss_nil)
      (pss_one (ps_if (PW.pt (pw_and (pt_cmp (pc_notN (pv 5))) (pw_and1 (pt_cmpR op_ne (pe_ix ix_tup (pv 5) pe_int (fun _ _ => rfl)) (pv 3) (nomark _))))) (pss_one (ps_ret pe_bl)) pss_nil))))) pss_nil)
    hd))))), ?_⟩
  intro D H x0 x2 x3 x4 x5 x6 x7 x8 x9 x10 x11 x12 x14 x15 r sc ns lv ls n ra hT tt gl fw n0 q
  obtain ⟨g1, g4, n2, n9, hls⟩ := id gl
  obtain ⟨a0, xs0, b0, rfl, ha0, hp0, h00, t00, hbt0, htl0⟩ := tt.head gl
  have el : V.int ((nIs t00).length : Nat) = nI n := by rw [nIs_len, htl0]; rfl
  refine ⟨_, rfl, a0, xs0, 0, .ref b0, rfl, rfl, SqT.of ha0, h00, b0, _, rfl, .inr hbt0.sq, _, rfl, ?_⟩
  rw [el]
  refine ⟨.ref a0, ls, n, rfl, .inl ⟨a0, xs0, rfl, ha0, hp0⟩, hls, by omega, n9, by omega, fw.mono (by omega), fun wa H4 ts s4 hwa ⟨wx, hwx, pwx⟩ hnd hmem hasc => ?_⟩
  have ra4 := ra.step s4
  have nwr : wa ≠ r := (ra.ne hwa).symm
  have hT4 := hT.ext s4
  have tt4 := tt.tm (.of s4)
  refine ⟨_, rfl, r, sc, ns, 6, rfl, ra4, by decide, by decide, fun g H5 hg st5 ra5 => ⟨1, (g : Int), rfl, rfl, by show 2 ≤ sizeLine; decide, fun tp htp => ?_⟩⟩
  have em : V.int ((1 : Int) + (g : Nat)) = nI (g + 1) := congrArg V.int (by omega)
  obtain ⟨k, hk⟩ : ∃ k, k = g + 1 := ⟨_, rfl⟩
  have k1 : 1 ≤ k := by omega
  have k6 : k ≤ 6 := by omega
  dsimp only at htp ⊢
  rw [em, ← hk]
  have hT5 := Tabs.rowX ra4 st5 hT4
  have tt5 := tt4.tm (st5.tm ra4)
  have hwx5 := st5 _ _ nwr hwx
  have pwx5 := TFns.tm (st5.tm ra4) pwx
  have s6 := same_new (o := .tup [V.ref wa, nI k]) htp
  refine ⟨tp, _, rfl, SqT.of upd_same, rfl, .ref wa, _, rfl, nI k, _, rfl, rfl, ?_⟩
  have ra6 := ra5.step s6
  have hT6 := hT5.ext s6
  have tt6 := tt5.tm (.of s6)
  have hwx6 := s6 _ _ hwx5
  have pwx6 := TFns.tm (.of s6) pwx5
  generalize upd H5 tp (.tup [V.ref wa, nI k]) = H6 at *
  have wk := wk_all H0 H6
  refine fun tb6 => ⟨wkAll H0 H6, wk, ?_⟩
  have ra7 := wkRow wk ra6
  have hT7 := wkTabs wk hT6
  have tt7 := wkTT wk tt6
  have hws7 : (wkAll H0 H6) wa = some (.lst wx) := wk.keep hwx6 (fun _ _ z => nomatch z)
  have pws7 : Paired (TK (wkAll H0 H6)) wx ts := paired_mono (fun _ _ r => TFnK r n0 tb6) pwx6
  have gd7 : Good (wkAll H0 H6) (.ref a0) ls n := ⟨tt7, gl, fw.mono (by omega)⟩
  generalize wkAll H0 H6 = H7 at *
  have ltl : ts.length = (LL ls n).length := by
    have pm : ts.Perm ((LL ls n).map (·.1)) := (List.perm_ext_iff_of_nodup hnd (LL_nd ls n)).mpr fun t => (hmem t).trans (gd7.mem t).symm
    rw [pm.length_eq, List.length_map]
  have l60 : (LL ls n).length ≤ 60 := LL_len fw
  have ts1 : 1 ≤ ts.length := List.length_pos_of_mem ((hmem _).mpr .still)
  refine ⟨_, rfl, _, rfl, _, rfl, r, sc, wa, ns, wx, ts, k, 6, rfl, ra7, hws7, nwr, pws7, ts1, by omega, k1, by omega, by decide, fun sv H8 ss st8 ra8 rw8 hss hs8 => ?_⟩
  have hT8 := Tabs.rowX ra7 st8 hT7
  have gd8 := gd7.tm (st8.tm ra7)
  have ok8 : RowOk ls n k ss := ⟨fun s hs => let ⟨a, b, c⟩ := hss s hs; ⟨a, (hmem _).mp b, (hmem _).mp c⟩, by omega⟩
  have stl : ∀ s ∈ ss, StL ((LL ls n).map (·.1)) n k s := fun s hs => let ⟨a, b, c⟩ := ok8.ok s hs; ⟨a, gd8.isP b, gd8.isP c, (gd8.mem _).mpr b, (gd8.mem _).mpr c⟩
  have sts : ∀ s ∈ ss, StS s := fun s hs => (stl s hs).sts n9 k6
  have hmade : ∀ t ∈ (LL ls n).map (·.1), IsP n t := fun t ht => gd8.isP ((gd8.mem t).mp ht)
  have xl : (rowTx ss).length ≤ 380 := by
    have h1 := joinS_len sNl (ss.map stT)
    have h2 : sNl.length = 1 := by decide +kernel
    have h3 := sum_le (fun z : Str => z.length) 60 (l := ss.map stT) fun z hz => by
      obtain ⟨s, hs, rfl⟩ := List.mem_map.mp hz
      exact stT_len (sts s hs)
    rw [h2] at h1
    rw [List.length_map] at h1 h3
    unfold rowTx
    omega
  refine ⟨_, rfl, sv, ss, rfl, rw8, sts, by omega, fun H9 s9 => ?_⟩
  have ra9 := ra8.step s9
  have hT9 := hT8.ext s9
  have gd9 := gd8.same s9
  have rw9 := rw8.tm (.of s9)
  refine ⟨_, rfl, _, rfl, _, rfl, .ref a0, sv, ls, n, k, ss, rfl, gd9, k1, k6, rw9, ok8, by omega, fun H10 s10 => ⟨_, rfl, rfl, false, by rw [decide_eq_true rfl]; rfl, iteF ?_⟩⟩
  have ra10 := ra9.step s10
  have hT10 := hT9.ext s10
  have gd10 := gd9.same s10
  have rw10 := rw9.tm (.of s10)
  refine ⟨_, rfl, _, rfl, _, rfl, _, rfl, r, sc, ns, rowTx ss, rfl, ra10, xl, fun y H11 st11 ra11 hy hyl => ?_⟩
  have hT11 := Tabs.rowX ra10 st11 hT10
  have gd11 := gd10.tm (st11.tm ra10)
  have rw11 := rw10.tm (st11.tm ra10)
  have eok := row_loose n2 n9 k6 stl hy
  refine ⟨.ref a0, .str y, ls, n, k, rfl, gd11, k1, k6, .str y, .str _, (fun z => nomatch z), fun x hx => ?_⟩
  injection hx with hx
  subst hx
  refine ⟨rfl, by omega, by omega, fun e he => ?_, fun ss2 hs2 rv H12 s12 rw12 => ?_⟩
  · have := he.symm.trans eok
    cases this
  have hs2 : (Except.ok ss2 : Except (Nat × Nat) (List StepT)) = .ok ss := hs2.symm.trans eok
  injection hs2 with hs2
  subst hs2
  refine ⟨_, rfl, rv, sv, .tuple (ss2.map dS), rfl, rw12.rp, (rw11.tm (.of s12)).rp, Pl_S (by omega) sts, fun H13 s13 => ⟨true, rfl, iteF ?_⟩⟩
  have s1113 := s12.trans s13
  have ra13 := ra11.step s1113
  have hT13 := hT11.ext s1113
  have gd13 := gd11.same s1113
  have rw13 := rw11.tm (.of s1113)
  refine ⟨_, rfl, Nat.le_of_ble_eq_true rfl, fun ep hep => ?_⟩
  have s14 := same_new (o := .tup []) hep
  have ra14 := ra13.step s14
  have hT14 := hT13.ext s14
  have gd14 := gd13.same s14
  have rw14 := rw13.tm (.of s14)
  have tk14 : TK (upd H13 ep (.tup [])) (.ref ep) [] := ⟨ep, rfl, upd_same⟩
  generalize upd H13 ep (.tup []) = H14 at *
  refine ⟨.tuple (ss2.map dS), .tuple [], Rp.dp _ _ rw14.rp, tk14.tn.dp, sh_S ss2, sh_T [], ?_⟩
  rw [eqv_void]
  refine ⟨!decide (ss2 = []), rfl, ?_⟩
  by_cases hne : ss2 = []
  · rw [decide_eq_true hne]
    exact iteF (qd D H14 _ _ _ _ _ _ _ _ _ _ _ _ _ _ _ r sc ns ra14 hT14 q)
  rw [decide_eq_false hne]
  refine iteT ⟨_, rfl, _, rfl, Nat.le_of_ble_eq_true rfl, fun wl hwl => ?_⟩
  have s15 := same_new (o := .lst (ws12.map V.str)) hwl
  have ra15 := ra14.step s15
  have hT15 := hT14.ext s15
  have gd15 := gd14.same s15
  have k15 : (upd H14 wl (.lst (ws12.map V.str))) wl = some (.lst (ws12.map V.str)) := upd_same
  have nwl : wl ≠ r := (ra14.ne hwl).symm
  refine ⟨r, sc, wl, ns, rowTx ss2, ws12, rfl, ra15, k15, nwl, by decide, by decide, ws12_len, by omega, fun bp H16 at_ pl u hat hpl hu16 st16 ra16 hbp => ?_⟩
  have hT16 := Tabs.rowX ra15 st16 hT15
  have gd16 := gd15.tm (st16.tm ra15)
  have hb := row_bent n2 n9 k6 hmade stl hne (pl := pl) (ws12_wo u hu16) hat
  have yl := bentT_len (at_ := at_) (pl := pl) xl (ws12_len u hu16)
  generalize bentT (rowTx ss2) at_ pl u = y2 at *
  refine ⟨bp, _, rfl, SqT.of hbp, rfl, _, _, rfl, _, _, rfl, _, _, rfl, rfl, ?_⟩
  refine ⟨hT16, fun pe fe ce H17 e17 T17 _ fe17 pe17 ce17 => ⟨fe, rfl, fun E SK => ⟨ce, pe, fe17, pe17, ce17, ?_⟩⟩⟩
  have ra17 := ra16.extN e17
  have gd17 := gd16.tm (extN_tm e17)
  refine ⟨_, rfl, _, rfl, _, rfl, .ref a0, .str y2, ls, n, k, rfl, gd17, k1, k6, .str y2, .str _, (fun z => nomatch z), fun x hx => ?_⟩
  injection hx with hx
  subst hx
  rcases hb with ⟨e, he⟩ | ⟨ss', hok, htx, hst, hlen⟩
  · refine ⟨rfl, by omega, by omega, fun e' he' => ?_, fun ss3 hs3 => ?_⟩
    · have z : (Except.error e' : Except (Nat × Nat) (List StepT)) = .error (at_ + 1, e) := he'.symm.trans he
      injection z with z
      subst z
      refine SK.line (at_ + 1) e H17 fun rv H18 s18 tk18 => ?_
      obtain ⟨tp, rfl, htp⟩ := tk18
      refine ⟨_, rfl, false, congrArg V.bl (decide_eq_false (fun z => nomatch z)), iteF (iteF ?_)⟩
      refine ⟨_, rfl, true, congrArg V.bl (show (!decide (V.ref tp = V.non)) = true by rw [decide_eq_false (fun z : V.ref tp = V.non => nomatch z)]; rfl), iteT ⟨_, rfl, tp, _, 0, nI (at_ + 1), rfl, rfl, SqT.of htp, rfl, _, rfl, rfl, false, by rw [decide_eq_true rfl]; rfl, iteF ?_⟩⟩
      exact qd D H18 _ _ _ _ _ _ _ _ _ _ _ _ _ _ _ r sc ns (ra17.step s18) (T17.ext s18) q
    · have := hs3.symm.trans he
      cases this
  · refine ⟨rfl, by omega, by omega, fun e' he' => ?_, fun ss3 hs3 rv H18 s18 rw18 => ?_⟩
    · have := he'.symm.trans hok
      cases this
    · have ra18 := ra17.step s18
      have gd18 := gd17.same s18
      refine ⟨_, rfl, true, congrArg V.bl (decide_eq_true rfl), iteT ⟨_, rfl, _, rfl, _, rfl, _, rfl, _, rfl, .ref a0, .str y2, ls, n, k, rfl, gd18, k1, k6, .str y2, .str _, (fun z => nomatch z), fun x hx => ?_⟩⟩
      injection hx with hx
      subst hx
      refine ⟨rfl, by omega, by omega, fun e' he' => ?_, fun ss4 hs4 rv4 H19 s19 rw19 => ?_⟩
      · have := he'.symm.trans hok
        cases this
      have hs4 : (Except.ok ss4 : Except (Nat × Nat) (List StepT)) = .ok ss' := hs4.symm.trans hok
      injection hs4 with hs4
      subst hs4
      have gd19 := gd18.same s19
      refine ⟨.ref a0, rv4, ls, n, k, ss4, rfl, gd19, k1, k6, rw19, ⟨fun s hs => ⟨(hst s hs).own, (gd8.mem _).mp (hst s hs).m1, (gd8.mem _).mp (hst s hs).m2⟩, by omega⟩, by omega, fun H20 s20 => ⟨_, rfl, rfl, false, by rw [htx, decide_eq_true rfl]; rfl, iteF ?_⟩⟩
      refine ⟨_, rfl, false, congrArg V.bl (show (!decide (V.non = V.non)) = false by rw [decide_eq_true rfl]; rfl), iteF (iteF ?_)⟩
      have s1820 := s18.trans (s19.trans s20)
      exact qd D H20 _ _ _ _ _ _ _ _ _ _ _ _ _ _ _ r sc ns (ra17.step s1820) (T17.ext s1820) q
end
end Lt

set_option Elab.async false
set_option linter.all false
set_option maxRecDepth 100000
set_option maxHeartbeats 4000000
/-! k12: the law's locks -/
namespace Lt
open PySem PySem.Spec PyProof.Rows L2 NdefX LamX LmX MaX
theorem PlT {ts : List (List Nat)} (h : ts.length ≤ 1000) (hu : ∀ t ∈ ts, t.length ≤ 1000) : Pl 3 (.tuple (ts.map dT)) := by
  refine ⟨by rw [List.length_map]; exact h, fun e he => ?_⟩
  obtain ⟨t, ht, rfl⟩ := List.mem_map.mp he
  refine ⟨by rw [List.length_map]; exact hu t ht, fun e he => ?_⟩
  obtain ⟨k, _, rfl⟩ := List.mem_map.mp he
  exact trivial
abbrev wsL : List Str := ["turn", "0", "1", "9", "2", "01", "x", "3"]
theorem wsL_wo : ∀ u ∈ wsL, Wo u := by decide +kernel
theorem wsL_len : ∀ u ∈ wsL, u.length ≤ 100 := by decide +kernel
abbrev kinds12 : List Str := ["four", "square", "quaternions", "three", "klein", "ten", "heis"]
section
variable {P : Program} {w : World} {K : PySem.W.Frag} {mg : Str → Option Value} {base : Heap} {CB CS c Pt : Addr}
theorem law_b {TS : List (Addr × Str)} {f0 : Addr} {A : Around} {outer : List Env} {s0 : Shared} {H0 : Hp} {E0' : XK} (hr : Room 10 (LX P w K mg base f0 (.ref c) A outer s0 H0 E0').A) (TB : TabB base mg c Pt) (hm : (Pt, q_lam) ∈ TS) (hone : ∀ p ∈ TS, p.1 = Pt → p.2 = q_lam)
    (L : LawHas P w K mg base CB CS) :
    ∃ t, PSs (LX P w K mg base f0 (.ref c) A outer s0 H0 E0') ((defBody s_law).drop 7) t ∧ ∀ (D : Ends) (H : Hp) (x0 x2 x3 x4 x5 x6 x7 x8 x9 x10 x11 x12 x14 x15 : Option V) (r sc : Addr) (ns : List Int) (lv : V) (ls : List (List Nat)) (n : Nat),
      RowAt K H r sc ns → Tabs TS H → TT H lv ls → GL ls n → Few ls n 60 → ExtN H0 H → H0 r = none → (∀ H', D.rt (.bl true) H') → t D [x0, some (.ref r), x2, x3, x4, x5, x6, x7, x8, x9, x10, x11, x12, some lv, x14, x15] H := by
  have hu := hr.units
  have B := L.bi
  have hr2 : Room 2 (LX P w K mg base f0 (.ref c) A outer s0 H0 E0').A := hr.mono (by decide)
  have hr9 : Room 9 (LX P w K mg base f0 (.ref c) A outer s0 H0 E0').A := hr.mono (by decide)
  obtain ⟨tc, hc, qc⟩ := law_c (outer := outer) (s0 := s0) (H0 := H0) (E0' := E0') hr TB hm hone L
  refine ⟨_, pss_cons (ps_set (i := 6) sc_law.nd rfl (Or.inl rfl) (pe_cases (cs := lcs1) (by decide) (pe_lst (t := tCases lcs1) (pa_cons (pe_tup (pa_cons pe_str (pa_cons (pe_tup (pa_cons pe_int (pa_cons pe_int pa_nil))) pa_nil))) (pa_cons (pe_tup (pa_cons pe_str (pa_cons (pe_tup (pa_cons pe_int (pa_cons pe_int pa_nil))) pa_nil))) (pa_cons (pe_tup (pa_cons pe_str (pa_cons (pe_tup (pa_cons pe_int (pa_cons pe_int pa_nil))) pa_nil))) (pa_cons (pe_tup (pa_cons pe_str (pa_cons (pe_tup (pa_cons pe_int (pa_cons pe_int pa_nil))) pa_nil))) (pa_cons (pe_tup (pa_cons pe_str (pa_cons (pe_tup (pa_cons pe_int (pa_cons pe_int pa_nil))) pa_nil))) pa_nil))))))))
    (pss_cons (ps_set (i := 6) sc_law.nd rfl (Or.inl rfl) (pe_op op_cat (pv 6) (pe_cases (cs := lcs2) (by decide) (pe_lst (t := tCases lcs2) (pa_cons (pe_tup (pa_cons pe_str (pa_cons (pe_tup (pa_cons pe_int (pa_cons pe_int pa_nil))) pa_nil))) (pa_cons (pe_tup (pa_cons pe_str (pa_cons (pe_tup (pa_cons pe_int (pa_cons pe_int pa_nil))) pa_nil))) (pa_cons (pe_tup (pa_cons pe_str (pa_cons (pe_tup (pa_cons pe_int (pa_cons pe_int pa_nil))) pa_nil))) pa_nil)))))))
    (pss_cons (ps_expr (pe_bm PySem.F.plainAttrs_list PySem.F.slot_list_append PySem.F.type_list_append mt_append (pv 6) (pa_cons (pe_tup (pa_cons (pe_join pe_str (pe_op op_rep (pe_lst (pa_cons pe_str pa_nil)) pe_int)) (pa_cons (pe_tup (pa_cons pe_int (pa_cons pe_int pa_nil))) pa_nil))) pa_nil)))
    (pss_cons (ps_set (i := 6) sc_law.nd rfl (Or.inl rfl) (pe_op op_cat (pv 6) (pe_cases (cs := lcs3) (by decide) (pe_lst (t := tCases lcs3) (pa_cons (pe_tup (pa_cons pe_str (pa_cons (pe_tup (pa_cons pe_int (pa_cons pe_int pa_nil))) pa_nil))) (pa_cons (pe_tup (pa_cons pe_str (pa_cons (pe_tup (pa_cons pe_int (pa_cons pe_int pa_nil))) pa_nil))) (pa_cons (pe_tup (pa_cons pe_str (pa_cons (pe_tup (pa_cons pe_int (pa_cons pe_int pa_nil))) pa_nil))) pa_nil)))))))
    (pss_cons (ps_asg (pe_has L.pick hr2 (by rfl) (pa_cons (pv 1) (pa_cons (pv 6) pa_nil))) (pg_tup rfl (pgs_cons (pg_name (i := 11) sc_law.nd rfl (Or.inr rfl)) (pgs_cons (pg_name (i := 7) sc_law.nd rfl (Or.inl rfl)) pgs_nil))))
    (pss_cons (ps_if (pt_cmpR (op_neD hu) (pe_said (k := 8) L.said L.eB L.eS L.ne (Rn1 (LX P w K mg base f0 (.ref c) A outer s0 H0 E0').env.cells lm1 ["a", "case"] [11] (tb1 CB CS)) hr9 (by rfl) (pe_lm1 (T := TS) TB rfl hm hone (ndef_free lb1) rfl rfl pe_int)
          (run1 nsc1 lb1 rfl (fun _ _ _ _ _ _ _ _ _ ho hd => .of_defaults rfl ho hd rfl rfl) (hb1 L))) (pv 7) (nomark _)) (pss_one (ps_ret pe_bl)) pss_nil)
    (pss_cons (ps_if (pt_cmpR op_ne (pe_said (k := 8) L.said L.eB L.eS L.ne (Rn1 (LX P w K mg base f0 (.ref c) A outer s0 H0 E0').env.cells lm2 ["b"] [] (tb2 CB CS)) hr9 (by rfl) (pe_lm1 (T := TS) TB rfl hm hone (ndef_free lb2) rfl rfl pe_int)
          (run1 nsc2 lb2 rfl (fun _ _ _ _ _ _ _ _ _ ho hd => .of_defaults rfl ho hd rfl rfl) (hb2 L))) pe_str (nomark _)) (pss_one (ps_ret pe_bl)) pss_nil)
    hc)))))), ?_⟩
  intro D H x0 x2 x3 x4 x5 x6 x7 x8 x9 x10 x11 x12 x14 x15 r sc ns lv ls n ra hT tt gl fw ex hr0 q
  have e1 : lcs1.length = 5 := rfl
  have e2 : lcs2.length = 3 := rfl
  have e3 : lcs3.length = 3 := rfl
  refine fun l1 vs1 H3 s3 n1 k3 p3 => ⟨_, rfl, fun l2 vs2 H4 s4 n2 k4 p4 => ?_⟩
  refine ⟨l1, l2, vs1, vs2, rfl, rfl, s4 _ _ k3, k4, by rw [Paired.length p3, Paired.length p4, sizeLine_eq, e1, e2]; omega, fun l3 h3 => ?_⟩
  have s5 := same_new (o := .lst (vs1 ++ vs2)) h3
  have k5 : (upd H4 l3 (.lst (vs1 ++ vs2))) l3 = some (.lst (vs1 ++ vs2)) := upd_same
  have p5 : Paired (CaseAt (upd H4 l3 (.lst (vs1 ++ vs2)))) (vs1 ++ vs2) (lcs1 ++ lcs2) := Paired.app (paired_mono (fun _ _ r => r.tm (.of (s4.trans s5))) p3) (paired_mono (fun _ _ r => r.tm (.of s5)) p4)
  have s34 := s3.trans s4
  have ex4 : ExtN H0 H4 := ex.trans (extN_of s34)
  have s25 := s34.trans s5
  have tt5 := tt.tm (.of s25)
  have ra4 := ra.step s34
  have ra5 := ra.step s25
  have hT5 := hT.ext s25
  have ex5 := ex.trans (extN_of s25)
  have n3r : l3 ≠ r := (ra4.ne h3).symm
  have lp5 : (vs1 ++ vs2).length = 8 := (Paired.length p5).trans rfl
  generalize vs1 ++ vs2 = vv at *
  generalize upd H4 l3 (.lst vv) = H5 at *
  -- the fifth line too many
  refine ⟨_, rfl, .inl ⟨rfl, _, SqL.of k5⟩, ⟨_, rfl⟩, by show 1 ≤ sizeLine; decide, fun b1 hb1 => ?_⟩
  have s6 := same_new (o := .lst [V.str ("turn 0 1" : Str)]) hb1
  have k6 : (upd H5 b1 (.lst [V.str ("turn 0 1" : Str)])) b1 = some (.lst [V.str ("turn 0 1" : Str)]) := upd_same
  generalize upd H5 b1 (.lst [V.str ("turn 0 1" : Str)]) = H6 at *
  refine ⟨b1, 5, _, rfl, rfl, k6, by decide, by decide, by rw [sizeLine_eq]; show 1 * 5 ≤ _; omega, fun b2 hb2 => ?_⟩
  have er : (List.replicate (5 : Int).toNat [V.str ("turn 0 1" : Str)]).flatten = (List.replicate 5 ("turn 0 1" : Str)).map V.str := rfl
  rw [er]
  have s7 := same_new (o := .lst ((List.replicate 5 ("turn 0 1" : Str)).map V.str)) hb2
  have k7 : (upd H6 b2 (.lst ((List.replicate 5 ("turn 0 1" : Str)).map V.str))) b2 = some (.lst ((List.replicate 5 ("turn 0 1" : Str)).map V.str)) := upd_same
  have s57 := s6.trans s7
  generalize upd H6 b2 (.lst ((List.replicate 5 ("turn 0 1" : Str)).map V.str)) = H7 at *
  refine ⟨sNl, b2, List.replicate 5 ("turn 0 1" : Str), rfl, rfl, .inl (SqL.of k7), by decide +kernel, Nat.le_of_ble_eq_true rfl, fun b3 hb3 => ⟨Nat.le_of_ble_eq_true rfl, fun b4 hb4 => ?_⟩⟩
  have s8 := same_new (o := .tup [V.int 5, V.int 1]) hb3
  have s9 := same_new (o := .tup [V.str five, V.ref b3]) hb4
  have k8 := s9 _ _ (show (upd H7 b3 (.tup [V.int 5, V.int 1])) b3 = some (.tup [nI 5, nI 1]) from upd_same)
  have k9 : (upd (upd H7 b3 (.tup [V.int 5, V.int 1])) b4 (.tup [V.str five, V.ref b3])) b4 = some (.tup [V.str five, V.ref b3]) := upd_same
  have s59 := s57.trans (s8.trans s9)
  have k59 := s59 _ _ k5
  have ce : CaseAt (upd (upd H7 b3 (.tup [V.int 5, V.int 1])) b4 (.tup [V.str five, V.ref b3])) (.ref b4) (five, 5, 1) := ⟨b4, b3, rfl, k9, k8⟩
  have ra9 := ra5.step s59
  have hT9 := hT5.ext s59
  have tt9 := tt5.tm (.of s59)
  have ex9 := ex5.trans (extN_of s59)
  have p9 := paired_mono (fun _ _ r => CaseAt.tm (.of s59) r) p5
  dsimp only [tNil, List.cons_append, List.nil_append, List.append_nil]
  rw [show Txt.join sNl (List.replicate 5 ("turn 0 1" : Str)) = five from rfl]
  generalize upd (upd H7 b3 (.tup [V.int 5, V.int 1])) b4 (.tup [V.str five, V.ref b3]) = H9 at *
  refine ⟨l3, vv, .ref b4, rfl, rfl, k59, by rw [lp5, sizeLine_eq]; omega, ?_⟩
  have tm10 : Tm H9 (upd H9 l3 (.lst (vv ++ [.ref b4]))) := Tm.lst k59
  have k10 : (upd H9 l3 (.lst (vv ++ [.ref b4]))) l3 = some (.lst (vv ++ [.ref b4])) := upd_same
  have ra10 : RowAt K (upd H9 l3 (.lst (vv ++ [.ref b4]))) r sc ns := ra4.far' h3 ra9 (StepR.put _ _ _)
  have hT10 : Tabs TS (upd H9 l3 (.lst (vv ++ [.ref b4]))) := tabs_lst hT9 k59
  have tt10 := tt9.tm tm10
  have ex10 : ExtN H0 (upd H9 l3 (.lst (vv ++ [.ref b4]))) := extN_mut ex4 h3 ex9
  have p10 : Paired (CaseAt (upd H9 l3 (.lst (vv ++ [.ref b4])))) (vv ++ [.ref b4]) (lcs1 ++ lcs2 ++ [(five, 5, 1)]) := Paired.app (paired_mono (fun _ _ r => CaseAt.tm tm10 r) p9) (Paired.one (ce.tm tm10))
  generalize upd H9 l3 (.lst (vv ++ [.ref b4])) = H10 at *
  have lp10 : (vv ++ [V.ref b4]).length = 9 := (Paired.length p10).trans rfl
  generalize vv ++ [V.ref b4] = v9 at *
  refine ⟨_, rfl, fun l4 vs3 H11 s11 n4 k11 p11 => ?_⟩
  refine ⟨l3, l4, _, vs3, rfl, rfl, s11 _ _ k10, k11, by rw [lp10, Paired.length p11, sizeLine_eq, e3]; omega, fun l5 h5 => ?_⟩
  have s12 := same_new (o := .lst (v9 ++ vs3)) h5
  have k12 : (upd H11 l5 (.lst (v9 ++ vs3))) l5 = some (.lst (v9 ++ vs3)) := upd_same
  have p12 : Paired (CaseAt (upd H11 l5 (.lst (v9 ++ vs3)))) (v9 ++ vs3) lcs := Paired.app (paired_mono (fun _ _ r => r.tm (.of (s11.trans s12))) p10) (paired_mono (fun _ _ r => r.tm (.of s12)) p11)
  have s1012 := s11.trans s12
  have n5r : l5 ≠ r := ((ra10.step s11).ne h5).symm
  have ra12 := ra10.step s1012
  have hT12 := hT10.ext s1012
  have tt12 := tt10.tm (.of s1012)
  have ex12 := ex10.trans (extN_of s1012)
  generalize upd H11 l5 (.lst (v9 ++ vs3)) = H12 at *
  have lp : (v9 ++ vs3).length = 12 := (Paired.length p12).trans rfl
  refine ⟨_, rfl, _, rfl, r, l5, sc, ns, _, rfl, ra12, k12, n5r, by rw [lp]; omega, by rw [lp]; omega, fun xv H13 hx st13 ra13 => ?_⟩
  obtain ⟨cs, hcs, cp, cq, rfl, hcp, hcq⟩ := Lt.Paired.memL (paired_mono (fun _ _ r => r.tm (st13.tm ra12)) p12) hx
  have hT13 := Tabs.rowX ra12 st13 hT12
  have tt13 := tt12.tm (st13.tm ra12)
  have ex13 := extN_step ex12 hr0 st13
  refine ⟨cp, _, rfl, SqT.of hcp, rfl, _, _, rfl, _, _, rfl, rfl, ?_⟩
  have hle := lcs_len cs hcs
  have her := lockErr_is (lcs_ok cs hcs)
  refine ⟨hT13, fun pe fe ce H14 e14 T14 _ fe14 pe14 ce14 => ⟨fe, rfl, fun E SK => ⟨ce, pe, fe14, pe14, ce14, ?_⟩⟩⟩
  have hcq14 := e14 _ _ hcq (fun _ z => nomatch z)
  refine ⟨_, rfl, .str cs.1, rfl, .str cs.1, .str _, (fun z => nomatch z), fun x hx => ?_⟩
  injection hx with hx
  subst hx
  refine ⟨rfl, by omega, fun e he => ?_, fun ss hs => ?_⟩
  · have he2 : (Except.error e : Except (Nat × Nat) (List (List Nat))) = .error cs.2 := he.symm.trans her
    injection he2 with he2
    subst he2
    refine SK.line cs.2.1 cs.2.2 H14 fun rv H15 s15 tk15 => ⟨_, rfl, said_ne (u := [cs.2.1, cs.2.2]) tk15 ⟨cq, rfl, s15 _ _ hcq14⟩ rfl ⟨false, rfl, iteF ?_⟩⟩
    have T15 := T14.ext s15
    refine ⟨T15, fun pe2 fe2 ce2 H16 e16 T16 _ fe16 pe16 ce16 => ⟨fe2, rfl, fun E2 SK2 => ⟨ce2, pe2, fe16, pe16, ce16, ?_⟩⟩⟩
    refine ⟨.int 7, rfl, .int 7, .int _, (fun _ => SK2.str _ fun H17 s17 => ?_), fun x hx => nomatch hx⟩
    refine ⟨rfl, false, by rw [decide_eq_true rfl]; rfl, iteF ?_⟩
    have e1317 : ExtN H13 H17 := e14.trans ((extN_of s15).trans (e16.trans (extN_of s17)))
    exact qc D H17 _ _ _ _ _ _ _ _ _ _ _ _ _ _ r sc ns lv ls n (ra13.extN e1317) (T16.ext s17) (tt13.tm (extN_tm e1317)) gl fw (ex13.trans e1317) q
  · have := hs.symm.trans her
    cases this
end
end Lt

set_option Elab.async false
set_option linter.all false
set_option maxRecDepth 100000
set_option maxHeartbeats 4000000
/-! k12: the law -/
namespace Lt
open PySem PySem.Spec PyProof.Rows L2 NdefX LamX LmX MaX
section
variable {P : Program} {w : World} {K : PySem.W.Frag} {mg : Str → Option Value} {base : Heap} {CB CS c Pt : Addr}
theorem law_all {TS : List (Addr × Str)} {f0 : Addr} {A : Around} {outer : List Env} {s0 : Shared} {H0 : Hp} {E0' : XK} (hr : Room 10 (LX P w K mg base f0 (.ref c) A outer s0 H0 E0').A) (TB : TabB base mg c Pt) (hm : (Pt, q_lam) ∈ TS) (hone : ∀ p ∈ TS, p.1 = Pt → p.2 = q_lam)
    (L : LawHas P w K mg base CB CS) :
    ∃ t, PSs (LX P w K mg base f0 (.ref c) A outer s0 H0 E0') (defBody s_law) t ∧ ∀ (D : Ends) (vs : List V) (Q : VK), D.rt = Q → spLamN K TS vs H0 Q C8.E0 → t D (start lawN vs) H0 := by
  have hu := hr.units
  have B := L.bi
  have hr1 : Room 1 (LX P w K mg base f0 (.ref c) A outer s0 H0 E0').A := hr.mono (by decide)
  have hr2 : Room 2 (LX P w K mg base f0 (.ref c) A outer s0 H0 E0').A := hr.mono (by decide)
  have hr3 : Room 3 (LX P w K mg base f0 (.ref c) A outer s0 H0 E0').A := hr.mono (by decide)
  have hr4 : Room 4 (LX P w K mg base f0 (.ref c) A outer s0 H0 E0').A := hr.mono (by decide)
  have hr5 : Room 5 (LX P w K mg base f0 (.ref c) A outer s0 H0 E0').A := hr.mono (by decide)
  have hr6 : Room 6 (LX P w K mg base f0 (.ref c) A outer s0 H0 E0').A := hr.mono (by decide)
  have hr9 : Room 9 (LX P w K mg base f0 (.ref c) A outer s0 H0 E0').A := hr.mono (by decide)
  obtain ⟨tb, hb, qb⟩ := law_b (outer := outer) (s0 := s0) (H0 := H0) (E0' := E0') hr TB hm hone L
  refine ⟨_, pss_cons (ps_set (i := 1) sc_law.nd rfl (Or.inl rfl) (pe_lst (pa_cons (pv 0) (pa_cons pe_int (pa_cons pe_int (pa_cons pe_int pa_nil))))))
    (pss_cons (ps_set (i := 13) sc_law.nd rfl (Or.inr rfl) (pe_has L.lock hr4 (by rfl) (pa_cons (pv 1) (pa_cons (pe_lst (pa_cons pe_str (pa_cons pe_str (pa_cons pe_str (pa_cons pe_str (pa_cons pe_str (pa_cons pe_str (pa_cons pe_str pa_nil)))))))) pa_nil))))
    (pss_cons (ps_set (i := 2) sc_law.nd rfl (Or.inl rfl) (pe_join pe_str (pe_lc (own := [("turn", 15)]) (g := gName 15) (te := tOp rApp (tC (.str "turn ")) (tCall spSpaced [] E0 (tCons (tVar 15) tNil))) (by rfl) sc_law.nd (pi_tup (pv 13)) (blkOk_by (own := [("turn", 15)]) (N := lawN) (sc := defScope s_law) (by decide +kernel))
      (fun _ _ _ _ _ => pg_name (i := 15) sc_law.nd rfl (Or.inl rfl)) (fun _ _ _ _ _ => pts_nil) (fun _ _ _ _ _ => pe_op op_add_str pe_str (pe_has L.words hr1 (by rfl) (pa_cons (pv 15) pa_nil))))))
    (pss_cons (ps_if (PW.pt (pw_or (pt_cmpR op_ne (pe_hasL L.wl hr6 (by rfl) (pa_cons (pv 13) pa_nil)) (pv 2) (nomark _)) (pw_or1 (pt_not (pt_val (pe_has (L.alike 3) hr4 (by rfl) (pa_cons (pe_hasL L.rl hr5 (by rfl) (pa_cons (pe_has L.loose hr2 (by rfl) (pa_cons (pv 1) (pa_cons (pv 2) pa_nil))) pa_nil)) (pa_cons (pv 13) pa_nil)))))))) (pss_one (ps_ret pe_bl)) pss_nil)
    (pss_cons (ps_asg (pe_has L.bent hr3 (by rfl) (pa_cons (pv 1) (pa_cons (pv 2) (pa_cons (pe_lst (pa_cons pe_str (pa_cons pe_str (pa_cons pe_str (pa_cons pe_str (pa_cons pe_str (pa_cons pe_str (pa_cons pe_str (pa_cons pe_str pa_nil))))))))) pa_nil)))) (pg_tup (by rfl) (pgs_cons (pg_name (i := 10) sc_law.nd rfl (Or.inr rfl)) (pgs_cons (pg_name (i := 3) sc_law.nd rfl (Or.inl rfl)) (pgs_cons (pg_name (i := 4) sc_law.nd rfl (Or.inl rfl)) pgs_nil)))))
    (pss_cons (ps_set (i := 5) sc_law.nd rfl (Or.inl rfl) (pe_said (k := 8) L.said L.eB L.eS L.ne (Rn0 (LX P w K mg base f0 (.ref c) A outer s0 H0 E0').env.cells lm0 ["bent"] [10] (tb0 CB CS)) hr9 (by rfl) (pe_lm0 (T := TS) TB rfl hm hone (ndef_free lb0) rfl)
          (run0 nsc0 lb0 rfl (fun _ _ _ _ _ => .of_eq rfl) (hb0 L))))
    (pss_cons (ps_if (PW.pt (pw_and (pt_cmp (pc_isN (pv 5))) (pw_and1 (pt_cmpR op_ne (pe_hasL L.wl hr6 (by rfl) (pa_cons (pe_hasL L.rl hr5 (by rfl) (pa_cons (pv 10) pa_nil)) pa_nil)) (pv 10) (nomark _))))) (pss_one (ps_ret pe_bl)) pss_nil)
    hb)))))), ?_⟩
  rintro D vs Q rfl ⟨sc, ns, rfl, hsc, hT, q⟩
  refine ⟨_, rfl, Nat.le_of_ble_eq_true rfl, fun r hr0 => ?_⟩
  have s1 := same_new (o := .lst [V.ref sc, V.int 0, V.int 7712, V.int 0]) hr0
  have ra1 : RowAt K (upd H0 r (.lst [V.ref sc, V.int 0, V.int 7712, V.int 0])) r sc ns := ⟨0, 7712, 0, upd_same, Same.seq s1 hsc, by omega, by omega, by omega⟩
  have hT1 := hT.ext s1
  generalize upd H0 r (.lst [V.ref sc, V.int 0, V.int 7712, V.int 0]) = H1 at *
  refine ⟨_, rfl, by show 7 ≤ sizeLine; decide, fun kl hkl => ?_⟩
  have s2 := same_new (o := .lst (kinds12.map V.str)) hkl
  have nkr : kl ≠ r := (ra1.ne hkl).symm
  refine ⟨r, kl, sc, ns, kinds12, rfl, ra1.step s2, upd_same, nkr, by decide, by decide, by decide, fun lv H3 ls n l3 gl fw st3 ra3 tt3 => ?_⟩
  have hT3 := Tabs.rowX (ra1.step s2) st3 (hT1.ext s2)
  have ex3 : ExtN H0 H3 := extN_step (extN_of (s1.trans s2)) hr0 st3
  obtain ⟨g1, g4, n2, n9, hp⟩ := id gl
  have l10 : ∀ t ∈ ls, t.length ≤ 9 ∧ ∀ x ∈ t, x < 10 := fun t ht => ⟨by rw [(hp t ht).len]; exact n9, fun x hx => by have := (hp t ht).lt x hx; omega⟩
  have l4 : ("turn " : Str).length = 5 := by decide +kernel
  have lnl : ∀ t ∈ ls, (lnT t).length ≤ 23 := fun t ht => by
    obtain ⟨t9, t10⟩ := l10 t ht
    have sl := spT_len t10
    show (("turn " : Str) ++ spT t).length ≤ 23
    rw [app_len, l4]
    omega
  have w1 : sNl.length = 1 := by decide +kernel
  have sm := sum_le (fun x : Str => x.length) 23 (l := ls.map lnT) fun z hz => by
    obtain ⟨t, ht, rfl⟩ := List.mem_map.mp hz
    exact lnl t ht
  rw [List.length_map] at sm
  have xl : (lockTx ls).length ≤ 380 := by
    have := joinS_len sNl (ls.map lnT)
    rw [w1, List.length_map] at this
    unfold lockTx
    omega
  obtain ⟨a, xs, rfl, ha, px⟩ := id tt3
  have lx := Paired.length px
  refine ⟨⟨_, rfl⟩, _, rfl, a, rfl, ⟨_, SqT.of ha⟩, fun D1 hD1 => lc_tupM (j := 15) RStr (ls.map lnT) (fun _ _ _ _ _ r => r) (SqT.of ha) (fun H' sm => SqT.of (sm _ _ ha)) (by omega) (by rw [List.length_map, lx]) hD1 (fun x => rfl) (fun i x b hx hb H' sm Q' q' => ?_) (fun H4 zs s4 hz pr => ?_)⟩
  · obtain ⟨t, ht, rx⟩ := Lt.Paired.getL px hx
    rw [List.getElem?_map, ht] at hb
    have eb : lnT t = b := Option.some.inj hb
    obtain ⟨t9, t10⟩ := l10 t (List.mem_of_getElem? ht)
    have sl := spT_len t10
    exact ⟨_, rfl, x, t, rfl, rx.tm (.of sm), by omega, t10, fun H5 s5 => ⟨_, _, rfl, rfl, by rw [sizeLine_eq, l4]; omega, q' _ H5 s5 (congrArg V.str eb)⟩⟩
  rw [RStr.all pr] at hz
  refine ⟨sNl, D1, ls.map lnT, rfl, rfl, .inl (SqL.of hz), by rw [List.length_map, w1]; omega, ?_⟩
  have ra4 := ra3.step s4
  have hT4 := hT3.ext s4
  have tt4 := tt3.tm (.of s4)
  have ex4 := ex3.trans (extN_of s4)
  have gd4 : Good H4 (.ref a) ls n := ⟨tt4, gl, fw.mono (by omega)⟩
  refine ⟨_, rfl, .ref a, ls, n, rfl, gd4, fun H5 s5 => ⟨_, rfl, rfl, false, by rw [show Txt.join sNl (ls.map lnT) = lockTx ls from rfl, decide_eq_true rfl]; rfl, iteF ?_⟩⟩
  have ra5 := ra4.step s5
  have hT5 := hT4.ext s5
  have gd5 := gd4.same s5
  have ex5 := ex4.trans (extN_of s5)
  refine ⟨_, rfl, _, rfl, r, sc, ns, lockTx ls, rfl, ra5, xl, fun y H6 st6 ra6 hy hyl => ?_⟩
  have hT6 := Tabs.rowX ra5 st6 hT5
  have gd6 := gd5.tm (st6.tm ra5)
  have ex6 := extN_step ex5 hr0 st6
  have eok := lock_loose gl hy
  refine ⟨.str y, rfl, .str y, .str _, (fun z => nomatch z), fun x hx => ?_⟩
  injection hx with hx
  subst hx
  refine ⟨rfl, by omega, fun e he => ?_, fun ts hs rv H7 s7 tv => ?_⟩
  · have := he.symm.trans eok
    cases this
  have hs : (Except.ok ts : Except (Nat × Nat) (List (List Nat))) = .ok ls := hs.symm.trans eok
  injection hs with hs
  subst hs
  refine ⟨_, rfl, rv, .ref a, .tuple (ts.map dT), rfl, tv.tt.rp, (gd6.same s7).tt.rp, PlT (by omega) (fun t ht => by have := (l10 t ht).1; omega), fun H8 s8 => ⟨true, rfl, iteF ?_⟩⟩
  have s78 := s7.trans s8
  have ra8 := ra6.step s78
  have hT8 := hT6.ext s78
  have gd8 := gd6.same s78
  have ex8 := ex6.trans (extN_of s78)
  refine ⟨_, rfl, _, rfl, Nat.le_of_ble_eq_true rfl, fun wl hwl => ?_⟩
  have s9 := same_new (o := .lst (wsL.map V.str)) hwl
  have ra9 := ra8.step s9
  have hT9 := hT8.ext s9
  have gd9 := gd8.same s9
  have ex9 := ex8.trans (extN_of s9)
  have k9 : (upd H8 wl (.lst (wsL.map V.str))) wl = some (.lst (wsL.map V.str)) := upd_same
  have nwl : wl ≠ r := (ra8.ne hwl).symm
  refine ⟨r, sc, wl, ns, lockTx ts, wsL, rfl, ra9, k9, nwl, by decide, by decide, wsL_len, by omega, fun bp H10 at_ pl u hat hpl hu10 st10 ra10 hbp => ?_⟩
  have hT10 := Tabs.rowX ra9 st10 hT9
  have gd10 := gd9.tm (st10.tm ra9)
  have ex10 := extN_step ex9 hr0 st10
  have hbn := lock_bent gl (pl := pl) (wsL_wo u hu10) hat
  have yl := bentT_len (at_ := at_) (pl := pl) xl (wsL_len u hu10)
  generalize bentT (lockTx ts) at_ pl u = y2 at *
  refine ⟨bp, _, rfl, SqT.of hbp, rfl, _, _, rfl, _, _, rfl, _, _, rfl, rfl, ?_⟩
  refine ⟨hT10, fun fe ce H11 e11 T11 _ fe11 ce11 => ⟨fe, rfl, fun E SK => ⟨ce, fe11, ce11, ?_⟩⟩⟩
  have ra11 := ra10.extN e11
  have gd11 := gd10.tm (extN_tm e11)
  have ex11 := ex10.trans e11
  refine ⟨_, rfl, .str y2, rfl, .str y2, .str _, (fun z => nomatch z), fun x hx => ?_⟩
  injection hx with hx
  subst hx
  rcases hbn with ⟨e, he⟩ | ⟨hok, htx⟩
  · refine ⟨rfl, by omega, fun e' he' => ?_, fun ss3 hs3 => ?_⟩
    · refine SK.line e'.1 e'.2 H11 fun rv H12 s12 tk12 => ?_
      obtain ⟨tp, rfl, htp⟩ := tk12
      refine ⟨_, rfl, false, congrArg V.bl (decide_eq_false (fun z => nomatch z)), iteF (iteF ?_)⟩
      exact qb D H12 _ _ _ _ _ _ _ _ _ _ _ _ _ _ r sc ns (.ref a) ts n (ra11.step s12) (T11.ext s12) (gd11.same s12).tt gl fw (ex11.trans (extN_of s12)) hr0 fun H' => q H'
    · have := hs3.symm.trans he
      cases this
  · refine ⟨rfl, by omega, fun e' he' => ?_, fun ss3 hs3 rv H12 s12 tv12 => ?_⟩
    · have := he'.symm.trans hok
      cases this
    · refine ⟨_, rfl, true, congrArg V.bl (decide_eq_true rfl), iteT ⟨_, rfl, .str y2, rfl, .str y2, .str _, (fun z => nomatch z), fun x hx => ?_⟩⟩
      injection hx with hx
      subst hx
      refine ⟨rfl, by omega, fun e' he' => ?_, fun ss4 hs4 rv4 H13 s13 tv13 => ?_⟩
      · have := he'.symm.trans hok
        cases this
      have hs4 : (Except.ok ss4 : Except (Nat × Nat) (List (List Nat))) = .ok ts := hs4.symm.trans hok
      injection hs4 with hs4
      subst hs4
      refine ⟨rv4, ss4, n, rfl, ⟨tv13.tt, gl, fw.mono (by omega)⟩, fun H14 s14 => ⟨_, rfl, rfl, false, by rw [htx, decide_eq_true rfl]; rfl, iteF ?_⟩⟩
      have s1214 := s12.trans (s13.trans s14)
      exact qb D H14 _ _ _ _ _ _ _ _ _ _ _ _ _ _ r sc ns (.ref a) ss4 n (ra11.step s1214) (T11.ext s1214) (gd11.same s1214).tt gl fw (ex11.trans (extN_of s1214)) hr0 fun H' => q H'
end
end Lt

set_option Elab.async false
set_option linter.all false
set_option maxRecDepth 100000
set_option maxHeartbeats 2000000
namespace Lt
open PySem PySem.Spec PyProof.Rows L2 NdefX LamX LmX MaX
section
variable {P : Program} {w : World} {K : PySem.W.Frag} {mg : Str → Option Value} {CL CR CB CM CN CS CW c Pt : Addr}
theorem Cn.gl6 {x : Str} {i : Int} (h : Cn mg x i) : ∃ u, mg x = some u ∧ RelV (.int i) u := let ⟨t, h⟩ := h; ⟨_, h, ⟨t, rfl⟩⟩
theorem TopFs.has (T : TopFs K mg CL CR CB CM CN CS CW) (base : Heap) : LawHas P w K mg base CB CS := by
  have B := T.bi
  have eL : ErrI P w K mg base "BadLock" "place" CL := T.e_BadLock.errI init_BadLock
  have eR : ErrI P w K mg base "BadRow" "place" CR := T.e_BadRow.errI init_BadRow
  have eM : ErrI P w K mg base "TooMany" "most" CM := T.e_TooMany.errI init_TooMany
  have eB : ErrI2 P w K mg base "BadLine" "line" "place" CB := T.e_BadLine.errI2 init_BadLine
  have i1 : Has P w K mg base CX0 1 "is_number" _ _ := has_is_number T.f_is_number B
  have i2 := has_are_numbers T.f_are_numbers B i1
  have i3 := has_is_permutation T.f_is_permutation B i2
  have i4 : Has P w K mg base CX0 1 "still_of" _ _ := has_still_of T.f_still_of B
  have i5 : Has P w K mg base CX0 1 "product_of" _ _ := has_product_of T.f_product_of B
  have i8 := has_words_of T.f_words_of B T.c_MOST_TURNS i4 i5
  have i16 := has_check_lock T.f_check_lock B eL T.c_MOST_GIVEN T.c_FEWEST_PLACES T.c_MOST_PLACES i3
  have i17 := has_made_words T.f_made_words B eM T.c_MOST_TURNS i16 i8
  have i19 := has_is_turn T.f_is_turn i2
  have i21 := has_is_step T.f_is_step B i1 i19
  have i22 := has_check_row T.f_check_row B T.c_MOST_STEPS.gl6 eR i21
  have i25 := has_check_inputs2 T.f_check_inputs T.c_MOST_INPUTS.gl6 T.e_BadNumber i1
  have TW : WlT K mg CW := ⟨T.k_WordLine.cl, T.a_WordLine_number, T.a_WordLine_words, T.a_WordLine_at, T.i_WordLine, T.m_WordLine_take, T.m_WordLine_take_places, T.m_WordLine_take_turn, T.m_WordLine_end⟩
  have v0 : HasI P w K mg base (L2.CX P w) 1 CW "WordLine" _ _ := has_WInit TW
  have v1 := has_WTake TW B eB
  have v2 := has_WPlaces TW B eB v1
  have v3 := has_WTurn TW eB v2
  have v4 := has_WEnd TW B eB
  have u1 : Has P w K mg base (L2.CX P w) 1 "check_text" _ _ := has_check_text T.f_check_text B T.e_BadString
  have u2 : Has P w K mg base CX0 1 "spaced" _ _ := has_spaced T.f_spaced B
  have u3 : Has P w K mg base CX0 1 "words_in" _ _ := has_words_in T.f_words_in
  have u4 := has_worded_lines T.f_worded_lines B u1 u3 v0
  have u5 := has_told_step T.f_told_step TW v1 v3 v4
  have j1 : Has P w K mg base CX0 1 "_law_taken" _ _ := has_law_taken T.f_law_taken B
  have j2 := has_law_pick T.f_law_pick B j1
  have j5 := has_law_permutation T.f_law_permutation B j1
  have j10 := has_law_known T.f_law_known B j2 j5
  have j11 : Has P w K mg base CX0 1 "_law_words" _ _ := has_law_wordsT T.f_law_words B
  exact { bi := B, wl := has_write_lock T.f_write_lock B i17 u2, rl := has_read_lock T.f_read_lock B T.b_max T.b_min TW eB T.c_MOST_GIVEN.gl6 T.c_FEWEST_PLACES.gl6 T.c_MOST_PLACES.gl6 u4 v1 v2 v4,
          wr := has_write_row T.f_write_row B i17 i25 i22 u2, rr := has_read_row T.f_read_row B TW eB T.c_MOST_STEPS.gl6 i17 i25 u4 u5,
          eB := eB, eS := T.e_BadString, ne := T.n_BadString_BadLine, said := T.f_law_said_session, alike := fun k => has_law_alike T.f_law_alike B k, taken := j1, pick := j2,
          lock := has_law_lock T.f_law_lock B j1 j10 j5, span := has_law_spanN T.f_law_span B (has_law_behindFn T.f_law_behind B), drawn := has_law_drawn_row T.f_law_drawn_row B j1 j2,
          loose := has_law_loose T.f_law_loose j1, bent := has_law_bent T.f_law_bent B j1 j2, words := j11, rtext := has_law_row_text T.f_law_row_text B j11 }
theorem law_top (T : TopFs K mg CL CR CB CM CN CS CW) {f0 : Addr} (base : Heap) (TB : TabB base mg c Pt) (A : Around) (outer : List Env) (s0 : Shared) (H0 : Hp) (E0' : XK) (hr : Room 10 (LX P w K mg base f0 (.ref c) A outer s0 H0 E0').A) :
    ∃ t, PSs (LX P w K mg base f0 (.ref c) A outer s0 H0 E0') (defBody s_law) t ∧ ∀ (D : Ends) (vs : List V) (Q : VK), D.rt = Q → spLamN K [(Pt, q_lam)] vs H0 Q C8.E0 → t D (start lawN vs) H0 :=
  law_all hr TB (List.mem_cons_self ..) (fun p hp _ => by rw [List.mem_singleton.mp hp]) (T.has base)
end
end Lt

open PySem PySem.W PyProof.Rows
set_option Elab.async false
set_option maxRecDepth 100000 in
set_option maxHeartbeats 0 in
theorem PySem.Challenge.cw_lockturns_k12_whole_texts_holds : PySem.Challenge.rw_lockturns_k12_whole_texts.Holds := by
  w_on; o_law; k_head; (case hw => w_witness2)
  k_fill
  refine LamX.walk_ofOwn (l := PySem.Challenge.rw_lockturns_k12_whole_texts) (n := 63) (k := 11) (x := "script") (CX := fun _ => L2.CX0) rfl (by decide) rfl ⟨rfl, by decide, by decide⟩ (by decide +kernel) (fun w h Y => PySem.W.km_in_of Y) ?F (fun _ _ _ _ _ z => z)
  case F =>
    intro w mg fa h Y KX G hmg own
    have bi : Lt.Bi mg := by
      refine' { tuple := mg_none_of KX G ?z0, list := mg_none_of KX G ?z1, range := mg_none_of KX G ?z2, len := mg_none_of KX G ?z3, sorted := mg_none_of KX G ?z4, enumerate := mg_none_of KX G ?z5, isinstance := mg_none_of KX G ?z6, all := mg_none_of KX G ?z7, set := mg_none_of KX G ?z8, int := mg_none_of KX G ?z9, bool := mg_none_of KX G ?z10, str := mg_none_of KX G ?z11 }
      all_goals k_is
    have b_min : mg "min" = none := by
      refine' mg_none_of KX G ?z
      (case z => k_is)
    have b_max : mg "max" = none := by
      refine' mg_none_of KX G ?z
      (case z => k_is)
    have c_MOST_TURNS : Lt.Cn mg "MOST_TURNS" 240 := by
      refine' Lt.cn_mk KX G ?a ?b
      (case a => k_is); (case b => exact ⟨_, rfl⟩)
    have c_MOST_GIVEN : Lt.Cn mg "MOST_GIVEN" 4 := by
      refine' Lt.cn_mk KX G ?a ?b
      (case a => k_is); (case b => exact ⟨_, rfl⟩)
    have c_FEWEST_PLACES : Lt.Cn mg "FEWEST_PLACES" 2 := by
      refine' Lt.cn_mk KX G ?a ?b
      (case a => k_is); (case b => exact ⟨_, rfl⟩)
    have c_MOST_PLACES : Lt.Cn mg "MOST_PLACES" 9 := by
      refine' Lt.cn_mk KX G ?a ?b
      (case a => k_is); (case b => exact ⟨_, rfl⟩)
    have c_MOST_INPUTS : Lt.Cn mg "MOST_INPUTS" 6 := by
      refine' Lt.cn_mk KX G ?a ?b
      (case a => k_is); (case b => exact ⟨_, rfl⟩)
    have c_MOST_STEPS : Lt.Cn mg "MOST_STEPS" 6000 := by
      refine' Lt.cn_mk KX G ?a ?b
      (case a => k_is); (case b => exact ⟨_, rfl⟩)
    have f_is_number : Lt.TopX KX mg "is_number" Lt.s_is_number ["value"] := by
      refine' Lt.top_mk KX G ?a ?l ?c ?k (fun _ _ _ _ _ _ us hl => match us, hl with | [_], _ => rfl)
      (case a => k_is); (case l => k_is); (case c => k_is); (case k => k_is)
    have f_are_numbers : Lt.TopX KX mg "are_numbers" Lt.s_are_numbers ["value"] := by
      refine' Lt.top_mk KX G ?a ?l ?c ?k (fun _ _ _ _ _ _ us hl => match us, hl with | [_], _ => rfl)
      (case a => k_is); (case l => k_is); (case c => k_is); (case k => k_is)
    have f_is_permutation : Lt.TopX KX mg "is_permutation" Lt.s_is_permutation ["value", "size"] := by
      refine' Lt.top_mk KX G ?a ?l ?c ?k (fun _ _ _ _ _ _ us hl => match us, hl with | [_, _], _ => rfl)
      (case a => k_is); (case l => k_is); (case c => k_is); (case k => k_is)
    have f_still_of : Lt.TopX KX mg "still_of" Lt.s_still_of ["size"] := by
      refine' Lt.top_mk KX G ?a ?l ?c ?k (fun _ _ _ _ _ _ us hl => match us, hl with | [_], _ => rfl)
      (case a => k_is); (case l => k_is); (case c => k_is); (case k => k_is)
    have f_product_of : Lt.TopX KX mg "product_of" Lt.s_product_of ["one", "other"] := by
      refine' Lt.top_mk KX G ?a ?l ?c ?k (fun _ _ _ _ _ _ us hl => match us, hl with | [_, _], _ => rfl)
      (case a => k_is); (case l => k_is); (case c => k_is); (case k => k_is)
    have f_words_of : Lt.TopX KX mg "words_of" Lt.s_words_of ["makers", "size"] := by
      refine' Lt.top_mk KX G ?a ?l ?c ?k (fun _ _ _ _ _ _ us hl => match us, hl with | [_, _], _ => rfl)
      (case a => k_is); (case l => k_is); (case c => k_is); (case k => k_is)
    have f_check_lock : Lt.TopX KX mg "check_lock" Lt.s_check_lock ["lock"] := by
      refine' Lt.top_mk KX G ?a ?l ?c ?k (fun _ _ _ _ _ _ us hl => match us, hl with | [_], _ => rfl)
      (case a => k_is); (case l => k_is); (case c => k_is); (case k => k_is)
    have f_made_words : Lt.TopX KX mg "made_words" Lt.s_made_words ["lock"] := by
      refine' Lt.top_mk KX G ?a ?l ?c ?k (fun _ _ _ _ _ _ us hl => match us, hl with | [_], _ => rfl)
      (case a => k_is); (case l => k_is); (case c => k_is); (case k => k_is)
    have f_is_turn : Lt.TopX KX mg "is_turn" Lt.s_is_turn ["made", "value"] := by
      refine' Lt.top_mk KX G ?a ?l ?c ?k (fun _ _ _ _ _ _ us hl => match us, hl with | [_, _], _ => rfl)
      (case a => k_is); (case l => k_is); (case c => k_is); (case k => k_is)
    have f_check_inputs : Lt.TopX KX mg "check_inputs" Lt.s_check_inputs ["inputs"] := by
      refine' Lt.top_mk KX G ?a ?l ?c ?k (fun _ _ _ _ _ _ us hl => match us, hl with | [_], _ => rfl)
      (case a => k_is); (case l => k_is); (case c => k_is); (case k => k_is)
    have f_check_row : Lt.TopX KX mg "check_row" Lt.s_check_row ["made", "inputs", "row"] := by
      refine' Lt.top_mk KX G ?a ?l ?c ?k (fun _ _ _ _ _ _ us hl => match us, hl with | [_, _, _], _ => rfl)
      (case a => k_is); (case l => k_is); (case c => k_is); (case k => k_is)
    have f_is_step : Lt.TopX KX mg "is_step" Lt.s_is_step ["made", "inputs", "value"] := by
      refine' Lt.top_mk KX G ?a ?l ?c ?k (fun _ _ _ _ _ _ us hl => match us, hl with | [_, _, _], _ => rfl)
      (case a => k_is); (case l => k_is); (case c => k_is); (case k => k_is)
    have f_write_lock : Lt.TopX KX mg "write_lock" Lt.s_write_lock ["lock"] := by
      refine' Lt.top_mk KX G ?a ?l ?c ?k (fun _ _ _ _ _ _ us hl => match us, hl with | [_], _ => rfl)
      (case a => k_is); (case l => k_is); (case c => k_is); (case k => k_is)
    have f_read_lock : Lt.TopX KX mg "read_lock" Lt.s_read_lock ["text"] := by
      refine' Lt.top_mk KX G ?a ?l ?c ?k (fun _ _ _ _ _ _ us hl => match us, hl with | [_], _ => rfl)
      (case a => k_is); (case l => k_is); (case c => k_is); (case k => k_is)
    have f_write_row : Lt.TopX KX mg "write_row" Lt.s_write_row ["lock", "inputs", "row"] := by
      refine' Lt.top_mk KX G ?a ?l ?c ?k (fun _ _ _ _ _ _ us hl => match us, hl with | [_, _, _], _ => rfl)
      (case a => k_is); (case l => k_is); (case c => k_is); (case k => k_is)
    have f_read_row : Lt.TopX KX mg "read_row" Lt.s_read_row ["lock", "inputs", "text"] := by
      refine' Lt.top_mk KX G ?a ?l ?c ?k (fun _ _ _ _ _ _ us hl => match us, hl with | [_, _, _], _ => rfl)
      (case a => k_is); (case l => k_is); (case c => k_is); (case k => k_is)
    have f_told_step : Lt.TopX KX mg "told_step" Lt.s_told_step ["made", "size", "names", "line"] := by
      refine' Lt.top_mk KX G ?a ?l ?c ?k (fun _ _ _ _ _ _ us hl => match us, hl with | [_, _, _, _], _ => rfl)
      (case a => k_is); (case l => k_is); (case c => k_is); (case k => k_is)
    have f_check_text : Lt.TopX KX mg "check_text" Lt.s_check_text ["text"] := by
      refine' Lt.top_mk KX G ?a ?l ?c ?k (fun _ _ _ _ _ _ us hl => match us, hl with | [_], _ => rfl)
      (case a => k_is); (case l => k_is); (case c => k_is); (case k => k_is)
    have f_spaced : Lt.TopX KX mg "spaced" Lt.s_spaced ["parts"] := by
      refine' Lt.top_mk KX G ?a ?l ?c ?k (fun _ _ _ _ _ _ us hl => match us, hl with | [_], _ => rfl)
      (case a => k_is); (case l => k_is); (case c => k_is); (case k => k_is)
    have f_words_in : Lt.TopX KX mg "words_in" Lt.s_words_in ["line"] := by
      refine' Lt.top_mk KX G ?a ?l ?c ?k (fun _ _ _ _ _ _ us hl => match us, hl with | [_], _ => rfl)
      (case a => k_is); (case l => k_is); (case c => k_is); (case k => k_is)
    have f_worded_lines : Lt.TopX KX mg "worded_lines" Lt.s_worded_lines ["text"] := by
      refine' Lt.top_mk KX G ?a ?l ?c ?k (fun _ _ _ _ _ _ us hl => match us, hl with | [_], _ => rfl)
      (case a => k_is); (case l => k_is); (case c => k_is); (case k => k_is)
    have f_law_taken : Lt.TopX KX mg "_law_taken" Lt.s_law_taken ["row", "many"] := by
      refine' Lt.top_mk KX G ?a ?l ?c ?k (fun _ _ _ _ _ _ us hl => match us, hl with | [_, _], _ => rfl)
      (case a => k_is); (case l => k_is); (case c => k_is); (case k => k_is)
    have f_law_pick : Lt.TopX KX mg "_law_pick" Lt.s_law_pick ["row", "things"] := by
      refine' Lt.top_mk KX G ?a ?l ?c ?k (fun _ _ _ _ _ _ us hl => match us, hl with | [_, _], _ => rfl)
      (case a => k_is); (case l => k_is); (case c => k_is); (case k => k_is)
    have f_law_alike : Lt.TopX KX mg "_law_alike" Lt.s_law_alike ["found", "due"] := by
      refine' Lt.top_mk KX G ?a ?l ?c ?k (fun _ _ _ _ _ _ us hl => match us, hl with | [_, _], _ => rfl)
      (case a => k_is); (case l => k_is); (case c => k_is); (case k => k_is)
    have f_law_permutation : Lt.TopX KX mg "_law_permutation" Lt.s_law_permutation ["row", "places"] := by
      refine' Lt.top_mk KX G ?a ?l ?c ?k (fun _ _ _ _ _ _ us hl => match us, hl with | [_, _], _ => rfl)
      (case a => k_is); (case l => k_is); (case c => k_is); (case k => k_is)
    have f_law_behind : Lt.TopX KX mg "_law_behind" Lt.s_law_behind ["one", "other"] := by
      refine' Lt.top_mk KX G ?a ?l ?c ?k (fun _ _ _ _ _ _ us hl => match us, hl with | [_, _], _ => rfl)
      (case a => k_is); (case l => k_is); (case c => k_is); (case k => k_is)
    have f_law_span : Lt.TopX KX mg "_law_span" Lt.s_law_span ["places", "given"] := by
      refine' Lt.top_mk KX G ?a ?l ?c ?k (fun _ _ _ _ _ _ us hl => match us, hl with | [_, _], _ => rfl)
      (case a => k_is); (case l => k_is); (case c => k_is); (case k => k_is)
    have f_law_known : Lt.TopX KX mg "_law_known" Lt.s_law_known ["row", "kinds"] := by
      refine' Lt.top_mk KX G ?a ?l ?c ?k (fun _ _ _ _ _ _ us hl => match us, hl with | [_, _], _ => rfl)
      (case a => k_is); (case l => k_is); (case c => k_is); (case k => k_is)
    have f_law_lock : Lt.TopX KX mg "_law_lock" Lt.s_law_lock ["row", "kinds"] := by
      refine' Lt.top_mk KX G ?a ?l ?c ?k (fun _ _ _ _ _ _ us hl => match us, hl with | [_, _], _ => rfl)
      (case a => k_is); (case l => k_is); (case c => k_is); (case k => k_is)
    have f_law_drawn_row : Lt.TopX KX mg "_law_drawn_row" Lt.s_law_drawn_row ["row", "whole", "inputs", "most"] := by
      refine' Lt.top_mk KX G ?a ?l ?c ?k (fun _ _ _ _ _ _ us hl => match us, hl with | [_, _, _, _], _ => rfl)
      (case a => k_is); (case l => k_is); (case c => k_is); (case k => k_is)
    have f_law_said_session : Lt.TopX KX mg "_law_said_session" Lt.s_law_said_session ["work"] := by
      refine' Lt.top_mk KX G ?a ?l ?c ?k (fun _ _ _ _ _ _ us hl => match us, hl with | [_], _ => rfl)
      (case a => k_is); (case l => k_is); (case c => k_is); (case k => k_is)
    have f_law_loose : Lt.TopX KX mg "_law_loose" Lt.s_law_loose ["row", "text"] := by
      refine' Lt.top_mk KX G ?a ?l ?c ?k (fun _ _ _ _ _ _ us hl => match us, hl with | [_, _], _ => rfl)
      (case a => k_is); (case l => k_is); (case c => k_is); (case k => k_is)
    have f_law_bent : Lt.TopX KX mg "_law_bent" Lt.s_law_bent ["row", "text", "words"] := by
      refine' Lt.top_mk KX G ?a ?l ?c ?k (fun _ _ _ _ _ _ us hl => match us, hl with | [_, _, _], _ => rfl)
      (case a => k_is); (case l => k_is); (case c => k_is); (case k => k_is)
    have f_law_words : Lt.TopX KX mg "_law_words" Lt.s_law_words ["turn"] := by
      refine' Lt.top_mk KX G ?a ?l ?c ?k (fun _ _ _ _ _ _ us hl => match us, hl with | [_], _ => rfl)
      (case a => k_is); (case l => k_is); (case c => k_is); (case k => k_is)
    have f_law_row_text : Lt.TopX KX mg "_law_row_text" Lt.s_law_row_text ["steps"] := by
      refine' Lt.top_mk KX G ?a ?l ?c ?k (fun _ _ _ _ _ _ us hl => match us, hl with | [_], _ => rfl)
      (case a => k_is); (case l => k_is); (case c => k_is); (case k => k_is)
    have ee_BadLock : Lt.ErrE KX mg "BadLock" "place" Lt.s_BadLock := by
      refine' Lt.err_mk KX G ?aC ?xL ?rv ?sa ?ga ?gg ?no ?kC ?eC ?tC ?hC ?iC ?sC ?i1 ?i2 ?i3 ?i4 ?i5 (fun _ _ _ _ _ _ us hl => match us, hl with | [_, _], _ => rfl)
      (case aC => k_is); (case xL => k_is); (case rv => decide +kernel); (case sa => k_is); (case ga => k_is); (case gg => k_is); (case no => k_is); (case kC => k_is); (case eC => k_is); (case tC => k_is); (case hC => k_is); (case iC => k_is); (case sC => first | rfl | k_is)
      (case i1 => k_is); (case i2 => k_is); (case i3 => k_is); (case i4 => k_is); (case i5 => k_is)
    obtain ⟨C_BadLock, e_BadLock⟩ := ee_BadLock
    have ee_BadRow : Lt.ErrE KX mg "BadRow" "place" Lt.s_BadRow := by
      refine' Lt.err_mk KX G ?aC ?xL ?rv ?sa ?ga ?gg ?no ?kC ?eC ?tC ?hC ?iC ?sC ?i1 ?i2 ?i3 ?i4 ?i5 (fun _ _ _ _ _ _ us hl => match us, hl with | [_, _], _ => rfl)
      (case aC => k_is); (case xL => k_is); (case rv => decide +kernel); (case sa => k_is); (case ga => k_is); (case gg => k_is); (case no => k_is); (case kC => k_is); (case eC => k_is); (case tC => k_is); (case hC => k_is); (case iC => k_is); (case sC => first | rfl | k_is)
      (case i1 => k_is); (case i2 => k_is); (case i3 => k_is); (case i4 => k_is); (case i5 => k_is)
    obtain ⟨C_BadRow, e_BadRow⟩ := ee_BadRow
    have ee_BadLine : Lt.ErrE2 KX mg "BadLine" "line" "place" Lt.s_BadLine := by
      refine' Lt.err2_mk KX G ?aC ?xL ?rv ?sa ?ga ?gg ?no ?no2 ?kC ?eC ?tC ?hC ?iC ?sC ?i1 ?i2 ?i3 ?i4 ?i5 (fun _ _ _ _ _ _ us hl => match us, hl with | [_, _, _], _ => rfl)
      (case aC => k_is); (case xL => k_is); (case rv => decide +kernel); (case sa => k_is); (case ga => k_is); (case gg => k_is); (case no => k_is); (case no2 => k_is); (case kC => k_is); (case eC => k_is); (case tC => k_is); (case hC => k_is); (case iC => k_is); (case sC => first | rfl | k_is)
      (case i1 => k_is); (case i2 => k_is); (case i3 => k_is); (case i4 => k_is); (case i5 => k_is)
    obtain ⟨C_BadLine, e_BadLine⟩ := ee_BadLine
    have ee_TooMany : Lt.ErrE KX mg "TooMany" "most" Lt.s_TooMany := by
      refine' Lt.err_mk KX G ?aC ?xL ?rv ?sa ?ga ?gg ?no ?kC ?eC ?tC ?hC ?iC ?sC ?i1 ?i2 ?i3 ?i4 ?i5 (fun _ _ _ _ _ _ us hl => match us, hl with | [_, _], _ => rfl)
      (case aC => k_is); (case xL => k_is); (case rv => decide +kernel); (case sa => k_is); (case ga => k_is); (case gg => k_is); (case no => k_is); (case kC => k_is); (case eC => k_is); (case tC => k_is); (case hC => k_is); (case iC => k_is); (case sC => first | rfl | k_is)
      (case i1 => k_is); (case i2 => k_is); (case i3 => k_is); (case i4 => k_is); (case i5 => k_is)
    obtain ⟨C_TooMany, e_TooMany⟩ := ee_TooMany
    have ee_BadNumber : Lt.NoE KX mg "BadNumber" := by
      refine' Lt.no_mk KX G ?aC ?qx ?kC ?eC ?tC ?iC ?sC
      (case aC => k_is); (case qx => first | rfl | kernel_rfl); (case kC => k_is); (case eC => k_is); (case tC => k_is); (case iC => k_is); (case sC => first | rfl | k_is)
    obtain ⟨C_BadNumber, e_BadNumber⟩ := ee_BadNumber
    have ee_BadString : Lt.NoE KX mg "BadString" := by
      refine' Lt.no_mk KX G ?aC ?qx ?kC ?eC ?tC ?iC ?sC
      (case aC => k_is); (case qx => first | rfl | kernel_rfl); (case kC => k_is); (case eC => k_is); (case tC => k_is); (case iC => k_is); (case sC => first | rfl | k_is)
    obtain ⟨C_BadString, e_BadString⟩ := ee_BadString
    have n_BadString_BadLine : Lt.ExmNoX KX C_BadString C_BadLine := by
      refine' Lt.exm_no KX G e_BadString.g e_BadLine.g ?a1 ?a2 ?h1 ?h2 ?h3 ?h4
      (case a1 => k_is); (case a2 => k_is); (case h1 => k_is); (case h2 => k_is); (case h3 => k_is); (case h4 => first | rfl | k_is)
    have kk_WordLine : Lt.ClsE KX mg "WordLine" := by
      refine' Lt.cls_mk KX G ?a ?pg ?hd ?po ?sa ?mk ?kc
      (case a => k_is); (case pg => k_is); (case hd => k_is); (case po => k_is); (case sa => k_is); (case mk => k_is); (case kc => k_is)
    obtain ⟨C_WordLine, k_WordLine⟩ := kk_WordLine
    have a_WordLine_at : Lt.NoAttrX KX C_WordLine "at" := by
      refine' Lt.noattr_mk KX G k_WordLine.g ?a ?n
      (case a => k_is); (case n => k_is)
    have a_WordLine_number : Lt.NoAttrX KX C_WordLine "number" := by
      refine' Lt.noattr_mk KX G k_WordLine.g ?a ?n
      (case a => k_is); (case n => k_is)
    have a_WordLine_words : Lt.NoAttrX KX C_WordLine "words" := by
      refine' Lt.noattr_mk KX G k_WordLine.g ?a ?n
      (case a => k_is); (case n => k_is)
    have i_WordLine : Lt.InitFX KX mg C_WordLine "WordLine" (L2.inClass Lt.s_WordLine 0) ["self", "number", "words"] := by
      refine' Lt.cinit_at KX G k_WordLine ?a0 ?a ?i ?l ?c ?k (fun _ _ _ _ _ _ us hl => match us, hl with | [_, _, _], _ => rfl)
      (case a0 => k_is); (case a => k_is); (case i => k_is); (case l => k_is); (case c => k_is); (case k => k_is)
    have m_WordLine_take : Lt.MethFX KX C_WordLine "take" "WordLine.take" (L2.inClass Lt.s_WordLine 1) ["self", "wanted"] := by
      refine' Lt.meth_at KX G k_WordLine.g ?a0 ?a ?i ?l ?c ?k (fun _ _ _ _ _ _ us hl => match us, hl with | [_, _], _ => rfl)
      (case a0 => k_is); (case a => k_is); (case i => k_is); (case l => k_is); (case c => k_is); (case k => k_is)
    have m_WordLine_take_places : Lt.MethFX KX C_WordLine "take_places" "WordLine.take_places" (L2.inClass Lt.s_WordLine 2) ["self", "size"] := by
      refine' Lt.meth_at KX G k_WordLine.g ?a0 ?a ?i ?l ?c ?k (fun _ _ _ _ _ _ us hl => match us, hl with | [_, _], _ => rfl)
      (case a0 => k_is); (case a => k_is); (case i => k_is); (case l => k_is); (case c => k_is); (case k => k_is)
    have m_WordLine_take_turn : Lt.MethFX KX C_WordLine "take_turn" "WordLine.take_turn" (L2.inClass Lt.s_WordLine 3) ["self", "made", "size"] := by
      refine' Lt.meth_at KX G k_WordLine.g ?a0 ?a ?i ?l ?c ?k (fun _ _ _ _ _ _ us hl => match us, hl with | [_, _, _], _ => rfl)
      (case a0 => k_is); (case a => k_is); (case i => k_is); (case l => k_is); (case c => k_is); (case k => k_is)
    have m_WordLine_end : Lt.MethFX KX C_WordLine "end" "WordLine.end" (L2.inClass Lt.s_WordLine 4) ["self"] := by
      refine' Lt.meth_at KX G k_WordLine.g ?a0 ?a ?i ?l ?c ?k (fun _ _ _ _ _ _ us hl => match us, hl with | [_], _ => rfl)
      (case a0 => k_is); (case a => k_is); (case i => k_is); (case l => k_is); (case c => k_is); (case k => k_is)
    refine' Lt.lam_atH (q := Lt.q_lam) (lvl := 10) Lt.sc_law KX hmg own G ?a ?l ?c ?lc ?lp ?hh ?np (fun s u => .of_eq rfl) (fun base TB => Lt.law_top ⟨bi, b_min, b_max, c_MOST_TURNS, c_MOST_GIVEN, c_FEWEST_PLACES, c_MOST_PLACES, c_MOST_INPUTS, c_MOST_STEPS, e_BadLock, e_BadRow, e_BadLine, e_TooMany, e_BadNumber, e_BadString, n_BadString_BadLine, k_WordLine, a_WordLine_at, a_WordLine_number, a_WordLine_words, i_WordLine, m_WordLine_take, m_WordLine_take_places, m_WordLine_take_turn, m_WordLine_end, f_is_number, f_are_numbers, f_is_permutation, f_still_of, f_product_of, f_words_of, f_check_lock, f_made_words, f_is_turn, f_check_inputs, f_check_row, f_is_step, f_write_lock, f_read_lock, f_write_row, f_read_row, f_told_step, f_check_text, f_spaced, f_words_in, f_worded_lines, f_law_taken, f_law_pick, f_law_alike, f_law_permutation, f_law_behind, f_law_span, f_law_known, f_law_lock, f_law_drawn_row, f_law_said_session, f_law_loose, f_law_bent, f_law_words, f_law_row_text⟩ base TB)
    (case a => k_is); (case l => k_is); (case c => k_is); (case lc => k_is); (case lp => rfl); (case hh => intro K' hK; unfold PySem.W.codeHdIn; rw [hK]; rfl); (case np => first | rfl | kernel_rfl | decide)
#print axioms PySem.Challenge.cw_lockturns_k12_whole_texts_holds

