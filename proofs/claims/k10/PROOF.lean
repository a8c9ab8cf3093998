import PyProof.Rows.All
import Wide.All
import OpenK.AllK
import Wide.FinOn
import HandS.ForMost
import HandS.TupSets
import HandS.Conv
import HandS.Strs
import HandS.SortInts
import HandS.IsInst
import HandS.TupAny
import HandS.TupLen
import HandS.TupMul
import HandS.Deep
import HandS.Evl
import KE.GoesEnum
import KE.KDictDisplayH
import HandS.ExcInit
import HandS.ExcOwn
import HandS.ExcField
import HandS.TryOnly
import HandS.ForExc
import HandS.Small
import HandS.Property
import HandS.Lambda
import HandS.Nested
import KE.KDflt
import HandS.EndOwn
import HandS.NestedK
import HandS.Codes
import HandS.FStr
import HandS.WideBits
import PyProof.StrBlock2
import HandS.DictComp
import HandS.SortKw
import KE.SortCalls
import KE.SortData
import KE.SortKeyHeap
import KE.KSortKey
import HandS.Zip
import KE.DataMinMax
import HandS.Rev
import PySem.Challenge.RW_lockturns_k10_whole_formulas
set_option Elab.async false
set_option linter.all false
set_option maxRecDepth 100000
set_option maxHeartbeats 4000000
/-! enumerate over a tuple, in a for -/
namespace LtR
open PySem PyProof.Rows
open AutoSeq1 (wpAny_loadPart')
theorem meets_enum1 {v : Value} {o : Obj} {H : Heap → Prop} (B : Begins v o H) :
    Meets (Builtin.«enumerate.__new__» ⟨[.type "enumerate", v], []⟩) (fun _ R s => H s.heap ∧
      R (.ok (.ret (.ref (s.heap.push o).objs.size))) { s with heap := (s.heap.push o).push { cls := .type "enumerate", data := .fields #[.none, .bool false, .ref s.heap.objs.size, rawInt 0, .none, .none] } }) :=
  .of_wp fun prog w A R s h => by
    obtain ⟨hp, g, d, tk, os⟩ := s
    obtain ⟨h1, h⟩ := h
    have hsub := sub_enumerate
    have q1 : ∀ {A' : Around} {E : Value → Shared → Prop} {Q : Value → Shared → Prop}, Q (.ref hp.objs.size) ⟨hp.push o, g, d, tk, os⟩ → wpAny (model prog w) A' (pyIter v) Q E ⟨hp, g, d, tk, os⟩ :=
      fun q => B.iter prog w _ _ ⟨hp, g, d, tk, os⟩ _ h1 q
    wp_walk using q1
    refine wpAny_stack_any fun st => wpAny_pure ?_
    split
    · rename_i c _ _ _ _ _
      cases (c == Value.type "enumerate")
      · wp_walk using q1
        exact ⟨_, rfl, h⟩
      · wp_walk using q1
        exact ⟨_, rfl, h⟩
    · wp_walk using q1
      exact ⟨_, rfl, h⟩
section
variable {prog : Program} {w : World} {A : Around} {E : Value → Shared → Prop} {s : Shared}
theorem enum1_begins {v : Value} {o : Obj} {H : Heap → Prop} {Q : Value → Shared → Prop} (B : Begins v o H) (h1 : H s.heap)
    (h : ∀ h', IsEnum h' (s.heap.objs.size + 1) s.heap.objs.size 0 .none → h'.get? s.heap.objs.size = some o → h'.objs.size = s.heap.objs.size + 2 →
      (∀ b o, s.heap.get? b = some o → h'.get? b = some o) → Q (.ref (s.heap.objs.size + 1)) { s with heap := h' }) :
    wpAny (model prog w) A (call (.type "enumerate") [v]) Q E s := by
  refine callType_new F.called_enumerate (by decide) (F.typeCall_enumerate_1 _) (F.newCall_enumerate_1 _) (fun obj => F.args_object_init_2 obj _) F.entry_enumerate_new
    (meets_enum1 B) ⟨h1, ?_⟩
  have hz : (s.heap.push o).objs.size = s.heap.objs.size + 1 := Heap.size_push ..
  show _ ∧ _
  rw [hz]
  have he : IsEnum ((s.heap.push o).push { cls := .type "enumerate", data := .fields #[.none, .bool false, .ref s.heap.objs.size, rawInt 0, .none, .none] }) (s.heap.objs.size + 1) s.heap.objs.size 0 .none := by
    have := Heap.get?_push_size (s.heap.push o) (o := { cls := .type "enumerate", data := .fields #[.none, .bool false, .ref s.heap.objs.size, rawInt 0, .none, .none] }) rfl
    rw [hz] at this; exact this
  refine ⟨⟨_, he, rfl⟩, h _ he (Heap.get?_push_of_some _ (Heap.get?_push_size _ B.free)) (by rw [Heap.size_push, hz]) fun b o x => Heap.get?_push_of_some _ (Heap.get?_push_of_some _ x)⟩
end
end LtR
namespace L2
open PySem PySem.Spec PyProof.Rows
/-- the tuple at a as it stands at each turn, each item in a new pair -/
def Itet (K : PySem.W.Frag) (a : Addr) : It :=
  ⟨fun i H => ∃ (xs : List V) (x : V), SqT K H a xs ∧ xs[i]? = some x, fun i H v H' => ∃ T x, v = .ref T ∧ H T = none ∧ H' = upd H T (.tup [.int (i : Nat), x]) ∧ ∀ xs, SqT K H a xs → xs[i]? = some x, fun i H => ∃ xs : List V, SqT K H a xs ∧ xs.length = i⟩
theorem turn_enumT {P : Program} {w : World} {K : PySem.W.Frag} {elts : List Expr} {kk : Nat} {tpos : Pos} (a e it : Addr) (hae : a ≠ e) (hai : a ≠ it) :
    Turn P w K (.Tuple elts kk tpos) (Itet K a) [e, it] e (fun i h => (∃ old, IsEnum h e it ((i : Nat) : Int) old) ∧ h.IsTupleIter it a i ∧ e ≠ it) where
  mem := by simp
  obj := fun i h st b hb => by
    obtain ⟨⟨old, he⟩, ⟨o, ho, hc, hd⟩, _⟩ := st
    have e' : b = e ∨ b = it := by simpa using hb
    rcases e' with z | z
    · rw [z]; exact ⟨_, he, fun v q => nomatch q⟩
    · rw [z]; exact ⟨o, ho, fun v q => by rw [hd] at q; cases q⟩
  keep := fun i h h' st k => let ⟨⟨old, he⟩, hi, hne⟩ := st; ⟨⟨old, k e (by simp) _ he⟩, hi.at fun o q => k it (by simp) o q, hne⟩
  item := by
    intro X hP hw hK hc i pins s σ H E I hf st hg
    subst hP hw hK
    obtain ⟨⟨old, he⟩, hit, hne⟩ := st
    obtain ⟨xs, x, hq, hx⟩ := hg
    obtain ⟨its, rv, p, hz⟩ := I.tuple hq
    obtain ⟨u, hu, ru⟩ := rv.get hx
    have hel : e < s.heap.objs.size := Heap.lt_size he
    have hil : it < s.heap.objs.size := by obtain ⟨_, q, _⟩ := hit; exact Heap.lt_size q
    have hu' : its.toArray[i]? = some u := by simpa using hu
    have hlt : i < its.toArray.size := (Array.getElem?_eq_some_iff.mp hu').1
    refine wpAny_pyNext_enum_itemD (Draws.tuple (prog := X.prog) (w := X.w) (A := X.A.in1) (I.ok.hd hc) it a hai its.toArray) he ⟨hit, (show s.heap.IsTuple a its.toArray from p)⟩ hlt hne (by simp [hne, Ne.symm hae]) fun x' h' tk hP ho hst' hT hsz hk => ?_
    have ex : x' = u := Option.some.inj ((show its.toArray[i]? = some x' from hP).symm.trans hu')
    subst ex
    obtain ⟨hit', hp'⟩ := hst'
    refine ⟨_, rfl, wpAny_letOwnedTupleGo_enum (s := { s with heap := h', toks := tk + 1 }) ho fun h'' he' sb => ?_⟩
    have hT2 : h''.get? s.heap.objs.size = some { cls := .type "tuple", data := .seq #[.int i tk, x'] } := (sb.2 _ (Nat.ne_of_gt hel)).trans hT
    have new : ObjOk X.prog X.w (upd H s.heap.objs.size (.tup [.int (i : Nat), x])) h'' s.heap.objs.size (.tup [.int (i : Nat), x]) :=
      ⟨by show 2 ≤ sizeLine; decide, [.int i tk, x'], .cons ⟨_, rfl⟩ (.cons ru .nil), ⟨_, hT2, rfl, _, rfl⟩⟩
    have I1 : Inv X pins σ (upd H s.heap.objs.size (.tup [.int (i : Nat), x])) { s with heap := h'', toks := tk + 1 } :=
      I.turnedNew (ch := [e, it]) (fun b ob hb q => (sb.2 b (fun z => hb (by simp [z]))).trans (hk b ob (fun z => hb (by simp [z])) (fun z => hb (by simp [z])) q)) hf (Nat.le_refl _) new
    refine ⟨.ref s.heap.objs.size, _, I1, rfl, ⟨_, x, rfl, I.hok.fresh (Nat.le_refl _), rfl, fun ys hy => by rw [I.tuple_inj hy hq]; exact hx⟩, ⟨⟨x', ?_⟩, hit'.at fun o q => (sb.2 it (Ne.symm hne)).trans q, hne⟩, fun b hb => ?_⟩
    · have e1 : ((i + 1 : Nat) : Int) = (i : Int) + 1 := by omega
      rw [e1]; exact he'
    · have hb' : b < s.heap.objs.size := by
        have e' : b = e ∨ b = it := by simpa using hb
        rcases e' with z | z
        · rw [z]; exact hel
        · rw [z]; exact hil
      rw [upd_ne (Nat.ne_of_lt hb')]
      exact (hf b hb).1
  done := by
    intro X hP hw hK hc i pins s σ H E I hf st hg
    subst hP hw hK
    obtain ⟨⟨old, he⟩, hit, hne⟩ := st
    obtain ⟨xs, hq, hx⟩ := hg
    obtain ⟨its, rv, p, hz⟩ := I.tuple hq
    obtain ⟨f0, f1, f2, f3, f4, f5⟩ := hf it (by simp)
    have hl := rv.length
    have hn : its.toArray.size = i := by simp; omega
    exact wpAny_pyNext_enum_endD (Draws.tuple (prog := X.prog) (w := X.w) (A := X.A.in1) (I.ok.hd hc) it a hai its.toArray) he (show s.heap.IsTupleIter it a its.toArray.size ∧ s.heap.IsTuple a its.toArray from ⟨by rw [hn]; exact hit, p⟩) fun h' eb => ⟨rfl, I.turned (t' := s.toks) (fun b o hb q => eb b o hb q) f0 f1 f3 f4 f5⟩
  self := fun A i s Q E st h => let ⟨⟨_, he⟩, _⟩ := st; wpAny_pyIter_enum he h
def iEnumT (K : PySem.W.Frag) (ta : TA) : TI := fun σ H R => ta σ H fun vs H1 => ∃ a xs, vs = [.ref a] ∧ SqT K H1 a xs ∧ R (Itet K a) H1
theorem pi_enumT {X : Cx} {e : Expr} {ta : TA} {p pos tpos : Pos} {elts : List Expr} {kk : Nat} (hg : Gl X "enumerate") (hm : X.mg "enumerate" = none) (ha : PA X [e] ta) (hs : starEach [e] X.env = [(false, eval e X.env)] := by rfl) :
    PI X (.Tuple elts kk tpos) (.Call (.Name "enumerate" p) [e] [] pos) (iEnumT X.K ta) := by
  refine ⟨fun pins s σ H R I h => ?_⟩
  refine Call_ (ld_blt I hg hm boot_enumerate (PyProof.Rows.callWith_type1 (thn (ha.run pos pins s σ H _ I h) fun us s1 ⟨vs, H1, I1, r1, q1⟩ => ?_) hs rfl))
  obtain ⟨a, xs, ex, hq, q⟩ := q1
  subst ex
  cases r1 with
  | cons r rr =>
    cases rr
    cases r
    obtain ⟨its, rv, p', hz⟩ := I1.tuple hq
    have hal : a < s1.heap.objs.size := by obtain ⟨_, e, _⟩ := p'; exact Heap.lt_size e
    refine LtR.enum1_begins (begins_tuple a its.toArray) (show s1.heap.IsTuple a its.toArray from p') fun h' he hit hsz hk => wpAny_pyIter_enum he ?_
    have I2 : Inv X pins σ H1 { s1 with heap := h' } := I1.kept (t' := s1.toks) hk
    refine ⟨s1.heap.objs.size + 1, [s1.heap.objs.size + 1, s1.heap.objs.size], _, _, H1, rfl, I2, turn_enumT a (s1.heap.objs.size + 1) s1.heap.objs.size (Nat.ne_of_lt (Nat.lt_succ_of_lt hal)) (Nat.ne_of_lt hal), ⟨⟨.none, he⟩, ⟨_, hit, rfl, rfl⟩, Nat.succ_ne_self _⟩, fun b hb => ?_, q⟩
    have e' : b = s1.heap.objs.size + 1 ∨ b = s1.heap.objs.size := by simpa using hb
    have hle : s1.heap.objs.size ≤ b := by
      rcases e' with z | z
      · rw [z]; exact Nat.le_add_right _ _
      · rw [z]; exact Nat.le_refl _
    exact I1.fpOk hle (I1.hok.fresh hle)
end L2

set_option Elab.async false
set_option linter.all false
set_option maxRecDepth 100000
set_option maxHeartbeats 4000000
/-! sorted of a dict whose keys are tuples of ints; sorted of a tuple of ints; tuple.index of ints; {tuple: v} -/
namespace L2
open PySem PySem.Spec PyProof.Rows
section
variable {X : Cx}
/-- t.index(i), the first place -/
theorem mt_tup_indexI : MtR X "tuple.index" (fun x xs H Q => ∃ p, ∃ ys : List Int, ∃ z j, x = .ref p ∧ xs = [.int z] ∧ SqT X.K H p (ys.map V.int) ∧ ys[j]? = some z ∧ (∀ m, m < j → ys[m]? ≠ some z) ∧ Q (.int (j : Nat)) H) := by
  intro pins s σ H x xs v us Q I rx rs h
  obtain ⟨p, ys, z, j, rfl, rfl, hq, hy, hno, q⟩ := h
  cases rx
  obtain ⟨u, rfl, t, rfl⟩ := vals1 rs
  obtain ⟨its, r, pl, hz⟩ := I.tuple hq
  obtain ⟨⟨cls, dd, dt, sl⟩, ho, hc, n, hd⟩ := pl
  simp only at hc hd
  subst hc
  subst hd
  have hl : its.toArray.size = ys.length := by rw [List.size_toArray, ← r.length, List.length_map]
  have hj : j < its.toArray.size := by rw [hl]; exact (List.getElem?_eq_some_iff.mp hy).1
  have at' : ∀ (m : Nat) (hm : m < its.toArray.size), ∃ y t', ys[m]? = some y ∧ its.toArray[m] = Value.int y t' := fun m hm => by
    have hm' : m < ys.length := by rw [← hl]; exact hm
    obtain ⟨w, hw, t', hw'⟩ := r.get (i := m) (x := .int ys[m]) (by simp [hm'])
    refine ⟨ys[m], t', List.getElem?_eq_getElem hm', ?_⟩
    have e := (List.getElem?_eq_some_iff.mp hw).2
    rw [← hw', ← e]
    simp
  have flat : (ys.map V.int).all flatV = true := by
    rw [List.all_map]
    exact List.all_eq_true.mpr fun _ _ => rfl
  refine call_meets PySem.F.slot_tuple_index ⟨_, ho, rfl⟩ PySem.F.entry_tuple_index (PySem.F.args_tuple_index_2 _ _) (TI.tuple_indexAt p its.toArray n dd sl (.int z t) (eqU (.int z)) j hj ?_ ?_)
    ⟨ho, fun w hw => mem_eqAt (x := .int z) ⟨t, rfl⟩ rfl r flat w (by simpa using hw), ⟨.int (j : Nat), H, I.tok _, ⟨_, rfl⟩, q⟩⟩
  · obtain ⟨y, t', h1, h2⟩ := at' j hj
    rw [hy] at h1
    cases h1
    rw [h2]
    show (z == z) = true
    exact beq_self_eq_true z
  · intro m hm hmj
    obtain ⟨y, t', h1, h2⟩ := at' m hm
    rw [h2]
    show (y == z) = false
    exact beq_eq_false_iff_ne.mpr fun e => hno m hmj (e ▸ h1)
/-- sorted(d), d a dict with fewer than 64 keys, all tuples of dd ints in [0, B) -/
def rSortDT (d : Nat) (B : Int) : List V → Hp → VK → Prop := fun vs H Q => ∃ (a : Addr) (kvs : List (List Key × V)) (ks : List (List Int)), vs = [V.ref a] ∧ Rd H a (.dT kvs) ∧ kvs.map (·.1) = ks.map (fun k => k.map Sum.inl) ∧ ks.length < 64 ∧ (∀ k ∈ ks, k.length = d ∧ TS.Bd B k) ∧
  ∀ (bs : List Addr) (ks' : List (List Int)) (p : Addr), ks'.Perm ks → ks'.Pairwise (fun x y => TS.code B x ≤ TS.code B y) → Paired (fun (b : Addr) k => H b = some (.tup (k.map V.int))) bs ks' → H p = none → Q (.ref p) (upd H p (.lst (bs.map V.ref)))
theorem kV_ints (k : List Int) : (k.map (Sum.inl : Int → Key)).map kV = k.map V.int := by
  rw [List.map_map]
  rfl
def refA : Value → Addr
  | .ref a => a
  | _ => 0
theorem keys_perm {H : Hp} : ∀ {kvs : List (List Key × V)} {xs : List (List Key × Addr × Value)} {ks : List (List Int)}, KT H kvs xs → kvs.map (·.1) = ks.map (fun k => k.map Sum.inl) →
    Paired (fun (u : Value) (k : List Int) => ∃ b, u = .ref b ∧ H b = some (.tup (k.map V.int))) (xs.map fun x => Value.ref x.2.1) ks
  | _, _, [], .nil, _ => .nil
  | _, _, [], .cons _ _, e => by simp at e
  | _, _, _ :: _, .nil, e => by simp at e
  | p :: ps, q :: qs, k :: ks, .cons h t, e => by
    rw [List.map_cons, List.map_cons] at e
    injection e with e1 e2
    refine .cons ⟨q.2.1, rfl, ?_⟩ (keys_perm t e2)
    have z := h.2.1
    rw [e1, kV_ints] at z
    exact z
theorem paired_map_eq {β γ : Type} {F : β → γ → Prop} {f : β → γ} (h : ∀ u k, F u k → f u = k) : ∀ {us : List β} {ks : List γ}, Paired F us ks → us.map f = ks
  | _, _, .nil => rfl
  | _, _, .cons r t => by rw [List.map_cons, h _ _ r, paired_map_eq h t]
theorem paired_mem_left {β γ : Type} {F : β → γ → Prop} : ∀ {us : List β} {ks : List γ}, Paired F us ks → ∀ u ∈ us, ∃ k ∈ ks, F u k
  | _, _, .nil, u, h => by cases h
  | _, _, .cons r t, u, h => by
    rcases List.mem_cons.mp h with e | h
    · subst e
      exact ⟨_, List.mem_cons_self, r⟩
    · obtain ⟨k, hk, f⟩ := paired_mem_left t u h
      exact ⟨k, List.mem_cons_of_mem _ hk, f⟩
theorem paired_of_map {β γ δ : Type} {F : γ → δ → Prop} {f : β → γ} {g : β → δ} : ∀ {us : List β}, (∀ u ∈ us, F (f u) (g u)) → Paired F (us.map f) (us.map g)
  | [], _ => .nil
  | u :: us, h => .cons (h u List.mem_cons_self) (paired_of_map fun v hv => h v (List.mem_cons_of_mem _ hv))
theorem cr_sortDT {d : Nat} {B : Int} (hc : X.calm = true) (hd1 : 1 ≤ d) : CallR X (.builtin "sorted") (rSortDT d B) := by
  intro pins s σ H xs us Q I r q
  obtain ⟨a, kvs, ks, rfl, hd, hks, h64, hB, q⟩ := q
  obtain ⟨u, eu, rx⟩ := vals1 r
  subst eu
  cases rx
  obtain ⟨z, lo, kx, pr, o, es, ep, ho, hx, hdt, he, hn⟩ := (show ObjOk X.prog X.w H s.heap a (.dT kvs) from hd.ok I.hok)
  have l1 : es.size = kx.length := size_of_entries he
  have l2 : kvs.length = kx.length := Paired.length pr
  refine Calls.call_function_entry PyProof.Rows.kind_sorted PyProof.Rows.plain_sorted PyProof.Rows.entry_sorted (PyProof.Rows.args_sorted1 _) ?_
  unfold Builtin.«sorted»
  refine wpAny_bind (m := checkCount "sorted" 1 1 _) (wpAny_pure ?_)
  refine wpAny_bind (PySem.W.kdu_collect (A := X.A.in1) (kdl_raw lo hx hdt) (I.ok.hd hc) ho (by omega) fun h' tk acc hk hacc => ?_)
  have ea : acc.toList = kx.map fun x => Value.ref x.2.1 := by
    have hl : acc.toList.length = kx.length := by rw [Array.length_toList, hacc.1]; exact l1
    apply List.ext_getElem?
    intro j
    rw [List.getElem?_map]
    cases hj : acc.toList[j]? with
    | none =>
      have h1 := List.getElem?_eq_none_iff.mp hj
      rw [List.getElem?_eq_none (by omega)]
      all_goals rfl
    | some v =>
      obtain ⟨en, hen, hv⟩ := hacc.2 j v (by rw [← Array.getElem?_toList]; exact hj)
      have qe := entry_at he j
      rw [hen] at qe
      cases hb : kx[j]? with
      | none =>
        rw [hb] at qe
        exact nomatch (show some en = none from qe)
      | some b =>
        rw [hb] at qe
        have e2 : en = entryOfKey (tupleKind (mixKind X.prog X.w)) b := Option.some.inj qe
        rw [hv, e2]
        all_goals rfl
  have I1 : Inv X pins σ H { s with heap := h', toks := tk } := I.kept hk
  have prk := keys_perm pr hks
  rw [← ea] at prk
  generalize acc.toList = vs at prk
  have hvl : vs.length = ks.length := Paired.length prk
  have tup : ∀ b (k : List Int), H b = some (.tup (k.map V.int)) → TS.TupInts h' (.ref b) k := fun b k e => tupI_raw I1 (SqT.of e)
  have hin : ∀ v ∈ vs, ∃ b k, k ∈ ks ∧ v = .ref b ∧ H b = some (.tup (k.map V.int)) := fun v hv => by
    obtain ⟨k, hk', b, e1, e2⟩ := paired_mem_left prk v hv
    exact ⟨b, k, hk', e1, e2⟩
  have hmap : vs.map (TS.intsOf h') = ks := paired_map_eq (fun u k h => by
    obtain ⟨b, e1, e2⟩ := h
    subst e1
    exact (tup b k e2).ints) prk
  refine wpAny_bind (wpAny_newList ?_ (by rw [hvl, sizeLine_eq]; omega))
  have hoL : (h'.push (seqObj "list" vs.toArray 0)).get? h'.objs.size = some (seqObj "list" vs.toArray 0) := Heap.get?_push_size _ rfl
  show wpAny _ _ _ _ _ { s with heap := h'.push (seqObj "list" vs.toArray 0), toks := tk }
  have keep : ∀ b u, h'.get? b = some u → (h'.push (seqObj "list" vs.toArray 0)).get? b = some u := fun b u e => Heap.get?_push_of_some _ e
  have I2 : Inv X pins σ H { s with heap := h'.push (seqObj "list" vs.toArray 0), toks := tk } := I1.kept (t' := tk) keep
  have tup2 : ∀ b (k : List Int), H b = some (.tup (k.map V.int)) → TS.TupInts (h'.push (seqObj "list" vs.toArray 0)) (.ref b) k := fun b k e => tupI_raw I2 (SqT.of e)
  have x : TS.TupsOk (h'.push (seqObj "list" vs.toArray 0)) d B vs := fun v hv => by
    obtain ⟨b, k, hk', e1, e2⟩ := hin v hv
    subst e1
    exact ⟨k, tup2 b k e2, (hB k hk').1, (hB k hk').2⟩
  refine wpAny_bind (wpAny_holding (TS.call_sort_tups (s := { s with heap := h'.push (seqObj "list" vs.toArray 0), toks := tk }) hoL (by rw [hvl]; exact h64) hd1 x fun out a1 a2 => ?_))
  obtain ⟨c, hcc⟩ := PyProof.Rows.sortedHeap_at (vs := vs) (out := out) hoL
  have hin' : ∀ v ∈ out.toList, ∃ b k, k ∈ ks ∧ v = .ref b ∧ H b = some (.tup (k.map V.int)) := fun v hv => hin v (a1.mem_iff.mp hv)
  have intz : ∀ v ∈ out.toList, TS.intsOf (h'.push (seqObj "list" vs.toArray 0)) v = TS.intsOf h' v := fun v hv => by
    obtain ⟨b, k, _, e1, e2⟩ := hin' v hv
    subst e1
    rw [(tup2 b k e2).ints, (tup b k e2).ints]
  have hn' : H h'.objs.size = none := I1.hok.fresh (Nat.le_refl _)
  have vr : Vals ((out.toList.map refA).map V.ref) out.toList := by
    have e : out.toList = (out.toList.map refA).map Value.ref := by
      rw [List.map_map]
      refine (List.map_id' out.toList).symm.trans (List.map_congr_left fun v hv => ?_)
      obtain ⟨b, k, _, e1, e2⟩ := hin' v hv
      subst e1
      rfl
    have z := vals_refs (out.toList.map refA)
    rw [← e] at z
    exact z
  have hlen : ((out.toList.map refA).map V.ref).length ≤ sizeLine := by
    rw [List.length_map, List.length_map, a1.length_eq, hvl, sizeLine_eq]
    omega
  refine wpAny_pure ⟨_, rfl, .ref h'.objs.size, upd H h'.objs.size (.lst ((out.toList.map refA).map V.ref)), I1.laid (t' := tk) (fun b u e => ?_) (Nat.le_refl _) ⟨hlen, out.toList, c, vr, hcc⟩, rfl, ?_⟩
  · have hlt : b < h'.objs.size := Heap.lt_size e
    show (PyProof.Rows.sortedHeap (h'.push (seqObj "list" vs.toArray 0)) h'.objs.size vs out).get? b = some u
    rw [PyProof.Rows.sortedHeap_old (Nat.ne_of_lt hlt) (by rw [PyProof.Rows.size_push']; exact Nat.lt_succ_of_lt hlt)]
    exact Heap.get?_push_of_some _ e
  · refine q (out.toList.map refA) (out.toList.map (TS.intsOf h')) h'.objs.size ?_ ?_ ?_ hn'
    · have z := a1.map (TS.intsOf h')
      rw [hmap] at z
      exact z
    · refine List.pairwise_map.mpr (List.Pairwise.imp_of_mem (fun {u v} hu hv h => ?_) a2)
      rw [← intz u hu, ← intz v hv]
      exact h
    · refine paired_of_map fun v hv => ?_
      obtain ⟨b, k, _, e1, e2⟩ := hin' v hv
      subst e1
      rw [(tup b k e2).ints]
      exact e2
/-- sorted(t), t a tuple of fewer than 64 ints -/
def rSortIT (K : PySem.W.Frag) : List V → Hp → VK → Prop := fun vs H Q => ∃ (a : Addr) (ns : List Int), vs = [V.ref a] ∧ SqT K H a (ns.map V.int) ∧ ns.length < 64 ∧
  ∀ (ns' : List Int) (p : Addr), ns'.Perm ns → ns'.Pairwise (· ≤ ·) → H p = none → Q (.ref p) (upd H p (.lst (ns'.map V.int)))
end
section
variable {prog : Program} {w : World} {A : Around} {E : Value → Shared → Prop} {s : Shared}
theorem collect_tup {l : Addr} {vs : List Value} {Q : List Value → Shared → Prop} (hl : s.heap.IsTuple l vs.toArray)
    (h : Q vs { s with heap := (s.heap.push (seqObj "list" #[] 0)).update s.heap.objs.size (Obj.mapSeq (· ++ vs.toArray)) }) (hsz : vs.length ≤ sizeLine) :
    wpAny (model prog w) A (collect (.ref l)) Q E s := by
  obtain ⟨o, ho, hc, n, hd⟩ := id hl
  unfold collect
  refine wpAny_bind (wpAny_runValue (codeAny_builtin entry_proto_collect' ?_))
  show wpAny _ _ (do again (.builtin "list.__iadd__" ⟨[← newList [], .ref l], []⟩)) _ _ s
  refine wpAny_bind (wpAny_newList (wpAny_pure ⟨Code.quiet_builtin _ (by decide +kernel), codeAny_builtin entry_list_iadd' ?_⟩))
  show wpAny _ _ (Builtin.List.listExtendWith (.ref s.heap.objs.size) (.ref l) (.ref s.heap.objs.size)) _ _ { s with heap := s.heap.push (seqObj "list" #[] 0) }
  unfold Builtin.List.listExtendWith
  have ho' : (s.heap.push (seqObj "list" #[] 0)).get? l = some o := Heap.get?_push_of_some _ ho
  refine wpAny_bind (wpAny_typeOf (T := "tuple") ⟨o, ho', hc⟩ ?_)
  have ht : (Value.type "tuple" == Value.type "tuple") = true := by rfl
  rw [if_pos (by rw [ht]; simp)]
  refine wpAny_bind (listItems_at ho' hd ?_)
  refine wpAny_bind (listItems_at (xs := #[]) (n := 0) (Heap.get?_push_size _ rfl) rfl ?_)
  rw [if_neg (by simp)]
  refine wpAny_bind (listUpdate_at (xs := #[]) (n := 0) (Heap.get?_push_size _ rfl) rfl ?_ (Nat.zero_le _) (by show (#[] ++ vs.toArray).size ≤ sizeLine + 1; simp only [Array.size_append, List.size_toArray, List.length_nil]; omega))
  refine wpAny_pure ?_
  show wpAny (model prog w) A (do
      let o ← load s.heap.objs.size
      match o.data with
      | .seq xs _ => pure xs.toList
      | _ => unsupported "internal:collect") Q E { s with heap := (s.heap.push (seqObj "list" #[] 0)).update s.heap.objs.size (Obj.mapSeq (· ++ vs.toArray)) }
  refine wpAny_bind (wpAny_load (get?_update_seq (Heap.get?_push_size _ rfl) _) ?_)
  show wpAny _ _ (pure ((#[] : Array Value) ++ vs.toArray).toList) Q E _
  rw [show ((#[] : Array Value) ++ vs.toArray).toList = vs by simp]
  exact wpAny_pure h
theorem sorted_tupI {l : Addr} {vs : List Value} {ns : List Int} {Q : Value → Shared → Prop} (hl : s.heap.IsTuple l vs.toArray) (hI : IntsAre vs ns) (h64 : vs.length < 64)
    (h : ∀ (out : Array Value) (ns' : List Int), IntsAre out.toList ns' → ns'.Perm ns → ns'.Pairwise (· ≤ ·) → Q (.ref (s.heap.objs.size + 1)) { s with heap := sortedAll s.heap vs out }) :
    wpAny (model prog w) A (call (.builtin "sorted") [.ref l]) Q E s := by
  refine Calls.call_function_entry kind_sorted plain_sorted entry_sorted (args_sorted1 _) ?_
  unfold Builtin.«sorted»
  refine wpAny_bind (m := checkCount "sorted" 1 1 _) (wpAny_pure ?_)
  refine wpAny_bind (collect_tup hl ?_ (by rw [sizeLine_eq]; omega))
  refine wpAny_bind (wpAny_newList ?_ (by rw [sizeLine_eq]; omega))
  have hsz : ((s.heap.push (seqObj "list" #[] 0)).update s.heap.objs.size (Obj.mapSeq (· ++ vs.toArray))).objs.size = s.heap.objs.size + 1 := by
    rw [Heap.size_update, size_push']
  have hoL : (((s.heap.push (seqObj "list" #[] 0)).update s.heap.objs.size (Obj.mapSeq (· ++ vs.toArray))).push (seqObj "list" vs.toArray 0)).get? (s.heap.objs.size + 1) = some (seqObj "list" vs.toArray 0) := by
    rw [← hsz]; exact Heap.get?_push_size _ rfl
  show wpAny _ _ _ _ _ { s with heap := ((s.heap.push (seqObj "list" #[] 0)).update s.heap.objs.size (Obj.mapSeq (· ++ vs.toArray))).push (seqObj "list" vs.toArray 0) }
  rw [hsz]
  refine wpAny_bind (wpAny_holding (wpAny_call_entry slot_list_sort ⟨_, hoL, rfl⟩ entry_list_sort (list_sort_tree hoL hI h64 fun out ns' a1 a2 a3 => ⟨_, rfl, ?_⟩) (args_list_sort _)))
  exact wpAny_pure ⟨_, rfl, h out ns' a1 a2 a3⟩
end
section
variable {X : Cx}
theorem cr_sortIT : CallR X (.builtin "sorted") (rSortIT X.K) := by
  intro pins s σ H vs us Q I r h
  obtain ⟨a, ns, rfl, hs, h64, q⟩ := h
  obtain ⟨its, rv, hl, _⟩ := I.tuple hs
  rw [Vals.ref1 r]
  have hi := rv.ints
  refine sorted_tupI hl hi (by rw [hi.length]; exact h64) fun out ns' h1 h2 h3 => ?_
  obtain ⟨ep, he'⟩ := PyProof.Rows.sortedAll_at s.heap its out
  have hlen : (ns'.map V.int).length ≤ sizeLine := by rw [List.length_map, h2.length_eq]; exact small64 h64
  exact ⟨.ref _, upd H (s.heap.objs.size + 1) (.lst (ns'.map V.int)), I.laid (t' := s.toks) (fun _ _ => PyProof.Rows.sortedAll_old) (Nat.le_succ _) ⟨hlen, out.toList, ep, vals_of_ints h1, he'⟩, rfl, q ns' _ h2 h3 (I.hok.fresh (Nat.le_succ _))⟩
/-- {k: v}, k a tuple of ints and texts -/
def tDispT (tk tv : TE) : TE := fun σ H Q => ∀ p, H p = none → tk σ (upd H p (.dT [])) fun x H1 => tv σ H1 fun y H2 => ∃ (b : Addr) (k : List Key), x = .ref b ∧ H2 p = some (.dT []) ∧ H2 b = some (.tup (k.map kV)) ∧ Q (.ref p) (upd H2 p (.dT [(k, y)]))
theorem pe_dispT {k v : Expr} {pos : Pos} {tk tv : TE} (hu : X.A.units + 1 < cLine) (hk : PE X k tk) (hv : PE X v tv) : PE X (.Dict [some k] [v] pos) (tDispT tk tv) := by
  refine ⟨fun pins s σ H Q I q => ?_⟩
  have hn := I.hok.fresh (Nat.le_refl s.heap.objs.size)
  have I1 := I.laid (a := s.heap.objs.size) (o := .dT []) (h' := s.heap.push { cls := .type "dict", data := .dict #[] }) (t' := s.toks) (fun _ _ q => Heap.get?_push_of_some _ q) (Nat.le_refl _) (dt_empty s.heap I.big)
  have hroom : (tupleKind (mixKind X.prog X.w)).room X.A := (show X.A.units < cLine by omega)
  rw [arm_eval_Dict, zip_pairTrees [some k] [v] X.env pos rfl rfl, dictDisplay_pairs (pairTrees [some k] [v] X.env pos) (by intro z; cases z) (by show 1 < 17; omega)]
  refine wpAny_bind (wpAny_standAt (wpAny_bind (wpAny_subDictH (knd := tupleKind (mixKind X.prog X.w)) (Q := fun d s' => wpAny (model X.prog X.w) X.A (pure (Value.ref d)) (EP X pins σ Q) X.xe s') hroom (by show 1 ≤ 15; omega) ?_)))
  refine pairTrees_cons_walk (thn (hk.run pins _ σ _ _ I1 (q _ hn)) fun u s1 ⟨x, H1, I2, rx, q1⟩ => thn (hv.run pins s1 σ H1 _ I2 q1) fun w2 s2 ⟨y, H2, I3, ry, q2⟩ => pairTrees_nil_walk ?_)
  obtain ⟨b, ks, rfl, hp, hb, qq⟩ := q2
  cases rx
  obtain ⟨z, hd, xs0, rel, dd⟩ := dt_of I3.hok hp
  cases rel
  refine ⟨[(ks, b, w2)], ⟨rfl, rfl, key_of I3.hok hb, trivial⟩, dd, fun h' tk' dd' hs => wpAny_pure ⟨.ref s.heap.objs.size, _, ?_, rfl, qq⟩⟩
  obtain ⟨o, es, ep, ho, h2, h3, h4, _, h5⟩ := dd'
  refine d_write I3 (by rw [hp]; exact True.intro) hs ⟨o, ho⟩ ⟨by show 1 ≤ sizeLine; decide, hd, [(ks, b, w2)], .cons ⟨rfl, ?_, ry⟩ .nil, o, es, ep, ho, h2, h3, h4, h5⟩
  rw [upd_ne (ne_of hb hp (fun z => nomatch z))]
  exact hb
end
end L2

set_option Elab.async false
set_option linter.all false
set_option maxRecDepth 100000
set_option maxHeartbeats 4000000
/-! the common ground: turns and locks in the heap, defs by name -/
namespace Lt
open PySem PySem.Spec PyProof.Rows L2
/-! ### heaps -/
theorem same_new {H : Hp} {p : Addr} {o : HO} (h : H p = none) : Same H (upd H p o) := fun b x e => by
  rw [upd_ne (ne_of_none e h)]
  exact e
/-- an object that H does not know may change -/
theorem same_mut {H H' : Hp} {p : Addr} {o : HO} (e : Same H H') (h : H p = none) : Same H (upd H' p o) := fun a u ha => by
  rw [upd_ne (ne_of_none ha h)]
  exact e a u ha
/-- the tuples stay -/
def Tm (H H' : Hp) : Prop := (∀ a xs, H a = some (.tup xs) → H' a = some (.tup xs)) ∧ ∀ a o xs, H a = some (.frz o (.tup xs)) → H' a = some (.frz o (.tup xs))
theorem Tm.refl (H : Hp) : Tm H H := ⟨fun _ _ h => h, fun _ _ _ h => h⟩
theorem Tm.trans {H H1 H2 : Hp} (a : Tm H H1) (b : Tm H1 H2) : Tm H H2 := ⟨fun c x h => b.1 c x (a.1 c x h), fun c o x h => b.2 c o x (a.2 c o x h)⟩
theorem Tm.of {H H' : Hp} (e : Same H H') : Tm H H' := ⟨fun a xs h => e a _ h, fun a o xs h => e a _ h⟩
/-- a tuple to be read: its object known or not -/
abbrev RT (H : Hp) (a : Addr) (xs : List V) : Prop := Rd H a (.tup xs)
theorem RT.tm {H H' : Hp} {a : Addr} {xs : List V} (h : RT H a xs) (e : Tm H H') : RT H' a xs := by
  rcases h with h | ⟨o, h⟩
  · exact .inl (e.1 _ _ h)
  · exact .inr ⟨o, e.2 _ _ _ h⟩
theorem RT.sm {H H' : Hp} {a : Addr} {xs : List V} (h : RT H a xs) (e : Same H H') : RT H' a xs := h.tm (.of e)
theorem RT.sq {K : PySem.W.Frag} {H : Hp} {a : Addr} {xs : List V} (h : RT H a xs) : SqT K H a xs := .inl h
/-- what is no tuple may change -/
theorem Tm.mut {H : Hp} {p : Addr} {o u : HO} (h : H p = some u) (hu : ∀ xs, u ≠ .tup xs) (hf : ∀ ob xs, u ≠ .frz ob (.tup xs)) : Tm H (upd H p o) :=
  ⟨fun a xs e => by rw [upd_ne (ne_of e h (fun z => hu xs z.symm))]; exact e, fun a ob xs e => by rw [upd_ne (ne_of e h (fun z => hf ob xs z.symm))]; exact e⟩
theorem Tm.lst {H : Hp} {p : Addr} {o : HO} {ys : List V} (h : H p = some (.lst ys)) : Tm H (upd H p o) := .mut h (fun _ z => nomatch z) fun _ _ z => nomatch z
theorem Tm.dT {H : Hp} {p : Addr} {o : HO} {ys : List (List Key × V)} (h : H p = some (.dT ys)) : Tm H (upd H p o) := .mut h (fun _ z => nomatch z) fun _ _ z => nomatch z
theorem Tm.new {H : Hp} {p : Addr} {o : HO} (h : H p = none) : Tm H (upd H p o) := .of (same_new h)

/-! ### turns: tuples of numbers -/
def nI (n : Nat) : V := .int (n : Int)
def nIs (t : List Nat) : List V := t.map nI
def TN (H : Hp) (v : V) (t : List Nat) : Prop := ∃ a, v = .ref a ∧ RT H a (nIs t)
/-- one that no dict refuses as a key -/
def TK (H : Hp) (v : V) (t : List Nat) : Prop := ∃ a, v = .ref a ∧ H a = some (.tup (nIs t))
theorem TK.tn {H : Hp} {v : V} {t : List Nat} (h : TK H v t) : TN H v t := let ⟨a, e, h⟩ := h; ⟨a, e, .inl h⟩
theorem TK.tm {H H' : Hp} {v : V} {t : List Nat} (e : Tm H H') (h : TK H v t) : TK H' v t := let ⟨a, ev, ha⟩ := h; ⟨a, ev, e.1 _ _ ha⟩
/-- a tuple of turns -/
def TT (H : Hp) (v : V) (ts : List (List Nat)) : Prop := ∃ a xs, v = .ref a ∧ H a = some (.tup xs) ∧ Paired (TN H) xs ts
/-- a list of turns at a -/
def LT (H : Hp) (a : Addr) (ts : List (List Nat)) : Prop := ∃ xs, H a = some (.lst xs) ∧ Paired (TN H) xs ts
theorem TN.tm {H H' : Hp} {v : V} {t : List Nat} (e : Tm H H') (h : TN H v t) : TN H' v t := let ⟨a, ev, ha⟩ := h; ⟨a, ev, ha.tm e⟩
theorem TNs.tm {H H' : Hp} (e : Tm H H') : ∀ {xs : List V} {ts : List (List Nat)}, Paired (TN H) xs ts → Paired (TN H') xs ts
  | _, _, .nil => .nil
  | _, _, .cons r t => .cons (r.tm e) (TNs.tm e t)
theorem TT.tm {H H' : Hp} {v : V} {t : List (List Nat)} (e : Tm H H') (h : TT H v t) : TT H' v t := let ⟨a, xs, ev, ha, p⟩ := h; ⟨a, xs, ev, e.1 _ _ ha, TNs.tm e p⟩
theorem LT.same {H H' : Hp} {v : Addr} {t : List (List Nat)} (e : Same H H') (h : LT H v t) : LT H' v t := let ⟨xs, ha, p⟩ := h; ⟨xs, e _ _ ha, TNs.tm (.of e) p⟩
theorem nIs_len (t : List Nat) : (nIs t).length = t.length := List.length_map ..
theorem nIs_get (t : List Nat) (i : Nat) : (nIs t)[i]? = (t[i]?).map nI := List.getElem?_map ..
theorem nIs_int (t : List Nat) : nIs t = (t.map Int.ofNat).map V.int := by
  unfold nIs
  rw [List.map_map]
  rfl
theorem nIs_key (t : List Nat) : nIs t = (t.map fun n : Nat => (Sum.inl (Int.ofNat n) : Key)).map kV := by
  unfold nIs
  rw [List.map_map]
  rfl
theorem Paired.getL {α β : Type} {F : α → β → Prop} : ∀ {xs : List α} {ys : List β} {i : Nat} {x : α}, Paired F xs ys → xs[i]? = some x → ∃ y, ys[i]? = some y ∧ F x y
  | _, _, _, _, .nil, e => by simp at e
  | _, _, 0, _, .cons r _, e => by simp at e; subst e; exact ⟨_, rfl, r⟩
  | _, _, i + 1, x, .cons _ t, e => by
    obtain ⟨u, h1, h2⟩ := Paired.getL (i := i) (x := x) t (by simpa using e)
    exact ⟨u, by simpa using h1, h2⟩
theorem Paired.getR {α β : Type} {F : α → β → Prop} : ∀ {xs : List α} {ys : List β} {i : Nat} {y : β}, Paired F xs ys → ys[i]? = some y → ∃ x, xs[i]? = some x ∧ F x y
  | _, _, _, _, .nil, e => by simp at e
  | _, _, 0, _, .cons r _, e => by simp at e; subst e; exact ⟨_, rfl, r⟩
  | _, _, i + 1, x, .cons _ t, e => by
    obtain ⟨u, h1, h2⟩ := Paired.getR (i := i) (y := x) t (by simpa using e)
    exact ⟨u, by simpa using h1, h2⟩
theorem Paired.app {α β : Type} {F : α → β → Prop} : ∀ {xs xs' : List α} {ys ys' : List β}, Paired F xs ys → Paired F xs' ys' → Paired F (xs ++ xs') (ys ++ ys')
  | _, _, _, _, .nil, h => h
  | _, _, _, _, .cons r t, h => .cons r (Paired.app t h)
theorem Paired.one {α β : Type} {F : α → β → Prop} {x : α} {y : β} (h : F x y) : Paired F [x] [y] := .cons h .nil
/-! ### data for == and in -/
def dN (n : Nat) : PyData := .int (n : Int)
def dT (t : List Nat) : PyData := .tuple (t.map dN)
theorem dp_nats {K : PySem.W.Frag} {H : Hp} : ∀ t : List Nat, DpAll K H (nIs t) (t.map dN)
  | [] => .nil
  | n :: t => .cons (.int _) (dp_nats t)
theorem TN.dp {K : PySem.W.Frag} {H : Hp} {v : V} {t : List Nat} (h : TN H v t) : Dp K H v (dT t) := by
  obtain ⟨a, rfl, ha⟩ := h
  exact .tup ha.sq (dp_nats t)
theorem TNs.dp {K : PySem.W.Frag} {H : Hp} : ∀ {xs : List V} {ts : List (List Nat)}, Paired (TN H) xs ts → DpAll K H xs (ts.map dT)
  | _, _, .nil => .nil
  | _, _, .cons r t => .cons r.dp (TNs.dp t)
theorem TT.dp {K : PySem.W.Frag} {H : Hp} {v : V} {ts : List (List Nat)} (h : TT H v ts) : Dp K H v (.tuple (ts.map dT)) := by
  obtain ⟨a, xs, rfl, ha, p⟩ := h
  exact .tup (SqT.of ha) (TNs.dp p)
theorem LT.dp {K : PySem.W.Frag} {H : Hp} {a : Addr} {ts : List (List Nat)} (h : LT H a ts) : Dp K H (.ref a) (.list (ts.map dT)) := by
  obtain ⟨xs, ha, p⟩ := h
  exact .lst (SqL.of ha) (TNs.dp p)
theorem eqvAll_map {α : Type} [DecidableEq α] {f : α → PyData} (h : ∀ x y, PyData.eqv (f x) (f y) = decide (x = y)) : ∀ xs ys : List α, PyData.eqvAll (xs.map f) (ys.map f) = decide (xs = ys)
  | [], [] => by simp [PyData.eqvAll]
  | [], _ :: _ => by simp [PyData.eqvAll]
  | _ :: _, [] => by simp [PyData.eqvAll]
  | x :: xs, y :: ys => by
    rw [List.map_cons, List.map_cons, PyData.eqvAll, h, eqvAll_map h xs ys]
    by_cases e1 : x = y <;> by_cases e2 : xs = ys <;> simp [e1, e2]
theorem eqv_dN (a b : Nat) : PyData.eqv (dN a) (dN b) = decide (a = b) := by
  show ((a : Int) == (b : Int)) = decide (a = b)
  by_cases e : a = b
  · subst e; simp
  · rw [decide_eq_false e]
    exact beq_eq_false_iff_ne.mpr (by omega)
theorem eqv_dT (s t : List Nat) : PyData.eqv (dT s) (dT t) = decide (s = t) := by
  show PyData.eqvAll (s.map dN) (t.map dN) = _
  exact eqvAll_map eqv_dN s t
theorem eqv_dTT (s t : List (List Nat)) : PyData.eqv (.tuple (s.map dT)) (.tuple (t.map dT)) = decide (s = t) := by
  show PyData.eqvAll (s.map dT) (t.map dT) = _
  exact eqvAll_map eqv_dT s t
theorem depth_nats : ∀ t : List Nat, PyData.depthAll (t.map dN) = 0
  | [] => rfl
  | n :: t => by
    show max (PyData.depth (dN n)) (PyData.depthAll (t.map dN)) = 0
    rw [depth_nats t]
    rfl
theorem can_nats : ∀ t : List Nat, PyData.canLayAll0 (t.map dN) = true
  | [] => rfl
  | n :: t => by
    show (PyData.canLay0 (dN n) && PyData.canLayAll0 (t.map dN)) = true
    rw [can_nats t]
    rfl
theorem depth_turns : ∀ t : List (List Nat), PyData.depthAll (t.map dT) ≤ 1
  | [] => Nat.zero_le _
  | n :: t => by
    show max (PyData.depthAll (n.map dN) + 1) (PyData.depthAll (t.map dT)) ≤ 1
    rw [depth_nats n]
    have := depth_turns t
    omega
theorem can_turns : ∀ t : List (List Nat), PyData.canLayAll0 (t.map dT) = true
  | [] => rfl
  | n :: t => by
    show (PyData.canLayAll0 (n.map dN) && PyData.canLayAll0 (t.map dT)) = true
    rw [can_turns t, can_nats n]
    rfl
theorem sh_T (t : List Nat) : SeqAt.shaped (dT t) = true := by
  show (PyData.canLayAll0 (t.map dN) && decide (PyData.depthAll (t.map dN) + 1 ≤ 64)) = true
  rw [can_nats, depth_nats]
  rfl
theorem sh_TT (t : List (List Nat)) : SeqAt.shaped (.tuple (t.map dT)) = true := by
  show (PyData.canLayAll0 (t.map dT) && decide (PyData.depthAll (t.map dT) + 1 ≤ 64)) = true
  have := depth_turns t
  rw [can_turns, decide_eq_true (by omega)]
  rfl
theorem sh_LT (t : List (List Nat)) : SeqAt.shaped (.list (t.map dT)) = true := sh_TT t
theorem any_dT (ts : List (List Nat)) (t : List Nat) : ((ts.map dT).any fun z => PyData.eqv z (dT t)) = decide (t ∈ ts) := by
  induction ts with
  | nil => simp
  | cons a ts ih =>
    rw [List.map_cons, List.any_cons, ih, eqv_dT]
    by_cases e : a = t
    · subst e; simp
    · have e' : ¬ t = a := fun z => e z.symm
      simp [e, e']

/-! ### defs by name -/
section
variable (P : Program) (w : World) (K : PySem.W.Frag) (mg : Str → Option Value) (base : Heap)
/-- the def x of the module's top keeps the promise sp -/
def Has (CX : CXT) (k : Nat) (x : Str) (ps : List Str) (sp : Sp) : Prop :=
  ∃ (f : Addr) (fd : FuncData), mg x = some (.ref f) ∧ PySem.W.keepIn K (.ref f) = true ∧ Binds K fd ps [] ∧ FnOk P w K mg base CX k f fd ps sp
/-- the def x of the module's top is the statement st -/
def Top (x : Str) (st : Stmt) (ps : List Str) : Prop := ∃ (f : Addr) (fd : FuncData), mg x = some (.ref f) ∧ Fun K x x st f fd ∧ Binds K fd ps []
end
section
variable {P : Program} {w : World} {K : PySem.W.Frag} {mg : Str → Option Value} {base : Heap}
theorem Has.mono {CX : CXT} {j k : Nat} {x : Str} {ps : List Str} {sp : Sp} (h : Has P w K mg base CX j x ps sp) (l : j ≤ k) : Has P w K mg base CX k x ps sp :=
  let ⟨f, fd, a, b, c, d⟩ := h
  ⟨f, fd, a, b, c, d.mono l⟩
theorem Has.imp {CX : CXT} {k : Nat} {x : Str} {ps : List Str} {sp sp' : Sp} (h : Has P w K mg base CX k x ps sp) (i : ∀ vs H Q E, sp' vs H Q E → sp vs H Q E) : Has P w K mg base CX k x ps sp' :=
  let ⟨f, fd, a, b, c, d⟩ := h
  ⟨f, fd, a, b, c, d.imp i⟩
/-- THE RULE for a def that raises nothing -/
theorem Top.ok {x : Str} {st : Stmt} {N ps : List Str} {k : Nat} {sp : Sp} (T : Top K mg x st ps) (S : FnScope N ps (defScope st)) (len : ∀ vs H Q E, sp vs H Q E → vs.length = ps.length)
    (hbody : ∀ (f : Addr) (cdv : Value) (A : Around) (outer : List Env) (s : Shared) (H : Hp) (vs : List V) (Q : VK) (E : XK), Room k (A.deeper (envOfC x (defScope st) s.heap.objs.size f cdv)) → sp vs H Q E →
      ∃ t, PSs (cxOf CX0 P w K mg base N x (defScope st) f cdv A outer s H E).nox (defBody st) t ∧ t { nx := fun _ H' => Q .non H', rt := Q } (start N vs) H) : Has P w K mg base CX0 (k + 1) x ps sp := by
  obtain ⟨f, fd, hm, F, b⟩ := T
  exact ⟨f, fd, hm, F.kp, b, F.ok S len fun cdv A outer s H vs Q E hr h => hbody f cdv A outer s H vs Q E hr h⟩
end
/-- a call of such a def -/
theorem pe_has {X : Cx} {k : Nat} {x : Str} {ps : List Str} {sp : Sp} {e : Expr} {es : List Expr} {t : TA} {p pos : Pos} (h : Has X.prog X.w X.K X.mg X.base CX0 k x ps sp) (hr : Room k X.A) (hg : Gl X x) (ha : PA X (e :: es) t)
    (hdb : (x == ("__debug__" : Str)) = false := by decide) (he : starEach (e :: es) X.env = (false, eval e X.env) :: starEach es X.env := by rfl) (hpl : (backTo pos (starEach es X.env)).any (·.1) = false := by rfl) :
    PE X (.Call (.Name x p) (e :: es) [] pos) (tCall sp [] E0 t) := by
  obtain ⟨f, fd, hm, hk, hb, F⟩ := h
  exact pe_call F hr hg hm hk hb .nil pass0 ha hdb he hpl
end Lt

set_option Elab.async false
set_option linter.all false
set_option maxRecDepth 100000
set_option maxHeartbeats 4000000
/-! errors of the program's own -/
namespace L2
open PySem PySem.Spec PyProof.Rows
section
variable {X : Cx} {pos : Pos}
/-- X(), X an own exception class without own __init__ -/
theorem pmk_own0 {C : Addr} {bmB : List Value} {B newId initId : String} {x : Str} {p : Pos} (F : ExcBaseFacts B newId initId bmB) (q : PySem.W.excIn X.K C bmB newId = true) (gC : X.mg x = some (.ref C))
    (kC : PySem.W.keepIn X.K (.ref C) = true) (r : Raises X (.ref C)) (hg : Gl X x) (hdb : (x == ("__debug__" : Str)) = false := by decide) :
    PMk X (.Call (.Name x p) [] [] pos) (fun _ H Q => Q (.ref C) none H) := by
  intro pins s σ H Q I h
  refine wpAny_Call_Name_kw (ld_glob I hg gC ?_ hdb)
  refine PySem.W.callWith_K0 I.kIn kC ?_
  obtain ⟨bm, N, nm, qn, bs, hdct, sn, sub, ab, col, dd, k0, k1, k2, k3, k5, mN, hC, hN, hni, T⟩ := exc_obj I.kIn q
  exact wpAny_call_exc_subT F T hC hN hni (fun h' e hm => mk_of I hm r h (I.hok.gone hm.new)) (Nat.zero_le _)
end
end L2
namespace Lt
open PySem PySem.Spec PyProof.Rows L2
/-- __init__(self, f): self.f = f -/
def spInit (K : PySem.W.Frag) (fld : Str) : Sp := fun vs H Q _ => ∃ (a C : Addr) (v : V), vs = [.ref a, v] ∧ OexC K C ∧ PySem.W.findIn K (.ref C) fld = some none ∧ H a = some (exo a C none) ∧
  ∀ dx, H dx = none → dx ≠ a → Q .non (upd (upd H dx (exd dx [(fld, v)])) a (exo a C (some dx)))
section
variable (P : Program) (w : World) (K : PySem.W.Frag) (mg : Str → Option Value) (base : Heap)
/-- an own error class with the field fld, set by its __init__ -/
structure ErrI (x fld : Str) (C : Addr) : Prop where
  oex : OexC K C
  g : mg x = some (.ref C)
  no : PySem.W.findIn K (.ref C) fld = some none
  init : ∃ fI fd, PySem.W.findIn K (.ref C) "__init__" = some (some (.ref fI)) ∧ PySem.W.typeIn K (.ref fI) = some (.type "function") ∧ Binds K fd ["self", fld] [] ∧ FnOk P w K mg base CX0 1 fI fd ["self", fld] (spInit K fld)
  xf : XfC K C
  exm : PySem.W.exmOne K (.ref C) (.ref C) = some true
/-- one without -/
structure Err0 (x : Str) (C : Addr) : Prop where
  q : PySem.W.excIn K C [.type "ValueError", .type "Exception", .type "BaseException", .type "object"] "ValueError.__new__" = true
  g : mg x = some (.ref C)
  k : PySem.W.keepIn K (.ref C) = true
  exC : PySem.W.subIn K (.ref C) (.type "BaseException") = some true
  tyC : PySem.W.typeIn K (.ref C) = some (.type "type")
  exm : PySem.W.exmOne K (.ref C) (.ref C) = some true
end
/-- an error with its field lies behind H -/
def BadF (C : Addr) (fld : Str) (v : V) (H : Hp) (E : XK) : Prop := ∀ d H', Same H H' → H' d = some (.xd [(fld, v)]) → E (.ref C) (some d) H'
/-- an error without fields -/
def Bad0 (C : Addr) (H : Hp) (E : XK) : Prop := ∀ H', Same H H' → E (.ref C) none H'
theorem BadF.same {C : Addr} {fld : Str} {v : V} {H H' : Hp} {E : XK} (h : BadF C fld v H E) (s : Same H H') : BadF C fld v H' E := fun d H2 s2 => h d H2 (s.trans s2)
theorem Bad0.same {C : Addr} {H H' : Hp} {E : XK} (h : Bad0 C H E) (s : Same H H') : Bad0 C H' E := fun H2 s2 => h H2 (s.trans s2)
theorem mk_read {K : PySem.W.Frag} {C : Addr} {fld : Str} {v : V} {H1 : Hp} {Q : XK} (oex : OexC K C) (no : PySem.W.findIn K (.ref C) fld = some none) (h : BadF C fld v H1 Q) :
    [v].length ≤ 1000 ∧ ∀ a, H1 a = none → spInit K fld (.ref a :: ([v] ++ [])) (upd H1 a (exo a C none))
      (fun u H2 => u = .non ∧ ∃ (d : Addr) (fs : List (Str × V)), H2 a = some (exo a C (some d)) ∧ H2 d = some (exd d fs) ∧ H1 d = none ∧ Q (.ref C) (some d) (upd (del H2 a) d (.xd fs))) (fun _ _ _ => False) := by
  refine ⟨by show 1 ≤ 1000; omega, fun a ha => ⟨a, C, v, rfl, oex, no, upd_same, fun dx hdx hne => ⟨rfl, dx, [(fld, v)], upd_same, ?_, ?_, ?_⟩⟩⟩
  · rw [upd_ne hne, upd_same]
  · rw [upd_ne hne] at hdx
    exact hdx
  · rw [upd_ne hne] at hdx
    refine h dx _ (fun b o e => ?_) upd_same
    have h1 : b ≠ a := ne_of_none e ha
    have h2 : b ≠ dx := ne_of_none e hdx
    rw [upd_ne h2, del_ne h1, upd_ne h1, upd_ne h2, upd_ne h1]
    exact e
section
variable {X : Cx} {P : Program} {w : World} {K : PySem.W.Frag} {mg : Str → Option Value} {base : Heap}
/-- raise X(e) -/
theorem pmk_errI {x fld : Str} {C : Addr} {e : Expr} {ta : TA} {p pos : Pos} (T : ErrI X.prog X.w X.K X.mg X.base x fld C) (hr : Room 2 X.A) (hg : Gl X x) (ha : PA X [e] ta)
    (hdb : (x == ("__debug__" : Str)) = false := by decide) (he : starEach (e :: []) X.env = (false, eval e X.env) :: starEach [] X.env := by rfl) (hpl : (backTo pos (starEach [] X.env)).any (·.1) = false := by rfl) :
    PMk X (.Call (.Name x p) [e] [] pos) (tMkO C (spInit X.K fld) [] ta) := by
  obtain ⟨fI, fd, iC, tI, b, F⟩ := T.init
  exact pmk_oex T.oex iC tI F hr b .nil pass0 hg T.g ha hdb he hpl
theorem pmk_err0 {x : Str} {C : Addr} {p pos : Pos} (T : Err0 X.K X.mg x C) (hg : Gl X x) (hdb : (x == ("__debug__" : Str)) = false := by decide) :
    PMk X (.Call (.Name x p) [] [] pos) (fun _ H Q => Q (.ref C) none H) := pmk_own0 PySem.F.excBase_ValueError T.q T.g T.k (raises_own T.exC T.tyC) hg hdb
/-- THE RULE for a def that may raise -/
theorem Top.okX {x : Str} {st : Stmt} {N ps : List Str} {k : Nat} {sp : Sp} (T : Top K mg x st ps) (S : FnScope N ps (defScope st)) (len : ∀ vs H Q E, sp vs H Q E → vs.length = ps.length)
    (hbody : ∀ (f : Addr) (cdv : Value) (A : Around) (outer : List Env) (s : Shared) (H : Hp) (vs : List V) (Q : VK) (E : XK), Room k (A.deeper (envOfC x (defScope st) s.heap.objs.size f cdv)) → sp vs H Q E →
      ∃ t, PSs (cxOf (L2.CX P w) P w K mg base N x (defScope st) f cdv A outer s H E) (defBody st) t ∧ t { nx := fun _ H' => Q .non H', rt := Q } (start N vs) H) : Has P w K mg base (L2.CX P w) (k + 1) x ps sp := by
  obtain ⟨f, fd, hm, F, b⟩ := T
  exact ⟨f, fd, hm, F.kp, b, F.okX S len fun cdv A outer s H vs Q E hr h => hbody f cdv A outer s H vs Q E hr h⟩
/-- a call of a def that may raise, in a body that lets it out -/
theorem pe_hasX {k : Nat} {x : Str} {ps : List Str} {sp : Sp} {e : Expr} {es : List Expr} {t : TA} {p pos : Pos} {E : XK} (h : Has X.prog X.w X.K X.mg X.base (L2.CX X.prog X.w) k x ps sp) (hr : Room k X.A) (hg : Gl X x) (hx : Passes (L2.CX X.prog X.w) X E) (ha : PA X (e :: es) t)
    (hdb : (x == ("__debug__" : Str)) = false := by decide) (he : starEach (e :: es) X.env = (false, eval e X.env) :: starEach es X.env := by rfl) (hpl : (backTo pos (starEach es X.env)).any (·.1) = false := by rfl) :
    PE X (.Call (.Name x p) (e :: es) [] pos) (tCall sp [] E t) := by
  obtain ⟨f, fd, hm, hk, hb, F⟩ := h
  exact pe_call F hr hg hm hk hb .nil hx ha hdb he hpl
/-- the same where what is raised is caught around -/
theorem pe_hasS {k : Nat} {x : Str} {ps : List Str} {sp : Sp} {e : Expr} {es : List Expr} {t : TA} {p pos : Pos} {E : L2.St → XK} (h : Has X.prog X.w X.K X.mg X.base (L2.CX X.prog X.w) k x ps sp) (hr : Room k X.A) (hg : Gl X x) (hx : ∀ σ, PassesAt (L2.CX X.prog X.w) X σ (E σ)) (ha : PA X (e :: es) t)
    (hdb : (x == ("__debug__" : Str)) = false := by decide) (he : starEach (e :: es) X.env = (false, eval e X.env) :: starEach es X.env := by rfl) (hpl : (backTo pos (starEach es X.env)).any (·.1) = false := by rfl) :
    PE X (.Call (.Name x p) (e :: es) [] pos) (tCallS sp E t) := by
  obtain ⟨f, fd, hm, hk, hb, F⟩ := h
  exact pe_callS F hr hg hm hk hb hx ha hdb he hpl
end
/-- no error is wished for: the same def as one that raises nothing -/
theorem pe_hasL {X : Cx} {k : Nat} {x : Str} {ps : List Str} {sp : Sp} {e : Expr} {es : List Expr} {t : TA} {p pos : Pos} (h : Has X.prog X.w X.K X.mg X.base (L2.CX X.prog X.w) k x ps sp) (hr : Room k X.A) (hg : Gl X x) (ha : PA X (e :: es) t)
    (hdb : (x == ("__debug__" : Str)) = false := by decide) (he : starEach (e :: es) X.env = (false, eval e X.env) :: starEach es X.env := by rfl) (hpl : (backTo pos (starEach es X.env)).any (·.1) = false := by rfl) :
    PE X (.Call (.Name x p) (e :: es) [] pos) (tCall sp [] E0 t) := pe_hasX h hr hg passL ha hdb he hpl
end Lt

set_option linter.all false
set_option Elab.async false
/-! permutations as lists of numbers; the turns that given ones make -/
namespace Lt
def IsP (n : Nat) (t : List Nat) : Prop := t.Perm (List.range n)
instance (n : Nat) (t : List Nat) : Decidable (IsP n t) := inferInstanceAs (Decidable (t.Perm (List.range n)))
theorem IsP.len {n : Nat} {t : List Nat} (h : IsP n t) : t.length = n := by
  have e := List.Perm.length_eq h
  rw [List.length_range] at e
  exact e
theorem IsP.nd {n : Nat} {t : List Nat} (h : IsP n t) : t.Nodup := (List.Perm.nodup_iff h).mpr List.nodup_range
theorem IsP.mem {n : Nat} {t : List Nat} (h : IsP n t) {i : Nat} : i ∈ t ↔ i < n := (List.Perm.mem_iff h).trans List.mem_range
theorem IsP.lt {n : Nat} {t : List Nat} (h : IsP n t) : ∀ i ∈ t, i < n := fun i hi => h.mem.mp hi
theorem IsP.still (n : Nat) : IsP n (List.range n) := List.Perm.refl _
def prod (x y : List Nat) : List Nat := x.map fun i => y.getD i 0
theorem prod_len (x y : List Nat) : (prod x y).length = x.length := List.length_map ..
theorem map_getD_range : ∀ (y : List Nat), (List.range y.length).map (fun i => y.getD i 0) = y := fun y => by
  apply List.ext_getElem?
  intro i
  rw [List.getElem?_map]
  by_cases h : i < y.length
  · rw [List.getElem?_range h, Option.map_some, List.getD_eq_getElem?_getD, List.getElem?_eq_getElem h, Option.getD_some]
  · rw [List.getElem?_eq_none (by rw [List.length_range]; omega), List.getElem?_eq_none (by omega), Option.map_none]
theorem IsP.prod {n : Nat} {x y : List Nat} (hx : IsP n x) (hy : IsP n y) : IsP n (prod x y) := by
  have h : (Lt.prod x y).Perm ((List.range n).map fun i => y.getD i 0) := List.Perm.map _ hx
  have e := map_getD_range y
  rw [hy.len] at e
  rw [e] at h
  exact h.trans hy
theorem prod_still_l {n : Nat} {x : List Nat} (hx : x.length = n) : prod (List.range n) x = x := by
  subst hx
  exact map_getD_range x
theorem getD_range {n i : Nat} (h : i < n) : (List.range n).getD i 0 = i := by
  rw [List.getD_eq_getElem?_getD, List.getElem?_range h, Option.getD_some]
theorem prod_still_r {n : Nat} {x : List Nat} (hx : ∀ i ∈ x, i < n) : prod x (List.range n) = x := by
  unfold prod
  refine (List.map_congr_left (g := id) fun i hi => ?_).trans (List.map_id x)
  exact getD_range (hx i hi)
theorem prod_assoc {x y z : List Nat} (hx : ∀ i ∈ x, i < y.length) : prod (prod x y) z = prod x (prod y z) := by
  unfold prod
  rw [List.map_map]
  refine List.map_congr_left fun i hi => ?_
  show z.getD (y.getD i 0) 0 = (y.map fun i => z.getD i 0).getD i 0
  rw [List.getD_eq_getElem?_getD (l := y.map _), List.getElem?_map, List.getD_eq_getElem?_getD (l := y), List.getElem?_eq_getElem (hx i hi)]
  rfl
def inv (t : List Nat) : List Nat := (List.range t.length).map fun p => t.idxOf p
theorem inv_len (t : List Nat) : (inv t).length = t.length := by
  unfold inv
  rw [List.length_map, List.length_range]
theorem map_idxOf {t : List Nat} (h : t.Nodup) : t.map (fun p => t.idxOf p) = List.range t.length := by
  apply List.ext_getElem?
  intro i
  rw [List.getElem?_map]
  by_cases hi : i < t.length
  · rw [List.getElem?_range hi, List.getElem?_eq_getElem hi, Option.map_some, h.idxOf_getElem i hi]
  · rw [List.getElem?_eq_none (by omega), List.getElem?_eq_none (by rw [List.length_range]; omega), Option.map_none]
theorem IsP.inv {n : Nat} {t : List Nat} (h : IsP n t) : IsP n (inv t) := by
  have e := map_idxOf h.nd
  rw [h.len] at e
  have h2 : ((List.range n).map fun p => t.idxOf p).Perm (t.map fun p => t.idxOf p) := List.Perm.map _ (List.Perm.symm h)
  rw [e] at h2
  unfold IsP Lt.inv
  rw [h.len]
  exact h2
theorem prod_inv_r {n : Nat} {t : List Nat} (h : IsP n t) : prod t (inv t) = List.range n := by
  have e : prod t (inv t) = t.map fun p => t.idxOf p := by
    unfold prod
    refine List.map_congr_left fun p hp => ?_
    have hl : p < t.length := by rw [h.len]; exact h.lt p hp
    show ((List.range t.length).map fun p => t.idxOf p).getD p 0 = t.idxOf p
    rw [List.getD_eq_getElem?_getD, List.getElem?_map, List.getElem?_range hl]
    rfl
  rw [e, map_idxOf h.nd, h.len]
theorem prod_inv_l {n : Nat} {t : List Nat} (h : IsP n t) : prod (inv t) t = List.range n := by
  unfold prod inv
  rw [List.map_map, h.len]
  refine (List.map_congr_left (g := id) fun p hp => ?_).trans (List.map_id _)
  have hm : p ∈ t := h.mem.mpr (List.mem_range.mp hp)
  show t.getD (t.idxOf p) 0 = p
  rw [List.getD_eq_getElem?_getD, List.getElem?_eq_getElem (List.idxOf_lt_length_of_mem hm), Option.getD_some, List.getElem_idxOf]
theorem inv_unique {n : Nat} {a b : List Nat} (ha : IsP n a) (hb : IsP n b) (h : prod a b = List.range n) : b = inv a := by
  have h1 : prod (prod (inv a) a) b = prod (inv a) (prod a b) := prod_assoc fun i hi => by rw [ha.len]; exact ha.inv.lt i hi
  rw [prod_inv_l ha, h, prod_still_l hb.len, prod_still_r ha.inv.lt] at h1
  exact h1
theorem inv_prod {n : Nat} {a b : List Nat} (ha : IsP n a) (hb : IsP n b) : inv (prod a b) = prod (inv b) (inv a) := by
  refine (inv_unique (ha.prod hb) (hb.inv.prod ha.inv) ?_).symm
  rw [prod_assoc fun i hi => by rw [hb.len]; exact ha.lt i hi]
  rw [← prod_assoc (x := b) fun i hi => by rw [hb.inv.len]; exact hb.lt i hi, prod_inv_r hb, prod_still_l ha.inv.len, prod_inv_r ha]
/-! ### the turns that makers make, one behind another -/
abbrev W := List Nat × List Nat
/-- the words behind one turn with the makers gs, the first of which stands at place p -/
def grow (t w : List Nat) : List (List Nat) → Nat → List W → List W
  | [], _, L => L
  | g :: gs, p, L => grow t w gs (p + 1) (if prod t g ∈ L.map (·.1) then L else L ++ [(prod t g, w ++ [p])])
/-- the words when the first k have been gone through -/
def qq (gs : List (List Nat)) (n : Nat) : Nat → List W
  | 0 => [(List.range n, [])]
  | k + 1 => match (qq gs n k)[k]? with
    | none => qq gs n k
    | some (t, w) => grow t w gs 0 (qq gs n k)
theorem grow_pre (t w : List Nat) : ∀ (gs : List (List Nat)) (p : Nat) (L : List W), ∃ M, grow t w gs p L = L ++ M
  | [], _, L => ⟨[], (List.append_nil L).symm⟩
  | g :: gs, p, L => by
    show ∃ M, grow t w gs (p + 1) (if prod t g ∈ L.map (·.1) then L else L ++ [(prod t g, w ++ [p])]) = L ++ M
    split
    · exact grow_pre t w gs (p + 1) L
    · obtain ⟨M, e⟩ := grow_pre t w gs (p + 1) (L ++ [(prod t g, w ++ [p])])
      exact ⟨[(prod t g, w ++ [p])] ++ M, by rw [e, List.append_assoc]⟩
theorem qq_pre (gs : List (List Nat)) (n : Nat) : ∀ k, ∃ M, qq gs n (k + 1) = qq gs n k ++ M := fun k => by
  show ∃ M, (match (qq gs n k)[k]? with
    | none => qq gs n k
    | some (t, w) => grow t w gs 0 (qq gs n k)) = qq gs n k ++ M
  split
  · exact ⟨[], (List.append_nil _).symm⟩
  · exact grow_pre _ _ _ _ _
theorem qq_pre' (gs : List (List Nat)) (n k : Nat) : ∀ j, ∃ M, qq gs n (k + j) = qq gs n k ++ M
  | 0 => ⟨[], (List.append_nil _).symm⟩
  | j + 1 => by
    obtain ⟨M, e⟩ := qq_pre' gs n k j
    obtain ⟨M', e'⟩ := qq_pre gs n (k + j)
    exact ⟨M ++ M', by rw [← List.append_assoc, ← e, ← e']; rfl⟩
theorem qq_mono (gs : List (List Nat)) (n : Nat) {k m : Nat} (h : k ≤ m) : ∃ M, qq gs n m = qq gs n k ++ M := by
  obtain ⟨M, e⟩ := qq_pre' gs n k (m - k)
  rw [show k + (m - k) = m by omega] at e
  exact ⟨M, e⟩
/-- at the end nothing more comes -/
theorem qq_end (gs : List (List Nat)) (n : Nat) {k : Nat} (h : (qq gs n k).length ≤ k) : ∀ j, qq gs n (k + j) = qq gs n k
  | 0 => rfl
  | j + 1 => by
    have ih := qq_end gs n h j
    show (match (qq gs n (k + j))[k + j]? with
      | none => qq gs n (k + j)
      | some (t, w) => grow t w gs 0 (qq gs n (k + j))) = qq gs n k
    rw [ih, List.getElem?_eq_none (by omega)]
theorem qq_end' (gs : List (List Nat)) (n : Nat) {k m : Nat} (h : (qq gs n k).length ≤ k) (hm : k ≤ m) : qq gs n m = qq gs n k := by
  have e := qq_end gs n h (m - k)
  rw [show k + (m - k) = m by omega] at e
  exact e
theorem grow_keys (t w : List Nat) : ∀ (gs : List (List Nat)) (p : Nat) (L : List W) (x : List Nat), x ∈ (grow t w gs p L).map (·.1) ↔ x ∈ L.map (·.1) ∨ ∃ g ∈ gs, x = prod t g
  | [], _, L, x => by
    show x ∈ L.map (·.1) ↔ _
    simp
  | g :: gs, p, L, x => by
    show x ∈ (grow t w gs (p + 1) (if prod t g ∈ L.map (·.1) then L else L ++ [(prod t g, w ++ [p])])).map (·.1) ↔ _
    rw [grow_keys t w gs (p + 1)]
    split
    · rename_i h
      constructor
      · rintro (h1 | ⟨g', hg, e⟩)
        · exact .inl h1
        · exact .inr ⟨g', List.mem_cons_of_mem _ hg, e⟩
      · rintro (h1 | ⟨g', hg, e⟩)
        · exact .inl h1
        · rcases List.mem_cons.mp hg with z | hg
          · subst z
            rw [e]
            exact .inl h
          · exact .inr ⟨g', hg, e⟩
    · rw [List.map_append, List.mem_append]
      constructor
      · rintro ((h1 | h1) | ⟨g', hg, e⟩)
        · exact .inl h1
        · exact .inr ⟨g, List.mem_cons_self, List.mem_singleton.mp h1⟩
        · exact .inr ⟨g', List.mem_cons_of_mem _ hg, e⟩
      · rintro (h1 | ⟨g', hg, e⟩)
        · exact .inl (.inl h1)
        · rcases List.mem_cons.mp hg with z | hg
          · subst z
            exact .inl (.inr (List.mem_singleton.mpr e))
          · exact .inr ⟨g', hg, e⟩
theorem nodup_snoc {α : Type} {l : List α} {x : α} (h : l.Nodup) (hx : x ∉ l) : (l ++ [x]).Nodup :=
  List.nodup_append.mpr ⟨h, List.pairwise_singleton _ _, fun a ha b hb e => by
    rw [List.mem_singleton.mp hb] at e
    exact hx (e ▸ ha)⟩
theorem grow_nd (t w : List Nat) : ∀ (gs : List (List Nat)) (p : Nat) (L : List W), (L.map (·.1)).Nodup → ((grow t w gs p L).map (·.1)).Nodup
  | [], _, _, h => h
  | g :: gs, p, L, h => by
    refine grow_nd t w gs (p + 1) _ ?_
    split
    · exact h
    · rename_i hx
      rw [List.map_append]
      exact nodup_snoc h hx
theorem qq_nd (gs : List (List Nat)) (n : Nat) : ∀ k, ((qq gs n k).map (·.1)).Nodup
  | 0 => List.pairwise_singleton _ _
  | k + 1 => by
    show ((match (qq gs n k)[k]? with
      | none => qq gs n k
      | some (t, w) => grow t w gs 0 (qq gs n k)).map (fun x : W => x.1)).Nodup
    split
    · exact qq_nd gs n k
    · exact grow_nd _ _ _ _ _ (qq_nd gs n k)
/-- what the makers make -/
inductive Mk (gs : List (List Nat)) (n : Nat) : List Nat → Prop
  | still : Mk gs n (List.range n)
  | step {t g : List Nat} : Mk gs n t → g ∈ gs → Mk gs n (prod t g)
theorem Mk.isP {gs : List (List Nat)} {n : Nat} (hg : ∀ g ∈ gs, IsP n g) {t : List Nat} (h : Mk gs n t) : IsP n t := by
  induction h with
  | still => exact IsP.still n
  | step _ hm ih => exact ih.prod (hg _ hm)
theorem qq_mk (gs : List (List Nat)) (n : Nat) : ∀ k, ∀ t ∈ (qq gs n k).map (·.1), Mk gs n t
  | 0, t, h => by
    rw [List.mem_singleton.mp (show t ∈ [List.range n] from h)]
    exact .still
  | k + 1, t, h => by
    have ih := qq_mk gs n k
    have h' : t ∈ (match (qq gs n k)[k]? with
      | none => qq gs n k
      | some (t, w) => grow t w gs 0 (qq gs n k)).map (fun x : W => x.1) := h
    split at h'
    · exact ih t h'
    · rename_i t0 w0 e
      rcases (grow_keys t0 w0 gs 0 _ t).mp h' with z | ⟨g, hg, z⟩
      · exact ih t z
      · rw [z]
        exact .step (ih t0 (List.mem_map.mpr ⟨_, List.mem_of_getElem? e, rfl⟩)) hg
theorem qq_head (gs : List (List Nat)) (n k : Nat) : (List.range n, ([] : List Nat)) ∈ qq gs n k := by
  obtain ⟨M, e⟩ := qq_mono gs n (Nat.zero_le k)
  rw [e]
  exact List.mem_append.mpr (.inl (List.mem_singleton.mpr rfl))
/-- where the words are all gone through, they are all that is made -/
theorem qq_full {gs : List (List Nat)} {n k : Nat} (h : (qq gs n k).length ≤ k) : ∀ t, t ∈ (qq gs n k).map (·.1) ↔ Mk gs n t := fun t => by
  refine ⟨qq_mk gs n k t, fun m => ?_⟩
  induction m with
  | still => exact List.mem_map.mpr ⟨_, qq_head gs n k, rfl⟩
  | @step t g _ hg ih =>
    obtain ⟨⟨t', w'⟩, hm, e⟩ := List.mem_map.mp ih
    have e : t' = t := e
    subst e
    obtain ⟨i, hi, ei⟩ := List.getElem_of_mem hm
    -- position i was gone through at turn i
    have hk : i + 1 ≤ k := by omega
    obtain ⟨M, eM⟩ := qq_mono gs n hk
    obtain ⟨M0, eM0⟩ := qq_mono gs n (show i ≤ i + 1 by omega)
    by_cases hq : i < (qq gs n i).length
    · have g1 : (qq gs n i)[i]? = some (t', w') := by
        have z : (qq gs n k)[i]? = some (t', w') := by rw [List.getElem?_eq_getElem hi, ei]
        rw [eM, eM0, List.append_assoc, List.getElem?_append_left hq] at z
        exact z
      have g2 : qq gs n (i + 1) = grow t' w' gs 0 (qq gs n i) := by
        show (match (qq gs n i)[i]? with
          | none => qq gs n i
          | some (t, w) => grow t w gs 0 (qq gs n i)) = _
        rw [g1]
      rw [eM, List.map_append, List.mem_append]
      refine .inl ?_
      rw [g2]
      exact (grow_keys t' w' gs 0 _ _).mpr (.inr ⟨g, hg, rfl⟩)
    · have z := qq_end' gs n (show (qq gs n i).length ≤ i by omega) (show i ≤ k by omega)
      rw [z] at hi
      exact absurd hi hq
theorem nodup_len {α : Type} [DecidableEq α] : ∀ (l D : List α), l.Nodup → (∀ x ∈ l, x ∈ D) → l.length ≤ D.length
  | [], _, _, _ => Nat.zero_le _
  | x :: l, D, hn, hs => by
    obtain ⟨h1, h2⟩ := List.nodup_cons.mp hn
    have hx : x ∈ D := hs x List.mem_cons_self
    have ih := nodup_len l (D.erase x) h2 fun y hy => by
      have hne : y ≠ x := fun e => h1 (e ▸ hy)
      exact (List.mem_erase_of_ne hne).2 (hs y (List.mem_cons_of_mem _ hy))
    have e := List.length_erase_of_mem hx
    have hp : 0 < D.length := List.length_pos_of_mem hx
    show l.length + 1 ≤ D.length
    omega
/-- few turns are made: at most m -/
def Few (gs : List (List Nat)) (n m : Nat) : Prop := ∃ D : List (List Nat), D.length ≤ m ∧ ∀ t, Mk gs n t → t ∈ D
theorem Few.le {gs : List (List Nat)} {n m : Nat} (h : Few gs n m) {l : List (List Nat)} (hn : l.Nodup) (hl : ∀ t ∈ l, Mk gs n t) : l.length ≤ m := by
  obtain ⟨D, h1, h2⟩ := h
  exact Nat.le_trans (nodup_len l D hn fun t ht => h2 t (hl t ht)) h1
theorem Few.qq {gs : List (List Nat)} {n m : Nat} (h : Few gs n m) (k : Nat) : (qq gs n k).length ≤ m := by
  have z := h.le (qq_nd gs n k) (qq_mk gs n k)
  rw [List.length_map] at z
  exact z
end Lt

set_option Elab.async false
set_option linter.all false
set_option maxRecDepth 100000
set_option maxHeartbeats 4000000
namespace Lt
open PySem PySem.Spec PyProof.Rows L2
/-- the built-in names that the module leaves as they are -/
structure Bi (mg : Str → Option Value) : Prop where
  tuple : mg "tuple" = none
  list : mg "list" = none
  range : mg "range" = none
  len : mg "len" = none
  sorted : mg "sorted" = none
  enumerate : mg "enumerate" = none
  isinstance : mg "isinstance" = none
  all : mg "all" = none
  set : mg "set" = none
  int : mg "int" = none
  bool : mg "bool" = none
  str : mg "str" = none
/-! ### comprehensions -/
section
variable {K : PySem.W.Frag} {te : TE} {vs : List Nat} {σ : L2.St} {H1 : Hp} {D : Addr} {Qd : Hp → Prop} {β : Type} {j : Nat}
/-- what a comprehension's list holds after i turns -/
def Cm (H1 : Hp) (D : Addr) (R : Hp → V → β → Prop) (ys : List β) (i : Nat) (H : Hp) : Prop := Same H1 H ∧ ∃ zs, H D = some (.lst zs) ∧ Paired (R H) zs (ys.take i) ∧ zs.length ≤ i
theorem paired_mono {α γ : Type} {R R' : α → γ → Prop} (h : ∀ a b, R a b → R' a b) : ∀ {xs : List α} {ys : List γ}, Paired R xs ys → Paired R' xs ys
  | _, _, .nil => .nil
  | _, _, .cons r t => .cons (h _ _ r) (paired_mono h t)
theorem cm_turn {R : Hp → V → β → Prop} {ys : List β} {i : Nat} {H : Hp} {σ2 : L2.St} (mono : ∀ H H' v b, Tm H H' → R H v b → R H' v b) (hD : H1 D = none) (p : Cm H1 D R ys i H) (hi : i < 100000) {b : β} (hb : ys[i]? = some b)
    (he : ∀ H, Same H1 H → ∀ Q : VK, (∀ v H', Same H H' → R H' v b → Q v H') → te σ2 H Q) :
    te σ2 H fun y H4 => ∃ acc, H4 D = some (.lst acc) ∧ acc.length < sizeLine ∧ Cm H1 D R ys (i + 1) (upd H4 D (.lst (acc ++ [y]))) := by
  obtain ⟨sm, zs, hz, pr, hl⟩ := p
  refine he H sm _ fun v H4 s4 r => ?_
  have h4 := s4 _ _ hz
  have t4 : Tm H4 (upd H4 D (.lst (zs ++ [v]))) := Tm.lst h4
  refine ⟨zs, h4, Nat.lt_of_le_of_lt hl (Nat.lt_of_lt_of_le hi (by decide)), same_mut (sm.trans s4) hD, zs ++ [v], upd_same, ?_, by rw [List.length_append]; show zs.length + 1 ≤ i + 1; omega⟩
  rw [List.take_add_one, hb]
  exact Paired.app (paired_mono (fun a b q => mono _ _ _ _ ((Tm.of s4).trans t4) q) pr) (Paired.one (mono _ _ _ _ t4 r))
theorem lc_tupM {a : Addr} {xs : List V} (R : Hp → V → β → Prop) (ys : List β) (mono : ∀ H H' v b, Tm H H' → R H v b → R H' v b) (hx : SqT K H1 a xs) (hxK : ∀ H, Same H1 H → SqT K H a xs) (hz : xs.length ≤ 100000) (hy : ys.length = xs.length) (hD : H1 D = none)
    (hw : ∀ x, wipe ((wipe σ vs).set j (some x)) vs = wipe σ vs)
    (he : ∀ (i : Nat) (x : V) (b : β), xs[i]? = some x → ys[i]? = some b → ∀ H, Same H1 H → ∀ Q : VK, (∀ v H', Same H H' → R H' v b → Q v H') → te ((wipe σ vs).set j (some x)) H Q)
    (hd : ∀ H zs, Same H1 H → H D = some (.lst zs) → Paired (R H) zs ys → Qd H) :
    ∃ W : Nat → Nat → Hp → Prop, (∃ m, W 0 m (upd H1 D (.lst []))) ∧ ∀ i m H, W i m H →
      ((Itt K a).stop i H ∧ Qd H) ∨ ((Itt K a).go i H ∧ ∃ Nx : Hp → Prop, (∀ H', Nx H' → ∃ m', m' < m ∧ W (i + 1) m' H') ∧ ∀ x H', (Itt K a).yld i H x H' → gName j x (wipe σ vs) H' fun σ2 H2 => wipe σ2 vs = wipe σ vs ∧ tYes σ2 H2 fun b H3 =>
        if b = true then te σ2 H3 fun y H4 => ∃ acc, H4 D = some (.lst acc) ∧ acc.length < sizeLine ∧ Nx (upd H4 D (.lst (acc ++ [y]))) else Nx H3) :=
  lc_tup (xs := xs) (Cm H1 D R ys) ⟨same_new hD, [], upd_same, .nil, Nat.le_refl _⟩ (fun i H _ p => hxK H p.1)
    (fun i x H hi p => ⟨hw x, iteT (B := Cm H1 D R ys (i + 1) H) (by
      have hl := (List.getElem?_eq_some_iff.mp hi).1
      have hb : ys[i]? = some (ys[i]'(by omega)) := List.getElem?_eq_getElem (by omega)
      exact cm_turn mono hD p (by omega) hb (he i x _ hi hb))⟩)
    (fun H p => by
      obtain ⟨sm, zs, h1, pr, _⟩ := p
      rw [← hy, List.take_length] at pr
      exact hd H zs sm h1 pr)
theorem lc_listM {a : Addr} {xs : List V} (R : Hp → V → β → Prop) (ys : List β) (mono : ∀ H H' v b, Tm H H' → R H v b → R H' v b) (hxK : ∀ H, Same H1 H → SqL K H a xs) (hz : xs.length ≤ 100000) (hy : ys.length = xs.length) (hD : H1 D = none)
    (hw : ∀ x, wipe ((wipe σ vs).set j (some x)) vs = wipe σ vs)
    (he : ∀ (i : Nat) (x : V) (b : β), xs[i]? = some x → ys[i]? = some b → ∀ H, Same H1 H → ∀ Q : VK, (∀ v H', Same H H' → R H' v b → Q v H') → te ((wipe σ vs).set j (some x)) H Q)
    (hd : ∀ H zs, Same H1 H → H D = some (.lst zs) → Paired (R H) zs ys → Qd H) :
    ∃ W : Nat → Nat → Hp → Prop, (∃ m, W 0 m (upd H1 D (.lst []))) ∧ ∀ i m H, W i m H →
      ((Itl K a).stop i H ∧ Qd H) ∨ ((Itl K a).go i H ∧ ∃ Nx : Hp → Prop, (∀ H', Nx H' → ∃ m', m' < m ∧ W (i + 1) m' H') ∧ ∀ x H', (Itl K a).yld i H x H' → gName j x (wipe σ vs) H' fun σ2 H2 => wipe σ2 vs = wipe σ vs ∧ tYes σ2 H2 fun b H3 =>
        if b = true then te σ2 H3 fun y H4 => ∃ acc, H4 D = some (.lst acc) ∧ acc.length < sizeLine ∧ Nx (upd H4 D (.lst (acc ++ [y]))) else Nx H3) :=
  lc_list (xs := xs) (Cm H1 D R ys) ⟨same_new hD, [], upd_same, .nil, Nat.le_refl _⟩ (fun i H _ p => hxK H p.1)
    (fun i x H hi p => ⟨hw x, iteT (B := Cm H1 D R ys (i + 1) H) (by
      have hl := (List.getElem?_eq_some_iff.mp hi).1
      have hb : ys[i]? = some (ys[i]'(by omega)) := List.getElem?_eq_getElem (by omega)
      exact cm_turn mono hD p (by omega) hb (he i x _ hi hb))⟩)
    (fun H p => by
      obtain ⟨sm, zs, h1, pr, _⟩ := p
      rw [← hy, List.take_length] at pr
      exact hd H zs sm h1 pr)
theorem lc_rangeM {n : Nat} (R : Hp → V → β → Prop) (ys : List β) (mono : ∀ H H' v b, Tm H H' → R H v b → R H' v b) (hz : n ≤ 100000) (hy : ys.length = n) (hD : H1 D = none)
    (hw : ∀ x, wipe ((wipe σ vs).set j (some x)) vs = wipe σ vs)
    (he : ∀ (i : Nat) (b : β), i < n → ys[i]? = some b → ∀ H, Same H1 H → ∀ Q : VK, (∀ v H', Same H H' → R H' v b → Q v H') → te ((wipe σ vs).set j (some (.int ((0 : Int) + (i : Nat))))) H Q)
    (hd : ∀ H zs, Same H1 H → H D = some (.lst zs) → Paired (R H) zs ys → Qd H) :
    ∃ W : Nat → Nat → Hp → Prop, (∃ m, W 0 m (upd H1 D (.lst []))) ∧ ∀ i m H, W i m H →
      ((Itr 0 n).stop i H ∧ Qd H) ∨ ((Itr 0 n).go i H ∧ ∃ Nx : Hp → Prop, (∀ H', Nx H' → ∃ m', m' < m ∧ W (i + 1) m' H') ∧ ∀ x H', (Itr 0 n).yld i H x H' → gName j x (wipe σ vs) H' fun σ2 H2 => wipe σ2 vs = wipe σ vs ∧ tYes σ2 H2 fun b H3 =>
        if b = true then te σ2 H3 fun y H4 => ∃ acc, H4 D = some (.lst acc) ∧ acc.length < sizeLine ∧ Nx (upd H4 D (.lst (acc ++ [y]))) else Nx H3) :=
  lc_range (lo := 0) (n := n) (Cm H1 D R ys) ⟨same_new hD, [], upd_same, .nil, Nat.le_refl _⟩
    (fun i H hi p => ⟨hw _, iteT (B := Cm H1 D R ys (i + 1) H) (by
      have hb : ys[i]? = some (ys[i]'(by omega)) := List.getElem?_eq_getElem (by omega)
      exact cm_turn mono hD p (by omega) hb (he i _ hi hb))⟩)
    (fun H p => by
      obtain ⟨sm, zs, h1, pr, _⟩ := p
      rw [← hy, List.take_length] at pr
      exact hd H zs sm h1 pr)
end
/-- a new tuple of numbers -/
theorem tn_of {H : Hp} {zs : List V} {p : Addr} {t : List Nat} (h : H p = some (.tup zs)) (e : zs = nIs t) : TK H (.ref p) t := ⟨p, rfl, by rw [h, e]⟩
def RN (_ : Hp) (v : V) (n : Nat) : Prop := v = nI n
theorem RN.all {H : Hp} : ∀ {zs : List V} {t : List Nat}, Paired (RN H) zs t → zs = nIs t
  | _, _, .nil => rfl
  | _, _, .cons r t => by rw [(show _ = nI _ from r), RN.all t]; rfl
end Lt

set_option Elab.async false
set_option linter.all false
set_option maxRecDepth 100000
namespace Lt
open PySem PySem.Spec PyProof.Rows L2
def topS (i : Nat) : Stmt := PySem.Challenge.pw_lockturns_k10_whole_formulas.main.body.getD i (.Pass ⟨0, 0, 0, 0⟩)
abbrev s_BadLock : Stmt := topS 2
abbrev s_BadRow : Stmt := topS 3
abbrev s_BadSign : Stmt := topS 4
abbrev s_TooMany : Stmt := topS 5
abbrev s_is_number : Stmt := topS 12
abbrev s_are_numbers : Stmt := topS 13
abbrev s_is_permutation : Stmt := topS 14
abbrev s_still_of : Stmt := topS 15
abbrev s_product_of : Stmt := topS 16
abbrev s_back_of : Stmt := topS 17
abbrev s_rounds_of : Stmt := topS 18
abbrev s_bracket_of : Stmt := topS 19
abbrev s_words_of : Stmt := topS 20
abbrev s_group_of : Stmt := topS 21
abbrev s_all_turns : Stmt := topS 26
abbrev s_check_lock : Stmt := topS 27
abbrev s_made_words : Stmt := topS 28
abbrev s_is_turn : Stmt := topS 29
abbrev s_check_turn : Stmt := topS 30
abbrev s_derived : Stmt := topS 32
abbrev s_brackets_made : Stmt := topS 33
abbrev s_table_of : Stmt := topS 39
abbrev s_check_inputs : Stmt := topS 40
abbrev s_input_table : Stmt := topS 41
abbrev s_bits_of : Stmt := topS 42
abbrev s_formula_tree : Stmt := topS 43
abbrev s_placed_words : Stmt := topS 44
abbrev s_tree_from : Stmt := topS 45
abbrev s_expected : Stmt := topS 46
abbrev s_worth_of : Stmt := topS 47
abbrev s_undone_steps : Stmt := topS 49
abbrev s_written : Stmt := topS 52
abbrev s_check_row : Stmt := topS 53
abbrev s_is_step : Stmt := topS 54
abbrev s_products : Stmt := topS 55
abbrev s_yes_where : Stmt := topS 56
abbrev s_formula_row : Stmt := topS 58
abbrev s_many_steps : Stmt := topS 59
abbrev s_bracket_pairs : Stmt := topS 60
abbrev s_steps_for : Stmt := topS 61
abbrev s_both_steps : Stmt := topS 62
abbrev s_unless : Stmt := topS 63
abbrev s_law_taken : Stmt := topS 65
abbrev s_law_pick : Stmt := topS 66
abbrev s_law_permutation : Stmt := topS 67
abbrev s_law_behind : Stmt := topS 68
abbrev s_law_back : Stmt := topS 69
abbrev s_law_swap : Stmt := topS 70
abbrev s_law_span : Stmt := topS 71
abbrev s_law_known : Stmt := topS 72
abbrev s_law_lock : Stmt := topS 73
abbrev s_law_terms : Stmt := topS 74
abbrev s_law_tree : Stmt := topS 75
abbrev s_law_text : Stmt := topS 76
abbrev s_law_worth : Stmt := topS 77
abbrev s_law_bits : Stmt := topS 78
abbrev s_law_value : Stmt := topS 79
abbrev s_law : Stmt := topS 80
end Lt

set_option Elab.async false
set_option linter.all false
set_option maxRecDepth 100000
set_option maxHeartbeats 4000000
namespace Lt
open PySem PySem.Spec PyProof.Rows L2
section
variable {P : Program} {w : World} {K : PySem.W.Frag} {mg : Str → Option Value} {base : Heap}
/-! ### product_of -/
def spProd : Sp := fun vs H Q _ => ∃ (a b : V) (x y : List Nat), vs = [a, b] ∧ TN H a x ∧ TN H b y ∧ (∀ i ∈ x, i < y.length) ∧ x.length ≤ 1000 ∧ ∀ v H', Same H H' → TK H' v (prod x y) → Q v H'
theorem sc_product_of : FnScope ["one", "other", "place"] ["one", "other"] (defScope s_product_of) := ⟨rfl, rfl, rfl, by decide +kernel, rfl, by decide +kernel, by decide +kernel⟩
theorem has_product_of (T : Top K mg "product_of" s_product_of ["one", "other"]) (B : Bi mg) : Has P w K mg base CX0 1 "product_of" ["one", "other"] spProd := by
  refine T.ok sc_product_of (fun vs H Q E h => ?_) (fun f cdv A outer s H vs Q E hr h => ?_)
  · obtain ⟨a, b, x, y, rfl, _⟩ := h
    rfl
  · obtain ⟨a, b, x, y, rfl, ha, hb, hxy, hx, q⟩ := h
    refine ⟨_, pss_one (ps_ret (pe_tupleOf (by rfl) B.tuple (pe_lc (own := [("place", 2)]) (g := gName 2) (te := tOp (rIxT K) (tVar 1) (tVar 2)) (by rfl) sc_product_of.nd (pi_tup (pv 0)) (blkOk_by (own := [("place", 2)]) (N := ["one", "other", "place"]) (sc := defScope s_product_of) (by decide +kernel))
      (fun _ _ _ _ _ => pg_name (i := 2) sc_product_of.nd rfl (Or.inl rfl)) (fun _ _ _ _ _ => pts_nil) (fun _ _ _ _ _ => pe_ix ix_tup (pv 1) (pv 2) (fun _ _ => rfl))))), ?_⟩
    obtain ⟨pa, rfl, ea⟩ := ha
    obtain ⟨pb, rfl, eb⟩ := hb
    refine ⟨_, rfl, pa, rfl, ⟨_, ea.sq⟩, fun D hD => lc_tupM RN (prod x y) (fun _ _ _ _ _ r => r) (ea.sq) (fun H' sm => (ea.sm sm).sq) (by rw [nIs_len]; omega) (by rw [prod_len, nIs_len]) hD (fun x => rfl) (fun i v n hi hn H' sm Q' q' => ?_) (fun H' zs sm hz pr => ?_)⟩
    · rw [nIs_get] at hi
      obtain ⟨m, hm, rfl⟩ := Option.map_eq_some_iff.mp hi
      have hlt := hxy m (List.mem_of_getElem? hm)
      have e : n = y.getD m 0 := by
        have z : (prod x y)[i]? = some (y.getD m 0) := by
          unfold prod
          rw [List.getElem?_map, hm]
          rfl
        exact Option.some.inj (hn.symm.trans z)
      refine ⟨_, rfl, _, rfl, pb, _, _, nI n, rfl, rfl, (eb.sm sm).sq, atI_nat ?_, q' _ _ (Same.refl _) rfl⟩
      rw [nIs_get, e, List.getD_eq_getElem?_getD, List.getElem?_eq_getElem hlt]
      rfl
    · refine .inl ⟨D, zs, rfl, SqL.of hz, fun p hp => q _ _ (sm.trans (same_new hp)) (tn_of upd_same (RN.all pr))⟩
/-! ### still_of -/
def spStill : Sp := fun vs H Q _ => ∃ (n : Nat), vs = [nI n] ∧ n ≤ 1000 ∧ ∀ v H', Same H H' → TK H' v (List.range n) → Q v H'
theorem sc_still_of : FnScope ["size"] ["size"] (defScope s_still_of) := ⟨rfl, rfl, rfl, by decide +kernel, rfl, by decide +kernel, by decide +kernel⟩
theorem rgV_nat (n : Nat) : rgV 0 (n : Int) = nIs (List.range n) := by
  unfold rgV nIs
  have e : ((n : Int) - 0).toNat = n := by omega
  rw [e]
  refine List.map_congr_left fun i _ => ?_
  show V.int (0 + (i : Int)) = V.int (i : Int)
  rw [Int.zero_add]
theorem has_still_of (T : Top K mg "still_of" s_still_of ["size"]) (B : Bi mg) : Has P w K mg base CX0 1 "still_of" ["size"] spStill := by
  refine T.ok sc_still_of (fun vs H Q E h => ?_) (fun f cdv A outer s H vs Q E hr h => ?_)
  · obtain ⟨n, rfl, _⟩ := h
    rfl
  · obtain ⟨n, rfl, hn, q⟩ := h
    refine ⟨_, pss_one (ps_ret (pe_tupRg (by rfl) (by rfl) B.tuple (prg_1 (by rfl) B.range (pv 0)))), ?_⟩
    refine ⟨_, rfl, _, rfl, .of_le (by omega) (by omega) (by omega) (by omega), fun p hp => q _ _ (same_new hp) (tn_of upd_same (rgV_nat n))⟩
end
end Lt

set_option Elab.async false
set_option linter.all false
set_option maxRecDepth 100000
set_option maxHeartbeats 4000000
namespace Lt
open PySem PySem.Spec PyProof.Rows L2
/-! ### any plain value -/
mutual
inductive Rp (H : Hp) : V → PyData → Prop
  | non : Rp H .non .none
  | bl (b : Bool) : Rp H (.bl b) (.bool b)
  | int (i : Int) : Rp H (.int i) (.int i)
  | str (x : Str) : Rp H (.str x) (.str x)
  | lst {a : Addr} {xs : List V} {ds : List PyData} : H a = some (.lst xs) → RpAll H xs ds → Rp H (.ref a) (.list ds)
  | tup {a : Addr} {xs : List V} {ds : List PyData} : RT H a xs → RpAll H xs ds → Rp H (.ref a) (.tuple ds)
inductive RpAll (H : Hp) : List V → List PyData → Prop
  | nil : RpAll H [] []
  | cons {v : V} {vs : List V} {d : PyData} {ds : List PyData} : Rp H v d → RpAll H vs ds → RpAll H (v :: vs) (d :: ds)
end
mutual
theorem Rp.same {H H' : Hp} (e : Same H H') : ∀ (d : PyData) (v : V), Rp H v d → Rp H' v d
  | .none, _, .non => .non
  | .bool _, _, .bl b => .bl b
  | .int _, _, .int i => .int i
  | .str _, _, .str i => .str i
  | .list ds, _, .lst h a => .lst (e _ _ h) (RpAll.same e ds _ a)
  | .tuple ds, _, .tup h a => .tup (h.sm e) (RpAll.same e ds _ a)
theorem RpAll.same {H H' : Hp} (e : Same H H') : ∀ (ds : List PyData) (vs : List V), RpAll H vs ds → RpAll H' vs ds
  | [], _, .nil => .nil
  | d :: ds, _, .cons r t => .cons (Rp.same e d _ r) (RpAll.same e ds _ t)
end
mutual
theorem Rp.dp {K : PySem.W.Frag} {H : Hp} : ∀ (d : PyData) (v : V), Rp H v d → Dp K H v d
  | .none, _, .non => .non
  | .bool _, _, .bl b => .bl b
  | .int _, _, .int i => .int i
  | .str _, _, .str i => .str i
  | .list ds, _, .lst h a => .lst (SqL.of h) (RpAll.dp ds _ a)
  | .tuple ds, _, .tup h a => .tup h.sq (RpAll.dp ds _ a)
theorem RpAll.dp {K : PySem.W.Frag} {H : Hp} : ∀ (ds : List PyData) (vs : List V), RpAll H vs ds → DpAll K H vs ds
  | [], _, .nil => .nil
  | d :: ds, _, .cons r t => .cons (Rp.dp d _ r) (RpAll.dp ds _ t)
end
theorem RpAll.get {H : Hp} : ∀ {ds : List PyData} {vs : List V} {i : Nat} {v : V}, RpAll H vs ds → vs[i]? = some v → ∃ d, ds[i]? = some d ∧ Rp H v d
  | _, _, _, _, .nil, e => by simp at e
  | _, _, 0, _, .cons r _, e => by
    have e := Option.some.inj e
    subst e
    exact ⟨_, rfl, r⟩
  | _, _, i + 1, v, .cons _ t, e => by
    obtain ⟨d, h1, h2⟩ := RpAll.get (i := i) (v := v) t (by simpa using e)
    exact ⟨d, by simpa using h1, h2⟩
theorem RpAll.len {H : Hp} : ∀ {ds : List PyData} {vs : List V}, RpAll H vs ds → vs.length = ds.length
  | _, _, .nil => rfl
  | _, _, .cons _ t => by rw [List.length_cons, List.length_cons, RpAll.len t]
theorem rp_nats {H : Hp} : ∀ t : List Nat, RpAll H (nIs t) (t.map dN)
  | [] => .nil
  | n :: t => .cons (.int _) (rp_nats t)
theorem TN.rp {H : Hp} {v : V} {t : List Nat} (h : TN H v t) : Rp H v (dT t) := by
  obtain ⟨a, rfl, ha⟩ := h
  exact .tup ha (rp_nats t)
theorem TNs.rp {H : Hp} : ∀ {xs : List V} {ts : List (List Nat)}, Paired (TN H) xs ts → RpAll H xs (ts.map dT)
  | _, _, .nil => .nil
  | _, _, .cons r t => .cons r.rp (TNs.rp t)
theorem TT.rp {H : Hp} {v : V} {ts : List (List Nat)} (h : TT H v ts) : Rp H v (.tuple (ts.map dT)) := by
  obtain ⟨a, xs, rfl, ha, p⟩ := h
  exact .tup (.inl ha) (TNs.rp p)
def tyN : PyData → String
  | .none => "NoneType"
  | .bool _ => "bool"
  | .int _ => "int"
  | .str _ => "str"
  | .list _ => "list"
  | .tuple _ => "tuple"
  | .dict _ => "dict"
theorem rp_ty {K : PySem.W.Frag} {H : Hp} {v : V} {d : PyData} (h : Rp H v d) : TyX K H v (.type (tyN d)) := by
  cases h with
  | non => exact .base .non
  | bl b => exact .base (.bl b)
  | int b => exact .base (.int b)
  | str b => exact .base (.str b)
  | lst h _ => exact .base (.lst h)
  | tup h _ =>
    rcases h with h | ⟨o, h⟩
    · exact .base (.tup h)
    · exact .fTuple h
def isIntB : PyData → Bool
  | .int _ => true
  | .bool _ => true
  | _ => false
def isBl : PyData → Bool
  | .bool _ => true
  | _ => false
def isTup : PyData → Bool
  | .tuple _ => true
  | _ => false
def isStr : PyData → Bool
  | .str _ => true
  | _ => false
def isNum : PyData → Bool
  | .int _ => true
  | _ => false
theorem kit_int : ∀ d : PyData, kitB (tyN d) "int" = some (isIntB d)
  | .none => (by decide +kernel : kitB "NoneType" "int" = some false)
  | .bool _ => (by decide +kernel : kitB "bool" "int" = some true)
  | .int _ => (by decide +kernel : kitB "int" "int" = some true)
  | .str _ => (by decide +kernel : kitB "str" "int" = some false)
  | .list _ => (by decide +kernel : kitB "list" "int" = some false)
  | .tuple _ => (by decide +kernel : kitB "tuple" "int" = some false)
  | .dict _ => (by decide +kernel : kitB "dict" "int" = some false)
theorem kit_bool : ∀ d : PyData, kitB (tyN d) "bool" = some (isBl d)
  | .none => (by decide +kernel : kitB "NoneType" "bool" = some false)
  | .bool _ => (by decide +kernel : kitB "bool" "bool" = some true)
  | .int _ => (by decide +kernel : kitB "int" "bool" = some false)
  | .str _ => (by decide +kernel : kitB "str" "bool" = some false)
  | .list _ => (by decide +kernel : kitB "list" "bool" = some false)
  | .tuple _ => (by decide +kernel : kitB "tuple" "bool" = some false)
  | .dict _ => (by decide +kernel : kitB "dict" "bool" = some false)
theorem kit_tup : ∀ d : PyData, kitB (tyN d) "tuple" = some (isTup d)
  | .none => (by decide +kernel : kitB "NoneType" "tuple" = some false)
  | .bool _ => (by decide +kernel : kitB "bool" "tuple" = some false)
  | .int _ => (by decide +kernel : kitB "int" "tuple" = some false)
  | .str _ => (by decide +kernel : kitB "str" "tuple" = some false)
  | .list _ => (by decide +kernel : kitB "list" "tuple" = some false)
  | .tuple _ => (by decide +kernel : kitB "tuple" "tuple" = some true)
  | .dict _ => (by decide +kernel : kitB "dict" "tuple" = some false)
theorem kit_str : ∀ d : PyData, kitB (tyN d) "str" = some (isStr d)
  | .none => (by decide +kernel : kitB "NoneType" "str" = some false)
  | .bool _ => (by decide +kernel : kitB "bool" "str" = some false)
  | .int _ => (by decide +kernel : kitB "int" "str" = some false)
  | .str _ => (by decide +kernel : kitB "str" "str" = some true)
  | .list _ => (by decide +kernel : kitB "list" "str" = some false)
  | .tuple _ => (by decide +kernel : kitB "tuple" "str" = some false)
  | .dict _ => (by decide +kernel : kitB "dict" "str" = some false)
theorem rr_ty (n : String) : RelV (.ty n) (.type n) := rfl
section
variable {P : Program} {w : World} {K : PySem.W.Frag} {mg : Str → Option Value} {base : Heap}
/-! ### is_number -/
def spNum : Sp := fun vs H Q _ => ∃ (v : V) (d : PyData), vs = [v] ∧ Rp H v d ∧ Q (.bl (isNum d)) H
theorem sc_is_number : FnScope ["value"] ["value"] (defScope s_is_number) := ⟨rfl, rfl, rfl, by decide +kernel, rfl, by decide +kernel, by decide +kernel⟩
theorem has_is_number (T : Top K mg "is_number" s_is_number ["value"]) (B : Bi mg) : Has P w K mg base CX0 1 "is_number" ["value"] spNum := by
  refine T.ok sc_is_number (fun vs H Q E h => ?_) (fun f cdv A outer s H vs Q E hr h => ?_)
  · obtain ⟨v, d, rfl, _⟩ := h
    rfl
  · obtain ⟨v, d, rfl, hd, q⟩ := h
    refine ⟨_, pss_one (ps_ret (pe_and (pe_callB call_isi (by rfl) B.isinstance PyProof.Rows.boot_isinstance (pa_cons (pv 0) (pa_cons (pe_bltn (by rfl) B.int PyProof.Rows.boot_int (rr_ty "int")) pa_nil)))
      (pe_one (pe_not (pe_callB call_isi (by rfl) B.isinstance PyProof.Rows.boot_isinstance (pa_cons (pv 0) (pa_cons (pe_bltn (by rfl) B.bool PyProof.Rows.boot_bool (rr_ty "bool")) pa_nil))))))), ?_⟩
    refine ⟨_, rfl, v, .ty "int", _, _, isIntB d, rfl, .ty _, rp_ty hd, kit_ty (kit_int d), isIntB d, rfl, ite2 (fun h => ?_) (fun h => ?_)⟩
    · refine ⟨_, rfl, v, .ty "bool", _, _, isBl d, rfl, .ty _, rp_ty hd, kit_ty (kit_bool d), isBl d, rfl, ?_⟩
      have e : (!isBl d) = isNum d := by cases d <;> first | rfl | cases h
      show Q (.bl (!isBl d)) H
      rw [e]
      exact q
    · have e : false = isNum d := by cases d <;> first | rfl | exact absurd rfl h
      show Q (.bl false) H
      rw [e]
      exact q
end
end Lt

set_option Elab.async false
set_option linter.all false
set_option maxRecDepth 100000
set_option maxHeartbeats 4000000
namespace Lt
open PySem PySem.Spec PyProof.Rows L2
section
variable {P : Program} {w : World} {K : PySem.W.Frag} {mg : Str → Option Value} {base : Heap}
/-! ### are_numbers -/
def isNums : PyData → Bool
  | .tuple ds => ds.all isNum
  | _ => false
def spNums : Sp := fun vs H Q _ => ∃ (v : V) (d : PyData), vs = [v] ∧ Rp H v d ∧ (∀ ds, d = .tuple ds → ds.length ≤ 1000) ∧ ∀ H', Same H H' → Q (.bl (isNums d)) H'
theorem sc_are_numbers : FnScope ["value", "part"] ["value"] (defScope s_are_numbers) := ⟨rfl, rfl, rfl, by decide +kernel, rfl, by decide +kernel, by decide +kernel⟩
theorem bls_of : ∀ {zs : List V} {bs : List Bool}, Paired (fun v b => v = V.bl b) zs bs → zs = bs.map V.bl
  | _, _, .nil => rfl
  | _, _, .cons r t => by rw [r, bls_of t]; rfl
theorem has_are_numbers (T : Top K mg "are_numbers" s_are_numbers ["value"]) (B : Bi mg) (hN : Has P w K mg base CX0 1 "is_number" ["value"] spNum) : Has P w K mg base CX0 2 "are_numbers" ["value"] spNums := by
  refine T.ok sc_are_numbers (fun vs H Q E h => ?_) (fun f cdv A outer s H vs Q E hr h => ?_)
  · obtain ⟨v, d, rfl, _⟩ := h
    rfl
  · obtain ⟨v, d, rfl, hd, hl, q⟩ := h
    refine ⟨_, pss_one (ps_ret (pe_and (pe_callB call_isi (by rfl) B.isinstance PyProof.Rows.boot_isinstance (pa_cons (pv 0) (pa_cons (pe_bltn (by rfl) B.tuple PyProof.Rows.boot_tuple (rr_ty "tuple")) pa_nil)))
      (pe_one (pe_callB (cr_all (by rfl)) (by rfl) B.all PyProof.Rows.boot_all (pa_cons (pe_lc (own := [("part", 1)]) (g := gName 1) (te := tCall spNum [] E0 (tCons (tVar 1) tNil)) (by rfl) sc_are_numbers.nd (pi_tup (pv 0)) (blkOk_by (own := [("part", 1)]) (N := ["value", "part"]) (sc := defScope s_are_numbers) (by decide +kernel))
        (fun _ _ _ _ _ => pg_name (i := 1) sc_are_numbers.nd rfl (Or.inl rfl)) (fun _ _ _ _ _ => pts_nil) (fun _ _ _ _ _ => pe_has hN hr (by rfl) (pa_cons (pv 1) pa_nil))) pa_nil))))), ?_⟩
    refine ⟨_, rfl, v, .ty "tuple", _, _, isTup d, rfl, .ty _, rp_ty hd, kit_ty (kit_tup d), isTup d, rfl, ite2 (fun h => ?_) (fun h => ?_)⟩
    · cases hd with
      | @tup a xs ds ha hx =>
        have hlen := hl ds rfl
        have hxl := hx.len
        refine ⟨_, rfl, a, rfl, ⟨_, ha.sq⟩, fun D hD => lc_tupM (fun _ v b => v = V.bl b) (ds.map isNum) (fun _ _ _ _ _ r => r) (ha.sq) (fun H' sm => (ha.sm sm).sq) (by omega) (by rw [List.length_map, hxl]) hD (fun x => rfl) (fun i v n hi hn H' sm Q' q' => ?_) (fun H' zs sm hz pr => ?_)⟩
        · obtain ⟨d, e1, e2⟩ := hx.get hi
          rw [List.getElem?_map, e1] at hn
          have hn : isNum d = n := Option.some.inj hn
          exact ⟨_, rfl, v, d, rfl, Rp.same sm d _ e2, q' _ _ (Same.refl _) (by rw [hn])⟩
        · refine ⟨D, ds.map isNum, rfl, SqL.of (by rw [hz, bls_of pr]), ?_⟩
          have e : (ds.map isNum).all id = isNums (.tuple ds) := by rw [List.all_map]; rfl
          rw [e]
          exact q _ sm
      | non => cases h
      | bl => cases h
      | int => cases h
      | str => cases h
      | lst => cases h
    · have e : false = isNums d := by cases d <;> first | rfl | exact absurd rfl h
      show Q (.bl false) H
      rw [e]
      exact q _ (Same.refl _)
/-! ### is_permutation -/
def numOf : PyData → Int
  | .int i => i
  | _ => 0
def numsOf : PyData → List Int
  | .tuple ds => ds.map numOf
  | _ => []
def rangeI (n : Nat) : List Int := (List.range n).map Int.ofNat
def isPermD (d : PyData) (n : Nat) : Bool := isNums d && decide ((numsOf d).Perm (rangeI n))
def spPerm : Sp := fun vs H Q _ => ∃ (v : V) (d : PyData) (n : Nat), vs = [v, nI n] ∧ Rp H v d ∧ (∀ ds, d = .tuple ds → ds.length < 64) ∧ n < 64 ∧ ∀ H', Same H H' → Q (.bl (isPermD d n)) H'
theorem sc_is_permutation : FnScope ["value", "size"] ["value", "size"] (defScope s_is_permutation) := ⟨rfl, rfl, rfl, by decide +kernel, rfl, by decide +kernel, by decide +kernel⟩
theorem nums_vals {H : Hp} : ∀ {ds : List PyData} {xs : List V}, RpAll H xs ds → ds.all isNum = true → xs = (ds.map numOf).map V.int
  | _, _, .nil, _ => rfl
  | d :: ds, _, .cons r t, h => by
    rw [List.all_cons, Bool.and_eq_true] at h
    cases r with
    | int i => rw [nums_vals t h.2]; rfl
    | non => cases h.1
    | bl => cases h.1
    | str => cases h.1
    | lst => cases h.1
    | tup => cases h.1
theorem rgV_int (n : Nat) : rgV 0 (n : Int) = (rangeI n).map V.int := by
  unfold rgV rangeI
  have e : ((n : Int) - 0).toNat = n := by omega
  rw [e, List.map_map]
  refine List.map_congr_left fun i _ => ?_
  show V.int (0 + (i : Int)) = V.int (i : Int)
  rw [Int.zero_add]
theorem rangeI_sorted (n : Nat) : (rangeI n).Pairwise (· ≤ ·) := by
  unfold rangeI
  rw [List.pairwise_map]
  exact List.Pairwise.imp (fun {a b} h => Int.ofNat_le.mpr (Nat.le_of_lt h)) List.pairwise_lt_range
theorem dp_ints {K : PySem.W.Frag} {H : Hp} : ∀ t : List Int, DpAll K H (t.map V.int) (t.map PyData.int)
  | [] => .nil
  | n :: t => .cons (.int _) (dp_ints t)
theorem depth_ints : ∀ t : List Int, PyData.depthAll (t.map PyData.int) = 0
  | [] => rfl
  | n :: t => by
    show max (PyData.depth (.int n)) (PyData.depthAll (t.map PyData.int)) = 0
    rw [depth_ints t]
    rfl
theorem can_ints : ∀ t : List Int, PyData.canLayAll0 (t.map PyData.int) = true
  | [] => rfl
  | n :: t => by
    show (PyData.canLay0 (.int n) && PyData.canLayAll0 (t.map PyData.int)) = true
    rw [can_ints t]
    rfl
theorem sh_ints (t : List Int) : SeqAt.shaped (.list (t.map PyData.int)) = true := by
  show (PyData.canLayAll0 (t.map PyData.int) && decide (PyData.depthAll (t.map PyData.int) + 1 ≤ 64)) = true
  rw [can_ints, depth_ints]
  rfl
theorem eqv_ints (s t : List Int) : PyData.eqv (.list (s.map PyData.int)) (.list (t.map PyData.int)) = decide (s = t) := by
  show PyData.eqvAll (s.map PyData.int) (t.map PyData.int) = _
  refine eqvAll_map (fun x y => ?_) s t
  show (x == y) = decide (x = y)
  by_cases e : x = y
  · subst e; simp
  · rw [decide_eq_false e]
    exact beq_eq_false_iff_ne.mpr e
theorem has_is_permutation (T : Top K mg "is_permutation" s_is_permutation ["value", "size"]) (B : Bi mg) (hN : Has P w K mg base CX0 2 "are_numbers" ["value"] spNums) : Has P w K mg base CX0 3 "is_permutation" ["value", "size"] spPerm := by
  refine T.ok sc_is_permutation (fun vs H Q E h => ?_) (fun f cdv A outer s H vs Q E hr h => ?_)
  · obtain ⟨v, d, n, rfl, _⟩ := h
    rfl
  · obtain ⟨v, d, n, rfl, hd, hl, hn, q⟩ := h
    refine ⟨_, pss_one (ps_ret (pe_and (pe_has hN hr (by rfl) (pa_cons (pv 0) pa_nil))
      (pe_one (pe_cmpR (op_eqD hr.units) (pe_callB cr_sortIT (by rfl) B.sorted PyProof.Rows.boot_sorted (pa_cons (pv 0) pa_nil)) (pe_listRg (by rfl) (by rfl) B.list (prg_1 (by rfl) B.range (pv 1))) (nomark _))))), ?_⟩
    refine ⟨_, rfl, v, d, rfl, hd, (fun ds e => by have := hl ds e; omega), fun H1 s1 => ⟨isNums d, rfl, ite2 (fun h => ?_) (fun h => ?_)⟩⟩
    · cases hd with
      | @tup a xs ds ha hx =>
        have h : ds.all isNum = true := h
        have ex := nums_vals hx h
        have ha1 := ha.sm s1
        rw [ex] at ha1
        have hlen := hl ds rfl
        refine ⟨_, rfl, a, ds.map numOf, rfl, ha1.sq, by rw [List.length_map]; exact hlen, fun ns' p pm so hp => ?_⟩
        refine ⟨_, rfl, n, rfl, .of_le (by omega) (by omega) (by omega) (by omega), fun p2 hp2 => ?_⟩
        have e1 : upd (upd H1 p (.lst (ns'.map V.int))) p2 (.lst (rgV 0 n)) p = some (.lst (ns'.map V.int)) := by
          rw [upd_ne (fun z => by rw [← z, upd_same] at hp2; cases hp2), upd_same]
        refine ⟨.list (ns'.map PyData.int), .list ((rangeI n).map PyData.int), .lst (SqL.of e1) (dp_ints _), .lst (SqL.of (by rw [upd_same, rgV_int])) (dp_ints _), sh_ints _, sh_ints _, ?_⟩
        rw [eqv_ints]
        have e : decide (ns' = rangeI n) = isPermD (.tuple ds) n := by
          have hb : isNums (.tuple ds) = true := h
          unfold isPermD
          rw [hb, Bool.true_and]
          refine decide_eq_decide.mpr ⟨fun e => ?_, fun e => ?_⟩
          · rw [← e]
            exact pm.symm
          · exact List.Perm.eq_of_pairwise (fun x y _ _ h1 h2 => Int.le_antisymm h1 h2) so (rangeI_sorted n) (pm.trans e)
        rw [e]
        exact q _ ((s1.trans (same_new hp)).trans (same_new hp2))
      | non => cases h
      | bl => cases h
      | int => cases h
      | str => cases h
      | lst => cases h
    · have e : false = isPermD d n := by
        unfold isPermD
        have z : isNums d = false := by simpa using h
        rw [z]
        rfl
      show Q (.bl false) H1
      rw [e]
      exact q _ s1
end
end Lt

set_option Elab.async false
set_option linter.all false
set_option maxRecDepth 100000
set_option maxHeartbeats 4000000
namespace Lt
open PySem PySem.Spec PyProof.Rows L2
theorem for_enumT {K : PySem.W.Frag} {a : Addr} {xs : List V} {g : TG} {tb : TS} {D : Ends} {σ : L2.St} {H : Hp} (Pv : Nat → L2.St → Hp → Prop) (h0 : Pv 0 σ H) (hl : ∀ i σ H, i ≤ xs.length → Pv i σ H → SqT K H a xs)
    (hs : ∀ (i : Nat) (x : V) σ H T, xs[i]? = some x → Pv i σ H → H T = none → g (.ref T) σ (upd H T (.tup [nI i, x])) fun σ2 H2 => tb { D with nx := Pv (i + 1), ct := Pv (i + 1), bk := D.nx } σ2 H2) (hd : ∀ σ H, Pv xs.length σ H → D.nx σ H) :
    ∃ W : Nat → Nat → L2.St → Hp → Prop, (∃ m, W 0 m σ H) ∧ ∀ i m σ H, W i m σ H →
      ((Itet K a).stop i H ∧ D.nx σ H) ∨ ((Itet K a).go i H ∧ ∃ N : L2.St → Hp → Prop, (∀ σ' H', N σ' H' → ∃ m', m' < m ∧ W (i + 1) m' σ' H') ∧ ∀ x H', (Itet K a).yld i H x H' → g x σ H' fun σ2 H2 => tb { D with nx := N, ct := N, bk := D.nx } σ2 H2) := by
  refine ⟨fun i m σ H => m = xs.length - i ∧ i ≤ xs.length ∧ Pv i σ H, ⟨xs.length, by simp, Nat.zero_le _, h0⟩, ?_⟩
  rintro i m σ H ⟨rfl, hi, p⟩
  have q := hl i σ H hi p
  by_cases hlt : i < xs.length
  · refine .inr ⟨⟨xs, xs[i], q, by simp [hlt]⟩, Pv (i + 1), fun σ' H' p' => ⟨xs.length - (i + 1), by omega, rfl, hlt, p'⟩, fun x H' y => ?_⟩
    obtain ⟨T, z, rfl, hT, rfl, hz⟩ := y
    exact hs i z σ H T (hz xs q) p hT
  · have e : i = xs.length := by omega
    subst e
    exact .inl ⟨⟨xs, q, rfl⟩, hd σ H p⟩
section
variable {P : Program} {w : World} {K : PySem.W.Frag} {mg : Str → Option Value} {base : Heap}
/-! ### back_of -/
def spBack : Sp := fun vs H Q _ => ∃ (a : V) (t : List Nat) (n : Nat), vs = [a] ∧ TN H a t ∧ IsP n t ∧ n ≤ 1000 ∧ ∀ v H', Same H H' → TK H' v (inv t) → Q v H'
theorem sc_back_of : FnScope ["turn", "led_from", "place", "led"] ["turn"] (defScope s_back_of) := ⟨rfl, rfl, rfl, by decide +kernel, rfl, by decide +kernel, by decide +kernel⟩
theorem rep_zero (n : Nat) : (List.replicate n [V.int 0]).flatten = nIs (List.replicate n 0) := by
  induction n with
  | zero => rfl
  | succ n ih => rw [List.replicate_succ, List.flatten_cons, ih]; rfl
theorem inv_of {n : Nat} {t acc : List Nat} (h : IsP n t) (hl : acc.length = n) (ha : ∀ (j p : Nat), t[j]? = some p → acc[p]? = some j) : acc = inv t := by
  apply List.ext_getElem?
  intro p
  by_cases hp : p < n
  · have hm : p ∈ t := h.mem.mpr hp
    have hj := List.idxOf_lt_length_of_mem hm
    have e := ha (t.idxOf p) p (by rw [List.getElem?_eq_getElem hj, List.getElem_idxOf])
    rw [e]
    unfold inv
    rw [List.getElem?_map, h.len, List.getElem?_range hp]
    rfl
  · rw [List.getElem?_eq_none (by omega), List.getElem?_eq_none (by rw [inv_len, h.len]; omega)]
theorem nIs_set (t : List Nat) (i n : Nat) : (nIs t).set i (nI n) = nIs (t.set i n) := by
  unfold nIs
  rw [List.map_set]
theorem has_back_of (T : Top K mg "back_of" s_back_of ["turn"]) (B : Bi mg) : Has P w K mg base CX0 1 "back_of" ["turn"] spBack := by
  refine T.ok sc_back_of (fun vs H Q E h => ?_) (fun f cdv A outer s H vs Q E hr h => ?_)
  · obtain ⟨a, t, n, rfl, _⟩ := h
    rfl
  · obtain ⟨a, t, n, rfl, ⟨pa, rfl, ea⟩, ht, hn, q⟩ := h
    refine ⟨_, pss_cons (ps_set (i := 1) sc_back_of.nd rfl (Or.inl rfl) (pe_op op_rep (pe_lst (pa_cons pe_int pa_nil)) (pe_callB call_len_seq (by rfl) B.len PySem.boot_len (pa_cons (pv 0) pa_nil))))
      (pss_cons (ps_for PassesOwn.never rfl (pi_enumT (by rfl) B.enumerate (pa_cons (pv 0) pa_nil)) (pg_tup rfl (pgs_cons (pg_name (i := 2) sc_back_of.nd rfl (Or.inl rfl)) (pgs_cons (pg_name (i := 3) sc_back_of.nd rfl (Or.inl rfl)) pgs_nil)))
        (pss_one (ps_asg (pv 2) (pg_sub (pv 1) (pv 3) set_list))))
      (pss_one (ps_ret (pe_tupleOf (by rfl) B.tuple (pv 1))))), ?_⟩
    have hlen := ht.len
    refine ⟨by show 1 ≤ sizeLine; decide, fun l hl => ?_⟩
    have s1 := same_new (o := .lst [V.int 0]) hl
    refine ⟨_, rfl, pa, _, rfl, .inr (ea.sm s1).sq, l, (t.length : Int), [V.int 0], rfl, by rw [nIs_len], upd_same, by omega, by omega, ?_, fun p hp => ?_⟩
    · show 1 * (t.length : Int).toNat ≤ sizeLine
      rw [sizeLine_eq]
      omega
    have s2 : Same H _ := s1.trans (same_new (o := .lst (List.replicate (t.length : Int).toNat [V.int 0]).flatten) hp)
    have hp0 : H p = none := s1.free hp
    refine ⟨_, rfl, pa, _, rfl, (ea.sm s2).sq, for_enumT (K := K) (xs := nIs t) (fun i σ H' => ∃ (acc : List Nat) (x y : Option V), σ = [some (.ref pa), some (.ref p), x, y] ∧ Same H H' ∧ H' p = some (.lst (nIs acc)) ∧ acc.length = n ∧ ∀ (j z : Nat), j < i → t[j]? = some z → acc[z]? = some j)
      ⟨List.replicate n 0, none, none, rfl, s2, ?_, List.length_replicate .., fun j z hj => absurd hj (Nat.not_lt_zero _)⟩ (fun i σ H' _ ⟨_, _, _, _, sm, _⟩ => (ea.sm sm).sq) ?_ ?_⟩
    · rw [upd_same, ← rep_zero, hlen]
      rfl
    · rintro i x σ H' T hi ⟨acc, y2, y3, rfl, sm, hp', hacc, hj⟩ hT
      rw [nIs_get] at hi
      obtain ⟨m, hm, rfl⟩ := Option.map_eq_some_iff.mp hi
      have hmn : m < n := ht.lt m (List.mem_of_getElem? hm)
      have spT : p ≠ T := ne_of_none hp' hT
      have sT := same_new (o := .tup [nI i, nI m]) hT
      refine ⟨T, _, rfl, SqT.of upd_same, rfl, nI i, _, rfl, nI m, _, rfl, rfl, ?_⟩
      refine ⟨_, rfl, _, rfl, _, rfl, p, nIs acc, (m : Int), m, rfl, rfl, sT _ _ hp', ?_, ?_⟩
      · rw [nIs_len, hacc]
        exact Evl.ixN_nat hmn
      · refine ⟨acc.set m i, some (nI i), some (nI m), rfl, same_mut (sm.trans sT) hp0, ?_, by rw [List.length_set]; exact hacc, fun j z hji hz => ?_⟩
        · rw [upd_same, nIs_set]
        · by_cases e : j = i
          · subst e
            rw [hm] at hz
            have hz := Option.some.inj hz
            subst hz
            rw [List.getElem?_set_self (by omega)]
          · have hne : m ≠ z := fun q => e (nd_ix ht.nd hz (q ▸ hm))
            rw [List.getElem?_set_ne hne]
            exact hj j z (by omega) hz
    · rintro σ H' ⟨acc, y2, y3, rfl, sm, hp', hacc, hj⟩
      refine ⟨_, rfl, .inl ⟨p, nIs acc, rfl, SqL.of hp', fun r hr => q _ _ (sm.trans (same_new hr)) (tn_of upd_same ?_)⟩⟩
      rw [inv_of ht hacc fun j z hz => hj j z (by rw [nIs_len]; exact (List.getElem?_eq_some_iff.mp hz).1) hz]
end
end Lt

set_option Elab.async false
set_option linter.all false
set_option maxRecDepth 100000
set_option maxHeartbeats 4000000
namespace Lt
open PySem PySem.Spec PyProof.Rows L2
/-! ### dicts from turns to words -/
def keyN (t : List Nat) : List Key := t.map fun n : Nat => (Sum.inl (Int.ofNat n) : Key)
theorem keyN_inj {s t : List Nat} (h : keyN s = keyN t) : s = t := by
  unfold keyN at h
  exact (List.map_inj_right (fun x y e => by injection e with e; exact Int.ofNat.inj e)).mp h
def DE (H : Hp) (kv : List Key × V) (tw : List Nat × List Nat) : Prop := kv.1 = keyN tw.1 ∧ TN H kv.2 tw.2
def DW (H : Hp) (d : Addr) (L : List (List Nat × List Nat)) : Prop := ∃ kvs, H d = some (.dT kvs) ∧ Paired (DE H) kvs L
theorem DEs.tm {H H' : Hp} (e : Tm H H') : ∀ {kvs : List (List Key × V)} {L : List (List Nat × List Nat)}, Paired (DE H) kvs L → Paired (DE H') kvs L
  | _, _, .nil => .nil
  | _, _, .cons r t => .cons ⟨r.1, r.2.tm e⟩ (DEs.tm e t)
theorem DW.tm {H H' : Hp} {d : Addr} {L : List (List Nat × List Nat)} (h : DW H d L) (e : Tm H H') (ed : H' d = H d) : DW H' d L := let ⟨kvs, h1, h2⟩ := h; ⟨kvs, ed.trans h1, DEs.tm e h2⟩
theorem DW.same {H H' : Hp} {d : Addr} {L : List (List Nat × List Nat)} (h : DW H d L) (e : Same H H') : DW H' d L := let ⟨kvs, h1, h2⟩ := h; ⟨kvs, e _ _ h1, DEs.tm (.of e) h2⟩
theorem dw_none {H : Hp} {t : List Nat} : ∀ {kvs : List (List Key × V)} {L : List (List Nat × List Nat)}, Paired (DE H) kvs L → t ∉ L.map (·.1) → valV kvs (keyN t) = none
  | _, _, .nil, _ => rfl
  | p :: ps, q :: qs, .cons r s, h => by
    have hne : ¬ p.1 = keyN t := fun e => h (by
      rw [List.map_cons]
      rw [r.1] at e
      rw [keyN_inj e]
      exact List.mem_cons_self)
    rw [valV_neg hne]
    exact dw_none s fun m => h (List.mem_cons_of_mem _ m)
theorem dw_some {H : Hp} {t w : List Nat} : ∀ {kvs : List (List Key × V)} {L : List (List Nat × List Nat)}, Paired (DE H) kvs L → (L.map (·.1)).Nodup → (t, w) ∈ L → ∃ v, valV kvs (keyN t) = some v ∧ TN H v w
  | _, _, .nil, _, h => by cases h
  | p :: ps, q :: qs, .cons r s, hn, h => by
    rw [List.map_cons] at hn
    obtain ⟨h1, h2⟩ := List.nodup_cons.mp hn
    rcases List.mem_cons.mp h with e | h
    · subst e
      exact ⟨p.2, valV_pos r.1, r.2⟩
    · have hne : ¬ p.1 = keyN t := fun e => h1 (by
        rw [r.1] at e
        rw [keyN_inj e]
        exact List.mem_map.mpr ⟨_, h, rfl⟩)
      rw [valV_neg hne]
      exact dw_some s h2 h
theorem dw_isSome {H : Hp} {t : List Nat} {kvs : List (List Key × V)} {L : List (List Nat × List Nat)} (p : Paired (DE H) kvs L) (hn : (L.map (·.1)).Nodup) : (valV kvs (keyN t)).isSome = decide (t ∈ L.map (·.1)) := by
  by_cases h : t ∈ L.map (·.1)
  · obtain ⟨⟨t', w⟩, hm, e⟩ := List.mem_map.mp h
    have e : t' = t := e
    subst e
    obtain ⟨v, hv, _⟩ := dw_some p hn hm
    rw [hv, decide_eq_true h]
    rfl
  · rw [dw_none p h, decide_eq_false h]
    rfl
theorem TK.key {H : Hp} {v : V} {t : List Nat} (h : TK H v t) : ∃ b, v = .ref b ∧ H b = some (.tup ((keyN t).map kV)) := by
  obtain ⟨b, e, hb⟩ := h
  exact ⟨b, e, by rw [hb, nIs_key]; rfl⟩
theorem TN.key {H : Hp} {v : V} {t : List Nat} (h : TN H v t) : ∃ b, v = .ref b ∧ RT H b ((keyN t).map kV) := by
  obtain ⟨b, e, hb⟩ := h
  refine ⟨b, e, ?_⟩
  have z : nIs t = (keyN t).map kV := by rw [nIs_key]; rfl
  rw [← z]
  exact hb
theorem LT.tm {H H' : Hp} {a : Addr} {ts : List (List Nat)} (h : LT H a ts) (e : Tm H H') (ea : H' a = H a) : LT H' a ts := let ⟨xs, h1, h2⟩ := h; ⟨xs, ea.trans h1, TNs.tm e h2⟩
/-! ### d[k], k in d: the key to be read -/
def tDGetR (td ty : TE) : TE := fun σ H Q => td σ H fun x H1 => ty σ H1 fun y H2 => ∃ a v kvs k b, x = .ref a ∧ y = .ref b ∧ Rd H2 a (.dT kvs) ∧ RT H2 b (k.map kV) ∧ valV kvs k = some v ∧ Q v H2
def tDInR (ty td : TE) : TE := fun σ H Q => ty σ H fun y H1 => td σ H1 fun x H2 => ∃ a kvs k b, x = .ref a ∧ y = .ref b ∧ Rd H2 a (.dT kvs) ∧ RT H2 b (k.map kV) ∧ Q (.bl (valV kvs k).isSome) H2
theorem key_rd {P : Program} {w : World} {H : Hp} {h : Heap} {ks : List Key} {a : Addr} (ok : HOk P w H h) (e : RT H a (ks.map kV)) : (tupleKind (mixKind P w)).is h ks a := by
  have z : ObjOk P w H h a (.tup (ks.map kV)) := Rd.ok e ok
  obtain ⟨_, its, r, o, h1, h2, n, h3⟩ := z
  exact ⟨o, its.toArray, n, h1, h2, h3, by simpa using items_are r⟩
section
variable {X : Cx} {o i : Expr} {td ty : TE} {pos : Pos}
theorem pc_dinR (hu : X.A.units + 1 < cLine) (hi : PE X i ty) (ho : PE X o td) : PC X .In i o (tDInR ty td) := by
  refine ⟨fun pins s σ H Q I h => ?_⟩
  refine thn (hi.run pins s σ H _ I h) fun iv s1 ⟨y, H1, I1, ry, q1⟩ => thn (ho.run pins s1 σ H1 _ I1 q1) fun u s2 ⟨x, H2, I2, rx, a, kvs, k, b, ex, ey, hd, hb, q2⟩ => ?_
  subst ex ey
  obtain rfl : u = Value.ref a := rx
  obtain rfl : iv = Value.ref b := ry
  obtain ⟨z, hds, xs, rel, dd⟩ := dt_rd I2.hok hd
  refine wpAny_in_heap (tupleKind_room_in1 hu) (key_rd I2.hok hb) hds dd ?_
  have q := (rel.val k).isSome_eq
  rw [Option.isSome_map] at q
  rw [← q]
  exact ⟨.bl (valV kvs k).isSome, H2, I2.tok _, rfl, q2⟩
theorem pe_dgetR (hu : X.A.units + 1 < cLine) (ho : PE X o td) (hi : PE X i ty) (hs : NoSl i) : PE X (.Subscript o i pos) (tDGetR td ty) := by
  refine ⟨fun pins s σ H Q I h => ?_⟩
  refine subD_of PySem.F.slot_dict_getitem.lookup hs (thn (ho.run pins s σ H _ I h) fun u s1 ⟨x, H1, I1, rx, q1⟩ => thn (hi.run pins s1 σ H1 _ I1 q1) fun iv s2 ⟨y, H2, I2, ry, a, v, kvs, k, b, ex, ey, hd, hb, hv, q2⟩ => ?_)
  subst ex ey
  obtain rfl : u = Value.ref a := rx
  obtain rfl : iv = Value.ref b := ry
  obtain ⟨z, hds, xs, rel, dd⟩ := dt_rd I2.hok hd
  obtain ⟨w', hw, rw'⟩ := RelO.some_of (v := v) (o := (atKey xs k).map (·.2)) (by rw [← hv]; exact rel.val k)
  obtain ⟨p, hp, hp2⟩ := Option.map_eq_some_iff.mp hw
  have ht : s2.TypeIs (.ref a) "dict" := by
    obtain ⟨ob, _, _, h1, h2, _⟩ := dd
    exact ⟨ob, h1, h2.1⟩
  refine ⟨ht, wpAny_getItem_heap (tupleKind_room_in1 hu) (key_rd I2.hok hb) dd hp ?_⟩
  rw [hp2]
  exact ⟨v, H2, I2.tok _, rw', q2⟩
end
/-! ### the mirror's turns, maker by maker -/
theorem grow_app (t w : List Nat) : ∀ (xs ys : List (List Nat)) (p : Nat) (L : List (List Nat × List Nat)), grow t w (xs ++ ys) p L = grow t w ys (p + xs.length) (grow t w xs p L)
  | [], _, _, _ => rfl
  | x :: xs, ys, p, L => by
    show grow t w (xs ++ ys) (p + 1) _ = grow t w ys (p + (xs.length + 1)) (grow t w xs (p + 1) _)
    rw [grow_app t w xs ys (p + 1)]
    congr 1
    omega
theorem grow_next {t w : List Nat} {gs : List (List Nat)} {i : Nat} {g : List Nat} (h : gs[i]? = some g) (L : List (List Nat × List Nat)) :
    grow t w (gs.take (i + 1)) 0 L = if prod t g ∈ (grow t w (gs.take i) 0 L).map (·.1) then grow t w (gs.take i) 0 L else grow t w (gs.take i) 0 L ++ [(prod t g, w ++ [i])] := by
  have hl : i < gs.length := (List.getElem?_eq_some_iff.mp h).1
  have e : gs.take (i + 1) = gs.take i ++ [g] := by rw [List.take_add_one, h]; rfl
  rw [e, grow_app, List.length_take, Nat.min_eq_left (Nat.le_of_lt hl), Nat.zero_add]
  rfl
theorem grow_len (t w : List Nat) : ∀ (gs : List (List Nat)) (p : Nat) (L : List (List Nat × List Nat)), (grow t w gs p L).length ≤ L.length + gs.length
  | [], _, L => Nat.le_refl _
  | g :: gs, p, L => by
    have ih := grow_len t w gs (p + 1) (if prod t g ∈ L.map (·.1) then L else L ++ [(prod t g, w ++ [p])])
    show (grow t w gs (p + 1) _).length ≤ L.length + (gs.length + 1)
    split at ih
    · rename_i h
      rw [if_pos h]
      omega
    · rename_i h
      rw [if_neg h]
      rw [List.length_append] at ih
      have e : [(prod t g, w ++ [p])].length = 1 := rfl
      omega
theorem qq_len_le (gs : List (List Nat)) (n k : Nat) : ∀ i, (qq gs n (k + i)).length ≤ (qq gs n k).length + i * gs.length
  | 0 => by rw [Nat.zero_mul]; exact Nat.le_refl _
  | i + 1 => by
    have ih := qq_len_le gs n k i
    have e : (i + 1) * gs.length = i * gs.length + gs.length := Nat.succ_mul _ _
    show (match (qq gs n (k + i))[k + i]? with
      | none => qq gs n (k + i)
      | some (t, w) => grow t w gs 0 (qq gs n (k + i))).length ≤ _
    split
    · omega
    · rename_i t w _
      have := grow_len t w gs 0 (qq gs n (k + i))
      omega
/-- words[turn] + (place,) -/
theorem catA_tn {K : PySem.W.Frag} {H : Hp} {pw p : Addr} {w : List Nat} {j : Nat} {Q : VK} (hw : RT H pw (nIs w)) (hp : H p = some (.tup [nI j])) (hl : w.length ≤ 1000000) (q : ∀ v H', Same H H' → TN H' v (w ++ [j]) → Q v H') : rCatA K (.ref pw) (.ref p) H Q := by
  refine ⟨pw, p, nIs w, [nI j], rfl, rfl, hw.sq, SqT.of hp, ?_, fun e => ?_, fun _ e => (by cases e), fun _ _ p2 hp2 => ?_⟩
  · rw [nIs_len, sizeLine_eq]
    show w.length + 1 ≤ _
    omega
  · have e : w = [] := by
      cases w with
      | nil => rfl
      | cons a w => cases e
    subst e
    exact q _ _ (Same.refl _) ⟨p, rfl, .inl hp⟩
  · refine q _ _ (same_new hp2) ⟨p2, rfl, .inl ?_⟩
    rw [upd_same]
    unfold nIs
    rw [List.map_append]
    rfl
theorem grow_w (t w : List Nat) (m : Nat) : ∀ (gs : List (List Nat)) (p : Nat) (L : List (List Nat × List Nat)), w.length ≤ m → (∀ x ∈ L, x.2.length ≤ m + 1) → ∀ x ∈ grow t w gs p L, x.2.length ≤ m + 1
  | [], _, _, _, h, x, hx => h x hx
  | g :: gs, p, L, hw, h, x, hx => by
    refine grow_w t w m gs (p + 1) _ hw (fun y hy => ?_) x hx
    split at hy
    · exact h y hy
    · rcases List.mem_append.mp hy with z | z
      · exact h y z
      · rw [List.mem_singleton.mp z, List.length_append]
        show w.length + 1 ≤ m + 1
        omega
theorem qq_w (gs : List (List Nat)) (n : Nat) : ∀ k, ∀ x ∈ qq gs n k, x.2.length ≤ k
  | 0, x, h => by
    rw [List.mem_singleton.mp (show x ∈ [(List.range n, ([] : List Nat))] from h)]
    exact Nat.le_refl 0
  | k + 1, x, h => by
    have ih := qq_w gs n k
    have h' : x ∈ (match (qq gs n k)[k]? with
      | none => qq gs n k
      | some (t, w) => grow t w gs 0 (qq gs n k)) := h
    split at h'
    · exact Nat.le_succ_of_le (ih x h')
    · rename_i t w e
      exact grow_w t w k gs 0 _ (ih _ (List.mem_of_getElem? e)) (fun y hy => Nat.le_succ_of_le (ih y hy)) x h'
section
variable {P : Program} {w : World} {K : PySem.W.Frag} {mg : Str → Option Value} {base : Heap}
/-! ### bracket_of -/
def spBracket : Sp := fun vs H Q _ => ∃ (a b : V) (x y : List Nat) (n : Nat), vs = [a, b] ∧ TN H a x ∧ TN H b y ∧ IsP n x ∧ IsP n y ∧ n ≤ 1000 ∧ ∀ v H', Same H H' → TK H' v (prod (prod x y) (inv (prod y x))) → Q v H'
theorem sc_bracket_of : FnScope ["one", "other"] ["one", "other"] (defScope s_bracket_of) := ⟨rfl, rfl, rfl, by decide +kernel, rfl, by decide +kernel, by decide +kernel⟩
theorem pr_call {H : Hp} {a b : V} {x y : List Nat} {n : Nat} {Q : VK} (ha : TN H a x) (hb : TN H b y) (hx : IsP n x) (hy : IsP n y) (hn : n ≤ 1000) (q : ∀ v H', Same H H' → TK H' v (prod x y) → Q v H') : spProd [a, b] H Q E0 :=
  ⟨a, b, x, y, rfl, ha, hb, fun i hi => by rw [hy.len]; exact hx.lt i hi, by rw [hx.len]; exact hn, q⟩
theorem has_bracket_of (T : Top K mg "bracket_of" s_bracket_of ["one", "other"]) (hP : Has P w K mg base CX0 1 "product_of" ["one", "other"] spProd) (hB : Has P w K mg base CX0 1 "back_of" ["turn"] spBack) : Has P w K mg base CX0 2 "bracket_of" ["one", "other"] spBracket := by
  refine T.ok sc_bracket_of (fun vs H Q E h => ?_) (fun f cdv A outer s H vs Q E hr h => ?_)
  · obtain ⟨a, b, x, y, n, rfl, _⟩ := h
    rfl
  · obtain ⟨a, b, x, y, n, rfl, ha, hb, hx, hy, hn, q⟩ := h
    refine ⟨_, pss_one (ps_ret (pe_has hP hr (by rfl) (pa_cons (pe_has hP hr (by rfl) (pa_cons (pv 0) (pa_cons (pv 1) pa_nil))) (pa_cons (pe_has hB hr (by rfl) (pa_cons (pe_has hP hr (by rfl) (pa_cons (pv 1) (pa_cons (pv 0) pa_nil))) pa_nil)) pa_nil)))), ?_⟩
    refine ⟨_, rfl, _, rfl, pr_call ha hb hx hy hn fun u H1 s1 hu => ?_⟩
    refine ⟨_, rfl, _, rfl, pr_call (hb.tm (.of s1)) (ha.tm (.of s1)) hy hx hn fun u2 H2 s2 hu2 => ?_⟩
    refine ⟨u2, _, n, rfl, hu2.tn, hy.prod hx, hn, fun u3 H3 s3 hu3 => ?_⟩
    exact pr_call (hu.tm (.of (s2.trans s3))).tn hu3.tn (hx.prod hy) (hy.prod hx).inv hn fun u4 H4 s4 hu4 => q _ _ (((s1.trans s2).trans s3).trans s4) hu4
/-! ### words_of -/
def Cn (mg : Str → Option Value) (x : Str) (i : Int) : Prop := ∃ t, mg x = some (.int i t)
def Wd (gs : List (List Nat)) (n : Nat) (L : List (List Nat × List Nat)) : Prop := ∃ a, L = qq gs n a ∧ a ≤ L.length ∧ (L.length = a ∨ 240 < L.length)
def spWords : Sp := fun vs H Q _ => ∃ (ms : V) (gs : List (List Nat)) (n : Nat), vs = [ms, nI n] ∧ TT H ms gs ∧ (∀ g ∈ gs, IsP n g) ∧ n ≤ 1000 ∧ gs.length ≤ 1000 ∧
  ∀ d H' L, Same H H' → H d = none → DW H' d L → Wd gs n L → Q (.ref d) H'
theorem sc_words_of : FnScope ["makers", "size", "still", "words", "level", "longer", "turn", "place", "maker", "led"] ["makers", "size"] (defScope s_words_of) := ⟨rfl, rfl, rfl, by decide +kernel, rfl, by decide +kernel, by decide +kernel⟩
/-- the state at the while: behind a positions -/
structure WS (H0 : Hp) (ms st : V) (n : Nat) (gs : List (List Nat)) (d : Addr) (a : Nat) (σ : L2.St) (H : Hp) : Prop where
  sl : ∃ lv x5 x6 x7 x8 x9, σ = [some ms, some (nI n), some st, some (.ref d), some (.ref lv), x5, x6, x7, x8, x9] ∧ LT H lv (((qq gs n a).map (·.1)).drop a)
  sm : Same H0 H
  dw : DW H d (qq gs n a)
  le : a ≤ (qq gs n a).length
  le2 : a ≤ 240
theorem qq_step {gs : List (List Nat)} {n a i : Nat} {M : List (List Nat × List Nat)} (e : qq gs n (a + i) = qq gs n a ++ M) {t w : List Nat} (h : (qq gs n a)[a + i]? = some (t, w)) : qq gs n (a + i + 1) = grow t w gs 0 (qq gs n (a + i)) := by
  have z : (qq gs n (a + i))[a + i]? = some (t, w) := by
    rw [e, List.getElem?_append_left (List.getElem?_eq_some_iff.mp h).1]
    exact h
  show (match (qq gs n (a + i))[a + i]? with
    | none => qq gs n (a + i)
    | some (t, w) => grow t w gs 0 (qq gs n (a + i))) = _
  rw [z]
theorem has_words_of (T : Top K mg "words_of" s_words_of ["makers", "size"]) (B : Bi mg) (C : Cn mg "MOST_TURNS" 240) (hS : Has P w K mg base CX0 1 "still_of" ["size"] spStill) (hP : Has P w K mg base CX0 1 "product_of" ["one", "other"] spProd) :
    Has P w K mg base CX0 2 "words_of" ["makers", "size"] spWords := by
  refine T.ok sc_words_of (fun vs H Q E h => ?_) (fun f cdv A outer s H vs Q E hr h => ?_)
  · obtain ⟨ms, gs, n, rfl, _⟩ := h
    rfl
  · obtain ⟨ms, gs, n, rfl, hms, hg, hn, hgl, q⟩ := h
    obtain ⟨tk, hC⟩ := C
    have hu := hu_of hr
    refine ⟨_, pss_cons (ps_set (i := 2) sc_words_of.nd rfl (Or.inl rfl) (pe_has hS hr (by rfl) (pa_cons (pv 1) pa_nil)))
      (pss_cons (ps_set (i := 3) sc_words_of.nd rfl (Or.inl rfl) (pe_dispT hu (pv 2) (pe_tup pa_nil)))
      (pss_cons (ps_set (i := 4) sc_words_of.nd rfl (Or.inl rfl) (pe_lst (pa_cons (pv 2) pa_nil)))
      (pss_cons (ps_while PassesOwn.never (PW.pt (pw_and (pt_truth (pv 4) (by intro _; rfl)) (pw_and1 (pt_cmpR op_le (pe_callB call_len_dT (by rfl) B.len PySem.boot_len (pa_cons (pv 3) pa_nil)) (pe_glob (v := .int 240) rfl hC ⟨_, rfl⟩) (nomark _)))))
        (pss_cons (ps_set (i := 5) sc_words_of.nd rfl (Or.inl rfl) (pe_lst pa_nil))
        (pss_cons (ps_for PassesOwn.never rfl (pi_list (pv 4)) (pg_name (i := 6) sc_words_of.nd rfl (Or.inl rfl))
          (pss_one (ps_for PassesOwn.never rfl (pi_enumT (by rfl) B.enumerate (pa_cons (pv 0) pa_nil)) (pg_tup rfl (pgs_cons (pg_name (i := 7) sc_words_of.nd rfl (Or.inl rfl)) (pgs_cons (pg_name (i := 8) sc_words_of.nd rfl (Or.inl rfl)) pgs_nil)))
            (pss_cons (ps_set (i := 9) sc_words_of.nd rfl (Or.inl rfl) (pe_has hP hr (by rfl) (pa_cons (pv 6) (pa_cons (pv 8) pa_nil))))
            (pss_one (ps_if (pt_cmp (pc_dnotin hu (pv 9) (pv 3)))
              (pss_cons (ps_dput hu (pv 3) (pv 9) (pe_op op_catA (pe_dgetR hu (pv 3) (pv 6) (fun _ _ => rfl)) (pe_tup (pa_cons (pv 7) pa_nil))) rfl)
              (pss_one (ps_expr (pe_bm PySem.F.plainAttrs_list PySem.F.slot_list_append PySem.F.type_list_append mt_append (pv 5) (pa_cons (pv 9) pa_nil)))))
              pss_nil))))))
        (pss_one (ps_set (i := 4) sc_words_of.nd rfl (Or.inl rfl) (pv 5))))))
      (pss_one (ps_ret (pv 3)))))), ?_⟩
    refine ⟨_, rfl, n, rfl, hn, fun st H1 s1 hst => ?_⟩
    refine fun d hd => ⟨_, rfl, ⟨Nat.zero_le _, fun p hp => ?_⟩⟩
    have hpd : p ≠ d := fun z => by rw [z, upd_same] at hp; cases hp
    have s2 : Same H1 (upd (upd H1 d (.dT [])) p (.tup [])) := (same_new hd).trans (same_new hp)
    obtain ⟨b, ebv, hb⟩ := (hst.tm (.of s2)).key
    subst ebv
    refine ⟨b, keyN (List.range n), rfl, by rw [upd_ne hpd.symm, upd_same], hb, ?_⟩
    refine ⟨_, rfl, by show 1 ≤ sizeLine; decide, fun lv hlv => ?_⟩
    have hd0 : H d = none := s1.free hd
    have s3 : Same H1 (upd (upd (upd H1 d (.dT [])) p (.tup [])) d (.dT [(keyN (List.range n), .ref p)])) := same_mut s2 hd
    have s4 : Same H1 (upd (upd (upd (upd H1 d (.dT [])) p (.tup [])) d (.dT [(keyN (List.range n), .ref p)])) lv (.lst [.ref b])) := s3.trans (same_new hlv)
    have hdl : d ≠ lv := fun z => by rw [← z, upd_same] at hlv; cases hlv
    have hpl : p ≠ lv := fun z => by rw [← z, upd_ne hpd, upd_same] at hlv; cases hlv
    have hst' : TN (upd (upd (upd (upd H1 d (.dT [])) p (.tup [])) d (.dT [(keyN (List.range n), .ref p)])) lv (.lst [.ref b])) (.ref b) (List.range n) := (hst.tm (.of s4)).tn
    refine ⟨fun m σ H' => ∃ a, m = 240 - a ∧ WS H ms (.ref b) n gs d a σ H', ⟨240, 0, rfl, ⟨⟨lv, none, none, none, none, none, rfl, [.ref b], upd_same, .cons hst' .nil⟩, s1.trans s4, ⟨[(keyN (List.range n), .ref p)], by rw [upd_ne hdl, upd_same], .cons ⟨rfl, p, rfl, .inl ?_⟩ .nil⟩, Nat.zero_le _, Nat.zero_le _⟩⟩, ?_⟩
    · rw [upd_ne hpl, upd_ne hpd, upd_same]
      rfl
    rintro m σ H' ⟨a, rfl, ⟨⟨lv, x5, x6, x7, x8, x9, rfl, xs, hlv', hxs⟩, sm, dw, le, le2⟩⟩
    have ret : (qq gs n a).length = a ∨ 240 < (qq gs n a).length → Q (.ref d) H' := fun h => q d H' _ sm hd0 dw ⟨a, rfl, le, h⟩
    have hxl : xs.length = (qq gs n a).length - a := by
      rw [Paired.length hxs, List.length_drop, List.length_map]
    refine ⟨_, rfl, !xs.isEmpty, .inl ⟨xs, SqL.of hlv', rfl⟩, ?_⟩
    refine ite2 (fun h => ?_) (fun h => ?_)
    rotate_left
    · refine iteF ⟨_, rfl, ret (.inl ?_)⟩
      cases xs with
      | nil => simp at hxl; omega
      | cons x xs => exact absurd rfl h
    obtain ⟨kvs, hkv, pkv⟩ := dw
    have hkl : kvs.length = (qq gs n a).length := Paired.length pkv
    refine ⟨_, rfl, d, kvs, rfl, hkv, _, _, rfl, rfl, _, rfl, ite2 (fun h2 => ?_) (fun h2 => ?_)⟩
    rotate_left
    · have h2 : ¬ ((kvs.length : Int) ≤ 240) := fun z => h2 (decide_eq_true z)
      exact ⟨_, rfl, ret (.inr (by omega))⟩
    have h2 : (kvs.length : Int) ≤ 240 := of_decide_eq_true h2
    have hpos : a < (qq gs n a).length := by
      cases xs with
      | nil => simp at h
      | cons x xs => rw [List.length_cons] at hxl; omega
    refine ⟨fun σ2 H2 => WS H ms (.ref b) n gs d (qq gs n a).length σ2 H2, fun σ2 H2 hw => ⟨240 - (qq gs n a).length, by omega, _, rfl, hw⟩, ?_⟩
    -- longer = []
    refine ⟨Nat.zero_le _, fun lg hlg => ?_⟩
    have hlg0 : H lg = none := sm.free hlg
    have sl := same_new (o := .lst []) hlg
    obtain ⟨pm, mxs, rfl, hpm, hmx⟩ := hms
    have hlvg : lv ≠ lg := ne_of_none hlv' hlg
    have hdg : d ≠ lg := ne_of_none hkv hlg
    have hlv0 : ∀ H2 : Hp, Same H' H2 → H2 lv = some (.lst xs) := fun H2 s => s _ _ hlv'
    refine ⟨_, rfl, lv, rfl, ⟨_, SqL.of (sl _ _ hlv')⟩, for_list (K := K) (a := lv) (xs := xs)
      (fun i σ2 H2 => ∃ y6 y7 y8 y9 M, σ2 = [some (.ref pm), some (nI n), some (.ref b), some (.ref d), some (.ref lv), some (.ref lg), y6, y7, y8, y9] ∧ Same H H2 ∧ qq gs n (a + i) = qq gs n a ++ M ∧ DW H2 d (qq gs n (a + i)) ∧ LT H2 lg (M.map (·.1)) ∧ H2 lv = some (.lst xs) ∧ Paired (TN H2) xs (((qq gs n a).map (·.1)).drop a))
      ⟨x6, x7, x8, x9, [], rfl, sm.trans sl, by rw [List.append_nil]; rfl, DW.same ⟨kvs, hkv, pkv⟩ sl, ⟨[], upd_same, .nil⟩, sl _ _ hlv', TNs.tm (.of sl) hxs⟩
      (fun i σ2 H2 _ ⟨_, _, _, _, _, _, _, _, _, _, h, _⟩ => SqL.of h) ?_ ?_⟩
    · rintro i x σ2 H2 hi ⟨y6, y7, y8, y9, M, rfl, sm2, eM, dw2, lt2, hlv2, hx2⟩
      obtain ⟨t, ht, htn⟩ := Paired.getL hx2 hi
      rw [List.getElem?_drop, List.getElem?_map] at ht
      obtain ⟨⟨t', w'⟩, hq, et⟩ := Option.map_eq_some_iff.mp ht
      have et : t' = t := et
      subst et
      have hstep := qq_step eM hq
      have htP : IsP n t' := Mk.isP hg (qq_mk gs n a t' (List.mem_map.mpr ⟨_, List.mem_of_getElem? hq, rfl⟩))
      refine ⟨_, rfl, pm, _, rfl, SqT.of (sm2 _ _ hpm), for_enumT (K := K) (xs := mxs)
        (fun j σ3 H3 => ∃ z7 z8 z9 M', σ3 = [some (.ref pm), some (nI n), some (.ref b), some (.ref d), some (.ref lv), some (.ref lg), some x, z7, z8, z9] ∧ Same H H3 ∧ grow t' w' (gs.take j) 0 (qq gs n (a + i)) = qq gs n a ++ M' ∧ DW H3 d (qq gs n a ++ M') ∧ LT H3 lg (M'.map (·.1)) ∧ H3 lv = some (.lst xs) ∧ Paired (TN H3) xs (((qq gs n a).map (·.1)).drop a))
        ⟨y7, y8, y9, M, rfl, sm2, eM, by rw [← eM]; exact dw2, lt2, hlv2, hx2⟩ (fun j σ3 H3 _ ⟨_, _, _, _, _, s, _⟩ => SqT.of (s _ _ hpm)) ?_ ?_⟩
      · rintro j y σ3 H3 T hj ⟨z7, z8, z9, M', rfl, sm3, eM', dw3, ⟨gz, hgz, pgz⟩, hlv3, hx3⟩ hT
        obtain ⟨g, hgj, hyg⟩ := Paired.getL hmx hj
        have hgP := hg g (List.mem_of_getElem? hgj)
        have sT := same_new (o := .tup [nI j, y]) hT
        refine ⟨T, _, rfl, SqT.of upd_same, rfl, nI j, _, rfl, y, _, rfl, rfl, ?_⟩
        obtain ⟨t2, ht2, htn3⟩ := Paired.getL hx3 hi
        rw [List.getElem?_drop, List.getElem?_map, hq] at ht2
        have ht2 : t' = t2 := Option.some.inj ht2
        subst ht2
        refine ⟨_, rfl, _, rfl, pr_call (htn3.tm (.of sT)) (hyg.tm (.of (sm3.trans sT))) htP hgP hn fun v H4 s4 hv => ?_⟩
        have s34 : Same H3 H4 := sT.trans s4
        have hvP := htP.prod hgP
        obtain ⟨b1, rfl, hb1⟩ := hv.key
        obtain ⟨kv4, hk4, pk4⟩ := dw3.same s34
        have hgz4 := s34 _ _ hgz
        have pgz4 := TNs.tm (.of s34) pgz
        have hlv4 := s34 _ _ hlv3
        have hx4 := TNs.tm (.of s34) hx3
        have hnd : ((qq gs n a ++ M').map (·.1)).Nodup := by rw [← eM']; exact grow_nd _ _ _ _ _ (qq_nd gs n (a + i))
        have hnx := grow_next (t := t') (w := w') hgj (qq gs n (a + i))
        rw [eM'] at hnx
        have sm4 : Same H H4 := sm3.trans s34
        refine ⟨_, rfl, _, rfl, d, _, rfl, DGet.t hk4 hb1, _, rfl, ?_⟩
        rw [dw_isSome pk4 hnd]
        by_cases hin : prod t' g ∈ (qq gs n a ++ M').map (·.1)
        · rw [if_pos hin] at hnx
          rw [decide_eq_true hin]
          exact iteF ⟨_, _, _, M', rfl, sm4, hnx, ⟨kv4, hk4, pk4⟩, ⟨gz, hgz4, pgz4⟩, hlv4, hx4⟩
        · rw [if_neg hin] at hnx
          rw [decide_eq_false hin]
          refine iteT ?_
          have hmem : (t', w') ∈ qq gs n a ++ M' := List.mem_append.mpr (.inl (List.mem_of_getElem? hq))
          obtain ⟨wv, hwv, hwn⟩ := dw_some pk4 hnd hmem
          obtain ⟨b2, rfl, hb2⟩ := (htn3.tm (.of s34)).key
          obtain ⟨pw, rfl, hpw⟩ := hwn
          have hwl : w'.length ≤ 240 := Nat.le_trans (qq_w gs n a _ (List.mem_of_getElem? hq)) le2
          refine ⟨_, rfl, _, rfl, d, .ref pw, kv4, _, _, rfl, rfl, .inl hk4, hb2, hwv, _, rfl, by show 1 ≤ sizeLine; decide, fun p hp => ?_⟩
          have s5 := same_new (o := .tup [nI j]) hp
          refine catA_tn (hpw.sm s5) upd_same (by omega) fun v5 H5 s6 hv5 => ?_
          have s45 := s5.trans s6
          have hk5 := s45 _ _ hk4
          have hkl4 : kv4.length = (grow t' w' (gs.take j) 0 (qq gs n (a + i))).length := by rw [Paired.length pk4, ← eM']
          have hsz : kv4.length ≤ 1000000 := by
            have h0 := grow_len t' w' (gs.take j) 0 (qq gs n (a + i))
            have h1 := qq_len_le gs n a i
            have h3 : i ≤ 240 := by
              have := (List.getElem?_eq_some_iff.mp hq).1
              omega
            have h4 : i * gs.length ≤ 240 * 1000 := Nat.mul_le_mul h3 hgl
            rw [List.length_take] at h0
            omega
          refine ⟨_, rfl, _, rfl, d, _, rfl, DPut.t hk5 (s45 _ _ hb1) (by rw [sizeLine_eq]; omega), ?_⟩
          rw [putK_new v5 (dw_none pk4 hin)]
          have t6 : Tm H5 (upd H5 d (.dT (kv4 ++ [(keyN (prod t' g), v5)]))) := Tm.dT hk5
          have hg6 : (upd H5 d (.dT (kv4 ++ [(keyN (prod t' g), v5)]))) lg = some (.lst gz) := by
            rw [upd_ne (ne_of hgz4 hk4 (fun z => nomatch z))]
            exact s45 _ _ hgz4
          have hgzl : gz.length ≤ kv4.length := by
            rw [Paired.length pgz, Paired.length pk4, List.length_map, List.length_append]
            omega
          refine ⟨_, rfl, .inl ⟨rfl, _, SqL.of hg6⟩, _, rfl, lg, _, _, rfl, rfl, hg6, by rw [sizeLine_eq]; omega, ?_⟩
          have t7 := Tm.lst (o := .lst (gz ++ [.ref b1])) hg6
          have tt := (Tm.of s45).trans (t6.trans t7)
          refine ⟨_, _, _, M' ++ [(prod t' g, w' ++ [j])], rfl, ?_, ?_, ⟨kv4 ++ [(keyN (prod t' g), v5)], ?_, ?_⟩, ⟨gz ++ [.ref b1], upd_same, ?_⟩, ?_, TNs.tm tt hx4⟩
          · exact same_mut (same_mut (sm4.trans s45) hd0) hlg0
          · rw [hnx, List.append_assoc]
          · rw [upd_ne hdg, upd_same]
          · rw [← List.append_assoc]
            exact Paired.app (DEs.tm tt pk4) (Paired.one ⟨rfl, hv5.tm (t6.trans t7)⟩)
          · rw [List.map_append]
            exact Paired.app (TNs.tm tt pgz4) (Paired.one (hv.tn.tm tt))
          · rw [upd_ne hlvg, upd_ne (ne_of hlv4 hk4 (fun z => nomatch z))]
            exact s45 _ _ hlv4
      · rintro σ3 H3 ⟨z7, z8, z9, M', rfl, sm3, eM', dw3, lt3, hlv3, hx3⟩
        have e : gs.take mxs.length = gs := by rw [Paired.length hmx, List.take_length]
        rw [e] at eM'
        refine ⟨_, _, _, _, M', rfl, sm3, ?_, ?_, lt3, hlv3, hx3⟩
        · show qq gs n (a + i + 1) = _
          rw [hstep, eM']
        · show DW H3 d (qq gs n (a + i + 1))
          rw [hstep, eM']
          exact dw3
    · rintro σ2 H2 ⟨y6, y7, y8, y9, M, rfl, sm2, eM, dw2, lt2, hlv2, hx2⟩
      have e : a + xs.length = (qq gs n a).length := by omega
      rw [e] at eM dw2
      refine ⟨_, rfl, ⟨⟨lg, _, _, _, _, _, rfl, ?_⟩, sm2, dw2, ?_, by omega⟩⟩
      · rw [eM, List.map_append, List.drop_append_of_le_length (by rw [List.length_map]; exact Nat.le_refl _), List.drop_of_length_le (by rw [List.length_map]; exact Nat.le_refl _), List.nil_append]
        exact lt2
      · rw [eM, List.length_append]
        omega
end
end Lt

set_option linter.all false
set_option Elab.async false
/-! powers of a turn; the whole of the turns -/
namespace Lt
def pw (n : Nat) (t : List Nat) : Nat → List Nat
  | 0 => List.range n
  | k + 1 => prod (pw n t k) t
theorem pw_isP {n : Nat} {t : List Nat} (h : IsP n t) : ∀ k, IsP n (pw n t k)
  | 0 => IsP.still n
  | k + 1 => (pw_isP h k).prod h
theorem pw_one {n : Nat} {t : List Nat} (h : IsP n t) : pw n t 1 = t := prod_still_l h.len
theorem pw_add {n : Nat} {t : List Nat} (h : IsP n t) (i : Nat) : ∀ k, pw n t (i + k) = prod (pw n t i) (pw n t k)
  | 0 => (prod_still_r (pw_isP h i).lt).symm
  | k + 1 => by
    show prod (pw n t (i + k)) t = prod (pw n t i) (prod (pw n t k) t)
    rw [pw_add h i k]
    exact prod_assoc fun j hj => by rw [(pw_isP h k).len]; exact (pw_isP h i).lt j hj
theorem prod_cancel {n : Nat} {a b : List Nat} (ha : IsP n a) (hb : IsP n b) (h : prod a b = a) : b = List.range n := by
  have h1 : prod (prod (inv a) a) b = prod (inv a) (prod a b) := prod_assoc fun i hi => by rw [ha.len]; exact ha.inv.lt i hi
  rw [h, prod_inv_l ha, prod_still_l hb.len] at h1
  exact h1
theorem Mk.prod {gs : List (List Nat)} {n : Nat} (hg : ∀ g ∈ gs, IsP n g) {a b : List Nat} (ha : Mk gs n a) (hb : Mk gs n b) : Mk gs n (prod a b) := by
  induction hb with
  | still => rw [prod_still_r (ha.isP hg).lt]; exact ha
  | @step t g ht hm ih =>
    rw [← prod_assoc (x := a) fun i hi => by rw [(ht.isP hg).len]; exact (ha.isP hg).lt i hi]
    exact .step ih hm
theorem Mk.pw {gs : List (List Nat)} {n : Nat} (hg : ∀ g ∈ gs, IsP n g) {t : List Nat} (h : Mk gs n t) : ∀ k, Mk gs n (pw n t k)
  | 0 => .still
  | k + 1 => (Mk.pw hg h k).prod hg h
/-- two of many places hold the same -/
theorem dup_of {α : Type} [DecidableEq α] (f : Nat → α) : ∀ m, ¬ ((List.range m).map f).Nodup → ∃ i j, i < j ∧ j < m ∧ f i = f j
  | 0, h => absurd List.Pairwise.nil h
  | m + 1, h => by
    by_cases hn : ((List.range m).map f).Nodup
    · rw [List.range_succ, List.map_append] at h
      by_cases hx : f m ∈ (List.range m).map f
      · obtain ⟨i, hi, e⟩ := List.mem_map.mp hx
        exact ⟨i, m, List.mem_range.mp hi, Nat.lt_succ_self m, e⟩
      · exact absurd (nodup_snoc hn hx) h
    · obtain ⟨i, j, h1, h2, e⟩ := dup_of f m hn
      exact ⟨i, j, h1, by omega, e⟩
theorem pw_back {gs : List (List Nat)} {n m : Nat} (hg : ∀ g ∈ gs, IsP n g) (hf : Few gs n m) {t : List Nat} (h : Mk gs n t) : ∃ N, 1 ≤ N ∧ N ≤ m ∧ pw n t N = List.range n := by
  have hnd : ¬ ((List.range (m + 1)).map (Lt.pw n t)).Nodup := fun hnd => by
    have z := hf.le hnd fun x hx => by
      obtain ⟨k, _, e⟩ := List.mem_map.mp hx
      rw [← e]
      exact h.pw hg k
    rw [List.length_map, List.length_range] at z
    omega
  obtain ⟨i, j, hij, hj, e⟩ := dup_of _ _ hnd
  have ht := h.isP hg
  refine ⟨j - i, by omega, by omega, ?_⟩
  have z := pw_add ht i (j - i)
  rw [show i + (j - i) = j by omega, ← e] at z
  exact prod_cancel (pw_isP ht i) (pw_isP ht _) z.symm
/-- all the words, the lock being small -/
@[irreducible] def LL (gs : List (List Nat)) (n : Nat) : List W := qq gs n 300
theorem LL_eq (gs : List (List Nat)) (n : Nat) : LL gs n = qq gs n 300 := by unfold LL; rfl
theorem LL_of {gs : List (List Nat)} {n m a : Nat} (hf : Few gs n m) (hm : m ≤ 240) (h : (qq gs n a).length = a) : qq gs n a = LL gs n := by
  have := hf.qq a
  rw [LL_eq]
  exact (qq_end' gs n (by omega) (by omega)).symm
theorem LL_len {gs : List (List Nat)} {n m : Nat} (hf : Few gs n m) : (LL gs n).length ≤ m := by
  rw [LL_eq]
  exact hf.qq 300
theorem LL_nd (gs : List (List Nat)) (n : Nat) : ((LL gs n).map (·.1)).Nodup := by
  rw [LL_eq]
  exact qq_nd gs n 300
theorem LL_mem {gs : List (List Nat)} {n m : Nat} (hf : Few gs n m) (hm : m ≤ 240) (t : List Nat) : t ∈ (LL gs n).map (·.1) ↔ Mk gs n t := by
  rw [LL_eq]
  exact qq_full (Nat.le_trans (hf.qq 300) (by omega)) t
end Lt

set_option Elab.async false
set_option linter.all false
set_option maxRecDepth 100000
set_option maxHeartbeats 4000000
namespace Lt
open PySem PySem.Spec PyProof.Rows L2
/-! ### what is a lock -/
def lenOf : PyData → Nat
  | .tuple ds => ds.length
  | _ => 0
def firstBad : List PyData → Nat → Nat → Option Nat
  | [], _, _ => none
  | d :: ds, n, i => if isPermD d n = true then firstBad ds n (i + 1) else some i
def lockBad : PyData → Option (Option Nat)
  | .tuple ds => if 1 ≤ ds.length ∧ ds.length ≤ 4 then (if isTup (ds.headD .none) = true ∧ 2 ≤ lenOf (ds.headD .none) ∧ lenOf (ds.headD .none) ≤ 9 then (firstBad ds (lenOf (ds.headD .none)) 0).map some else some (some 0)) else some none
  | _ => some none
def plV : Option Nat → V
  | none => .non
  | some i => nI i
def Sml (d : PyData) : Prop := ∀ ds, d = .tuple ds → ds.length ≤ 1000 ∧ ∀ e ∈ ds, ∀ es, e = .tuple es → es.length < 64
section
variable {P : Program} {w : World} {K : PySem.W.Frag} {mg : Str → Option Value} {base : Heap} {CL CM CT : Addr}
/-! ### check_lock -/
def spCheck (CL : Addr) : Sp := fun vs H Q E => ∃ (v : V) (d : PyData), vs = [v] ∧ Rp H v d ∧ Sml d ∧ (lockBad d = none → ∀ H', Same H H' → Q .non H') ∧ ∀ pl, lockBad d = some pl → BadF CL "place" (plV pl) H E
theorem sc_check_lock : FnScope ["lock", "place", "given"] ["lock"] (defScope s_check_lock) := ⟨rfl, rfl, rfl, by decide +kernel, rfl, by decide +kernel, by decide +kernel⟩
theorem has_check_lock (T : Top K mg "check_lock" s_check_lock ["lock"]) (B : Bi mg) (X1 : ErrI P w K mg base "BadLock" "place" CL) (C1 : Cn mg "MOST_GIVEN" 4) (C2 : Cn mg "FEWEST_PLACES" 2) (C3 : Cn mg "MOST_PLACES" 9)
    (hP : Has P w K mg base CX0 3 "is_permutation" ["value", "size"] spPerm) : Has P w K mg base (L2.CX P w) 4 "check_lock" ["lock"] (spCheck CL) := by
  refine T.okX sc_check_lock (fun vs H Q E h => ?_) (fun f cdv A outer s H vs Q E hr h => ?_)
  · obtain ⟨v, d, rfl, _⟩ := h
    rfl
  · obtain ⟨v, d, rfl, hd, hs, qg, qb⟩ := h
    obtain ⟨t1, e1⟩ := C1
    obtain ⟨t2, e2⟩ := C2
    obtain ⟨t3, e3⟩ := C3
    have hr2 : Room 2 _ := hr.mono (by decide)
    refine ⟨_, pss_cons (ps_if (PW.pt (pw_or (pt_not (pt_val (pe_callB call_isi (by rfl) B.isinstance PyProof.Rows.boot_isinstance (pa_cons (pv 0) (pa_cons (pe_bltn (by rfl) B.tuple PyProof.Rows.boot_tuple (rr_ty "tuple")) pa_nil)))))
          (pw_or1 (pt_not (pt_chain op_le op_le pe_int (pe_callB call_len_seq (by rfl) B.len PySem.boot_len (pa_cons (pv 0) pa_nil)) (pe_glob (v := .int 4) rfl e1 ⟨_, rfl⟩))))))
        (pss_one (ps_raise rfl (takes_of rfl rfl rfl rfl) (pmk_errI X1 hr2 (by rfl) (pa_cons pe_non pa_nil)))) pss_nil)
      (pss_cons (ps_if (PW.pt (pw_or (pt_not (pt_val (pe_callB call_isi (by rfl) B.isinstance PyProof.Rows.boot_isinstance (pa_cons (pe_ix ix_tup (pv 0) pe_int (fun _ _ => rfl)) (pa_cons (pe_bltn (by rfl) B.tuple PyProof.Rows.boot_tuple (rr_ty "tuple")) pa_nil)))))
          (pw_or1 (pt_not (pt_chain op_le op_le (pe_glob (v := .int 2) rfl e2 ⟨_, rfl⟩) (pe_callB call_len_seq (by rfl) B.len PySem.boot_len (pa_cons (pe_ix ix_tup (pv 0) pe_int (fun _ _ => rfl)) pa_nil)) (pe_glob (v := .int 9) rfl e3 ⟨_, rfl⟩))))))
        (pss_one (ps_raise rfl (takes_of rfl rfl rfl rfl) (pmk_errI X1 hr2 (by rfl) (pa_cons pe_int pa_nil)))) pss_nil)
      (pss_one (ps_for (passes_of rfl) rfl (pi_enumT (by rfl) B.enumerate (pa_cons (pv 0) pa_nil)) (pg_tup rfl (pgs_cons (pg_name (i := 1) sc_check_lock.nd rfl (Or.inl rfl)) (pgs_cons (pg_name (i := 2) sc_check_lock.nd rfl (Or.inl rfl)) pgs_nil)))
        (pss_one (ps_if (pt_not (pt_val (pe_has hP hr (by rfl) (pa_cons (pv 2) (pa_cons (pe_callB call_len_seq (by rfl) B.len PySem.boot_len (pa_cons (pe_ix ix_tup (pv 0) pe_int (fun _ _ => rfl)) pa_nil)) pa_nil)))))
          (pss_one (ps_raise rfl (takes_of rfl rfl rfl rfl) (pmk_errI X1 hr2 (by rfl) (pa_cons (pv 1) pa_nil)))) pss_nil))))), ?_⟩
    have bad : ∀ {pl : Option Nat} {H' : Hp}, lockBad d = some pl → Same H H' → BadF CL "place" (plV pl) H' E := fun e s => (qb _ e).same s
    by_cases hT : isTup d = true
    rotate_left
    · have e : lockBad d = some none := by cases d <;> first | rfl | exact absurd rfl hT
      have hF : isTup d = false := by simpa using hT
      refine ⟨_, rfl, v, .ty "tuple", _, _, isTup d, rfl, .ty _, rp_ty hd, kit_ty (kit_tup d), isTup d, rfl, ?_⟩
      rw [hF]
      exact mk_read X1.oex X1.no (bad e (Same.refl _))
    cases hd with
    | non => cases hT
    | bl => cases hT
    | int => cases hT
    | str => cases hT
    | lst => cases hT
    | @tup a xs ds ha hx =>
      have hxl := hx.len
      obtain ⟨hs1, hs2⟩ := hs ds rfl
      refine ⟨_, rfl, .ref a, .ty "tuple", _, _, true, rfl, .ty _, rp_ty (.tup ha hx), kit_ty (kit_tup (.tuple ds)), true, rfl, iteF ?_⟩
      have none_of : ¬ (1 ≤ ds.length ∧ ds.length ≤ 4) → lockBad (.tuple ds) = some none := fun h => by
        show (if 1 ≤ ds.length ∧ ds.length ≤ 4 then _ else _) = _
        rw [if_neg h]
      refine ⟨_, rfl, a, xs, rfl, .inr (ha.sq), 1, (xs.length : Int), rfl, rfl, _, rfl, ite2 (fun h1 => ⟨_, _, rfl, rfl, _, rfl, ite2 (fun h2 => ?_) (fun h2 => ?_)⟩) (fun h1 => ⟨_, rfl, ?_⟩)⟩
      · have h2 : ¬ ((xs.length : Int) ≤ 4) := fun z => by rw [decide_eq_true z] at h2; cases h2
        exact mk_read X1.oex X1.no (bad (none_of (by omega)) (Same.refl _))
      rotate_left
      · have h1 : ¬ ((1 : Int) ≤ (xs.length : Int)) := fun z => h1 (decide_eq_true z)
        exact mk_read X1.oex X1.no (bad (none_of (by omega)) (Same.refl _))
      have h2 : (xs.length : Int) ≤ 4 := by
        by_cases z : (xs.length : Int) ≤ 4
        · exact z
        · rw [decide_eq_false z] at h2
          exact absurd rfl h2
      have h1 : (1 : Int) ≤ (xs.length : Int) := of_decide_eq_true h1
      have hlen : 1 ≤ ds.length ∧ ds.length ≤ 4 := ⟨by omega, by omega⟩
      -- the first given turn
      cases hx with
      | nil => exact absurd hlen.1 (by decide)
      | @cons x xr dd dr r0 rr =>
      have hx : RpAll H (x :: xr) (dd :: dr) := .cons r0 rr
      have eLB : lockBad (.tuple (dd :: dr)) = if isTup dd = true ∧ 2 ≤ lenOf dd ∧ lenOf dd ≤ 9 then (firstBad (dd :: dr) (lenOf dd) 0).map some else some (some 0) := by
        show (if 1 ≤ (dd :: dr).length ∧ (dd :: dr).length ≤ 4 then _ else _) = _
        rw [if_pos hlen]
        rfl
      have zero_of : ¬ (isTup dd = true ∧ 2 ≤ lenOf dd ∧ lenOf dd ≤ 9) → lockBad (.tuple (dd :: dr)) = some (some 0) := fun h => by rw [eLB, if_neg h]
      have at0 : atI (x :: xr) 0 = some x := atI_nat (j := 0) rfl
      refine ⟨_, rfl, a, _, 0, x, rfl, rfl, ha.sq, at0, x, .ty "tuple", _, _, isTup dd, rfl, .ty _, rp_ty r0, kit_ty (kit_tup dd), isTup dd, rfl, ?_⟩
      by_cases hT2 : isTup dd = true
      rotate_left
      · have hF : isTup dd = false := by simpa using hT2
        rw [hF]
        exact mk_read (v := .int 0) X1.oex X1.no (bad (zero_of fun z => hT2 z.1) (Same.refl _))
      rw [hT2]
      refine iteF ?_
      cases r0 with
      | non => cases hT2
      | bl => cases hT2
      | int => cases hT2
      | str => cases hT2
      | lst => cases hT2
      | @tup b ys es hb hy =>
      have hyl := hy.len
      refine ⟨_, rfl, a, _, 0, .ref b, rfl, rfl, ha.sq, at0, b, ys, rfl, .inr (hb.sq), 2, (ys.length : Int), rfl, rfl, _, rfl, ite2 (fun h3 => ⟨_, _, rfl, rfl, _, rfl, ite2 (fun h4 => ?_) (fun h4 => ?_)⟩) (fun h3 => ⟨_, rfl, ?_⟩)⟩
      · have h4 : ¬ ((ys.length : Int) ≤ 9) := fun z => by rw [decide_eq_true z] at h4; cases h4
        exact mk_read (v := .int 0) X1.oex X1.no (bad (zero_of fun z => h4 (by have := z.2.2; show (ys.length : Int) ≤ 9; rw [hyl]; exact Int.ofNat_le.mpr this)) (Same.refl _))
      rotate_left
      · have h3 : ¬ ((2 : Int) ≤ (ys.length : Int)) := fun z => h3 (decide_eq_true z)
        exact mk_read (v := .int 0) X1.oex X1.no (bad (zero_of fun z => h3 (by have := z.2.1; show (2 : Int) ≤ (ys.length : Int); rw [hyl]; exact Int.ofNat_le.mpr this)) (Same.refl _))
      have h4 : (ys.length : Int) ≤ 9 := by
        by_cases z : (ys.length : Int) ≤ 9
        · exact z
        · rw [decide_eq_false z] at h4
          exact absurd rfl h4
      have h3 : (2 : Int) ≤ (ys.length : Int) := of_decide_eq_true h3
      rw [if_pos ⟨rfl, by show 2 ≤ es.length; omega, by show es.length ≤ 9; omega⟩] at eLB
      have eLB : lockBad (.tuple (.tuple es :: dr)) = (firstBad (.tuple es :: dr) es.length 0).map some := eLB
      refine ⟨_, rfl, a, _, rfl, ha.sq, for_enumT (K := K) (xs := .ref b :: xr) (fun i σ H' => ∃ y z, σ = [some (.ref a), y, z] ∧ Same H H' ∧ firstBad (.tuple es :: dr) es.length 0 = firstBad ((.tuple es :: dr).drop i) es.length i)
        ⟨none, none, rfl, Same.refl _, rfl⟩ (fun i σ H' _ ⟨_, _, _, s, _⟩ => (ha.sm s).sq) ?_ ?_⟩
      · rintro i u σ H' T hi ⟨y, z, rfl, sm, hfb⟩ hTn
        obtain ⟨du, hdu, hru⟩ := hx.get hi
        have sT := same_new (o := .tup [nI i, u]) hTn
        have sm' := sm.trans sT
        have hdrop : (PyData.tuple es :: dr).drop i = du :: (PyData.tuple es :: dr).drop (i + 1) := by
          obtain ⟨hl, e⟩ := List.getElem?_eq_some_iff.mp hdu
          rw [List.drop_eq_getElem_cons hl, e]
        rw [hdrop] at hfb
        refine ⟨T, _, rfl, SqT.of upd_same, rfl, nI i, _, rfl, u, _, rfl, rfl, ?_⟩
        refine ⟨_, rfl, _, rfl, a, _, 0, .ref b, rfl, rfl, (ha.sm sm').sq, at0, b, ys, rfl, .inr ((hb.sm sm').sq), u, du, es.length, by rw [hyl]; rfl, Rp.same sm' _ _ hru, fun es' e => ?_, by omega, fun H2 s2 => ?_⟩
        · exact hs2 du (List.mem_of_getElem? hdu) es' e
        refine ⟨isPermD du es.length, rfl, ?_⟩
        by_cases hp : isPermD du es.length = true
        · rw [hp]
          refine iteF ⟨_, _, rfl, sm'.trans s2, ?_⟩
          rw [hfb]
          show (if isPermD du es.length = true then _ else _) = _
          rw [if_pos hp]
        · have hF : isPermD du es.length = false := by simpa using hp
          rw [hF]
          refine iteT ⟨_, rfl, mk_read X1.oex X1.no (bad (pl := some i) ?_ (sm'.trans s2))⟩
          rw [eLB, hfb]
          rw [show firstBad (du :: List.drop (i + 1) (PyData.tuple es :: dr)) es.length i = some i from if_neg hp]
          rfl
      · rintro σ H' ⟨y, z, rfl, sm, hfb⟩
        refine qg ?_ H' sm
        rw [eLB, hfb, List.drop_of_length_le (by rw [hxl]; exact Nat.le_refl _)]
        rfl
end
end Lt

set_option Elab.async false
set_option linter.all false
set_option maxRecDepth 100000
set_option maxHeartbeats 4000000
namespace Lt
open PySem PySem.Spec PyProof.Rows L2
def GL (ls : List (List Nat)) (n : Nat) : Prop := 1 ≤ ls.length ∧ ls.length ≤ 4 ∧ 2 ≤ n ∧ n ≤ 9 ∧ ∀ g ∈ ls, IsP n g
/-- the argument lock: no lock, too great a one, or a lock of which k -/
def LockIn (CL CM : Addr) (v : V) (H : Hp) (E : XK) (k : List (List Nat) → Nat → Prop) : Prop := ∃ d, Rp H v d ∧ Sml d ∧ (∀ pl, lockBad d = some pl → BadF CL "place" (plV pl) H E) ∧
  (lockBad d = none → ∃ ls n, TT H v ls ∧ GL ls n ∧ (∀ L, Wd ls n L → 240 < L.length → BadF CM "most" (.int 240) H E) ∧ k ls n)
theorem LockIn.imp {CL CM : Addr} {v : V} {H : Hp} {E : XK} {k k' : List (List Nat) → Nat → Prop} (h : LockIn CL CM v H E k) (i : ∀ ls n, TT H v ls → GL ls n → k ls n → k' ls n) : LockIn CL CM v H E k' := by
  obtain ⟨d, h1, h2, h3, h4⟩ := h
  refine ⟨d, h1, h2, h3, fun e => ?_⟩
  obtain ⟨ls, n, a, b, c, q⟩ := h4 e
  exact ⟨ls, n, a, b, c, i ls n a b q⟩
theorem numsOf_dT (t : List Nat) : numsOf (dT t) = t.map Int.ofNat := by
  show (t.map dN).map numOf = _
  rw [List.map_map]
  rfl
theorem isNums_dT (t : List Nat) : isNums (dT t) = true := by
  show (t.map dN).all isNum = true
  rw [List.all_map]
  exact List.all_eq_true.mpr fun _ _ => rfl
theorem ofNat_inj : ∀ x y : Nat, Int.ofNat x = Int.ofNat y → x = y := fun _ _ e => Int.ofNat.inj e
theorem perm_ofNat {a b : List Nat} (h : (a.map Int.ofNat).Perm (b.map Int.ofNat)) : a.Perm b := by
  have z := h.map Int.toNat
  rw [List.map_map, List.map_map] at z
  have e : ∀ l : List Nat, l.map (Int.toNat ∘ Int.ofNat) = l := fun l => (List.map_congr_left (g := id) fun _ _ => rfl).trans (List.map_id l)
  rw [e, e] at z
  exact z
theorem isPermD_dT (t : List Nat) (n : Nat) : isPermD (dT t) n = decide (IsP n t) := by
  unfold isPermD
  rw [isNums_dT, Bool.true_and, numsOf_dT]
  exact decide_eq_decide.mpr ⟨fun h => perm_ofNat h, fun h => List.Perm.map _ h⟩
theorem firstBad_good {n : Nat} : ∀ (ls : List (List Nat)) (i : Nat), (∀ g ∈ ls, IsP n g) → firstBad (ls.map dT) n i = none
  | [], _, _ => rfl
  | g :: ls, i, h => by
    show (if isPermD (dT g) n = true then firstBad (ls.map dT) n (i + 1) else some i) = none
    rw [isPermD_dT, decide_eq_true (h g List.mem_cons_self), if_pos rfl]
    exact firstBad_good ls (i + 1) fun x hx => h x (List.mem_cons_of_mem _ hx)
theorem lockBad_good {ls : List (List Nat)} {n : Nat} (h : GL ls n) : lockBad (.tuple (ls.map dT)) = none := by
  obtain ⟨h1, h2, h3, h4, h5⟩ := h
  cases ls with
  | nil => exact absurd h1 (by decide)
  | cons g ls =>
    have hg := (h5 g List.mem_cons_self).len
    show (if 1 ≤ ((g :: ls).map dT).length ∧ ((g :: ls).map dT).length ≤ 4 then (if isTup (dT g) = true ∧ 2 ≤ lenOf (dT g) ∧ lenOf (dT g) ≤ 9 then (firstBad ((g :: ls).map dT) (lenOf (dT g)) 0).map some else some (some 0)) else some none) = none
    have e : lenOf (dT g) = n := by
      show (g.map dN).length = n
      rw [List.length_map, hg]
    rw [if_pos ⟨by rw [List.length_map]; exact h1, by rw [List.length_map]; exact h2⟩, e, if_pos ⟨rfl, h3, h4⟩, firstBad_good _ _ h5]
    rfl
theorem sml_good {ls : List (List Nat)} {n : Nat} (h : GL ls n) : Sml (.tuple (ls.map dT)) := by
  obtain ⟨h1, h2, h3, h4, h5⟩ := h
  intro ds e
  injection e with e
  subst e
  refine ⟨by rw [List.length_map]; omega, fun x hx es ee => ?_⟩
  obtain ⟨g, hg, rfl⟩ := List.mem_map.mp hx
  injection ee with ee
  subst ee
  rw [List.length_map, (h5 g hg).len]
  omega
theorem Few.wd {ls : List (List Nat)} {n m : Nat} (h : Few ls n m) (hm : m ≤ 240) {L : List (List Nat × List Nat)} (hL : Wd ls n L) : ∃ a, L = Lt.qq ls n a ∧ L.length = a ∧ L.length ≤ m := by
  obtain ⟨a, rfl, h1, h2⟩ := hL
  have h3 := h.qq a
  exact ⟨a, rfl, by omega, h3⟩
theorem lockIn_good {CL CM : Addr} {v : V} {H : Hp} {E : XK} {k : List (List Nat) → Nat → Prop} {ls : List (List Nat)} {n m : Nat} (ht : TT H v ls) (hg : GL ls n) (hf : Few ls n m) (hm : m ≤ 240) (q : k ls n) : LockIn CL CM v H E k :=
  ⟨_, ht.rp, sml_good hg, fun pl e => (by rw [lockBad_good hg] at e; cases e), fun _ => ⟨ls, n, ht, hg, fun L hL h => by
    obtain ⟨a, _, _, z⟩ := hf.wd hm hL
    omega, q⟩⟩
theorem TT.head {H : Hp} {v : V} {ls : List (List Nat)} {n : Nat} (h : TT H v ls) (hg : GL ls n) : ∃ a xs b, v = .ref a ∧ H a = some (.tup xs) ∧ Paired (TN H) xs ls ∧ atI xs 0 = some (.ref b) ∧ ∃ t, RT H b (nIs t) ∧ t.length = n := by
  obtain ⟨a, xs, rfl, ha, p⟩ := h
  cases p with
  | nil => exact absurd hg.1 (by decide)
  | @cons x t xr tr r rr =>
    obtain ⟨b, rfl, hb⟩ := r
    exact ⟨a, _, b, rfl, ha, .cons ⟨b, rfl, hb⟩ rr, atI_nat (j := 0) rfl, t, hb, (hg.2.2.2.2 t List.mem_cons_self).len⟩
section
variable {P : Program} {w : World} {K : PySem.W.Frag} {mg : Str → Option Value} {base : Heap} {CL CM CT : Addr}
/-! ### made_words -/
def spMade (CL CM : Addr) : Sp := fun vs H Q E => ∃ v, vs = [v] ∧ LockIn CL CM v H E (fun ls n => ∀ d H' L, Same H H' → H d = none → DW H' d L → Wd ls n L → L.length ≤ 240 → Q (.ref d) H')
theorem sc_made_words : FnScope ["lock", "made"] ["lock"] (defScope s_made_words) := ⟨rfl, rfl, rfl, by decide +kernel, rfl, by decide +kernel, by decide +kernel⟩
theorem has_made_words (T : Top K mg "made_words" s_made_words ["lock"]) (B : Bi mg) (X2 : ErrI P w K mg base "TooMany" "most" CM) (C1 : Cn mg "MOST_TURNS" 240)
    (hC : Has P w K mg base (L2.CX P w) 4 "check_lock" ["lock"] (spCheck CL)) (hW : Has P w K mg base CX0 2 "words_of" ["makers", "size"] spWords) : Has P w K mg base (L2.CX P w) 5 "made_words" ["lock"] (spMade CL CM) := by
  refine T.okX sc_made_words (fun vs H Q E h => ?_) (fun f cdv A outer s H vs Q E hr h => ?_)
  · obtain ⟨v, rfl, _⟩ := h
    rfl
  · obtain ⟨v, rfl, d, hd, hs, hb, hg⟩ := h
    obtain ⟨t1, e1⟩ := C1
    have hr2 : Room 2 _ := hr.mono (by decide)
    refine ⟨_, pss_cons (ps_expr (pe_hasX (E := E) hC hr (by rfl) (passes_call (takes_of rfl rfl rfl rfl) (fun _ _ _ _ h => h)) (pa_cons (pv 0) pa_nil)))
      (pss_cons (ps_set (i := 1) sc_made_words.nd rfl (Or.inl rfl) (pe_has hW hr2 (by rfl) (pa_cons (pv 0) (pa_cons (pe_callB call_len_seq (by rfl) B.len PySem.boot_len (pa_cons (pe_ix ix_tup (pv 0) pe_int (fun _ _ => rfl)) pa_nil)) pa_nil))))
      (pss_cons (ps_if (pt_cmpR op_gt (pe_callB call_len_dT (by rfl) B.len PySem.boot_len (pa_cons (pv 1) pa_nil)) (pe_glob (v := .int 240) rfl e1 ⟨_, rfl⟩) (nomark _))
        (pss_one (ps_raise rfl (takes_of rfl rfl rfl rfl) (pmk_errI X2 hr2 (by rfl) (pa_cons (pe_glob (v := .int 240) rfl e1 ⟨_, rfl⟩) pa_nil)))) pss_nil)
      (pss_one (ps_ret (pv 1))))), ?_⟩
    refine ⟨_, rfl, v, d, rfl, hd, hs, fun eg H1 s1 => ?_, hb⟩
    obtain ⟨ls, n, ht, hgl, hM, q⟩ := hg eg
    have ht1 := ht.tm (.of s1)
    obtain ⟨a, xs, b, rfl, ha, hp, h0, t, hbt, htl⟩ := ht1.head hgl
    refine ⟨_, rfl, _, rfl, a, xs, 0, .ref b, rfl, rfl, SqT.of ha, h0, b, _, rfl, .inr (hbt.sq), .ref a, ls, n, by rw [nIs_len, htl]; rfl, ht1, hgl.2.2.2.2, by have := hgl.2.2.2.1; omega, by have := hgl.2.1; omega, fun dd H2 L s2 hdd hdw hwd => ?_⟩
    obtain ⟨kvs, hk, pk⟩ := hdw
    have s12 := s1.trans s2
    refine ⟨_, rfl, dd, kvs, rfl, hk, _, _, rfl, rfl, _, rfl, ite2 (fun h => ?_) (fun h => ?_)⟩
    · have h : (240 : Int) < (kvs.length : Int) := of_decide_eq_true h
      have hl : kvs.length = L.length := Paired.length pk
      exact mk_read X2.oex X2.no ((hM L hwd (by omega)).same s12)
    · have h : ¬ ((240 : Int) < (kvs.length : Int)) := fun z => h (decide_eq_true z)
      have hl : kvs.length = L.length := Paired.length pk
      exact ⟨_, rfl, q dd H2 L s12 (s1.free hdd) ⟨kvs, hk, pk⟩ hwd (by omega)⟩
/-! ### is_turn, are_turns, check_turn -/
def keyI (ns : List Int) : List Key := ns.map Sum.inl
theorem keyN_I (t : List Nat) : keyN t = keyI (t.map Int.ofNat) := by
  unfold keyN keyI
  rw [List.map_map]
  rfl
theorem keyI_inj {s t : List Int} (h : keyI s = keyI t) : s = t := by
  unfold keyI at h
  exact (List.map_inj_right (fun x y e => by injection e)).mp h
abbrev numL (L : List (List Nat × List Nat)) : List (List Int) := L.map fun x : List Nat × List Nat => x.1.map Int.ofNat
theorem dw_isSomeK {H : Hp} {ns : List Int} : ∀ {kvs : List (List Key × V)} {L : List (List Nat × List Nat)}, Paired (DE H) kvs L → (valV kvs (keyI ns)).isSome = decide (ns ∈ numL L)
  | _, _, .nil => by simp [valV_nil]
  | p :: ps, q :: qs, .cons r s => by
    have ep : p.1 = keyI (q.1.map Int.ofNat) := by rw [r.1, keyN_I]
    show _ = decide (ns ∈ (q.1.map Int.ofNat) :: numL qs)
    by_cases e : p.1 = keyI ns
    · have e2 : q.1.map Int.ofNat = ns := keyI_inj (ep.symm.trans e)
      rw [valV_pos e, e2, decide_eq_true List.mem_cons_self]
      rfl
    · rw [valV_neg e, dw_isSomeK s]
      refine decide_eq_decide.mpr ⟨fun h => List.mem_cons_of_mem _ h, fun h => ?_⟩
      rcases List.mem_cons.mp h with z | z
      · rw [z] at e
        exact absurd ep e
      · exact z
def isTurnD (L : List (List Nat × List Nat)) (d : PyData) : Bool := isNums d && decide (numsOf d ∈ numL L)
theorem isTurnD_dT (L : List (List Nat × List Nat)) (t : List Nat) : isTurnD L (dT t) = decide (t ∈ L.map (·.1)) := by
  unfold isTurnD
  rw [isNums_dT, Bool.true_and, numsOf_dT]
  refine decide_eq_decide.mpr ⟨fun h => ?_, fun h => ?_⟩
  · obtain ⟨x, hx, e⟩ := List.mem_map.mp h
    rw [← (List.map_inj_right ofNat_inj).mp e]
    exact List.mem_map.mpr ⟨x, hx, rfl⟩
  · obtain ⟨x, hx, e⟩ := List.mem_map.mp h
    exact List.mem_map.mpr ⟨x, hx, by rw [e]⟩
end
end Lt


set_option Elab.async false
set_option linter.all false
set_option maxRecDepth 100000
set_option maxHeartbeats 4000000
namespace Lt
open PySem PySem.Spec PyProof.Rows L2
section
variable {P : Program} {w : World} {K : PySem.W.Frag} {mg : Str → Option Value} {base : Heap} {CL CM CT : Addr}
def spIsTurn : Sp := fun vs H Q _ => ∃ (m : Addr) (L : List (List Nat × List Nat)) (v : V) (d : PyData), vs = [.ref m, v] ∧ DW H m L ∧ Rp H v d ∧ (∀ ds, d = .tuple ds → ds.length ≤ 1000) ∧ ∀ H', Same H H' → Q (.bl (isTurnD L d)) H'
theorem sc_is_turn : FnScope ["made", "value"] ["made", "value"] (defScope s_is_turn) := ⟨rfl, rfl, rfl, by decide +kernel, rfl, by decide +kernel, by decide +kernel⟩
theorem has_is_turn (T : Top K mg "is_turn" s_is_turn ["made", "value"]) (hN : Has P w K mg base CX0 2 "are_numbers" ["value"] spNums) : Has P w K mg base CX0 3 "is_turn" ["made", "value"] spIsTurn := by
  refine T.ok sc_is_turn (fun vs H Q E h => ?_) (fun f cdv A outer s H vs Q E hr h => ?_)
  · obtain ⟨m, L, v, d, rfl, _⟩ := h
    rfl
  · obtain ⟨m, L, v, d, rfl, hw, hd, hl, q⟩ := h
    have hu := hu_of hr
    refine ⟨_, pss_one (ps_ret (pe_and (pe_has hN hr (by rfl) (pa_cons (pv 1) pa_nil)) (pe_one (pe_cmp (pc_dinR hu (pv 1) (pv 0)) (by rfl))))), ?_⟩
    refine ⟨_, rfl, v, d, rfl, hd, hl, fun H1 s1 => ⟨isNums d, rfl, ite2 (fun h => ?_) (fun h => ?_)⟩⟩
    · cases hd with
      | @tup a xs ds ha hx =>
        have h : ds.all isNum = true := h
        have ha1 := ha.sm s1
        rw [nums_vals hx h] at ha1
        have ha2 : RT H1 a ((keyI (ds.map numOf)).map kV) := by unfold keyI; rw [kV_ints]; exact ha1
        obtain ⟨kvs, hk, pk⟩ := hw.same s1
        refine ⟨_, rfl, _, rfl, m, kvs, _, a, rfl, rfl, .inl hk, ha2, ?_⟩
        rw [dw_isSomeK pk]
        have e : decide (ds.map numOf ∈ numL L) = isTurnD L (.tuple ds) := by
          unfold isTurnD
          rw [show isNums (.tuple ds) = true from h, Bool.true_and]
          rfl
        rw [e]
        exact q _ s1
      | non => cases h
      | bl => cases h
      | int => cases h
      | str => cases h
      | lst => cases h
    · have e : false = isTurnD L d := by
        unfold isTurnD
        have z : isNums d = false := by simpa using h
        rw [z]
        rfl
      show Q (.bl false) H1
      rw [e]
      exact q _ s1
end
end Lt

set_option Elab.async false
set_option linter.all false
set_option maxRecDepth 100000
set_option maxHeartbeats 1000000
namespace Lt
open PySem PySem.Spec PyProof.Rows L2
section
variable {P : Program} {w : World} {K : PySem.W.Frag} {mg : Str → Option Value} {base : Heap} {CT : Addr}
def spCheckTurn (CT : Addr) : Sp := fun vs H Q E => ∃ (m : Addr) (L : List (List Nat × List Nat)) (v : V) (d : PyData), vs = [.ref m, v] ∧ DW H m L ∧ Rp H v d ∧ (∀ ds, d = .tuple ds → ds.length ≤ 1000) ∧ (isTurnD L d = true → ∀ H', Same H H' → Q .non H') ∧ (isTurnD L d = false → Bad0 CT H E)
theorem sc_check_turn : FnScope ["made", "turn"] ["made", "turn"] (defScope s_check_turn) := ⟨rfl, rfl, rfl, by decide +kernel, rfl, by decide +kernel, by decide +kernel⟩
theorem has_check_turn (T : Top K mg "check_turn" s_check_turn ["made", "turn"]) (X3 : Err0 K mg "BadTurn" CT) (hT : Has P w K mg base CX0 3 "is_turn" ["made", "value"] spIsTurn) : Has P w K mg base (L2.CX P w) 4 "check_turn" ["made", "turn"] (spCheckTurn CT) := by
  refine T.okX sc_check_turn (fun vs H Q E h => ?_) (fun f cdv A outer s H vs Q E hr h => ?_)
  · obtain ⟨m, L, v, d, rfl, _⟩ := h
    rfl
  · obtain ⟨m, L, v, d, rfl, hw, hd, hl, qg, qb⟩ := h
    refine ⟨_, pss_one (ps_if (pt_not (pt_val (pe_has hT hr (by rfl) (pa_cons (pv 0) (pa_cons (pv 1) pa_nil)))))
      (pss_one (ps_raise rfl (takes_of rfl rfl rfl rfl) (pmk_err0 X3 (by rfl)))) pss_nil), ?_⟩
    refine ⟨_, rfl, _, rfl, m, L, v, d, rfl, hw, hd, hl, fun H1 s1 => ⟨isTurnD L d, rfl, ?_⟩⟩
    cases hb : isTurnD L d with
    | true => exact iteF (qg hb _ s1)
    | false => exact iteT (qb hb _ s1)
end
end Lt

set_option Elab.async false
set_option linter.all false
set_option maxRecDepth 100000
set_option maxHeartbeats 1000000
/-! is_step, are_bits -/
namespace Lt
open PySem PySem.Spec PyProof.Rows L2
/-- an int from 0 to k less 1 -/
def ownD (k : Nat) : PyData → Bool
  | .int i => decide (0 ≤ i) && decide (i < (k : Int))
  | _ => false
def stepD (L : List (List Nat × List Nat)) (k : Nat) : PyData → Bool
  | .tuple [a, b, c] => ownD k a && isTurnD L b && isTurnD L c
  | _ => false
/-- no long tuple within -/
def Sml3 (d : PyData) : Prop := ∀ ds, d = .tuple ds → ds.length ≤ 1000 ∧ ∀ e ∈ ds, ∀ es, e = .tuple es → es.length ≤ 1000
theorem stepD_len {L : List (List Nat × List Nat)} {k : Nat} {ds : List PyData} (h : ds.length ≠ 3) : stepD L k (.tuple ds) = false := by
  match ds with
  | [] => rfl
  | [_] => rfl
  | [_, _] => rfl
  | [_, _, _] => exact absurd rfl h
  | _ :: _ :: _ :: _ :: _ => rfl
theorem three {H : Hp} {xs : List V} {ds : List PyData} (h : RpAll H xs ds) (h3 : ds.length = 3) : ∃ x1 x2 x3 a1 a2 a3, xs = [x1, x2, x3] ∧ ds = [a1, a2, a3] ∧ Rp H x1 a1 ∧ Rp H x2 a2 ∧ Rp H x3 a3 := by
  match ds, xs, h, h3 with
  | [a1, a2, a3], [x1, x2, x3], .cons r1 (.cons r2 (.cons r3 .nil)), _ => exact ⟨x1, x2, x3, a1, a2, a3, rfl, rfl, r1, r2, r3⟩
theorem stepD_no {L : List (List Nat × List Nat)} {k : Nat} {d : PyData} (h : isTup d = false) : stepD L k d = false := by
  cases d with
  | tuple ds => cases h
  | _ => rfl
theorem stepD_3 {L : List (List Nat × List Nat)} {k : Nat} {a b c : PyData} : stepD L k (.tuple [a, b, c]) = (ownD k a && isTurnD L b && isTurnD L c) := rfl
section
variable {P : Program} {w : World} {K : PySem.W.Frag} {mg : Str → Option Value} {base : Heap}
def spIsStep : Sp := fun vs H Q _ => ∃ (m : Addr) (L : List (List Nat × List Nat)) (k : Nat) (v : V) (d : PyData), vs = [.ref m, nI k, v] ∧ DW H m L ∧ Rp H v d ∧ Sml3 d ∧ ∀ H', Same H H' → Q (.bl (stepD L k d)) H'
theorem sc_is_step : FnScope ["made", "inputs", "value", "own", "no", "yes"] ["made", "inputs", "value"] (defScope s_is_step) := ⟨rfl, rfl, rfl, by decide +kernel, rfl, by decide +kernel, by decide +kernel⟩
theorem has_is_step (T : Top K mg "is_step" s_is_step ["made", "inputs", "value"]) (B : Bi mg) (hN : Has P w K mg base CX0 1 "is_number" ["value"] spNum) (hT : Has P w K mg base CX0 3 "is_turn" ["made", "value"] spIsTurn) : Has P w K mg base CX0 4 "is_step" ["made", "inputs", "value"] spIsStep := by
  refine T.ok sc_is_step (fun vs H Q E h => ?_) (fun f cdv A outer s H vs Q E hr h => ?_)
  · obtain ⟨m, L, k, v, d, rfl, _⟩ := h
    rfl
  · obtain ⟨m, L, k, v, d, rfl, hw, hd, hs, q⟩ := h
    have hr1 : Room 1 _ := hr.mono (by decide)
    refine ⟨_, pss_cons (ps_if (PW.pt (pw_or (pt_not (pt_val (pe_callB call_isi (by rfl) B.isinstance PyProof.Rows.boot_isinstance (pa_cons (pv 2) (pa_cons (pe_bltn (by rfl) B.tuple PyProof.Rows.boot_tuple (rr_ty "tuple")) pa_nil)))))
        (pw_or1 (pt_cmpR op_ne (pe_callB call_len_seq (by rfl) B.len PySem.boot_len (pa_cons (pv 2) pa_nil)) pe_int (nomark _))))) (pss_one (ps_ret pe_bl)) pss_nil)
      (pss_cons (ps_asg (pv 2) (pg_tup rfl (pgs_cons (pg_name (i := 3) sc_is_step.nd rfl (Or.inl rfl)) (pgs_cons (pg_name (i := 4) sc_is_step.nd rfl (Or.inl rfl)) (pgs_cons (pg_name (i := 5) sc_is_step.nd rfl (Or.inl rfl)) pgs_nil)))))
      (pss_one (ps_ret (pe_and (pe_has hN hr1 (by rfl) (pa_cons (pv 3) pa_nil)) (pe_and (pe_chain op_le op_lt pe_int (pv 3) (pv 1)) (pe_and (pe_has hT hr (by rfl) (pa_cons (pv 0) (pa_cons (pv 4) pa_nil))) (pe_one (pe_has hT hr (by rfl) (pa_cons (pv 0) (pa_cons (pv 5) pa_nil)))))))))), ?_⟩
    refine ⟨_, rfl, v, .ty "tuple", _, _, isTup d, rfl, .ty _, rp_ty hd, kit_ty (kit_tup d), isTup d, rfl, ?_⟩
    cases hd with
    | @tup a xs ds ha hx =>
      have hxl := hx.len
      obtain ⟨hs1, hs2⟩ := hs ds rfl
      refine iteF ⟨_, rfl, a, xs, rfl, .inr ha.sq, rfl, ?_⟩
      by_cases h3 : ds.length = 3
      · refine ⟨false, congrArg (fun b => V.bl (!b)) (decide_eq_true (by rw [hxl, h3]; rfl)), iteF ?_⟩
        obtain ⟨x1, x2, x3, a1, a2, a3, rfl, rfl, r1, r2, r3⟩ := three hx h3
        rw [stepD_3] at q
        · refine ⟨_, rfl, a, _, rfl, ha.sq, rfl, x1, _, rfl, x2, _, rfl, x3, _, rfl, rfl, ?_⟩
          have h2 := hs2 a2 (by simp)
          have h5 := hs2 a3 (by simp)
          refine ⟨_, rfl, x1, a1, rfl, r1, isNum a1, rfl, ?_⟩
          cases e1 : isNum a1 with
          | false =>
            refine iteF ?_
            have e : ownD k a1 = false := by cases a1 <;> first | rfl | cases e1
            rw [e] at q
            exact q _ (Same.refl _)
          | true =>
            refine iteT ?_
            cases r1 with
            | int i =>
              have eo : ∀ H' : Hp, Same H H' → Q (.bl (ownD k (.int i) && isTurnD L a2 && isTurnD L a3)) H' := q
              have eo' : ownD k (.int i) = (decide ((0 : Int) ≤ i) && decide (i < (k : Int))) := rfl
              rw [eo'] at eo
              refine ⟨_, rfl, 0, i, rfl, rfl, decide ((0 : Int) ≤ i), rfl, ?_⟩
              cases e0 : decide ((0 : Int) ≤ i) with
              | false =>
                rw [e0] at eo
                exact iteF ⟨false, rfl, iteF (eo _ (Same.refl _))⟩
              | true =>
                rw [e0] at eo
                refine iteT ⟨_, rfl, i, (k : Int), rfl, rfl, decide (i < (k : Int)), rfl, ?_⟩
                cases e2 : decide (i < (k : Int)) with
                | false =>
                  rw [e2] at eo
                  exact iteF (eo _ (Same.refl _))
                | true =>
                  rw [e2] at eo
                  refine iteT ⟨_, rfl, _, rfl, m, L, x2, a2, rfl, hw, r2, h2, fun H1 s1 => ⟨isTurnD L a2, rfl, ?_⟩⟩
                  cases e4 : isTurnD L a2 with
                  | false =>
                    rw [e4] at eo
                    exact iteF (eo _ s1)
                  | true =>
                    rw [e4] at eo
                    exact iteT ⟨_, rfl, _, rfl, m, L, x3, a3, rfl, hw.same s1, Rp.same s1 _ _ r3, h5, fun H2 s2 => eo _ (s1.trans s2)⟩
            | non => cases e1
            | bl => cases e1
            | str => cases e1
            | lst => cases e1
            | tup => cases e1
      · have h4 : ¬ V.int (xs.length : Int) = V.int 3 := fun z => by
          injection z with z
          omega
        refine ⟨true, congrArg (fun b => V.bl (!b)) (decide_eq_false h4), iteT ?_⟩
        rw [stepD_len h3] at q
        exact q _ (Same.refl _)
    | non =>
      rw [stepD_no rfl] at q
      exact iteT (q _ (Same.refl _))
    | bl =>
      rw [stepD_no rfl] at q
      exact iteT (q _ (Same.refl _))
    | int =>
      rw [stepD_no rfl] at q
      exact iteT (q _ (Same.refl _))
    | str =>
      rw [stepD_no rfl] at q
      exact iteT (q _ (Same.refl _))
    | lst =>
      rw [stepD_no rfl] at q
      exact iteT (q _ (Same.refl _))
/-! ### are_bits -/
end
end Lt

set_option Elab.async false
set_option linter.all false
set_option maxRecDepth 100000
set_option maxHeartbeats 1000000
/-! class Dial -/
namespace Lt
open PySem PySem.Spec PyProof.Rows L2
section
variable (P : Program) (w : World) (K : PySem.W.Frag) (mg : Str → Option Value) (base : Heap)
end
section
variable {P : Program} {w : World} {K : PySem.W.Frag} {mg : Str → Option Value} {base : Heap}
end
section
variable {X : Cx} {CX : CXT}
end
end Lt

set_option Elab.async false
set_option linter.all false
set_option maxRecDepth 100000
set_option maxHeartbeats 1000000
namespace Lt
open PySem PySem.Spec PyProof.Rows L2
/-! ### the row of draws -/
/-- all but the object at r is as it was -/
def StepR (r : Addr) (H H' : Hp) : Prop := ∀ a o, a ≠ r → H a = some o → H' a = some o
theorem StepR.refl (r : Addr) (H : Hp) : StepR r H H := fun _ _ _ h => h
theorem StepR.trans {r : Addr} {H H1 H2 : Hp} (a : StepR r H H1) (b : StepR r H1 H2) : StepR r H H2 := fun c o hc h => b c o hc (a c o hc h)
theorem StepR.of {r : Addr} {H H' : Hp} (e : Same H H') : StepR r H H' := fun a o _ h => e a o h
theorem StepR.put (r : Addr) (H : Hp) (o : HO) : StepR r H (upd H r o) := fun a u h e => by rw [upd_ne h]; exact e
structure Row4 (K : PySem.W.Frag) (H : Hp) (r sc : Addr) (ns : List Int) (a b c : Int) : Prop where
  at_ : H r = some (.lst [.ref sc, .int a, .int b, .int c])
  sc : SqL K H sc (ns.map V.int)
  a0 : 0 ≤ a
  b0 : 0 ≤ b
  b1 : b < 2147483647
def RowAt (K : PySem.W.Frag) (H : Hp) (r sc : Addr) (ns : List Int) : Prop := ∃ a b c, Row4 K H r sc ns a b c
theorem StepR.tm {K : PySem.W.Frag} {r sc : Addr} {ns : List Int} {H H' : Hp} (s : StepR r H H') (h : RowAt K H r sc ns) : Tm H H' := by
  obtain ⟨x, b, c, R⟩ := h
  exact ⟨fun a xs e => s a _ (ne_of e R.at_ (fun z => nomatch z)) e, fun a o xs e => s a _ (ne_of e R.at_ (fun z => nomatch z)) e⟩
theorem sq_upd {K : PySem.W.Frag} {H : Hp} {r sc x : Addr} {o : HO} {ns : List Int} {ys : List V} (hr : H r = some (.lst (.ref x :: ys))) (h : SqL K H sc (ns.map V.int)) : SqL K (upd H r o) sc (ns.map V.int) := by
  have key : ∀ u, H sc = some u → u = .lst (ns.map V.int) ∨ (∃ ob, u = .frz ob (.lst (ns.map V.int))) → upd H r o sc = some u := fun u hu hc => by
    refine (upd_ne (ne_of hu hr fun z => ?_)).trans hu
    rcases hc with e | ⟨ob, e⟩
    · rw [e] at z
      injection z with z
      cases ns with
      | nil => cases z
      | cons n ns => cases z
    · rw [e] at z
      cases z
  rcases h with (h | ⟨ob, h⟩) | h
  · exact .inl (.inl (key _ h (.inl rfl)))
  · exact .inl (.inr ⟨ob, key _ h (.inr ⟨ob, rfl⟩)⟩)
  · exact .inr h
theorem Row4.put {K : PySem.W.Frag} {H : Hp} {r sc : Addr} {ns : List Int} {a b c a' b' c' : Int} (h : Row4 K H r sc ns a b c) (h1 : 0 ≤ a') (h2 : 0 ≤ b') (h3 : b' < 2147483647) : Row4 K (upd H r (.lst [.ref sc, .int a', .int b', .int c'])) r sc ns a' b' c' :=
  ⟨upd_same, sq_upd h.at_ h.sc, h1, h2, h3⟩
theorem RowAt.step {K : PySem.W.Frag} {H H' : Hp} {r sc : Addr} {ns : List Int} (h : RowAt K H r sc ns) (s : Same H H') : RowAt K H' r sc ns := by
  obtain ⟨a, b, c, R⟩ := h
  exact ⟨a, b, c, s _ _ R.at_, Same.seq s R.sc, R.a0, R.b0, R.b1⟩
theorem RowAt.sq {K : PySem.W.Frag} {H : Hp} {r sc : Addr} {ns : List Int} (h : RowAt K H r sc ns) : SqL K H sc (ns.map V.int) := let ⟨_, _, _, R⟩ := h; R.sc
theorem RowAt.ne {K : PySem.W.Frag} {H : Hp} {r sc l : Addr} {ns : List Int} (h : RowAt K H r sc ns) (hl : H l = none) : r ≠ l := let ⟨_, _, _, R⟩ := h; ne_of_none R.at_ hl
/-- an object that was not there at H0, where the row stood, may change -/
theorem RowAt.mut {K : PySem.W.Frag} {H0 H : Hp} {r sc l : Addr} {o : HO} {ns : List Int} (h0 : RowAt K H0 r sc ns) (hl : H0 l = none) (h : RowAt K H r sc ns) : RowAt K (upd H l o) r sc ns := by
  have hr := h0.ne hl
  have s0 := h0.sq
  obtain ⟨a, b, c, R⟩ := h
  refine ⟨a, b, c, (upd_ne hr).trans R.at_, ?_, R.a0, R.b0, R.b1⟩
  rcases s0 with (s0 | ⟨ob, s0⟩) | s0
  · have hne : sc ≠ l := ne_of_none s0 hl
    rcases R.sc with (z | ⟨ob, z⟩) | z
    · exact .inl (.inl ((upd_ne hne).trans z))
    · exact .inl (.inr ⟨ob, (upd_ne hne).trans z⟩)
    · exact .inr z
  · have hne : sc ≠ l := ne_of_none s0 hl
    rcases R.sc with (z | ⟨ob, z⟩) | z
    · exact .inl (.inl ((upd_ne hne).trans z))
    · exact .inl (.inr ⟨ob, (upd_ne hne).trans z⟩)
    · exact .inr z
  · exact .inr s0
theorem StepR.mut {r l : Addr} {H0 H : Hp} {o : HO} (s : StepR r H0 H) (hl : H0 l = none) : StepR r H0 (upd H l o) := fun a u ha e => by
  rw [upd_ne (ne_of_none e hl)]
  exact s a u ha e
theorem StepR.free {r l : Addr} {H0 H : Hp} (s : StepR r H0 H) (hr : r ≠ l) (hl : H l = none) : H0 l = none := by
  cases e : H0 l with
  | none => rfl
  | some o =>
    rw [s l o (Ne.symm hr) e] at hl
    cases hl
section
variable {P : Program} {w : World} {K : PySem.W.Frag} {mg : Str → Option Value} {base : Heap}
def spTaken (K : PySem.W.Frag) : Sp := fun vs H Q _ => ∃ (r sc : Addr) (ns : List Int) (m : Nat), vs = [.ref r, nI m] ∧ RowAt K H r sc ns ∧ 1 ≤ m ∧ m ≤ 1000 ∧ ∀ x H', x < m → StepR r H H' → RowAt K H' r sc ns → Q (nI x) H'
theorem sc_law_taken : FnScope ["row", "many", "found", "cell"] ["row", "many"] (defScope s_law_taken) := ⟨rfl, rfl, rfl, by decide +kernel, rfl, by decide +kernel, by decide +kernel⟩
theorem fmod_nat {i : Int} {m : Nat} (h : 1 ≤ m) : ∃ x : Nat, x < m ∧ Int.fmod i (m : Int) = (x : Int) := by
  have h0 : (0 : Int) < (m : Int) := by omega
  rw [Int.fmod_eq_emod_of_nonneg i (Int.le_of_lt h0)]
  have h1 := Int.emod_nonneg i (show (m : Int) ≠ 0 by omega)
  have h2 := Int.emod_lt_of_pos i h0
  exact ⟨(i % m).toNat, by omega, by omega⟩
theorem has_law_taken (T : Top K mg "_law_taken" s_law_taken ["row", "many"]) (B : Bi mg) : Has P w K mg base CX0 1 "_law_taken" ["row", "many"] (spTaken K) := by
  refine T.ok sc_law_taken (fun vs H Q E h => ?_) (fun f cdv A outer s H vs Q E hr h => ?_)
  · obtain ⟨r, sc, ns, m, rfl, _⟩ := h
    rfl
  · obtain ⟨r, sc, ns, m, rfl, ⟨a, b, c, R⟩, hm1, hm2, q⟩ := h
    refine ⟨_, pss_cons (ps_if (pt_cmpR op_gt (pe_ix ix_list (pv 0) pe_int (fun _ _ => rfl)) pe_int (nomark _))
        (pss_cons (ps_set (i := 2) sc_law_taken.nd rfl (Or.inl rfl) (pe_op op_modN (pe_callTy call_int1 (by rfl) B.int PyProof.Rows.boot_int (pa_cons (pe_ix ix_list (pv 0) pe_int (fun _ _ => rfl)) pa_nil)) (pv 1)))
        (pss_cons (ps_asg (pe_op op_fdivN (pe_ix ix_list (pv 0) pe_int (fun _ _ => rfl)) (pv 1)) (pg_sub (pv 0) pe_int set_list))
        (pss_one (ps_ret (pv 2))))) pss_nil)
      (pss_cons (ps_asg (pe_op op_add (pe_ix ix_list (pv 0) pe_int (fun _ _ => rfl)) pe_int) (pg_sub (pv 0) pe_int set_list))
      (pss_cons (ps_if (pt_cmpR op_gt (pe_ix ix_list (pv 0) pe_int (fun _ _ => rfl)) (pe_callB call_len_seq (by rfl) B.len PySem.boot_len (pa_cons (pe_ix ix_list (pv 0) pe_int (fun _ _ => rfl)) pa_nil)) (nomark _))
        (pss_cons (ps_asg (pe_op op_modN (pe_callTy call_int1 (by rfl) B.int PyProof.Rows.boot_int (pa_cons (pe_op op_add (pe_op op_mul (pe_ix ix_list (pv 0) pe_int (fun _ _ => rfl)) pe_int) pe_int) pa_nil)) pe_int) (pg_sub (pv 0) pe_int set_list))
        (pss_one (ps_ret (pe_op op_modN (pe_callTy call_int1 (by rfl) B.int PyProof.Rows.boot_int (pa_cons (pe_op op_fdivN (pe_ix ix_list (pv 0) pe_int (fun _ _ => rfl)) pe_int) pa_nil)) (pv 1))))) pss_nil)
      (pss_cons (ps_set (i := 3) sc_law_taken.nd rfl (Or.inl rfl) (pe_ix ix_list (pe_ix ix_list (pv 0) pe_int (fun _ _ => rfl)) (pe_op op_sub (pe_ix ix_list (pv 0) pe_int (fun _ _ => rfl)) pe_int) (fun _ _ => rfl)))
      (pss_cons (ps_asg (pe_op op_modN (pe_callTy call_int1 (by rfl) B.int PyProof.Rows.boot_int (pa_cons (pe_op op_add (pe_op op_add (pe_op op_mul (pe_ix ix_list (pv 0) pe_int (fun _ _ => rfl)) pe_int) (pv 3)) pe_int) pa_nil)) pe_int) (pg_sub (pv 0) pe_int set_list))
      (pss_cons (ps_if (pt_cmpR op_ge (pv 3) (pe_op op_pow pe_int pe_int) (nomark _))
        (pss_one (ps_asg (pe_op op_fdivN (pv 3) (pv 1)) (pg_sub (pv 0) pe_int set_list))) pss_nil)
      (pss_one (ps_ret (pe_op op_modN (pe_callTy call_int1 (by rfl) B.int PyProof.Rows.boot_int (pa_cons (pv 3) pa_nil)) (pv 1))))))))), ?_⟩
    have hm0 : (m : Int) ≠ 0 := by omega
    have hmb : ((m : Int)).natAbs < 1073741824 := by omega
    have rd : ∀ {H a b c}, Row4 K H r sc ns a b c → SqL K H r [.ref sc, .int a, .int b, .int c] := fun R => SqL.of R.at_
    have a00 := R.a0
    have b00 := R.b0
    have b11 := R.b1
    have fin : ∀ i H', StepR r H H' → RowAt K H' r sc ns → Q (.int (Int.fmod i m)) H' := fun i H' st ra => by
      obtain ⟨x, hx, ex⟩ := fmod_nat (i := i) hm1
      rw [ex]
      exact q x H' hx st ra
    refine ⟨_, rfl, r, _, 3, .int c, rfl, rfl, rd R, rfl, c, 0, rfl, rfl, _, rfl, ite2 (fun hc => ?_) (fun hc => ?_)⟩
    · refine ⟨_, rfl, r, _, 3, .int c, rfl, rfl, rd R, rfl, .inl ⟨_, rfl, _, rfl, c, m, rfl, rfl, hm0, ?_⟩⟩
      refine ⟨_, rfl, r, _, 3, .int c, rfl, rfl, rd R, rfl, _, rfl, c, m, rfl, rfl, ⟨hm0, hmb⟩, _, rfl, r, _, 3, 3, rfl, rfl, R.at_, rfl, ?_⟩
      exact ⟨_, rfl, fin c _ (StepR.put _ _ _) ⟨a, b, _, R.put a00 b00 b11⟩⟩
    · have R1 := R.put (a' := a + 1) (b' := b) (c' := c) (by omega) b00 b11
      refine ⟨_, rfl, r, _, 1, .int a, rfl, rfl, rd R, rfl, a, 1, rfl, rfl, _, rfl, r, _, 1, 1, rfl, rfl, R.at_, rfl, ?_⟩
      refine ⟨_, rfl, r, _, 1, .int (a + 1), rfl, rfl, rd R1, rfl, _, rfl, r, _, 0, .ref sc, rfl, rfl, rd R1, rfl, sc, ns.map V.int, rfl, .inl R1.sc, a + 1, _, rfl, rfl, _, rfl, ite2 (fun h2 => ?_) (fun h2 => ?_)⟩
      · obtain ⟨y, hy, ey⟩ := fmod_nat (i := b * 48271 + 11) (m := 2147483647) (by decide)
        have ey' : Int.fmod (b * 48271 + 11) 2147483647 = (y : Int) := ey
        have R2 := R1.put (a' := a + 1) (b' := Int.fmod (b * 48271 + 11) 2147483647) (c' := c) (by omega) (by omega) (by omega)
        refine ⟨_, rfl, r, _, 2, .int b, rfl, rfl, rd R1, rfl, b, 48271, rfl, rfl, .inl ⟨by omega, by omega⟩, b * 48271, 11, rfl, rfl, .inl ⟨_, rfl, b * 48271 + 11, 2147483647, rfl, rfl, (show (2147483647 : Int) ≠ 0 by decide), _, rfl, r, _, 2, 2, rfl, rfl, R1.at_, rfl, ?_⟩⟩
        refine ⟨_, rfl, r, _, 2, .int _, rfl, rfl, rd R2, rfl, _, 7, rfl, rfl, ⟨by decide, by decide⟩, .inl ⟨_, rfl, _, rfl, _, m, rfl, rfl, hm0, ?_⟩⟩
        exact fin _ _ ((StepR.put _ _ _).trans (StepR.put _ _ _)) ⟨_, _, _, R2⟩
      · have h2 : ¬ (((ns.map V.int).length : Int) < a + 1) := fun z => h2 (decide_eq_true z)
        rw [List.length_map] at h2
        have hlt : a.toNat < ns.length := by omega
        have hat : atI (ns.map V.int) (a + 1 - 1) = some (.int ns[a.toNat]) := by
          have e : a + 1 - 1 = ((a.toNat : Nat) : Int) := by omega
          rw [e]
          refine atI_nat ?_
          rw [List.getElem?_map, List.getElem?_eq_getElem hlt]
          rfl
        generalize ns[a.toNat] = z at hat
        refine ⟨_, rfl, r, _, 0, .ref sc, rfl, rfl, rd R1, rfl, _, rfl, r, _, 1, .int (a + 1), rfl, rfl, rd R1, rfl, a + 1, 1, rfl, rfl, sc, _, a + 1 - 1, .int z, rfl, rfl, R1.sc, hat, ?_⟩
        obtain ⟨y, hy, ey⟩ := fmod_nat (i := b * 48271 + z + 11) (m := 2147483647) (by decide)
        have ey' : Int.fmod (b * 48271 + z + 11) 2147483647 = (y : Int) := ey
        have R2 := R1.put (a' := a + 1) (b' := Int.fmod (b * 48271 + z + 11) 2147483647) (c' := c) (by omega) (by omega) (by omega)
        refine ⟨_, rfl, r, _, 2, .int b, rfl, rfl, rd R1, rfl, b, 48271, rfl, rfl, .inl ⟨by omega, by omega⟩, _, rfl, b * 48271, z, rfl, rfl, b * 48271 + z, 11, rfl, rfl, .inl ⟨_, rfl, b * 48271 + z + 11, 2147483647, rfl, rfl, (show (2147483647 : Int) ≠ 0 by decide), _, rfl, r, _, 2, 2, rfl, rfl, R1.at_, rfl, ?_⟩⟩
        refine ⟨_, rfl, 10, 18, rfl, rfl, ⟨by decide, by decide, by decide⟩, z, _, rfl, rfl, _, rfl, ite2 (fun h3 => ?_) (fun h3 => ?_)⟩
        · refine ⟨_, rfl, _, rfl, z, m, rfl, rfl, ⟨hm0, hmb⟩, _, rfl, r, _, 3, 3, rfl, rfl, R2.at_, rfl, ?_⟩
          refine ⟨_, rfl, .inl ⟨_, rfl, _, rfl, _, m, rfl, rfl, hm0, ?_⟩⟩
          exact fin _ _ (((StepR.put _ _ _).trans (StepR.put _ _ _)).trans (StepR.put _ _ _)) ⟨_, _, _, R2.put (by omega) (by omega) (by omega)⟩
        · refine ⟨_, rfl, .inl ⟨_, rfl, _, rfl, _, m, rfl, rfl, hm0, ?_⟩⟩
          exact fin _ _ ((StepR.put _ _ _).trans (StepR.put _ _ _)) ⟨_, _, _, R2⟩
end
end Lt

set_option Elab.async false
set_option linter.all false
set_option maxRecDepth 100000
set_option maxHeartbeats 2000000
/-! lambdas in a body: made (with defaults or without), held by a name, called -/
namespace LmX
open PySem PySem.Spec PyProof.Rows L2 LamX NdefX
section
variable {X : Cx} {pins : List (Addr × Obj)} {σ : L2.St} {H : Hp} {s : Shared}
end
section
variable {X : Cx} {T : List (Addr × Str)} {c P : Addr} {params : Arguments} {body : Expr} {scope : Scope} {pos : Pos}
end
end LmX

set_option Elab.async false
set_option linter.all false
set_option maxRecDepth 100000
set_option maxHeartbeats 4000000
/-! several clauses «except X as n», one name n for all -/
namespace MaX
open PySem PySem.Spec PyProof.Rows L2
abbrev Cl := Value × (Addr → Value → Option Addr → TS)
/-- what the clauses wish of an error of the body -/
def wMA (K : PySem.W.Frag) (i : Nat) (Wo : WX) (D : Ends) : List Cl → WX
  | [] => Wo
  | u :: r => wAs K u.1 i u.2 (wMA K i Wo D r) D
inductive HAs (X : Cx) (n : Str) : List ExceptHandler → List Cl → Prop
  | nil : HAs X n [] []
  | cons {x : Str} {c : Value} {ts : Addr → Value → Option Addr → TS} {b : Stmt} {bs : List Stmt} {np q : Pos} {hds : List ExceptHandler} {l : List Cl} (hc : Names X x c)
      (su : ∀ (a : Addr) (o : Obj) (k : Value) (d : Option Addr) (pn : List (Addr × Obj)), Zc k d o → (∃ vs, o.data = .fields vs) → PSs (X.suite a ((a, o) :: pn)) (b :: bs) (ts a k d)) (r : HAs X n hds l) :
      HAs X n (.ExceptHandler (some (.Name x np)) (some n) (b :: bs) q :: hds) ((c, ts) :: l)
section
variable {X : Cx} {n : Str} {i : Nat} {bd : List Stmt} {h0 : ExceptHandler} {hds : List ExceptHandler} {l : List Cl} {p : Pos} {tb : WX → TS} {Wo : WX}
theorem ps_try_asM (hs : X.stack = X.env :: X.outer) (hf : X.env.frame = some X.env.locals) (hN : X.N.Nodup) (hi : X.N[i]? = some n) (hn : X.env.kindOf n = some .local) (tk : Takes X Wo)
    (hb : ∀ (W : WX) (pn : List (Addr × Obj)) (xe : Value → Shared → Prop), Takes (X.tr pn xe) W → PassesOwn (model X.prog X.w) X.A X.env xe → PSs (X.tr pn xe) bd (tb W)) (hh : HAs X n (h0 :: hds) l) :
    PS X (.Try bd (h0 :: hds) [] [] p) (fun D σ H => tb (wMA X.K i Wo D l) D σ H) := by
  refine ⟨fun pi s σ H D I h => wpAny_Try_except ?_⟩
  have ok := I.ok
  have frm : X.A.frames = some (X.env :: X.outer) := ok.frames.trans (congrArg some hs)
  have lo : Loc X.env.scope n := .inl hn
  refine wpAny_mono ((hb (wMA X.K i Wo D l) (X.pn ++ pi) (fun er s1 => wpAny (model X.prog X.w) X.A (noteFrame er X.env) (fun _ s2 => wpAny (model X.prog X.w) X.A (setFlight er none) (fun _ s3 => wpAny (model X.prog X.w) X.A (handleBy er X.env (h0 :: hds)) (SP X pi D) X.xe s3) X.xe s2) X.xe s1)
    (fun u t xx => ?_) PassesOwn.looking).run [] s σ H D (I.toTry _) h) (fun fl s1 hsp => ?_) (fun _ _ he => he)
  · obtain ⟨a, B, sJ, qs, σ1, H1, k, d, rfl, J0, nb, up, sk, na, os, ag, w⟩ := xx
    have J := J0.ofTry (X := X) ok
    have sk1 : Sky B (X.env :: X.outer) a (Zc k d) X.env.locals t.heap := hs ▸ sk
    show wpAny _ X.A (noteFrame (.ref a) X.env) _ _ _
    refine Sky.land Zc.steady frm hf sk1 fun h3 f3 u3 => ?_
    have J3 : Inv X pi σ1 H1 { t with heap := h3 } := J.landed nb f3.1 (up.trans u3) os ag
    obtain ⟨o3, v3, e3, z3, d3⟩ := f3.there
    have nfr : a ∉ frs (X.env :: X.outer) := fun hm => by
      obtain ⟨_, o', e', g⟩ := f3.2.2.1.mem hm
      cases e3.symm.trans e'
      exact g _ d3
    have nL : a ≠ X.env.locals := fun z => nfr (List.mem_filterMap.mpr ⟨X.env, .head _, hf.trans (congrArg some z.symm)⟩)
    have nF : a ∉ X.fs := fun hm => let ⟨e, he, g⟩ := List.mem_filterMap.mp hm; nfr (List.mem_filterMap.mpr ⟨e, .tail _ he, g⟩)
    have S3 := J3.suite e3 d3 na nL nF
    have go : ∀ {hs' : List ExceptHandler} {l' : List Cl}, HAs X n hs' l' → wMA X.K i Wo D l' k d σ1 H1 → wpAny (model X.prog X.w) X.A (handleBy (.ref a) X.env hs') (SP X pi D) X.xe { t with heap := h3 } := by
      intro hs' l' hk
      induction hk with
      | nil =>
        refine fun w => wpAny_handleBy_nil ?_
        obtain ⟨_, _, _, o, vs, T, _, _, he, _, hd, g1, _⟩ := id f3
        unfold PySem.passOn
        refine wpAny_bind (wpAny_field he hd g1 ?_)
        have nn : ¬ ((Value.ref T == Value.none) = true) := by simp
        rw [if_neg nn]
        have fin : wpAny (model X.prog X.w) X.A (setFlight (.ref a) X.env.frame) (fun _ s4 => wpAny (model X.prog X.w) X.A (throw (.ref a) : Sem Flow) (SP X pi D) X.xe s4) X.xe { t with heap := h3 } := hf ▸ HandSPX.setFlight_upZ f3 fun h4 g4 u4 => wpAny_throw (tk _ _ ⟨a, B, sJ, pi, σ1, H1, k, d, rfl, J, nb, (up.trans u3).trans u4, .inr (.inr (hs ▸ g4)), na, os, ag, w⟩)
        first | exact wpAny_bind fin | exact wpAny_bind (wpAny_pure (wpAny_bind fin))
      | @cons x c ts b bs np q hds2 l2 hc su r ih =>
        rintro ⟨bb, hb1, yes, no⟩
        refine wpAny_handleBy_cons (codeAny_handlers_test ?_) (fun q => nomatch q)
        have LM := PySem.W.exm_one (M := model X.prog X.w) (e := a) J3.kIn (fun A Q E s g q => wpAny_typeOf_ref (g _ _ e3) (z3.1.symm ▸ q)) hb1
        have tst : ∀ {Q : Value → Shared → Prop} {E : Value → Shared → Prop}, Q c { t with heap := h3 } → wpAny (model X.prog X.w) (X.A.mark (some (.ref a))) (eval (.Name x np) X.env) Q E { t with heap := h3 } := fun {Q E} g => by
          rcases hc with ⟨hg, dbg, hm | ⟨hm, hv, nnm⟩⟩
          · exact ld_glob (X := X.suite a ((a, o3) :: (X.pn ++ pi))) S3 hg hm g dbg
          · exact ld_blt (X := X.suite a ((a, o3) :: (X.pn ++ pi))) S3 hg hm hv g nnm dbg
        refine tst (LM.here ?_)
        cases bb with
        | false => exact ih (no rfl)
        | true =>
          refine codeAny_handlers_suite_as (HandSPX.lands_againZ f3 fun h4 f4 u4 => ?_)
          have J4 : Inv X pi σ1 H1 { t with heap := h4 } := J.landed nb f4.1 ((up.trans u3).trans u4) os ag
          obtain ⟨o4, v4, e4, z4, d4⟩ := f4.there
          refine store_ok (X := X.suite a ((a, o4) :: (X.pn ++ pi))) (v := .ref a) (J4.suite e4 d4 na nL nF) hN hi lo rfl (fun s5 S5 => ?_) (.inr hn)
          refine wpAny_mono ((su a o4 k d (X.pn ++ pi) z4 ⟨_, d4⟩).run [] s5 _ H1 _ S5 (yes rfl a na)) (fun f s6 g6 => ?_) (fun _ _ z => z.elim)
          have fin : ∀ {σ6 : L2.St} {H6 : Hp} {Q : Shared → Prop}, Inv (X.suite a ((a, o4) :: (X.pn ++ pi))) [] σ6 H6 s6 → (∀ s7, Inv X pi (σ6.set i none) H6 s7 → Q s7) →
              wpAny (model X.prog X.w) X.A (do bindName X.env n .none; unbindBehindTheSuite X.env n q) (fun _ s7 => Q s7) X.xe s6 := fun {_ _ _} S6 hq => gone_ok (S6.unsuite ok) hN hi hn hq
          cases f with
          | next => exact let ⟨_, _, S6, g⟩ := g6; fin S6 fun s7 J7 => ⟨_, _, J7, g⟩
          | brk => exact let ⟨_, _, S6, g⟩ := g6; fin S6 fun s7 J7 => ⟨_, _, J7, g⟩
          | cont => exact let ⟨_, _, S6, g⟩ := g6; fin S6 fun s7 J7 => ⟨_, _, J7, g⟩
          | ret u => exact let ⟨_, _, _, S6, rv, g⟩ := g6; fin S6 fun s7 J7 => ⟨_, _, _, J7, rv, g⟩
    exact go hh w
  · cases fl with
    | next => exact let ⟨σ', H', J', g⟩ := hsp; wpAny_execs_nil ⟨σ', H', J'.ofTry ok, g⟩
    | brk => exact let ⟨σ', H', J', g⟩ := hsp; ⟨σ', H', J'.ofTry ok, g⟩
    | cont => exact let ⟨σ', H', J', g⟩ := hsp; ⟨σ', H', J'.ofTry ok, g⟩
    | ret u => exact let ⟨v, σ', H', J', rv, g⟩ := hsp; ⟨v, σ', H', J'.ofTry ok, rv, g⟩
end
end MaX

set_option Elab.async false
set_option linter.all false
set_option maxRecDepth 100000
set_option maxHeartbeats 2000000
/-! lambdas of a law, the loop over them -/
namespace Lt
open PySem PySem.Spec PyProof.Rows L2 NdefX LamX LmX MaX
theorem exm_not {K : PySem.W.Frag} {S T : Addr} (h1 : PySem.W.subIn K (.ref S) (.type "BaseException") = some true) (h2 : PySem.W.isClsIn K S = true) (h3 : PySem.W.typeIn K (.ref S) = some (.type "type")) (h4 : PySem.W.subIn K (.ref T) (.ref S) = some false) : PySem.W.exmOne K (.ref T) (.ref S) = some false := by
  have i2 : (PySem.W.clsIn K S).isSome = true := h2
  have a : (if ((PySem.W.clsIn K S).isSome && PySem.W.typeIn K (.ref S) == some (.type "type")) = true then PySem.W.subIn K (.ref T) (.ref S) else none) = some false := by
    rw [if_pos (by rw [i2, h3]; rfl)]
    exact h4
  have b : (PySem.W.subIn K (.ref S) (.type "BaseException") == some true) = true := by
    rw [h1]
    rfl
  exact (if_pos b).trans a
end Lt

set_option Elab.async false
set_option linter.all false
set_option maxRecDepth 100000
set_option maxHeartbeats 2000000
namespace Lt
open PySem PySem.Spec PyProof.Rows L2 NdefX LamX LmX
/-- a name of a text -/
def Cs (mg : Str → Option Value) (x z : Str) : Prop := ∃ t, mg x = some (.str z t)
/-- a name of a tuple of texts -/
def Ct (K : PySem.W.Frag) (mg : Str → Option Value) (x : Str) (zs : List Str) : Prop := ∃ J : Addr, mg x = some (.ref J) ∧ ∀ H, SqT K H J (zs.map V.str)
def clsB : Stmt → List Stmt
  | .ClassDef _ _ _ b _ _ _ _ _ _ _ => b
  | _ => []
def initS (st : Stmt) : Stmt := (clsB st).getD 0 (.Pass ⟨0, 0, 0, 0⟩)
section
variable {P : Program} {w : World} {K : PySem.W.Frag} {mg : Str → Option Value} {base : Heap}
/-- a class's own line: an error is what «except» of its class names -/
theorem exm_own {S : Addr} (h1 : PySem.W.subIn K (.ref S) (.type "BaseException") = some true) (h2 : PySem.W.isClsIn K S = true) (h3 : PySem.W.typeIn K (.ref S) = some (.type "type")) (h4 : PySem.W.subIn K (.ref S) (.ref S) = some true) : PySem.W.exmOne K (.ref S) (.ref S) = some true := by
  have i2 : (PySem.W.clsIn K S).isSome = true := h2
  have a : (if ((PySem.W.clsIn K S).isSome && PySem.W.typeIn K (.ref S) == some (.type "type")) = true then PySem.W.subIn K (.ref S) (.ref S) else none) = some true := by
    rw [if_pos (by rw [i2, h3]; rfl)]
    exact h4
  have b : (PySem.W.subIn K (.ref S) (.type "BaseException") == some true) = true := by
    rw [h1]
    rfl
  exact (if_pos b).trans a
structure ErrFs (K : PySem.W.Frag) (mg : Str → Option Value) (x fld : Str) (C : Addr) (st : Stmt) : Prop where
  g : mg x = some (.ref C)
  cls : ∃ nm q N bs bm sn sub ab col dd k0 k1 k2 k3 k5, K.lookup C = some (excClassObj nm q C N bs bm true sn sub ab col dd k0 k1 k2 k3 k5 "ValueError.__new__") ∧ PySem.HandSPX.refsVE bm = true
  sa : PySem.W.findIn K (.ref C) "__setattr__" = some (some (.builtin "object.__setattr__"))
  ga : PySem.W.findIn K (.ref C) "__getattribute__" = some (some (.builtin "BaseException.__getattribute__"))
  gg : PySem.W.findIn K (.ref C) "__getattr__" = some none
  no : PySem.W.findIn K (.ref C) fld = some none
  kC : PySem.W.keepIn K (.ref C) = true
  eC : PySem.W.subIn K (.ref C) (.type "BaseException") = some true
  tC : PySem.W.typeIn K (.ref C) = some (.type "type")
  hC : PySem.W.hasDictIn K C = true
  iC : PySem.W.isClsIn K C = true
  sC : PySem.W.subIn K (.ref C) (.ref C) = some true
  init : ∃ fI fd, PySem.W.findIn K (.ref C) "__init__" = some (some (.ref fI)) ∧ PySem.W.typeIn K (.ref fI) = some (.type "function") ∧ Binds K fd ["self", fld] [] ∧ Fun K "__init__" (x ++ ".__init__") (initS st) fI fd
theorem ErrFs.errI {x fld : Str} {C : Addr} {st : Stmt} (F : ErrFs K mg x fld C st) (ok : ∀ {fI fd}, Fun K "__init__" (x ++ ".__init__") (initS st) fI fd → FnOk P w K mg base CX0 1 fI fd ["self", fld] (spInit K fld)) : ErrI P w K mg base x fld C := by
  obtain ⟨fI, fd, h1, h2, h3, h4⟩ := F.init
  exact ⟨⟨F.cls, F.sa, F.eC, F.tC, F.kC⟩, F.g, F.no, ⟨fI, fd, h1, h2, h3, ok h4⟩, ⟨F.ga, F.gg, F.eC, F.hC⟩, exm_own F.eC F.iC F.tC F.sC⟩
end
theorem top_mk {K : PySem.W.Frag} {h : Heap} {mg : Str → Option Value} {x : Str} {st : Stmt} {ps : List Str} {f : Addr} {oc kV doc pm cdv ct : Value} {od an : Option Addr} {osl : Array (Option Value)} (X : K.In h) (G : h.Ns mainGlobals mg)
    (a : PySem.W.nsIn K mainGlobals x = some (some (.ref f))) (l : K.lookup f = some ⟨oc, od, .func (PySem.W.fnOf x x (defArgs st) (defBody st) (defScope st) .none kV doc pm an cdv ct), osl⟩) (c : PySem.W.codeIn K cdv x = true) (k : PySem.W.keepIn K (.ref f) = true)
    (hb : ∀ (kV doc pm : Value) (an : Option Addr) (cdv ct : Value) (us : List Value), us.length = ps.length → bindArgs (PySem.W.fnOf x x (defArgs st) (defBody st) (defScope st) .none kV doc pm an cdv ct) ⟨us, []⟩ = pure (ps.zip us)) : Top K mg x st ps :=
  ⟨f, _, PySem.W.mg_of X G a, fun_mk l c k, (fun_mk l c k).binds hb⟩
abbrev TopX {K : PySem.W.Frag} {h : Heap} (_ : K.In h) (mg : Str → Option Value) (x : Str) (st : Stmt) (ps : List Str) : Prop := Top K mg x st ps
abbrev CtX {K : PySem.W.Frag} {h : Heap} (_ : K.In h) (mg : Str → Option Value) (x : Str) (zs : List Str) : Prop := Ct K mg x zs
theorem cn_mk {K : PySem.W.Frag} {h : Heap} {mg : Str → Option Value} {x : Str} {i : Int} {v : Value} (X : K.In h) (G : h.Ns mainGlobals mg) (a : PySem.W.nsIn K mainGlobals x = some (some v)) (b : ∃ t, v = .int i t) : Cn mg x i := by
  obtain ⟨t, rfl⟩ := b
  exact ⟨t, PySem.W.mg_of X G a⟩
theorem cs_mk {K : PySem.W.Frag} {h : Heap} {mg : Str → Option Value} {x z : Str} {v : Value} (X : K.In h) (G : h.Ns mainGlobals mg) (a : PySem.W.nsIn K mainGlobals x = some (some v)) (b : ∃ t, v = .str z t) : Cs mg x z := by
  obtain ⟨t, rfl⟩ := b
  exact ⟨t, PySem.W.mg_of X G a⟩
theorem ct_mk {K : PySem.W.Frag} {h : Heap} {mg : Str → Option Value} {x : Str} {zs : List Str} {J : Addr} {o : Obj} (X : K.In h) (G : h.Ns mainGlobals mg) (a : PySem.W.nsIn K mainGlobals x = some (some (.ref J))) (l : K.lookup J = some o)
    (b : ∃ (its : Array Value) (n : Nat), o.cls = .type "tuple" ∧ o.data = .seq its n ∧ its.size ≤ sizeLine ∧ Vals (zs.map V.str) its.toList) : Ct K mg x zs := by
  obtain ⟨its, n, h1, h2, h3, h4⟩ := b
  exact ⟨J, PySem.W.mg_of X G a, fun H => .inr ⟨o, its, n, l, h1, h2, h3, h4⟩⟩
theorem init_mk {K : PySem.W.Frag} {x fld : Str} {C fI : Addr} {st : Stmt} {oc kV doc pm cdv ct : Value} {od an : Option Addr} {osl : Array (Option Value)} (a : PySem.W.findIn K (.ref C) "__init__" = some (some (.ref fI))) (t : PySem.W.typeIn K (.ref fI) = some (.type "function"))
    (l : K.lookup fI = some ⟨oc, od, .func (PySem.W.fnOf "__init__" (x ++ ".__init__") (defArgs (initS st)) (defBody (initS st)) (defScope (initS st)) .none kV doc pm an cdv ct), osl⟩) (c : PySem.W.codeIn K cdv (x ++ ".__init__") = true) (k : PySem.W.keepIn K (.ref fI) = true)
    (hb : ∀ (kV doc pm : Value) (an : Option Addr) (cdv ct : Value) (us : List Value), us.length = (["self", fld] : List Str).length → bindArgs (PySem.W.fnOf "__init__" (x ++ ".__init__") (defArgs (initS st)) (defBody (initS st)) (defScope (initS st)) .none kV doc pm an cdv ct) ⟨us, []⟩ = pure ((["self", fld] : List Str).zip us)) :
    ∃ fI fd, PySem.W.findIn K (.ref C) "__init__" = some (some (.ref fI)) ∧ PySem.W.typeIn K (.ref fI) = some (.type "function") ∧ Binds K fd ["self", fld] [] ∧ Fun K "__init__" (x ++ ".__init__") (initS st) fI fd :=
  ⟨fI, _, a, t, (fun_mk l c k).binds hb, fun_mk l c k⟩
theorem err_mk {K : PySem.W.Frag} {h : Heap} {mg : Str → Option Value} {x fld : Str} {C N : Addr} {st : Stmt} {nm q : Str} {bs bm sub : List Value} {sn : List Str} {ab : Bool} {col : Option Bool} {dd : Option Addr} {k0 k1 k2 k3 k5 : Option Value} (X : K.In h) (G : h.Ns mainGlobals mg)
    (a : PySem.W.nsIn K mainGlobals x = some (some (.ref C))) (xL : K.lookup C = some (excClassObj nm q C N bs bm true sn sub ab col dd k0 k1 k2 k3 k5 "ValueError.__new__")) (rv : PySem.HandSPX.refsVE bm = true)
    (sa : PySem.W.findIn K (.ref C) "__setattr__" = some (some (.builtin "object.__setattr__"))) (ga : PySem.W.findIn K (.ref C) "__getattribute__" = some (some (.builtin "BaseException.__getattribute__"))) (gg : PySem.W.findIn K (.ref C) "__getattr__" = some none) (no : PySem.W.findIn K (.ref C) fld = some none)
    (kC : PySem.W.keepIn K (.ref C) = true) (eC : PySem.W.subIn K (.ref C) (.type "BaseException") = some true) (tC : PySem.W.typeIn K (.ref C) = some (.type "type")) (hC : PySem.W.hasDictIn K C = true) (iC : PySem.W.isClsIn K C = true) (sC : PySem.W.subIn K (.ref C) (.ref C) = some true)
    {fI : Addr} {oc kV doc pm cdv ct : Value} {od an : Option Addr} {osl : Array (Option Value)} (i1 : PySem.W.findIn K (.ref C) "__init__" = some (some (.ref fI))) (i2 : PySem.W.typeIn K (.ref fI) = some (.type "function"))
    (i3 : K.lookup fI = some ⟨oc, od, .func (PySem.W.fnOf "__init__" (x ++ ".__init__") (defArgs (initS st)) (defBody (initS st)) (defScope (initS st)) .none kV doc pm an cdv ct), osl⟩) (i4 : PySem.W.codeIn K cdv (x ++ ".__init__") = true) (i5 : PySem.W.keepIn K (.ref fI) = true)
    (hb : ∀ (kV doc pm : Value) (an : Option Addr) (cdv ct : Value) (us : List Value), us.length = (["self", fld] : List Str).length → bindArgs (PySem.W.fnOf "__init__" (x ++ ".__init__") (defArgs (initS st)) (defBody (initS st)) (defScope (initS st)) .none kV doc pm an cdv ct) ⟨us, []⟩ = pure ((["self", fld] : List Str).zip us)) : ∃ C, ErrFs K mg x fld C st :=
  ⟨C, PySem.W.mg_of X G a, ⟨_, _, _, _, _, _, _, _, _, _, _, _, _, _, _, xL, rv⟩, sa, ga, gg, no, kC, eC, tC, hC, iC, sC, init_mk i1 i2 i3 i4 i5 hb⟩
theorem no_mk {K : PySem.W.Frag} {h : Heap} {mg : Str → Option Value} {x : Str} {C : Addr} (X : K.In h) (G : h.Ns mainGlobals mg) (a : PySem.W.nsIn K mainGlobals x = some (some (.ref C)))
    (qx : PySem.W.excIn K C [.type "ValueError", .type "Exception", .type "BaseException", .type "object"] "ValueError.__new__" = true) (kC : PySem.W.keepIn K (.ref C) = true) (eC : PySem.W.subIn K (.ref C) (.type "BaseException") = some true) (tC : PySem.W.typeIn K (.ref C) = some (.type "type")) (iC : PySem.W.isClsIn K C = true)
    (sC : PySem.W.subIn K (.ref C) (.ref C) = some true) : ∃ C, Err0 K mg x C := ⟨C, qx, PySem.W.mg_of X G a, kC, eC, tC, exm_own eC iC tC sC⟩
abbrev ErrE {K : PySem.W.Frag} {h : Heap} (_ : K.In h) (mg : Str → Option Value) (x fld : Str) (st : Stmt) : Prop := ∃ C, ErrFs K mg x fld C st
abbrev NoE {K : PySem.W.Frag} {h : Heap} (_ : K.In h) (mg : Str → Option Value) (x : Str) : Prop := ∃ C, Err0 K mg x C

/-! ### methods, properties, __init__ -/
theorem one_ref {K : PySem.W.Frag} {h : Heap} {mg : Str → Option Value} {x : Str} {C D : Addr} (X : K.In h) (G : h.Ns mainGlobals mg) (g : mg x = some (.ref C)) (a : PySem.W.nsIn K mainGlobals x = some (some (.ref D))) : D = C := by
  have e := (PySem.W.mg_of X G a).symm.trans g
  cases e
  rfl
abbrev ExmNoX {K : PySem.W.Frag} {h : Heap} (_ : K.In h) (C D : Addr) : Prop := PySem.W.exmOne K (.ref C) (.ref D) = some false
/-- one error is no other -/
theorem exm_no {K : PySem.W.Frag} {h : Heap} {mg : Str → Option Value} {x y : Str} {C1 C2 S T : Addr} (X : K.In h) (G : h.Ns mainGlobals mg) (e1 : mg x = some (.ref C1)) (e2 : mg y = some (.ref C2)) (a1 : PySem.W.nsIn K mainGlobals x = some (some (.ref T))) (a2 : PySem.W.nsIn K mainGlobals y = some (some (.ref S)))
    (h1 : PySem.W.subIn K (.ref S) (.type "BaseException") = some true) (h2 : PySem.W.isClsIn K S = true) (h3 : PySem.W.typeIn K (.ref S) = some (.type "type")) (h4 : PySem.W.subIn K (.ref T) (.ref S) = some false) : PySem.W.exmOne K (.ref C1) (.ref C2) = some false := by
  rw [← one_ref X G e1 a1, ← one_ref X G e2 a2]
  exact exm_not h1 h2 h3 h4
/-! ### a law with lambdas -/
end Lt

set_option Elab.async false
set_option linter.all false
set_option maxRecDepth 100000
set_option maxHeartbeats 1000000
namespace Lt
open PySem PySem.Spec PyProof.Rows L2 NdefX LamX LmX
section
variable {P : Program} {w : World} {K : PySem.W.Frag} {mg : Str → Option Value} {base : Heap}
theorem init_BadLock {fI : Addr} {fd : FuncData} (F : Fun K "__init__" "BadLock.__init__" (initS s_BadLock) fI fd) : FnOk P w K mg base CX0 1 fI fd ["self", "place"] (spInit K "place") := by
  refine F.ok (N := ["self", "place"]) ⟨rfl, rfl, rfl, by decide +kernel, rfl, by decide +kernel, by decide +kernel⟩ (fun vs H Q E h => ?_) (fun cdv A outer s H vs Q E hr h => ?_)
  · obtain ⟨a, C, v, rfl, _⟩ := h
    rfl
  · obtain ⟨a, C, v, rfl, ox, no, ha, q⟩ := h
    exact ⟨_, pss_one (ps_ost (pv 0) (pv 1)), _, rfl, _, rfl, a, C, rfl, ox, no, .inl ⟨ha, fun dx h1 h2 => q dx h1 h2⟩⟩
theorem init_BadRow {fI : Addr} {fd : FuncData} (F : Fun K "__init__" "BadRow.__init__" (initS s_BadRow) fI fd) : FnOk P w K mg base CX0 1 fI fd ["self", "place"] (spInit K "place") := by
  refine F.ok (N := ["self", "place"]) ⟨rfl, rfl, rfl, by decide +kernel, rfl, by decide +kernel, by decide +kernel⟩ (fun vs H Q E h => ?_) (fun cdv A outer s H vs Q E hr h => ?_)
  · obtain ⟨a, C, v, rfl, _⟩ := h
    rfl
  · obtain ⟨a, C, v, rfl, ox, no, ha, q⟩ := h
    exact ⟨_, pss_one (ps_ost (pv 0) (pv 1)), _, rfl, _, rfl, a, C, rfl, ox, no, .inl ⟨ha, fun dx h1 h2 => q dx h1 h2⟩⟩
theorem init_BadSign {fI : Addr} {fd : FuncData} (F : Fun K "__init__" "BadSign.__init__" (initS s_BadSign) fI fd) : FnOk P w K mg base CX0 1 fI fd ["self", "place"] (spInit K "place") := by
  refine F.ok (N := ["self", "place"]) ⟨rfl, rfl, rfl, by decide +kernel, rfl, by decide +kernel, by decide +kernel⟩ (fun vs H Q E h => ?_) (fun cdv A outer s H vs Q E hr h => ?_)
  · obtain ⟨a, C, v, rfl, _⟩ := h
    rfl
  · obtain ⟨a, C, v, rfl, ox, no, ha, q⟩ := h
    exact ⟨_, pss_one (ps_ost (pv 0) (pv 1)), _, rfl, _, rfl, a, C, rfl, ox, no, .inl ⟨ha, fun dx h1 h2 => q dx h1 h2⟩⟩
theorem init_TooMany {fI : Addr} {fd : FuncData} (F : Fun K "__init__" "TooMany.__init__" (initS s_TooMany) fI fd) : FnOk P w K mg base CX0 1 fI fd ["self", "most"] (spInit K "most") := by
  refine F.ok (N := ["self", "most"]) ⟨rfl, rfl, rfl, by decide +kernel, rfl, by decide +kernel, by decide +kernel⟩ (fun vs H Q E h => ?_) (fun cdv A outer s H vs Q E hr h => ?_)
  · obtain ⟨a, C, v, rfl, _⟩ := h
    rfl
  · obtain ⟨a, C, v, rfl, ox, no, ha, q⟩ := h
    exact ⟨_, pss_one (ps_ost (pv 0) (pv 1)), _, rfl, _, rfl, a, C, rfl, ox, no, .inl ⟨ha, fun dx h1 h2 => q dx h1 h2⟩⟩
end
/-- what the top leaves, but the law -/
structure TopFs (K : PySem.W.Frag) (mg : Str → Option Value) (C_BadLock : Addr) (C_BadRow : Addr) (C_BadSign : Addr) (C_TooMany : Addr) (C_BadTurn : Addr) (C_BadNumber : Addr) (C_NoWay : Addr) (C_BadString : Addr) : Prop where
  bi : Bi mg
  b_sum : mg "sum" = none
  b_min : mg "min" = none
  b_max : mg "max" = none
  b_reversed : mg "reversed" = none
  c_MOST_TURNS : Cn mg "MOST_TURNS" 240
  c_MOST_GIVEN : Cn mg "MOST_GIVEN" 4
  c_FEWEST_PLACES : Cn mg "FEWEST_PLACES" 2
  c_MOST_PLACES : Cn mg "MOST_PLACES" 9
  c_MOST_INPUTS : Cn mg "MOST_INPUTS" 6
  c_MOST_AROUND : Cn mg "MOST_AROUND" 20
  c_MOST_STEPS : Cn mg "MOST_STEPS" 6000
  c_RUN_SIGNS : Cs mg "RUN_SIGNS" "abcdefghijklmnopqrstuvwxyz0123456789"
  c_JOINERS : Ct K mg "JOINERS" ["and", "or", "xor"]
  e_BadLock : ErrFs K mg "BadLock" "place" C_BadLock s_BadLock
  e_BadRow : ErrFs K mg "BadRow" "place" C_BadRow s_BadRow
  e_BadSign : ErrFs K mg "BadSign" "place" C_BadSign s_BadSign
  e_TooMany : ErrFs K mg "TooMany" "most" C_TooMany s_TooMany
  e_BadTurn : Err0 K mg "BadTurn" C_BadTurn
  e_BadNumber : Err0 K mg "BadNumber" C_BadNumber
  e_NoWay : Err0 K mg "NoWay" C_NoWay
  e_BadString : Err0 K mg "BadString" C_BadString
  n_NoWay_TooMany : PySem.W.exmOne K (.ref C_NoWay) (.ref C_TooMany) = some false
  f_is_number : Top K mg "is_number" s_is_number ["value"]
  f_are_numbers : Top K mg "are_numbers" s_are_numbers ["value"]
  f_is_permutation : Top K mg "is_permutation" s_is_permutation ["value", "size"]
  f_still_of : Top K mg "still_of" s_still_of ["size"]
  f_product_of : Top K mg "product_of" s_product_of ["one", "other"]
  f_back_of : Top K mg "back_of" s_back_of ["turn"]
  f_rounds_of : Top K mg "rounds_of" s_rounds_of ["turn"]
  f_bracket_of : Top K mg "bracket_of" s_bracket_of ["one", "other"]
  f_words_of : Top K mg "words_of" s_words_of ["makers", "size"]
  f_group_of : Top K mg "group_of" s_group_of ["makers", "size"]
  f_all_turns : Top K mg "all_turns" s_all_turns ["lock"]
  f_check_lock : Top K mg "check_lock" s_check_lock ["lock"]
  f_made_words : Top K mg "made_words" s_made_words ["lock"]
  f_is_turn : Top K mg "is_turn" s_is_turn ["made", "value"]
  f_check_turn : Top K mg "check_turn" s_check_turn ["made", "turn"]
  f_derived : Top K mg "derived" s_derived ["lock"]
  f_brackets_made : Top K mg "brackets_made" s_brackets_made ["term", "makers"]
  f_table_of : Top K mg "table_of" s_table_of ["inputs", "text"]
  f_check_inputs : Top K mg "check_inputs" s_check_inputs ["inputs"]
  f_input_table : Top K mg "input_table" s_input_table ["inputs", "own"]
  f_bits_of : Top K mg "bits_of" s_bits_of ["table"]
  f_formula_tree : Top K mg "formula_tree" s_formula_tree ["inputs", "text"]
  f_placed_words : Top K mg "placed_words" s_placed_words ["text"]
  f_tree_from : Top K mg "tree_from" s_tree_from ["names", "words", "at", "around"]
  f_expected : Top K mg "expected" s_expected ["words", "at", "wanted"]
  f_worth_of : Top K mg "worth_of" s_worth_of ["tree", "leaves", "every"]
  f_undone_steps : Top K mg "undone_steps" s_undone_steps ["steps"]
  f_written : Top K mg "written" s_written ["lock", "inputs", "row", "turn"]
  f_check_row : Top K mg "check_row" s_check_row ["made", "inputs", "row"]
  f_is_step : Top K mg "is_step" s_is_step ["made", "inputs", "value"]
  f_products : Top K mg "products" s_products ["made", "inputs", "row"]
  f_yes_where : Top K mg "yes_where" s_yes_where ["reached", "turn"]
  f_formula_row : Top K mg "formula_row" s_formula_row ["lock", "inputs", "text"]
  f_many_steps : Top K mg "many_steps" s_many_steps ["tree"]
  f_bracket_pairs : Top K mg "bracket_pairs" s_bracket_pairs ["lasting"]
  f_steps_for : Top K mg "steps_for" s_steps_for ["pairs", "tree", "turn"]
  f_both_steps : Top K mg "both_steps" s_both_steps ["pairs", "one", "other", "turn"]
  f_unless : Top K mg "unless" s_unless ["steps", "turn"]
  f_law_taken : Top K mg "_law_taken" s_law_taken ["row", "many"]
  f_law_pick : Top K mg "_law_pick" s_law_pick ["row", "things"]
  f_law_permutation : Top K mg "_law_permutation" s_law_permutation ["row", "places"]
  f_law_behind : Top K mg "_law_behind" s_law_behind ["one", "other"]
  f_law_back : Top K mg "_law_back" s_law_back ["turn"]
  f_law_swap : Top K mg "_law_swap" s_law_swap ["one", "other"]
  f_law_span : Top K mg "_law_span" s_law_span ["places", "given"]
  f_law_known : Top K mg "_law_known" s_law_known ["row", "kinds"]
  f_law_lock : Top K mg "_law_lock" s_law_lock ["row", "kinds"]
  f_law_terms : Top K mg "_law_terms" s_law_terms ["lock", "by_all"]
  f_law_tree : Top K mg "_law_tree" s_law_tree ["row", "inputs", "deep"]
  f_law_text : Top K mg "_law_text" s_law_text ["row", "tree"]
  f_law_worth : Top K mg "_law_worth" s_law_worth ["tree", "bits"]
  f_law_bits : Top K mg "_law_bits" s_law_bits ["inputs"]
  f_law_value : Top K mg "_law_value" s_law_value ["places", "steps", "bits"]
end Lt

set_option Elab.async false
set_option linter.all false
set_option maxRecDepth 100000
set_option maxHeartbeats 1000000
/-! formulas: words, what may stand, and the parser -/
namespace Lt
open PySem PySem.Spec PyProof.Rows L2
abbrev Tok := Nat × Str
def wNot : Str := "not"
def wOp : Str := "("
def wCl : Str := ")"
def wVoid : Str := ""
def joins : List Str := ["and", "or", "xor"]
theorem drop_get {α : Type} {l r : List α} {k n : Nat} {x : α} (h : r = l.drop k) (g : r[n]? = some x) : l[k + n]? = some x := by
  rw [h, List.getElem?_drop] at g
  exact g
theorem drop_tl {α : Type} {l r : List α} {k : Nat} {x : α} (h : x :: r = l.drop k) : r = l.drop (k + 1) := by
  have e : (l.drop k).tail = r := by rw [← h]; rfl
  rw [← e, List.tail_drop]
theorem m1 (x : Tok) (r : List Tok) : (x :: r).map (·.2) = x.2 :: r.map (·.2) := rfl
end Lt

set_option Elab.async false
set_option linter.all false
set_option maxRecDepth 100000
set_option maxHeartbeats 1000000
/-! the words of a text -/
namespace Lt
open PySem PySem.Spec PyProof.Rows L2
def runS : Str := "abcdefghijklmnopqrstuvwxyz0123456789"
/-- text[a:b] -/
def cut (T : List Nat) (a b : Nat) : Str := ⟨((T.drop a).take (b - a)).toArray⟩
def flush (T : List Nat) (st : List Tok × Nat) (p : Nat) : List Tok := if st.2 < p then st.1 ++ [(st.2, cut T st.2 p)] else st.1
def lexStep (T : List Nat) (st : List Tok × Nat) (p c : Nat) : List Tok × Nat :=
  if c ∈ runS.cps.toList then st else (if c = 32 then flush T st p else flush T st p ++ [(p, ⟨#[c]⟩)], p + 1)
def lexFrom (T : List Nat) : List Tok × Nat → Nat → List Nat → List Tok × Nat
  | st, _, [] => st
  | st, p, c :: cs => lexFrom T (lexStep T st p c) (p + 1) cs
theorem lex_nil {T : List Nat} {st : List Tok × Nat} {p : Nat} : lexFrom T st p [] = st := by rw [lexFrom]
theorem lex_cons {T : List Nat} {st : List Tok × Nat} {p c : Nat} {cs : List Nat} : lexFrom T st p (c :: cs) = lexFrom T (lexStep T st p c) (p + 1) cs := by rw [lexFrom]
theorem lex_app {T : List Nat} : ∀ {a b : List Nat} {st : List Tok × Nat} {p : Nat}, lexFrom T st p (a ++ b) = lexFrom T (lexFrom T st p a) (p + a.length) b
  | [], b, st, p => by rw [List.nil_append, lex_nil]; rfl
  | c :: a, b, st, p => by
    rw [List.cons_append, lex_cons, lex_cons, lex_app (a := a), List.length_cons, Nat.add_assoc, Nat.add_comm 1 a.length]
theorem flush_at {T : List Nat} {F : List Tok} {p : Nat} : flush T (F, p) p = F := by
  unfold flush
  rw [if_neg (Nat.lt_irrefl _)]
theorem lex_sp {T : List Nat} {st : List Tok × Nat} {p : Nat} : lexFrom T st p [32] = (flush T st p, p + 1) := by
  rw [lex_cons, lex_nil]
  unfold lexStep
  rw [if_neg (show (32 : Nat) ∉ runS.cps.toList by decide +kernel), if_pos rfl]
theorem lex_sps {T : List Nat} : ∀ {n : Nat} {st : List Tok × Nat} {p : Nat}, lexFrom T st p (List.replicate (n + 1) 32) = (flush T st p, p + (n + 1))
  | 0, st, p => lex_sp
  | n + 1, st, p => by
    rw [show List.replicate (n + 1 + 1) 32 = [32] ++ List.replicate (n + 1) 32 from rfl, lex_app, lex_sp, lex_sps, List.length_singleton, flush_at, Nat.add_assoc p, Nat.add_comm 1]
theorem lex_run {T : List Nat} : ∀ {w : List Nat} {st : List Tok × Nat} {p : Nat}, (∀ c ∈ w, c ∈ runS.cps.toList) → lexFrom T st p w = st
  | [], st, p, _ => lex_nil
  | c :: w, st, p, h => by
    rw [lex_cons]
    unfold lexStep
    rw [if_pos (h c (List.mem_cons_self ..)), lex_run fun x hx => h x (List.mem_cons_of_mem _ hx)]
def wX0 : Str := "X0"
/-- the program's words of one word of the law -/
def flat (t : Tok) : List Tok := if t.2 = wX0 then [(t.1, ("X" : Str)), (t.1 + 1, ("0" : Str))] else [t]
/-- what words there are -/
def WdT (w : Str) : Prop := (w.cps.toList ≠ [] ∧ ∀ c ∈ w.cps.toList, c ∈ runS.cps.toList) ∨ (∃ c, w = ⟨#[c]⟩ ∧ c ∉ runS.cps.toList ∧ c ≠ 32) ∨ w = wX0
theorem cut_at {A w B : List Nat} : cut (A ++ w ++ B) A.length (A.length + w.length) = ⟨w.toArray⟩ := by
  unfold cut
  rw [List.append_assoc, List.drop_left, Nat.add_sub_cancel_left, List.take_left]
theorem lex_word {A B : List Nat} {w : Str} {F : List Tok} (h : WdT w) :
    let T := A ++ w.cps.toList ++ B
    flush T (lexFrom T (F, A.length) A.length w.cps.toList) (A.length + w.cps.toList.length) = F ++ flat (A.length, w) := by
  dsimp only
  rcases h with ⟨h1, h2⟩ | ⟨c, rfl, h1, h2⟩ | rfl
  · rw [lex_run h2]
    unfold flush
    rw [if_pos (Nat.lt_add_of_pos_right (List.length_pos_iff.mpr h1)), cut_at]
    unfold flat
    have n : w ≠ wX0 := fun e => by
      subst e
      exact absurd (h2 88 (by decide +kernel)) (by decide +kernel)
    rw [if_neg n]
  · show flush (A ++ [c] ++ B) (lexFrom (A ++ [c] ++ B) (F, A.length) A.length [c]) (A.length + 1) = _
    rw [lex_cons, lex_nil]
    unfold lexStep
    rw [if_neg h1, if_neg h2, flush_at, flush_at]
    unfold flat
    have n : (⟨#[c]⟩ : Str) ≠ wX0 := fun e => by
      have h5 : (1 : Nat) = wX0.cps.size := congrArg (fun z : Str => z.cps.size) e
      exact absurd h5 (by decide +kernel)
    rw [if_neg n]
  · have e0 : wX0.cps.toList = [88, 48] := by decide +kernel
    rw [e0]
    rw [lex_cons, lex_cons, lex_nil]
    have s1 : lexStep (A ++ [88, 48] ++ B) (F, A.length) A.length 88 = (F ++ [(A.length, ⟨#[88]⟩)], A.length + 1) := by
      unfold lexStep
      rw [if_neg (show (88 : Nat) ∉ runS.cps.toList by decide +kernel), if_neg (by decide), flush_at]
    rw [s1]
    have s2 : lexStep (A ++ [88, 48] ++ B) (F ++ [(A.length, ⟨#[88]⟩)], A.length + 1) (A.length + 1) 48 = (F ++ [(A.length, ⟨#[88]⟩)], A.length + 1) := by
      unfold lexStep
      rw [if_pos (show (48 : Nat) ∈ runS.cps.toList by decide +kernel)]
    rw [s2]
    unfold flush flat
    rw [if_pos rfl, if_pos (show A.length + 1 < A.length + [88, 48].length from Nat.lt_succ_self _)]
    have c1 := cut_at (A := A ++ [88]) (w := [48]) (B := B)
    have e1 : A ++ [88] ++ [48] ++ B = A ++ [88, 48] ++ B := by simp
    rw [e1, List.length_append] at c1
    show F ++ [(A.length, ⟨#[88]⟩)] ++ [(A.length + 1, cut (A ++ [88, 48] ++ B) (A.length + [88].length) (A.length + [88].length + [48].length))] = _
    rw [c1, List.append_assoc]
    have x1 : ("X" : Str) = ⟨#[88]⟩ := by decide +kernel
    have x2 : ("0" : Str) = ⟨[48].toArray⟩ := by decide +kernel
    rw [x1, x2]
    rfl
/-- a text as the law makes it, and its words with their places -/
inductive Bt : List Nat → List Tok → Prop
  | nil : Bt [] []
  | snoc {T : List Nat} {P : List Tok} {w : Str} {n : Nat} : Bt T P → WdT w → Bt (T ++ List.replicate (n + 1) 32 ++ w.cps.toList) (P ++ [(T.length + (n + 1), w)])
theorem Bt.lex {T : List Nat} {P : List Tok} (h : Bt T P) : ∀ R, flush (T ++ R) (lexFrom (T ++ R) ([], 0) 0 T) T.length = P.flatMap flat := by
  induction h with
  | nil => intro R; rw [lex_nil]; rfl
  | @snoc T P w n h hw ih =>
    intro R
    rw [lex_app, lex_app, lex_sps]
    have e1 : T ++ List.replicate (n + 1) 32 ++ w.cps.toList ++ R = T ++ (List.replicate (n + 1) 32 ++ w.cps.toList ++ R) := by simp only [List.append_assoc]
    have e2 := ih (List.replicate (n + 1) 32 ++ w.cps.toList ++ R)
    rw [← e1] at e2
    rw [Nat.zero_add, e2]
    have l1 : (T ++ List.replicate (n + 1) 32).length = T.length + (n + 1) := by rw [List.length_append, List.length_replicate]
    have := lex_word (A := T ++ List.replicate (n + 1) 32) (B := R) (F := P.flatMap flat) hw
    dsimp only at this
    rw [l1] at this
    rw [Nat.zero_add, l1, List.length_append, l1, this, List.flatMap_append]
    rw [List.flatMap_cons, List.flatMap_nil, List.append_nil]
/-- and with one more space behind, or none -/
theorem Bt.all {T : List Nat} {P : List Tok} (h : Bt T P) (m : Nat) (hm : m < 2) : flush (T ++ List.replicate m 32) (lexFrom (T ++ List.replicate m 32) ([], 0) 0 (T ++ List.replicate m 32)) (T ++ List.replicate m 32).length = P.flatMap flat := by
  match m, hm with
  | 0, _ =>
    have := h.lex []
    rw [show List.replicate 0 32 = [] from rfl, List.append_nil] at *
    exact this
  | 1, _ =>
    have := h.lex [32]
    show flush (T ++ [32]) (lexFrom (T ++ [32]) ([], 0) 0 (T ++ [32])) (T ++ [32]).length = _
    rw [lex_app, lex_sp, Nat.zero_add, this, List.length_append]
    exact flush_at
/-! ### the law's words and the program's -/
/-- the words as the program has them -/
def toks (P : List Tok) (e : Nat) : List Tok := P.flatMap flat ++ [(e, wVoid)]
end Lt

set_option Elab.async false
set_option linter.all false
set_option maxRecDepth 100000
set_option maxHeartbeats 4000000
/-! enumerate over a str, in a for -/
namespace L2
open PySem PySem.Spec PyProof.Rows
/-- the signs of a str, each in a new pair with its place -/
def Ites (x : Str) : It :=
  ⟨fun i _ => i < x.cps.size, fun i H v H' => ∃ T c, v = .ref T ∧ H T = none ∧ H' = upd H T (.tup [.int (i : Nat), .str ⟨#[c]⟩]) ∧ x.cps[i]? = some c, fun i _ => x.cps.size = i⟩
theorem turn_enumS {P : Program} {w : World} {K : PySem.W.Frag} {elts : List Expr} {kk : Nat} {tpos : Pos} (x : Str) (t : Tok) (e it : Addr) :
    Turn P w K (.Tuple elts kk tpos) (Ites x) [e, it] e (fun i h => (∃ old, IsEnum h e it ((i : Nat) : Int) old) ∧ h.IsStrIter it (strIterType x) x t i ∧ e ≠ it) where
  mem := by simp
  obj := fun i h st b hb => by
    obtain ⟨⟨old, he⟩, ⟨o, ho, hc, hd⟩, _⟩ := st
    have e' : b = e ∨ b = it := by simpa using hb
    rcases e' with z | z
    · rw [z]; exact ⟨_, he, fun v q => nomatch q⟩
    · rw [z]; exact ⟨o, ho, fun v q => by rw [hd] at q; cases q⟩
  keep := fun i h h' st k => let ⟨⟨old, he⟩, ⟨o, ho, r⟩, hne⟩ := st; ⟨⟨old, k e (by simp) _ he⟩, ⟨o, k it (by simp) o ho, r⟩, hne⟩
  item := by
    intro X hP hw hK hc i pins s σ H E I hf st hg
    subst hP hw hK
    obtain ⟨⟨old, he⟩, hit, hne⟩ := st
    have hel : e < s.heap.objs.size := Heap.lt_size he
    have hil : it < s.heap.objs.size := by obtain ⟨_, q, _⟩ := hit; exact Heap.lt_size q
    refine wpAny_pyNext_enum_itemD (Draws.text (prog := X.prog) (w := X.w) (A := X.A.in1) (I.ok.hd hc) it x t) he hit (show i < x.cps.size from hg) hne (by simp [hne]) fun x' h' tk hP ho hst' hT hsz hk => ?_
    obtain ⟨c, u, hcx, ex⟩ := hP
    subst ex
    have hit' := hst'
    refine ⟨_, rfl, wpAny_letOwnedTupleGo_enum (s := { s with heap := h', toks := tk + 1 }) ho fun h'' he' sb => ?_⟩
    have hT2 : h''.get? s.heap.objs.size = some { cls := .type "tuple", data := .seq #[.int i tk, .str ⟨#[c]⟩ u] } := (sb.2 _ (Nat.ne_of_gt hel)).trans hT
    have new : ObjOk X.prog X.w (upd H s.heap.objs.size (.tup [.int (i : Nat), .str ⟨#[c]⟩])) h'' s.heap.objs.size (.tup [.int (i : Nat), .str ⟨#[c]⟩]) :=
      ⟨by show 2 ≤ sizeLine; decide, [.int i tk, .str ⟨#[c]⟩ u], .cons ⟨_, rfl⟩ (.cons ⟨_, rfl⟩ .nil), ⟨_, hT2, rfl, _, rfl⟩⟩
    have I1 : Inv X pins σ (upd H s.heap.objs.size (.tup [.int (i : Nat), .str ⟨#[c]⟩])) { s with heap := h'', toks := tk + 1 } :=
      I.turnedNew (ch := [e, it]) (fun b ob hb q => (sb.2 b (fun z => hb (by simp [z]))).trans (hk b ob (fun z => hb (by simp [z])) (fun z => hb (by simp [z])) q)) hf (Nat.le_refl _) new
    refine ⟨.ref s.heap.objs.size, _, I1, rfl, ⟨_, c, rfl, I.hok.fresh (Nat.le_refl _), rfl, hcx⟩, ⟨⟨.str ⟨#[c]⟩ u, ?_⟩, ?_, hne⟩, fun b hb => ?_⟩
    · have e1 : ((i + 1 : Nat) : Int) = (i : Int) + 1 := by omega
      rw [e1]; exact he'
    · obtain ⟨o, ho', r⟩ := hit'
      exact ⟨o, (sb.2 it (Ne.symm hne)).trans ho', r⟩
    · have hb' : b < s.heap.objs.size := by
        have e' : b = e ∨ b = it := by simpa using hb
        rcases e' with z | z
        · rw [z]; exact hel
        · rw [z]; exact hil
      rw [upd_ne (Nat.ne_of_lt hb')]
      exact (hf b hb).1
  done := by
    intro X hP hw hK hc i pins s σ H E I hf st hg
    subst hP hw hK
    obtain ⟨⟨old, he⟩, hit, hne⟩ := st
    obtain ⟨f0, f1, f2, f3, f4, f5⟩ := hf it (by simp)
    have hn : x.cps.size = i := hg
    exact wpAny_pyNext_enum_endD (Draws.text (prog := X.prog) (w := X.w) (A := X.A.in1) (I.ok.hd hc) it x t) he (show s.heap.IsStrIter it (strIterType x) x t x.cps.size by rw [hn]; exact hit) fun h' eb => ⟨rfl, I.turned (t' := s.toks) (fun b o hb q => eb b o hb q) f0 f1 f3 f4 f5⟩
  self := fun A i s Q E st h => let ⟨⟨_, he⟩, _⟩ := st; wpAny_pyIter_enum he h
def iEnumS (ta : TA) : TI := fun σ H R => ta σ H fun vs H1 => ∃ x, vs = [.str x] ∧ R (Ites x) H1
theorem pi_enumS {X : Cx} {e : Expr} {ta : TA} {p pos tpos : Pos} {elts : List Expr} {kk : Nat} (hg : Gl X "enumerate") (hm : X.mg "enumerate" = none) (ha : PA X [e] ta) (hs : starEach [e] X.env = [(false, eval e X.env)] := by rfl) :
    PI X (.Tuple elts kk tpos) (.Call (.Name "enumerate" p) [e] [] pos) (iEnumS ta) := by
  refine ⟨fun pins s σ H R I h => ?_⟩
  refine Call_ (ld_blt I hg hm boot_enumerate (PyProof.Rows.callWith_type1 (thn (ha.run pos pins s σ H _ I h) fun us s1 ⟨vs, H1, I1, r1, q1⟩ => ?_) hs rfl))
  obtain ⟨x, ex, q⟩ := q1
  subst ex
  cases r1 with
  | cons r rr =>
    cases rr
    obtain ⟨t, rfl⟩ := r
    refine LtR.enum1_begins (begins_text x t) trivial fun h' he hit hsz hk => wpAny_pyIter_enum he ?_
    have I2 : Inv X pins σ H1 { s1 with heap := h' } := I1.kept (t' := s1.toks) hk
    refine ⟨s1.heap.objs.size + 1, [s1.heap.objs.size + 1, s1.heap.objs.size], _, _, H1, rfl, I2, turn_enumS x t (s1.heap.objs.size + 1) s1.heap.objs.size, ⟨⟨.none, he⟩, ⟨_, hit, rfl, rfl⟩, Nat.succ_ne_self _⟩, fun b hb => ?_, q⟩
    have e' : b = s1.heap.objs.size + 1 ∨ b = s1.heap.objs.size := by simpa using hb
    have hle : s1.heap.objs.size ≤ b := by
      rcases e' with z | z
      · rw [z]; exact Nat.le_add_right _ _
      · rw [z]; exact Nat.le_refl _
    exact I1.fpOk hle (I1.hok.fresh hle)
end L2

set_option Elab.async false
set_option linter.all false
set_option maxRecDepth 100000
set_option maxHeartbeats 1000000
/-! placed_words -/
namespace Lt
open PySem PySem.Spec PyProof.Rows L2
theorem for_enumS {x : Str} {g : TG} {tb : TS} {D : Ends} {σ : L2.St} {H : Hp} (Pv : Nat → L2.St → Hp → Prop) (h0 : Pv 0 σ H)
    (hs : ∀ (i c : Nat) σ H T, x.cps[i]? = some c → Pv i σ H → H T = none → g (.ref T) σ (upd H T (.tup [nI i, .str ⟨#[c]⟩])) fun σ2 H2 => tb { D with nx := Pv (i + 1), ct := Pv (i + 1), bk := D.nx } σ2 H2) (hd : ∀ σ H, Pv x.cps.size σ H → D.nx σ H) :
    ∃ W : Nat → Nat → L2.St → Hp → Prop, (∃ m, W 0 m σ H) ∧ ∀ i m σ H, W i m σ H →
      ((Ites x).stop i H ∧ D.nx σ H) ∨ ((Ites x).go i H ∧ ∃ N : L2.St → Hp → Prop, (∀ σ' H', N σ' H' → ∃ m', m' < m ∧ W (i + 1) m' σ' H') ∧ ∀ y H', (Ites x).yld i H y H' → g y σ H' fun σ2 H2 => tb { D with nx := N, ct := N, bk := D.nx } σ2 H2) := by
  refine ⟨fun i m σ H => m = x.cps.size - i ∧ i ≤ x.cps.size ∧ Pv i σ H, ⟨x.cps.size, by simp, Nat.zero_le _, h0⟩, ?_⟩
  rintro i m σ H ⟨rfl, hi, p⟩
  by_cases hlt : i < x.cps.size
  · refine .inr ⟨hlt, Pv (i + 1), fun σ' H' p' => ⟨x.cps.size - (i + 1), by omega, rfl, hlt, p'⟩, fun y H' yl => ?_⟩
    obtain ⟨T, c, rfl, hT, rfl, hc⟩ := yl
    exact hs i c σ H T hc p hT
  · have e : x.cps.size = i := by omega
    refine .inl ⟨e, hd σ H ?_⟩
    rw [e]
    exact p
/-- a name of the module, by its value -/
theorem pe_gc2 {X : Cx} {x : Str} {v : V} {pos : Pos} (hg : Gl X x) (h : ∃ u, X.mg x = some u ∧ RelV v u) (hd : (x == ("__debug__" : Str)) = false := by decide) : PE X (.Name x pos) (tC v) := by
  obtain ⟨u, hm, r⟩ := h
  exact pe_glob hg hm r hd
/-- a placed word -/
def RTk (H : Hp) (v : V) (t : Tok) : Prop := ∃ a, v = .ref a ∧ H a = some (.tup [nI t.1, .str t.2])
theorem RTk.tm {H H' : Hp} {v : V} {t : Tok} (e : Tm H H') (h : RTk H v t) : RTk H' v t := let ⟨a, e1, h⟩ := h; ⟨a, e1, e.1 _ _ h⟩
theorem RTks.tm {H H' : Hp} (e : Tm H H') : ∀ {xs : List V} {ts : List Tok}, Paired (RTk H) xs ts → Paired (RTk H') xs ts
  | _, _, .nil => .nil
  | _, _, .cons r t => .cons (r.tm e) (RTks.tm e t)
def LTk (H : Hp) (l : Addr) (ts : List Tok) : Prop := ∃ xs, H l = some (.lst xs) ∧ Paired (RTk H) xs ts
theorem LTk.same {H H' : Hp} {l : Addr} {ts : List Tok} (e : Same H H') (h : LTk H l ts) : LTk H' l ts := let ⟨xs, h1, h2⟩ := h; ⟨xs, e _ _ h1, RTks.tm (.of e) h2⟩
/-- the words of a text, behind them the void one -/
def lexWords (x : Str) : List Tok := toks' (flush x.cps.toList (lexFrom x.cps.toList ([], 0) 0 x.cps.toList) x.cps.toList.length) x.cps.toList.length
  where toks' (F : List Tok) (e : Nat) : List Tok := F ++ [(e, wVoid)]
theorem flush_len {T : List Nat} {st : List Tok × Nat} {p : Nat} : (flush T st p).length ≤ st.1.length + 1 := by
  unfold flush
  split
  · rw [List.length_append]; exact Nat.le_refl _
  · exact Nat.le_succ _
theorem lexStep_len {T : List Nat} {st : List Tok × Nat} {p c : Nat} : (lexStep T st p c).1.length ≤ st.1.length + 2 := by
  unfold lexStep
  have := flush_len (T := T) (st := st) (p := p)
  split
  · omega
  · dsimp only
    split
    · omega
    · rw [List.length_append, List.length_singleton]; omega
theorem lexFrom_len {T : List Nat} : ∀ {cs : List Nat} {st : List Tok × Nat} {p : Nat}, (lexFrom T st p cs).1.length ≤ st.1.length + 2 * cs.length
  | [], st, p => by rw [lex_nil]; exact Nat.le_refl _
  | c :: cs, st, p => by
    rw [lex_cons]
    have := lexFrom_len (T := T) (cs := cs) (st := lexStep T st p c) (p := p + 1)
    have := lexStep_len (T := T) (st := st) (p := p) (c := c)
    rw [List.length_cons]
    omega
theorem lexStep_at {T : List Nat} {st : List Tok × Nat} {p c : Nat} (h : st.2 ≤ p) : (lexStep T st p c).2 ≤ p + 1 := by
  unfold lexStep
  split
  · omega
  · exact Nat.le_refl _
theorem lexFrom_at {T : List Nat} : ∀ {cs : List Nat} {st : List Tok × Nat} {p : Nat}, st.2 ≤ p → (lexFrom T st p cs).2 ≤ p + cs.length
  | [], st, p, h => by rw [lex_nil]; exact h
  | c :: cs, st, p, h => by
    rw [lex_cons, List.length_cons]
    have := lexFrom_at (T := T) (cs := cs) (st := lexStep T st p c) (p := p + 1) (lexStep_at h)
    omega
theorem lex_take {T : List Nat} {i c : Nat} (h : T[i]? = some c) (st : List Tok × Nat) : lexFrom T st 0 (T.take (i + 1)) = lexStep T (lexFrom T st 0 (T.take i)) i c := by
  have hlt := (List.getElem?_eq_some_iff.mp h).1
  have e : T.take (i + 1) = T.take i ++ [c] := by
    rw [List.take_add_one, h]
    rfl
  rw [e, lex_app, lex_cons, lex_nil, List.length_take, Nat.min_eq_left (Nat.le_of_lt hlt), Nat.zero_add]
theorem cutS_nat (x : Str) (a b : Nat) (hb : b ≤ x.length) : L2.cutS x (some (a : Int)) (some (b : Int)) = cut x.cps.toList a b := by
  unfold L2.cutS cut
  rw [HT.sIx_nat, HT.sIx_nat, Nat.min_eq_left hb]
  by_cases ha : a ≤ x.length
  · rw [Nat.min_eq_left ha]
  · have h1 : x.cps.toList.length = x.length := Array.length_toList
    rw [Nat.min_eq_right (by omega), List.drop_eq_nil_of_le (by omega), List.drop_eq_nil_of_le (by omega), List.take_nil, List.take_nil]
theorem cutS_end (x : Str) (a : Nat) : L2.cutS x (some (a : Int)) none = cut x.cps.toList a x.cps.toList.length := by
  have h1 : x.cps.toList.length = x.length := Array.length_toList
  rw [h1, ← cutS_nat x a x.length (Nat.le_refl _)]
  unfold L2.cutS
  rw [HT.sIx_nat _ _ x.length, HT.sIx_none, Nat.min_self]
theorem add_tok {H H' : Hp} {l Tp : Addr} {vs : List V} {ts : List Tok} (t : Tok) (h0 : H l = none) (st : Same H H') (hv : H' l = some (.lst vs)) (pr : Paired (RTk H') vs ts) (hT : H' Tp = none) :
    (upd H' Tp (.tup [nI t.1, .str t.2])) l = some (.lst vs) ∧ Same H (upd (upd H' Tp (.tup [nI t.1, .str t.2])) l (.lst (vs ++ [.ref Tp]))) ∧
    Paired (RTk (upd (upd H' Tp (.tup [nI t.1, .str t.2])) l (.lst (vs ++ [.ref Tp])))) (vs ++ [.ref Tp]) (ts ++ [t]) := by
  have sT := same_new (o := .tup [nI t.1, .str t.2]) hT
  have h1 := sT _ _ hv
  refine ⟨h1, same_mut (st.trans sT) h0, Paired.app (RTks.tm ((Tm.of sT).trans (Tm.lst h1)) pr) (.cons ⟨Tp, rfl, ?_⟩ .nil)⟩
  rw [upd_ne (ne_of_none hv hT).symm]
  exact upd_same
theorem code_eq (c : Nat) : decide (V.str ⟨#[c]⟩ = V.str (" " : Str)) = decide (c = 32) := decide_eq_decide.mpr ⟨fun h => by
    injection h with h
    have e : (" " : Str) = ⟨#[32]⟩ := by decide +kernel
    rw [e] at h
    injection h with h
    injection h with h
    injection h with h,
  fun h => by rw [h]; exact congrArg V.str (by decide +kernel)⟩
section
variable {P : Program} {w : World} {K : PySem.W.Frag} {mg : Str → Option Value} {base : Heap}
def spWordsT : Sp := fun vs H Q _ => ∃ (x : Str), vs = [.str x] ∧ x.length ≤ 1000 ∧ ∀ l H', Same H H' → LTk H' l (lexWords x) → Q (.ref l) H'
theorem sc_placed_words : FnScope ["text", "words", "start", "place", "sign"] ["text"] (defScope s_placed_words) := ⟨rfl, rfl, rfl, by decide +kernel, rfl, by decide +kernel, by decide +kernel⟩
theorem has_placed_words (T : Top K mg "placed_words" s_placed_words ["text"]) (B : Bi mg) (gR : ∃ u, mg "RUN_SIGNS" = some u ∧ RelV (.str runS) u) : Has P w K mg base CX0 1 "placed_words" ["text"] spWordsT := by
  refine T.ok sc_placed_words (fun vs H Q E h => ?_) (fun f cdv A outer s H vs Q E hr h => ?_)
  · obtain ⟨x, rfl, _⟩ := h
    rfl
  · obtain ⟨x, rfl, hx, q⟩ := h
    refine ⟨_, pss_cons (ps_set (i := 1) sc_placed_words.nd rfl (Or.inl rfl) (pe_lst pa_nil))
      (pss_cons (ps_set (i := 2) sc_placed_words.nd rfl (Or.inl rfl) pe_int)
      (pss_cons (ps_for PassesOwn.never rfl (pi_enumS (by rfl) B.enumerate (pa_cons (pv 0) pa_nil)) (pg_tup rfl (pgs_cons (pg_name (i := 3) sc_placed_words.nd rfl (Or.inl rfl)) (pgs_cons (pg_name (i := 4) sc_placed_words.nd rfl (Or.inl rfl)) pgs_nil)))
        (pss_one (ps_if (pt_cmpR op_notIn_sign (pv 4) (pe_gc2 (by rfl) gR) (by rfl))
          (C8.pss_cut (ps_if (pt_cmpR op_lt (pv 2) (pv 3) (nomark _)) (pss_one (ps_expr (pe_bm PySem.F.plainAttrs_list PySem.F.slot_list_append PySem.F.type_list_append mt_append (pv 1) (pa_cons (pe_tup (pa_cons (pv 2) (pa_cons (pe_slice sl_str (pv 0) (po_some (pv 2)) (po_some (pv 3))) pa_nil))) pa_nil)))) pss_nil)
          (C8.pss_cut (ps_if (pt_cmpR op_ne (pv 4) pe_str (nomark _)) (pss_one (ps_expr (pe_bm PySem.F.plainAttrs_list PySem.F.slot_list_append PySem.F.type_list_append mt_append (pv 1) (pa_cons (pe_tup (pa_cons (pv 3) (pa_cons (pv 4) pa_nil))) pa_nil)))) pss_nil)
          (pss_one (ps_set (i := 2) sc_placed_words.nd rfl (Or.inl rfl) (pe_op op_add (pv 3) pe_int))))) pss_nil)))
      (C8.pss_cut (ps_if (pt_cmpR op_lt (pv 2) (pe_callB call_len_str (by rfl) B.len PySem.boot_len (pa_cons (pv 0) pa_nil)) (nomark _)) (pss_one (ps_expr (pe_bm PySem.F.plainAttrs_list PySem.F.slot_list_append PySem.F.type_list_append mt_append (pv 1) (pa_cons (pe_tup (pa_cons (pv 2) (pa_cons (pe_slice sl_str (pv 0) (po_some (pv 2)) po_none) pa_nil))) pa_nil)))) pss_nil)
      (pss_cons (ps_expr (pe_bm PySem.F.plainAttrs_list PySem.F.slot_list_append PySem.F.type_list_append mt_append (pv 1) (pa_cons (pe_tup (pa_cons (pe_callB call_len_str (by rfl) B.len PySem.boot_len (pa_cons (pv 0) pa_nil)) (pa_cons pe_str pa_nil))) pa_nil)))
      (pss_one (ps_ret (pv 1))))))), ?_⟩
    refine ⟨Nat.zero_le _, fun l hl => ?_⟩
    have s1 := same_new (o := .lst []) hl
    refine ⟨_, rfl, x, rfl, for_enumS (fun i σ H' => ∃ xp xs vs, σ = [some (.str x), some (.ref l), some (nI (lexFrom x.cps.toList ([], 0) 0 (x.cps.toList.take i)).2), xp, xs] ∧ Same H H' ∧ H' l = some (.lst vs) ∧ Paired (RTk H') vs (lexFrom x.cps.toList ([], 0) 0 (x.cps.toList.take i)).1)
      ⟨none, none, [], rfl, s1, upd_same, .nil⟩ ?_ ?_⟩
    · rintro i c σ H' T hc ⟨xp, xs, vs, rfl, st, hv, pr⟩ hT
      have hc' : x.cps.toList[i]? = some c := by rw [Array.getElem?_toList]; exact hc
      have hi : i < x.cps.toList.length := (List.getElem?_eq_some_iff.mp hc').1
      have hxl : x.cps.toList.length = x.length := Array.length_toList
      have sT := same_new (o := .tup [nI i, .str ⟨#[c]⟩]) hT
      have hb := lexFrom_len (T := x.cps.toList) (cs := x.cps.toList.take i) (st := ([], 0)) (p := 0)
      have hp := lexFrom_at (T := x.cps.toList) (cs := x.cps.toList.take i) (st := ([], 0)) (p := 0) (Nat.le_refl _)
      have hvl := Paired.length pr
      rw [List.length_take, Nat.min_eq_left (by omega)] at hb hp
      rw [lex_take hc']
      generalize hS : lexFrom x.cps.toList ([], 0) 0 (x.cps.toList.take i) = S at *
      obtain ⟨F, p⟩ := S
      dsimp only at hb hp pr hvl ⊢
      refine ⟨T, _, rfl, SqT.of upd_same, rfl, nI i, _, rfl, .str ⟨#[c]⟩, _, rfl, rfl, ?_⟩
      refine ⟨_, rfl, c, runS, rfl, rfl, _, rfl, ?_⟩
      by_cases hr : c ∈ runS.cps.toList
      · have e1 : (!decide (c ∈ runS.cps.toList)) = false := by rw [decide_eq_true hr]; rfl
        rw [e1]
        refine iteF ?_
        unfold lexStep
        rw [if_pos hr]
        exact ⟨_, _, vs, rfl, st.trans sT, sT _ _ hv, RTks.tm (.of sT) pr⟩
      · have e1 : (!decide (c ∈ runS.cps.toList)) = true := by rw [decide_eq_false hr]; rfl
        rw [e1]
        refine iteT ?_
        refine ⟨fun σ2 H2 => σ2 = [some (V.str x), some (V.ref l), some (nI p), some (nI i), some (V.str ⟨#[c]⟩)] ∧ ∃ vs2, Same H H2 ∧ H2 l = some (.lst vs2) ∧ Paired (RTk H2) vs2 (flush x.cps.toList (F, p) i), ?_, ?_⟩
        · refine ⟨_, rfl, _, rfl, (p : Int), (i : Int), rfl, rfl, decide ((p : Int) < (i : Int)), rfl, ?_⟩
          by_cases hpi : p < i
          · rw [decide_eq_true (show (p : Int) < (i : Int) by omega)]
            refine iteT ?_
            have hv1 := sT _ _ hv
            refine ⟨_, rfl, .inl ⟨rfl, _, SqL.of hv1⟩, _, rfl, _, rfl, _, rfl, p, rfl, _, rfl, i, rfl, x, rfl, by rw [sizeLine_eq]; omega, ?_⟩
            rw [cutS_nat x p i (by omega)]
            refine ⟨by show 2 ≤ sizeLine; decide, fun Tp hTp => ?_⟩
            obtain ⟨a1, a2, a3⟩ := add_tok (p, cut x.cps.toList p i) hl (st.trans sT) hv1 (RTks.tm (.of sT) pr) hTp
            refine ⟨l, vs, .ref Tp, rfl, rfl, a1, by rw [hvl, sizeLine_eq]; simp only [List.length_nil] at hb; omega, rfl, _, a2, upd_same, ?_⟩
            unfold flush
            rw [if_pos hpi]
            exact a3
          · rw [decide_eq_false (show ¬ (p : Int) < (i : Int) by omega)]
            refine iteF ⟨rfl, vs, st.trans sT, sT _ _ hv, ?_⟩
            unfold flush
            rw [if_neg hpi]
            exact RTks.tm (.of sT) pr
        · rintro σ2 H2 ⟨rfl, vs2, st2, hv2, pr2⟩
          have hl2 := Paired.length pr2
          have hl3 := flush_len (T := x.cps.toList) (st := (F, p)) (p := i)
          dsimp only at hl3
          refine ⟨fun σ3 H3 => σ3 = [some (V.str x), some (V.ref l), some (nI p), some (nI i), some (V.str ⟨#[c]⟩)] ∧ ∃ vs3, Same H H3 ∧ H3 l = some (.lst vs3) ∧ Paired (RTk H3) vs3 (lexStep x.cps.toList (F, p) i c).1, ?_, ?_⟩
          · refine ⟨_, rfl, rfl, !decide (c = 32), by rw [code_eq], ?_⟩
            unfold lexStep
            rw [if_neg hr]
            by_cases h32 : c = 32
            · rw [decide_eq_true h32, if_pos h32]
              exact iteF ⟨rfl, vs2, st2, hv2, pr2⟩
            · rw [decide_eq_false h32, if_neg h32]
              refine iteT ?_
              refine ⟨_, rfl, .inl ⟨rfl, _, SqL.of hv2⟩, _, rfl, _, rfl, by show 2 ≤ sizeLine; decide, fun Tp hTp => ?_⟩
              obtain ⟨a1, a2, a3⟩ := add_tok (i, ⟨#[c]⟩) hl st2 hv2 pr2 hTp
              exact ⟨l, vs2, .ref Tp, rfl, rfl, a1, by rw [hl2, sizeLine_eq]; simp only [List.length_nil] at hb; omega, rfl, _, a2, upd_same, a3⟩
          · rintro σ3 H3 ⟨rfl, vs3, st3, hv3, pr3⟩
            refine ⟨_, rfl, (i : Int), 1, rfl, rfl, ⟨some (nI i), some (.str ⟨#[c]⟩), vs3, ?_, st3, hv3, pr3⟩⟩
            unfold lexStep
            rw [if_neg hr]
            rfl
    · rintro σ H' ⟨xp, xs, vs, rfl, st, hv, pr⟩
      have hxl : x.cps.toList.length = x.length := Array.length_toList
      have hxs : x.cps.size = x.length := rfl
      have et : x.cps.toList.take x.cps.size = x.cps.toList := List.take_of_length_le (by rw [hxl, hxs]; exact Nat.le_refl _)
      rw [et] at pr ⊢
      have hb := lexFrom_len (T := x.cps.toList) (cs := x.cps.toList) (st := ([], 0)) (p := 0)
      have hlw : lexWords x = flush x.cps.toList (lexFrom x.cps.toList ([], 0) 0 x.cps.toList) x.cps.toList.length ++ [(x.cps.toList.length, wVoid)] := rfl
      have hvl := Paired.length pr
      generalize hS : lexFrom x.cps.toList ([], 0) 0 x.cps.toList = S at *
      obtain ⟨F, p⟩ := S
      dsimp only at hb pr hvl ⊢
      have hfl := flush_len (T := x.cps.toList) (st := (F, p)) (p := x.cps.toList.length)
      dsimp only at hfl
      simp only [List.length_nil] at hb
      refine ⟨fun σ2 H2 => σ2 = [some (V.str x), some (V.ref l), some (nI p), xp, xs] ∧ ∃ vs2, Same H H2 ∧ H2 l = some (.lst vs2) ∧ Paired (RTk H2) vs2 (flush x.cps.toList (F, p) x.cps.toList.length), ?_, ?_⟩
      · refine ⟨_, rfl, _, rfl, x, rfl, by rw [sizeLine_eq]; omega, (p : Int), (x.length : Int), rfl, rfl, decide ((p : Int) < (x.length : Int)), rfl, ?_⟩
        by_cases hpi : p < x.cps.toList.length
        · rw [decide_eq_true (show (p : Int) < (x.length : Int) by omega)]
          refine iteT ?_
          refine ⟨_, rfl, .inl ⟨rfl, _, SqL.of hv⟩, _, rfl, _, rfl, _, rfl, p, rfl, x, rfl, by rw [sizeLine_eq]; omega, ?_⟩
          rw [cutS_end x p]
          refine ⟨by show 2 ≤ sizeLine; decide, fun Tp hTp => ?_⟩
          obtain ⟨a1, a2, a3⟩ := add_tok (p, cut x.cps.toList p x.cps.toList.length) hl st hv pr hTp
          refine ⟨l, vs, .ref Tp, rfl, rfl, a1, by rw [hvl, sizeLine_eq]; omega, rfl, _, a2, upd_same, ?_⟩
          unfold flush
          rw [if_pos hpi]
          exact a3
        · rw [decide_eq_false (show ¬ (p : Int) < (x.length : Int) by omega)]
          refine iteF ⟨rfl, vs, st, hv, ?_⟩
          unfold flush
          rw [if_neg hpi]
          exact pr
      · rintro σ2 H2 ⟨rfl, vs2, st2, hv2, pr2⟩
        have hl2 := Paired.length pr2
        refine ⟨_, rfl, .inl ⟨rfl, _, SqL.of hv2⟩, _, rfl, x, rfl, by rw [sizeLine_eq]; omega, by show 2 ≤ sizeLine; decide, fun Tp hTp => ?_⟩
        obtain ⟨a1, a2, a3⟩ := add_tok (x.length, wVoid) hl st2 hv2 pr2 hTp
        refine ⟨l, vs2, .ref Tp, rfl, rfl, a1, by rw [hl2, sizeLine_eq]; omega, _, rfl, q l _ a2 ⟨_, upd_same, ?_⟩⟩
        rw [hlw, hxl]
        rw [hxl] at a3
        exact a3
end
end Lt

set_option Elab.async false
set_option linter.all false
set_option maxRecDepth 100000
set_option maxHeartbeats 1000000
/-! expected, tree_from -/
namespace Lt
open PySem PySem.Spec PyProof.Rows L2
theorem flat_strs (ws : List Str) : (ws.map V.str).all flatV = true := by
  rw [List.all_map]
  exact List.all_eq_true.mpr fun _ _ => rfl
theorem inV_strs (w : Str) (ws : List Str) : inV (.str w) (ws.map V.str) = decide (w ∈ ws) := by
  unfold inV
  rw [List.any_map]
  induction ws with
  | nil => rfl
  | cons a ws ih =>
    rw [List.any_cons, ih]
    show ((a == w) || _) = _
    by_cases h : a = w
    · subst h
      rw [beq_self_eq_true, Bool.true_or, decide_eq_true (List.mem_cons_self ..)]
    · rw [beq_eq_false_iff_ne.mpr h, Bool.false_or]
      exact decide_eq_decide.mpr ⟨fun m => List.mem_cons_of_mem _ m, fun m => by
        rcases List.mem_cons.mp m with e | m
        · exact absurd e.symm h
        · exact m⟩
theorem LTk.get {H : Hp} {l : Addr} {ts : List Tok} (h : LTk H l ts) {i : Nat} {t : Tok} (g : ts[i]? = some t) : ∃ xs T, H l = some (.lst xs) ∧ xs[i]? = some (.ref T) ∧ H T = some (.tup [nI t.1, .str t.2]) := by
  obtain ⟨xs, h1, h2⟩ := h
  obtain ⟨v, h3, a, rfl, h4⟩ := Paired.getR h2 g
  exact ⟨xs, a, h1, h3, h4⟩
section
variable {P : Program} {w : World} {K : PySem.W.Frag} {mg : Str → Option Value} {base : Heap} {CB : Addr}
def spExpected (K : PySem.W.Frag) (CB : Addr) : Sp := fun vs H Q E => ∃ (l W : Addr) (at_ : Nat) (ts : List Tok) (p : Nat) (z : Str) (ws : List Str), vs = [.ref l, nI at_, .ref W] ∧ LTk H l ts ∧ ts[at_]? = some (p, z) ∧ SqT K H W (ws.map V.str) ∧ (z ∈ ws → Q (.str z) H) ∧ (z ∉ ws → BadF CB "place" (nI p) H E)
theorem sc_expected : FnScope ["words", "at", "wanted", "place", "word"] ["words", "at", "wanted"] (defScope s_expected) := ⟨rfl, rfl, rfl, by decide +kernel, rfl, by decide +kernel, by decide +kernel⟩
theorem has_expected (T : Top K mg "expected" s_expected ["words", "at", "wanted"]) (X1 : ErrI P w K mg base "BadSign" "place" CB) : Has P w K mg base (L2.CX P w) 3 "expected" ["words", "at", "wanted"] (spExpected K CB) := by
  refine T.okX sc_expected (fun vs H Q E h => ?_) (fun f cdv A outer s H vs Q E hr h => ?_)
  · obtain ⟨l, W, at_, ts, p, z, ws, rfl, _⟩ := h
    rfl
  · obtain ⟨l, W, at_, ts, p, z, ws, rfl, hl, hg, hW, qg, qb⟩ := h
    obtain ⟨xs, T, h1, h2, h3⟩ := hl.get hg
    refine ⟨_, pss_cons (ps_asg (pe_ix ix_list (pv 0) (pv 1) (fun _ _ => rfl)) (pg_tup rfl (pgs_cons (pg_name (i := 3) sc_expected.nd rfl (Or.inl rfl)) (pgs_cons (pg_name (i := 4) sc_expected.nd rfl (Or.inl rfl)) pgs_nil))))
      (pss_cons (ps_if (pt_cmpR op_notIn_seq (pv 4) (pv 2) (by rfl)) (pss_one (ps_raise rfl (takes_of rfl rfl rfl rfl) (pmk_errI X1 hr (by rfl) (pa_cons (pv 3) pa_nil)))) pss_nil)
      (pss_one (ps_ret (pv 4)))), ?_⟩
    refine ⟨_, rfl, _, rfl, l, xs, (at_ : Int), .ref T, rfl, rfl, SqL.of h1, atI_nat h2, T, _, rfl, SqT.of h3, rfl, nI p, _, rfl, .str z, _, rfl, rfl, ?_⟩
    refine ⟨_, rfl, _, rfl, W, ws.map V.str, rfl, .inr hW, rfl, flat_strs ws, !decide (z ∈ ws), ?_, ?_⟩
    · rw [inV_strs]
      rfl
    · by_cases hz : z ∈ ws
      · rw [decide_eq_true hz]
        exact iteF ⟨_, rfl, qg hz⟩
      · rw [decide_eq_false hz]
        exact iteT ⟨_, rfl, mk_read X1.oex X1.no (qb hz)⟩
end
end Lt

set_option Elab.async false
set_option linter.all false
set_option maxRecDepth 100000
set_option maxHeartbeats 1000000
/-! tree_from -/
namespace Lt
open PySem PySem.Spec PyProof.Rows L2
theorem word_eq (a b : Str) : decide (V.str a = V.str b) = decide (a = b) := decide_eq_decide.mpr ⟨fun h => by injection h, fun h => by rw [h]⟩
section
variable {P : Program} {w : World} {K : PySem.W.Frag} {mg : Str → Option Value} {base : Heap} {CB : Addr}
theorem sc_tree_from : FnScope ["names", "words", "at", "around", "place", "word", "tree", "left", "joiner", "right"] ["names", "words", "at", "around"] (defScope s_tree_from) := ⟨rfl, rfl, rfl, by decide +kernel, rfl, by decide +kernel, by decide +kernel⟩
/-- the names that tree_from reads -/
structure GlT (K : PySem.W.Frag) (mg : Str → Option Value) : Prop where
  most : ∃ u, mg "MOST_AROUND" = some u ∧ RelV (.int 20) u
  join : ∃ J : Addr, mg "JOINERS" = some (.ref J) ∧ ∀ H, SqT K H J (joins.map V.str)
end
end Lt

set_option Elab.async false
set_option linter.all false
set_option maxRecDepth 100000
set_option maxHeartbeats 1000000
/-! check_inputs, formula_tree -/
namespace Lt
open PySem PySem.Spec PyProof.Rows L2
/-- the name of an input -/
def xN (i : Nat) : Str := Str.empty ++ ("x" : Str) ++ Str.ofString (toString ((i : Nat) : Int))
def nmL (m : Nat) : List Str := (List.range m).map xN
def RStr (_ : Hp) (v : V) (z : Str) : Prop := v = .str z
theorem RStr.all {H : Hp} : ∀ {zs : List V} {t : List Str}, Paired (RStr H) zs t → zs = t.map V.str
  | _, _, .nil => rfl
  | _, _, .cons r t => by rw [(show _ = V.str _ from r), RStr.all t]; rfl
theorem log_small {i : Nat} (h : i < 1000) : ((i : Nat) : Int).natAbs.log2 < 1920 := by
  rw [Int.natAbs_natCast]
  by_cases z : i = 0
  · subst z; decide +kernel
  · exact (Nat.log2_lt z).mpr (Nat.lt_of_lt_of_le h (by decide +kernel))
def tXn : TE := fun σ H Q => tJs [tC (.str "x"), tFmt (tVar 6)] Str.empty σ H fun out H1 => Q (.str out) H1
theorem xN_len : ∀ i, i < 6 → (Str.empty ++ ("x" : Str)).length ≤ 16777216 ∧ (xN i).length ≤ 16777216 := by decide +kernel
section
variable {P : Program} {w : World} {K : PySem.W.Frag} {mg : Str → Option Value} {base : Heap} {CB CN CS : Addr}
def spCheckIn : Sp := fun vs H Q _ => ∃ m : Nat, vs = [nI m] ∧ 1 ≤ m ∧ m ≤ 6 ∧ Q .non H
theorem sc_check_inputs : FnScope ["inputs"] ["inputs"] (defScope s_check_inputs) := ⟨rfl, rfl, rfl, by decide +kernel, rfl, by decide +kernel, by decide +kernel⟩
theorem has_check_inputs (T : Top K mg "check_inputs" s_check_inputs ["inputs"]) (G : ∃ u, mg "MOST_INPUTS" = some u ∧ RelV (.int 6) u) (X0 : Err0 K mg "BadNumber" CN) (hN : Has P w K mg base CX0 1 "is_number" ["value"] spNum) : Has P w K mg base (L2.CX P w) 3 "check_inputs" ["inputs"] spCheckIn := by
  refine T.okX sc_check_inputs (fun vs H Q E h => ?_) (fun f cdv A outer s H vs Q E hr h => ?_)
  · obtain ⟨m, rfl, _⟩ := h
    rfl
  · obtain ⟨m, rfl, h1, h6, q⟩ := h
    have hr1 : Room 1 _ := hr.mono (by decide)
    refine ⟨_, pss_one (ps_if (PW.pt (pw_or (pt_not (pt_val (pe_has hN hr1 (by rfl) (pa_cons (pv 0) pa_nil)))) (pw_or1 (pt_not (pt_chain op_le op_le pe_int (pv 0) (pe_gc2 (by rfl) G)))))) (pss_one (ps_raise rfl (takes_of rfl rfl rfl rfl) (pmk_err0 X0 (by rfl)))) pss_nil), ?_⟩
    refine ⟨_, rfl, nI m, .int m, rfl, .int _, true, rfl, iteF ⟨_, rfl, 1, (m : Int), rfl, rfl, true, congrArg V.bl (decide_eq_true (show (1 : Int) ≤ (m : Int) by omega)), iteT ⟨(m : Int), 6, rfl, rfl, true, congrArg V.bl (decide_eq_true (show (m : Int) ≤ 6 by omega)), iteF q⟩⟩⟩
theorem sc_formula_tree : FnScope ["inputs", "text", "words", "names", "tree", "at", "own"] ["inputs", "text"] (defScope s_formula_tree) := ⟨rfl, rfl, rfl, by decide +kernel, rfl, by decide +kernel, by decide +kernel⟩
end
end Lt

set_option Elab.async false
set_option linter.all false
set_option maxRecDepth 100000
set_option maxHeartbeats 1000000
/-! tree_from of a formula that stands: the tree itself (for k04) -/
namespace Lt
open PySem PySem.Spec PyProof.Rows L2
inductive Fm
  | x (i : Nat)
  | no (f : Fm)
  | two (j : Str) (f g : Fm)
def Fm.spell : Fm → List Str
  | .x i => [xN i]
  | .no f => wNot :: f.spell
  | .two j f g => wOp :: (f.spell ++ (j :: (g.spell ++ [wCl])))
def Fm.deep : Fm → Nat
  | .x _ => 0
  | .no f => f.deep + 1
  | .two _ f g => max f.deep g.deep + 1
/-- over m inputs, joined by and, or, xor -/
def Fm.Ok (m : Nat) : Fm → Prop
  | .x i => i < m
  | .no f => f.Ok m
  | .two j f g => j ∈ joins ∧ f.Ok m ∧ g.Ok m
/-- the tree in the heap -/
def Fm.At (H : Hp) : Fm → V → Prop
  | .x i, v => v = nI i
  | .no f, v => ∃ a u, v = .ref a ∧ H a = some (.tup [.str wNot, u]) ∧ f.At H u
  | .two j f g, v => ∃ a u t, v = .ref a ∧ H a = some (.tup [.str j, u, t]) ∧ f.At H u ∧ g.At H t
theorem Fm.At.same {H H' : Hp} (e : Same H H') : ∀ {f : Fm} {v : V}, f.At H v → f.At H' v
  | .x _, _, h => h
  | .no _, _, ⟨a, u, h1, h2, h3⟩ => ⟨a, u, h1, e _ _ h2, Fm.At.same e h3⟩
  | .two _ _ _, _, ⟨a, u, t, h1, h2, h3, h4⟩ => ⟨a, u, t, h1, e _ _ h2, Fm.At.same e h3, Fm.At.same e h4⟩
theorem xN_inj : ∀ i, i < 6 → ∀ j, j < 6 → xN i = xN j → i = j := by decide +kernel
theorem nm_get {m i : Nat} (h : i < m) : (nmL m)[i]? = some (xN i) := by
  unfold nmL
  rw [List.getElem?_map, List.getElem?_range h]
  rfl
theorem nms_okE : ∀ m, m ≤ 6 → (wNot ∉ nmL m ∧ wOp ∉ nmL m ∧ wVoid ∉ nmL m) ∧ wX0 ∉ nmL m ∧ ("X" : Str) ∉ nmL m := by decide +kernel
section
variable {P : Program} {w : World} {K : PySem.W.Frag} {mg : Str → Option Value} {base : Heap} {CB : Addr}
def spTreeE (fu : Nat) : Sp := fun vs H Q _ => ∃ (n l : Addr) (at_ ar m : Nat) (ts : List Tok) (f : Fm) (rest : List Str), vs = [.ref n, .ref l, nI at_, nI ar] ∧ H n = some (.lst ((nmL m).map V.str)) ∧ m ≤ 6 ∧ LTk H l ts ∧ f.Ok m ∧ f.deep < fu ∧ ar + f.deep ≤ 20 ∧
  (ts.drop at_).map (·.2) = f.spell ++ rest ∧
  (∀ (a : Addr) (v : V) (k : Nat) (H' : Hp), Same H H' → H' a = some (.tup [v, nI k]) → f.At H' v → k = at_ + f.spell.length → Q (.ref a) H')
theorem tok_at {ts : List Tok} {k : Nat} {w0 : Str} {r : List Str} (h : (ts.drop k).map (·.2) = w0 :: r) : ∃ p, ts[k]? = some (p, w0) ∧ (ts.drop (k + 1)).map (·.2) = r := by
  cases hd : ts.drop k with
  | nil => rw [hd] at h; cases h
  | cons t ts' =>
    rw [hd] at h
    injection h with h1 h2
    refine ⟨t.1, ?_, ?_⟩
    · have := drop_get (n := 0) hd.symm rfl
      rw [← h1]
      exact this
    · have e := drop_tl hd.symm
      rw [← e]
      exact h2
theorem has_tree_fromE (T : Top K mg "tree_from" s_tree_from ["names", "words", "at", "around"]) (X1 : ErrI P w K mg base "BadSign" "place" CB) (G : GlT K mg)
    (hX : Has P w K mg base (L2.CX P w) 3 "expected" ["words", "at", "wanted"] (spExpected K CB)) : ∀ f, Has P w K mg base (L2.CX P w) (f + 4) "tree_from" ["names", "words", "at", "around"] (spTreeE f)
  | 0 => T.okX sc_tree_from (fun vs H Q E h => by obtain ⟨n, l, at_, ar, m, ts, g, rest, rfl, _⟩ := h; rfl) (fun f cdv A outer s H vs Q E hr h => by
      obtain ⟨n, l, at_, ar, m, ts, g, rest, rfl, h1, h2, h3, h4, h5, _⟩ := h
      exact absurd h5 (Nat.not_lt_zero _))
  | fu + 1 => by
    have ih := has_tree_fromE T X1 G hX fu
    refine T.okX sc_tree_from (fun vs H Q E h => ?_) (fun f cdv A outer s H vs Q E hr h => ?_)
    · obtain ⟨n, l, at_, ar, m, ts, g, rest, rfl, _⟩ := h
      rfl
    · obtain ⟨n, l, at_, ar, m, ts, g, rest, rfl, hn, hm, hl, ok, hd, ha, hw, q⟩ := h
      have hr2 : Room 2 _ := hr.mono (by omega)
      have hr3 : Room 3 _ := hr.mono (by omega)
      obtain ⟨J, hJ, sJ⟩ := G.join
      obtain ⟨⟨a1, a2, a3⟩, _, _⟩ := nms_okE m hm
      refine ⟨_, pss_cons (ps_asg (pe_ix ix_list (pv 1) (pv 2) (fun _ _ => rfl)) (pg_tup rfl (pgs_cons (pg_name (i := 4) sc_tree_from.nd rfl (Or.inl rfl)) (pgs_cons (pg_name (i := 5) sc_tree_from.nd rfl (Or.inl rfl)) pgs_nil))))
        (pss_cons (ps_if (pt_cmpR op_gt (pv 3) (pe_gc2 (by rfl) G.most) (nomark _)) (pss_one (ps_raise rfl (takes_of rfl rfl rfl rfl) (pmk_errI X1 hr2 (by rfl) (pa_cons (pv 4) pa_nil)))) pss_nil)
        (pss_cons (ps_if (pt_cmpR op_in_seq (pv 5) (pv 0) (by rfl)) (pss_one (ps_ret (pe_tup (pa_cons (pe_bm PySem.F.plainAttrs_list PySem.F.slot_list_index PySem.F.type_list_index mt_index (pv 0) (pa_cons (pv 5) pa_nil)) (pa_cons (pe_op op_add (pv 2) pe_int) pa_nil))))) pss_nil)
        (pss_cons (ps_if (pt_cmpR op_eq (pv 5) pe_str (nomark _))
          (pss_cons (ps_asg (pe_hasX (E := E) ih hr (by rfl) (passes_call (takes_of rfl rfl rfl rfl) (fun _ _ _ _ h => h)) (pa_cons (pv 0) (pa_cons (pv 1) (pa_cons (pe_op op_add (pv 2) pe_int) (pa_cons (pe_op op_add (pv 3) pe_int) pa_nil))))) (pg_tup rfl (pgs_cons (pg_name (i := 6) sc_tree_from.nd rfl (Or.inl rfl)) (pgs_cons (pg_name (i := 2) sc_tree_from.nd rfl (Or.inl rfl)) pgs_nil))))
          (pss_one (ps_ret (pe_tup (pa_cons (pe_tup (pa_cons (pv 5) (pa_cons (pv 6) pa_nil))) (pa_cons (pv 2) pa_nil)))))) pss_nil)
        (pss_cons (ps_if (pt_cmpR op_ne (pv 5) pe_str (nomark _)) (pss_one (ps_raise rfl (takes_of rfl rfl rfl rfl) (pmk_errI X1 hr2 (by rfl) (pa_cons (pv 4) pa_nil)))) pss_nil)
        (pss_cons (ps_asg (pe_hasX (E := E) ih hr (by rfl) (passes_call (takes_of rfl rfl rfl rfl) (fun _ _ _ _ h => h)) (pa_cons (pv 0) (pa_cons (pv 1) (pa_cons (pe_op op_add (pv 2) pe_int) (pa_cons (pe_op op_add (pv 3) pe_int) pa_nil))))) (pg_tup rfl (pgs_cons (pg_name (i := 7) sc_tree_from.nd rfl (Or.inl rfl)) (pgs_cons (pg_name (i := 2) sc_tree_from.nd rfl (Or.inl rfl)) pgs_nil))))
        (pss_cons (ps_set (i := 8) sc_tree_from.nd rfl (Or.inl rfl) (pe_hasX (E := E) hX hr3 (by rfl) (passes_call (takes_of rfl rfl rfl rfl) (fun _ _ _ _ h => h)) (pa_cons (pv 1) (pa_cons (pv 2) (pa_cons (pe_glob (v := .ref J) (by rfl) hJ rfl) pa_nil)))))
        (pss_cons (ps_asg (pe_hasX (E := E) ih hr (by rfl) (passes_call (takes_of rfl rfl rfl rfl) (fun _ _ _ _ h => h)) (pa_cons (pv 0) (pa_cons (pv 1) (pa_cons (pe_op op_add (pv 2) pe_int) (pa_cons (pe_op op_add (pv 3) pe_int) pa_nil))))) (pg_tup rfl (pgs_cons (pg_name (i := 9) sc_tree_from.nd rfl (Or.inl rfl)) (pgs_cons (pg_name (i := 2) sc_tree_from.nd rfl (Or.inl rfl)) pgs_nil))))
        (pss_cons (ps_expr (pe_hasX (E := E) hX hr3 (by rfl) (passes_call (takes_of rfl rfl rfl rfl) (fun _ _ _ _ h => h)) (pa_cons (pv 1) (pa_cons (pv 2) (pa_cons (pe_tup (pa_cons pe_str pa_nil)) pa_nil)))))
        (pss_one (ps_ret (pe_tup (pa_cons (pe_tup (pa_cons (pv 8) (pa_cons (pv 7) (pa_cons (pv 9) pa_nil)))) (pa_cons (pe_op op_add (pv 2) pe_int) pa_nil))))))))))))), ?_⟩
      cases g with
      | x i =>
        obtain ⟨p, hg, hr'⟩ := tok_at (show (ts.drop at_).map (·.2) = xN i :: rest from hw)
        obtain ⟨xs, T0, h1, h2, h3⟩ := hl.get hg
        refine ⟨_, rfl, _, rfl, l, xs, (at_ : Int), .ref T0, rfl, rfl, SqL.of h1, atI_nat h2, T0, _, rfl, SqT.of h3, rfl, nI p, _, rfl, .str (xN i), _, rfl, rfl, ?_⟩
        refine ⟨_, rfl, (ar : Int), 20, rfl, rfl, decide ((20 : Int) < (ar : Int)), rfl, ?_⟩
        rw [decide_eq_false (show ¬ (20 : Int) < (ar : Int) by omega)]
        refine iteF ⟨_, rfl, _, rfl, n, (nmL m).map V.str, rfl, .inl (SqL.of hn), rfl, flat_strs _, decide (xN i ∈ nmL m), congrArg V.bl (inV_strs _ _), ?_⟩
        have him : i < m := ok
        have hin : xN i ∈ nmL m := List.mem_of_getElem? (nm_get him)
        rw [decide_eq_true hin]
        refine iteT ⟨_, rfl, .inl ⟨rfl, _, SqL.of hn⟩, _, rfl, n, (nmL m).map V.str, .str (xN i), i, .str (xN i), rfl, rfl, SqL.of hn, rfl, flat_strs _, by rw [List.getElem?_map, nm_get him]; rfl, beq_self_eq_true _, fun j z' hj hz => ?_, _, rfl, (at_ : Int), 1, rfl, rfl, by show 2 ≤ sizeLine; decide, fun a ha0 => ?_⟩
        · rw [List.getElem?_map, nm_get (by omega)] at hz
          have hz := Option.some.inj hz
          subst hz
          exact beq_eq_false_iff_ne.mpr fun e => absurd (xN_inj j (by omega) i (by omega) e) (by omega)
        · exact q a (nI i) (at_ + 1) _ (same_new ha0) upd_same rfl rfl
      | no g =>
        obtain ⟨p, hg, hr'⟩ := tok_at (show (ts.drop at_).map (·.2) = wNot :: (g.spell ++ rest) from hw)
        obtain ⟨xs, T0, h1, h2, h3⟩ := hl.get hg
        have hdp : g.deep + 1 < fu + 1 := hd
        have hap : ar + (g.deep + 1) ≤ 20 := ha
        refine ⟨_, rfl, _, rfl, l, xs, (at_ : Int), .ref T0, rfl, rfl, SqL.of h1, atI_nat h2, T0, _, rfl, SqT.of h3, rfl, nI p, _, rfl, .str wNot, _, rfl, rfl, ?_⟩
        refine ⟨_, rfl, (ar : Int), 20, rfl, rfl, decide ((20 : Int) < (ar : Int)), rfl, ?_⟩
        rw [decide_eq_false (show ¬ (20 : Int) < (ar : Int) by omega)]
        refine iteF ⟨_, rfl, _, rfl, n, (nmL m).map V.str, rfl, .inl (SqL.of hn), rfl, flat_strs _, decide (wNot ∈ nmL m), congrArg V.bl (inV_strs _ _), ?_⟩
        rw [decide_eq_false a1]
        refine iteF ⟨_, rfl, rfl, true, rfl, iteT ⟨_, rfl, _, rfl, _, rfl, (at_ : Int), 1, rfl, rfl, _, rfl, (ar : Int), 1, rfl, rfl, n, l, at_ + 1, ar + 1, m, ts, g, rest, rfl, hn, hm, hl, ok, by omega, by omega, hr', fun a v k H1 s1 ha1 tv hk => ?_⟩⟩
        refine ⟨a, _, rfl, SqT.of ha1, rfl, v, _, rfl, nI k, _, rfl, rfl, ?_⟩
        refine ⟨_, rfl, _, rfl, by show 2 ≤ sizeLine; decide, fun T2 hT2 => ⟨_, rfl, by show 2 ≤ sizeLine; decide, fun T3 hT3 => ?_⟩⟩
        have s2 := same_new (o := .tup [V.str wNot, v]) hT2
        have s3 := same_new (o := .tup [V.ref T2, nI k]) hT3
        refine q T3 (.ref T2) k _ (s1.trans (s2.trans s3)) upd_same ⟨T2, v, rfl, s3 _ _ upd_same, tv.same (s2.trans s3)⟩ ?_
        rw [hk]
        show at_ + 1 + g.spell.length = at_ + (g.spell.length + 1)
        omega
      | two j g g2 =>
        have ew : (ts.drop at_).map (·.2) = wOp :: (g.spell ++ (j :: (g2.spell ++ (wCl :: rest)))) := by
          rw [hw]
          show wOp :: (g.spell ++ (j :: (g2.spell ++ [wCl]))) ++ rest = _
          simp only [List.cons_append, List.append_assoc, List.nil_append]
        obtain ⟨okj, ok1, ok2⟩ := ok
        obtain ⟨p, hg, hr'⟩ := tok_at ew
        obtain ⟨xs, T0, h1, h2, h3⟩ := hl.get hg
        have hdp : max g.deep g2.deep + 1 < fu + 1 := hd
        have hap : ar + (max g.deep g2.deep + 1) ≤ 20 := ha
        refine ⟨_, rfl, _, rfl, l, xs, (at_ : Int), .ref T0, rfl, rfl, SqL.of h1, atI_nat h2, T0, _, rfl, SqT.of h3, rfl, nI p, _, rfl, .str wOp, _, rfl, rfl, ?_⟩
        refine ⟨_, rfl, (ar : Int), 20, rfl, rfl, decide ((20 : Int) < (ar : Int)), rfl, ?_⟩
        rw [decide_eq_false (show ¬ (20 : Int) < (ar : Int) by omega)]
        refine iteF ⟨_, rfl, _, rfl, n, (nmL m).map V.str, rfl, .inl (SqL.of hn), rfl, flat_strs _, decide (wOp ∈ nmL m), congrArg V.bl (inV_strs _ _), ?_⟩
        rw [decide_eq_false a2]
        refine iteF ⟨_, rfl, rfl, false, rfl, iteF ⟨_, rfl, rfl, false, rfl, iteF ⟨_, rfl, _, rfl, _, rfl, (at_ : Int), 1, rfl, rfl, _, rfl, (ar : Int), 1, rfl, rfl, n, l, at_ + 1, ar + 1, m, ts, g, j :: (g2.spell ++ (wCl :: rest)), rfl, hn, hm, hl, ok1, by omega, by omega, hr', fun a v k H1 s1 ha1 tv hk => ?_⟩⟩⟩
        have e1 : (ts.drop k).map (·.2) = j :: (g2.spell ++ (wCl :: rest)) := by
          rw [hk, ← List.drop_drop, List.map_drop, hr', List.drop_left]
        obtain ⟨p2, g2', r2⟩ := tok_at e1
        have hl1 := hl.same s1
        refine ⟨a, _, rfl, SqT.of ha1, rfl, v, _, rfl, nI k, _, rfl, rfl, ?_⟩
        refine ⟨_, rfl, _, rfl, l, J, k, ts, p2, j, joins, rfl, hl1, g2', sJ _, fun _ => ?_, fun z => absurd okj z⟩
        refine ⟨_, rfl, _, rfl, _, rfl, (k : Int), 1, rfl, rfl, _, rfl, (ar : Int), 1, rfl, rfl, n, l, k + 1, ar + 1, m, ts, g2, wCl :: rest, rfl, s1 _ _ hn, hm, hl1, ok2, by omega, by omega, r2, fun a' u k2 H2 s2 ha2 tu hk2 => ?_⟩
        have e2 : (ts.drop k2).map (·.2) = wCl :: rest := by
          rw [hk2, ← List.drop_drop, List.map_drop, r2, List.drop_left]
        obtain ⟨p4, g4, r4⟩ := tok_at e2
        have s12 := s1.trans s2
        refine ⟨a', _, rfl, SqT.of ha2, rfl, u, _, rfl, nI k2, _, rfl, rfl, ?_⟩
        refine ⟨_, rfl, _, rfl, by show 1 ≤ sizeLine; decide, fun T4 hT4 => ?_⟩
        have s3 := same_new (o := .tup [V.str wCl]) hT4
        refine ⟨l, T4, k2, ts, p4, wCl, [wCl], rfl, (hl.same s12).same s3, g4, SqT.of upd_same, fun _ => ?_, fun z => absurd (List.mem_singleton.mpr rfl) z⟩
        refine ⟨_, rfl, _, rfl, _, rfl, by show 3 ≤ sizeLine; decide, fun T5 hT5 => ⟨_, rfl, (k2 : Int), 1, rfl, rfl, by show 2 ≤ sizeLine; decide, fun T6 hT6 => ?_⟩⟩
        have s5 := same_new (o := .tup [V.str j, v, u]) hT5
        have s6 := same_new (o := .tup [V.ref T5, V.int ((k2 : Int) + 1)]) hT6
        refine q T6 (.ref T5) (k2 + 1) _ (s12.trans (s3.trans (s5.trans s6))) upd_same ⟨T5, v, u, rfl, s6 _ _ upd_same, tv.same (s2.trans (s3.trans (s5.trans s6))), tu.same (s3.trans (s5.trans s6))⟩ ?_
        rw [hk2, hk]
        show at_ + 1 + g.spell.length + 1 + g2.spell.length + 1 = at_ + (g.spell ++ (j :: (g2.spell ++ [wCl]))).length.succ
        simp only [List.length_append, List.length_cons, List.length_nil]
        omega
end
end Lt

set_option Elab.async false
set_option linter.all false
set_option maxRecDepth 100000
set_option maxHeartbeats 1000000
/-! a comprehension over enumerate of a tuple -/
namespace Lt
open PySem PySem.Spec PyProof.Rows L2
theorem lc_enumM {K : PySem.W.Frag} {te : TE} {g : TG} {vs : List Nat} {σ : L2.St} {H1 : Hp} {D : Addr} {Qd : Hp → Prop} {β : Type} {j1 j2 : Nat} {a : Addr} {xs : List V} (R : Hp → V → β → Prop) (ys : List β)
    (mono : ∀ H H' v b, Tm H H' → R H v b → R H' v b) (hxK : ∀ H, Same H1 H → SqT K H a xs) (hz : xs.length ≤ 100000) (hy : ys.length = xs.length) (hD : H1 D = none)
    (hg : ∀ T x (i : Nat) σ H Q, H T = some (.tup [nI i, x]) → Q ((σ.set j1 (some (nI i))).set j2 (some x)) H → g (.ref T) σ H Q)
    (hw : ∀ x y, wipe (((wipe σ vs).set j1 x).set j2 y) vs = wipe σ vs)
    (he : ∀ (i : Nat) (x : V) (b : β), xs[i]? = some x → ys[i]? = some b → ∀ H, Same H1 H → ∀ Q : VK, (∀ v H', Same H H' → R H' v b → Q v H') → te (((wipe σ vs).set j1 (some (nI i))).set j2 (some x)) H Q)
    (hd : ∀ H zs, Same H1 H → H D = some (.lst zs) → Paired (R H) zs ys → Qd H) :
    ∃ W : Nat → Nat → Hp → Prop, (∃ m, W 0 m (upd H1 D (.lst []))) ∧ ∀ i m H, W i m H →
      ((Itet K a).stop i H ∧ Qd H) ∨ ((Itet K a).go i H ∧ ∃ Nx : Hp → Prop, (∀ H', Nx H' → ∃ m', m' < m ∧ W (i + 1) m' H') ∧ ∀ x H', (Itet K a).yld i H x H' → g x (wipe σ vs) H' fun σ2 H2 => wipe σ2 vs = wipe σ vs ∧ tYes σ2 H2 fun b H3 =>
        if b = true then te σ2 H3 fun y H4 => ∃ acc, H4 D = some (.lst acc) ∧ acc.length < sizeLine ∧ Nx (upd H4 D (.lst (acc ++ [y]))) else Nx H3) := by
  refine ⟨fun i m H => m = xs.length - i ∧ i ≤ xs.length ∧ Cm H1 D R ys i H, ⟨xs.length, by simp, Nat.zero_le _, same_new hD, [], upd_same, .nil, Nat.le_refl _⟩, ?_⟩
  rintro i m H ⟨rfl, hi, p⟩
  have q := hxK H p.1
  by_cases hlt : i < xs.length
  · refine .inr ⟨⟨xs, xs[i], q, by simp [hlt]⟩, Cm H1 D R ys (i + 1), fun H' p' => ⟨xs.length - (i + 1), by omega, rfl, hlt, p'⟩, fun y H' yl => ?_⟩
    obtain ⟨T, x, rfl, hT, rfl, hx⟩ := yl
    have hx := hx xs q
    have sT := same_new (o := .tup [V.int (i : Nat), x]) hT
    refine hg T x i _ _ _ upd_same ⟨hw _ _, iteT (B := Cm H1 D R ys (i + 1) (upd H T (.tup [V.int (i : Nat), x]))) ?_⟩
    have hb : ys[i]? = some (ys[i]'(by omega)) := List.getElem?_eq_getElem (by omega)
    obtain ⟨sm, zs, h1, pr, hl⟩ := p
    exact cm_turn mono hD ⟨sm.trans sT, zs, sT _ _ h1, paired_mono (fun a b r => mono _ _ _ _ (Tm.of sT) r) pr, hl⟩ (by omega) hb (he i x _ hx hb)
  · have e : i = xs.length := by omega
    subst e
    refine .inl ⟨⟨xs, q, rfl⟩, ?_⟩
    obtain ⟨sm, zs, h1, pr, _⟩ := p
    rw [← hy, List.take_length] at pr
    exact hd H zs sm h1 pr
end Lt

set_option Elab.async false
set_option linter.all false
set_option maxRecDepth 100000
set_option maxHeartbeats 1000000
/-! input_table, bits_of, worth_of -/
namespace Lt
open PySem PySem.Spec PyProof.Rows L2
def itab (m own : Nat) : List Nat := (List.range (2 ^ m)).map fun p => p / 2 ^ own % 2
theorem itab_len (m own : Nat) : (itab m own).length = 2 ^ m := by unfold itab; rw [List.length_map, List.length_range]
theorem itab_le {m own b : Nat} (h : b ∈ itab m own) : b ≤ 1 := by
  unfold itab at h
  obtain ⟨p, _, rfl⟩ := List.mem_map.mp h
  omega
/-- the numbers whose sum is a table's -/
def bitL (bs : List Nat) : List Int := (List.range bs.length).map fun i => (bs.getD i 0 : Int) * 2 ^ i
def RI (_ : Hp) (v : V) (n : Int) : Prop := v = .int n
theorem RI.all {H : Hp} : ∀ {zs : List V} {t : List Int}, Paired (RI H) zs t → zs = t.map V.int
  | _, _, .nil => rfl
  | _, _, .cons r t => by rw [(show _ = V.int _ from r), RI.all t]; rfl
theorem pow6 {m : Nat} (h : m ≤ 6) : 2 ^ m ≤ 64 := Nat.le_trans (Nat.pow_le_pow_right (by decide) h) (by decide)
section
variable {P : Program} {w : World} {K : PySem.W.Frag} {mg : Str → Option Value} {base : Heap}
def spITab : Sp := fun vs H Q _ => ∃ (m own : Nat), vs = [nI m, nI own] ∧ m ≤ 6 ∧ ∀ v H', Same H H' → TK H' v (itab m own) → Q v H'
theorem sc_input_table : FnScope ["inputs", "own", "place"] ["inputs", "own"] (defScope s_input_table) := ⟨rfl, rfl, rfl, by decide +kernel, rfl, by decide +kernel, by decide +kernel⟩
theorem has_input_table (T : Top K mg "input_table" s_input_table ["inputs", "own"]) (B : Bi mg) : Has P w K mg base CX0 1 "input_table" ["inputs", "own"] spITab := by
  refine T.ok sc_input_table (fun vs H Q E h => ?_) (fun f cdv A outer s H vs Q E hr h => ?_)
  · obtain ⟨m, own, rfl, _⟩ := h
    rfl
  · obtain ⟨m, own, rfl, hm, q⟩ := h
    have h64 := pow6 hm
    refine ⟨_, pss_one (ps_ret (pe_tupleOf (by rfl) B.tuple (pe_lc (own := [("place", 2)]) (g := gName 2) (te := tOp (fun x y H Q => ∃ (i : Int) (k : Nat), x = .int i ∧ y = .int (2 ^ k - 1) ∧ Q (.int (i % 2 ^ k)) H) (tOp (fun x y H Q => ∃ (i : Int) (k : Nat), x = .int i ∧ y = .int (k : Int) ∧ Q (.int (i / 2 ^ k)) H) (tVar 2) (tVar 1)) (tC (.int 1))) (by rfl) sc_input_table.nd (pi_range1 (by rfl) B.range (pa_cons (pe_op op_shl pe_int (pv 0)) pa_nil)) (blkOk_by (own := [("place", 2)]) (N := ["inputs", "own", "place"]) (sc := defScope s_input_table) (by decide +kernel))
      (fun _ _ _ _ _ => pg_name (i := 2) sc_input_table.nd rfl (Or.inl rfl)) (fun _ _ _ _ _ => pts_nil) (fun _ _ _ _ _ => pe_op op_andM (pe_op op_shrN (pv 2) (pv 1)) pe_int)))), ?_⟩
    have e1 : (1 : Int) * 2 ^ (m : Int).toNat = ((2 ^ m : Nat) : Int) := by rw [Int.toNat_natCast, Int.one_mul, Int.natCast_pow]; rfl
    refine ⟨_, rfl, 1, (m : Int), rfl, rfl, ⟨by omega, by omega, by decide⟩, ?_⟩
    obtain ⟨k, hk⟩ : ∃ k, k = 2 ^ m := ⟨_, rfl⟩
    rw [← hk] at e1 h64
    refine ⟨(k : Int), congrArg (fun z : Int => [V.int z]) e1, by omega, by omega, fun D hD => lc_rangeM (n := (k : Int).toNat) RN (itab m own) (fun _ _ _ _ _ r => r) (by omega) (by rw [itab_len, ← hk]; omega) hD (fun x => rfl) (fun i b hi hb H' sm Q' q' => ?_) (fun H' zs sm hz pr => ?_)⟩
    · have eb : b = i / 2 ^ own % 2 := by
        unfold itab at hb
        rw [List.getElem?_map, List.getElem?_range (by omega)] at hb
        exact (Option.some.inj hb).symm
      refine ⟨_, rfl, _, rfl, ((0 : Int) + (i : Nat)), own, rfl, rfl, _, 1, rfl, rfl, q' _ H' (Same.refl _) ?_⟩
      show V.int _ = nI b
      rw [eb, Int.zero_add]
      unfold nI
      rw [Int.natCast_emod, Int.natCast_ediv, Int.natCast_pow]
      rfl
    · exact .inl ⟨D, zs, rfl, SqL.of hz, fun p hp => q _ _ (sm.trans (same_new hp)) (tn_of upd_same (RN.all pr))⟩
def spBits : Sp := fun vs H Q _ => ∃ (v : V) (bs : List Nat), vs = [v] ∧ TK H v bs ∧ bs.length ≤ 64 ∧ (∀ b ∈ bs, b ≤ 1) ∧ ∀ H', Same H H' → Q (.int (bitL bs).sum) H'
theorem sc_bits_of : FnScope ["table", "place", "bit"] ["table"] (defScope s_bits_of) := ⟨rfl, rfl, rfl, by decide +kernel, rfl, by decide +kernel, by decide +kernel⟩
theorem has_bits_of (T : Top K mg "bits_of" s_bits_of ["table"]) (B : Bi mg) (hs : mg "sum" = none) : Has P w K mg base CX0 1 "bits_of" ["table"] spBits := by
  refine T.ok sc_bits_of (fun vs H Q E h => ?_) (fun f cdv A outer s H vs Q E hr h => ?_)
  · obtain ⟨v, bs, rfl, _⟩ := h
    rfl
  · obtain ⟨v, bs, rfl, ⟨a, rfl, ha⟩, hl, hb, q⟩ := h
    refine ⟨_, pss_one (ps_ret (pe_callB (cr_sum rfl) (by rfl) hs PyProof.Rows.boot_sum (pa_cons (pe_lc (own := [("place", 1), ("bit", 2)]) (g := gTup K 2 (gCons (gName 1) (gCons (gName 2) gNil))) (te := tOp (rI CPow fun i j => .int (i * 2 ^ j.toNat)) (tVar 2) (tVar 1)) (by rfl) sc_bits_of.nd (pi_enumT (by rfl) B.enumerate (pa_cons (pv 0) pa_nil)) (blkOk_by (own := [("place", 1), ("bit", 2)]) (N := ["table", "place", "bit"]) (sc := defScope s_bits_of) (by decide +kernel))
      (fun _ _ _ _ _ => pg_tup rfl (pgs_cons (pg_name (i := 1) sc_bits_of.nd rfl (Or.inl rfl)) (pgs_cons (pg_name (i := 2) sc_bits_of.nd rfl (Or.inl rfl)) pgs_nil))) (fun _ _ _ _ _ => pts_nil) (fun _ _ _ _ _ => pe_op op_shl (pv 2) (pv 1))) pa_nil))), ?_⟩
    refine ⟨_, rfl, a, nIs bs, rfl, SqT.of ha, fun D hD => lc_enumM (K := K) (j1 := 1) (j2 := 2) (xs := nIs bs) RI (bitL bs) (fun _ _ _ _ _ r => r) (fun H' s => SqT.of (s _ _ ha)) (by rw [nIs_len]; omega) (by unfold bitL; rw [List.length_map, List.length_range, nIs_len]) hD (fun T x i σ H Q hT q => ⟨T, _, rfl, SqT.of hT, rfl, nI i, _, rfl, x, _, rfl, rfl, q⟩) (fun x y => rfl) (fun i x n hx hn H' sm Q' q' => ?_) (fun H' zs sm hz pr => ?_)⟩
    · rw [nIs_get] at hx
      obtain ⟨b, hb1, rfl⟩ := Option.map_eq_some_iff.mp hx
      have hib : i < bs.length := (List.getElem?_eq_some_iff.mp hb1).1
      have hb2 := hb b (List.mem_of_getElem? hb1)
      have en : n = (b : Int) * 2 ^ i := by
        unfold bitL at hn
        rw [List.getElem?_map, List.getElem?_range hib] at hn
        have e2 : bs.getD i 0 = b := by rw [List.getD_eq_getElem?_getD, hb1]; rfl
        rw [← Option.some.inj hn]
        show ((bs.getD i 0 : Nat) : Int) * 2 ^ i = _
        rw [e2]
      refine ⟨_, rfl, _, rfl, (b : Int), (i : Int), rfl, rfl, ⟨by omega, by omega, ?_⟩, q' _ H' (Same.refl _) ?_⟩
      · rw [Int.natAbs_natCast]
        exact Nat.lt_of_le_of_lt hb2 (by decide)
      · show V.int _ = V.int n
        rw [en, Int.toNat_natCast]
    · rw [RI.all pr] at hz
      exact ⟨D, bitL bs, rfl, SqL.of hz, q _ sm⟩
theorem sc_worth_of : FnScope ["tree", "leaves", "every", "one", "other"] ["tree", "leaves", "every"] (defScope s_worth_of) := ⟨rfl, rfl, rfl, by decide +kernel, rfl, by decide +kernel, by decide +kernel⟩
end
end Lt

set_option Elab.async false
set_option linter.all false
set_option maxRecDepth 100000
set_option maxHeartbeats 1000000
/-! worth_of, exactly (for k04) -/
namespace Lt
open PySem PySem.Spec PyProof.Rows L2
def worthI (ns : List Int) (e : Int) : Fm → Int
  | .x i => ns.getD i 0
  | .no f => Builtin.bitXor e (worthI ns e f)
  | .two j f g => if j = ("and" : Str) then Builtin.bitAnd (worthI ns e f) (worthI ns e g) else if j = ("or" : Str) then Builtin.bitOr (worthI ns e f) (worthI ns e g) else Builtin.bitXor (worthI ns e f) (worthI ns e g)
section
variable {P : Program} {w : World} {K : PySem.W.Frag} {mg : Str → Option Value} {base : Heap}
def spWorthE (fu : Nat) : Sp := fun vs H Q _ => ∃ (v : V) (l : Addr) (ns : List Int) (e : Int) (g : Fm), vs = [v, .ref l, .int e] ∧ g.At H v ∧ g.deep < fu ∧ g.Ok ns.length ∧ H l = some (.lst (ns.map V.int)) ∧ Q (.int (worthI ns e g)) H
theorem has_worth_ofE (T : Top K mg "worth_of" s_worth_of ["tree", "leaves", "every"]) (B : Bi mg) : ∀ f, Has P w K mg base CX0 (f + 1) "worth_of" ["tree", "leaves", "every"] (spWorthE f)
  | 0 => T.ok sc_worth_of (fun vs H Q E h => by obtain ⟨v, l, ns, e, d, rfl, _⟩ := h; rfl) (fun f cdv A outer s H vs Q E hr h => by
      obtain ⟨v, l, ns, e, d, rfl, _, h5, _⟩ := h
      exact absurd h5 (Nat.not_lt_zero _))
  | fu + 1 => by
    have ih := has_worth_ofE T B fu
    refine T.ok sc_worth_of (fun vs H Q E h => ?_) (fun f cdv A outer s H vs Q E hr h => ?_)
    · obtain ⟨v, l, ns, e, d, rfl, _⟩ := h
      rfl
    · obtain ⟨v, l, ns, e, g, rfl, tv, hd, ok, hl, q⟩ := h
      refine ⟨_, pss_cons (ps_if (pt_val (pe_callB call_isi (by rfl) B.isinstance PyProof.Rows.boot_isinstance (pa_cons (pv 0) (pa_cons (pe_bltn (by rfl) B.int PyProof.Rows.boot_int (rr_ty "int")) pa_nil)))) (pss_one (ps_ret (pe_ix ix_list (pv 1) (pv 0) (fun _ _ => rfl)))) pss_nil)
        (pss_cons (ps_set (i := 3) sc_worth_of.nd rfl (Or.inl rfl) (pe_has ih hr (by rfl) (pa_cons (pe_ix ix_tup (pv 0) pe_int (fun _ _ => rfl)) (pa_cons (pv 1) (pa_cons (pv 2) pa_nil)))))
        (pss_cons (ps_if (pt_cmpR op_eq (pe_ix ix_tup (pv 0) pe_int (fun _ _ => rfl)) pe_str (nomark _)) (pss_one (ps_ret (pe_op op_xor (pv 2) (pv 3)))) pss_nil)
        (pss_cons (ps_set (i := 4) sc_worth_of.nd rfl (Or.inl rfl) (pe_has ih hr (by rfl) (pa_cons (pe_ix ix_tup (pv 0) pe_int (fun _ _ => rfl)) (pa_cons (pv 1) (pa_cons (pv 2) pa_nil)))))
        (pss_cons (ps_if (pt_cmpR op_eq (pe_ix ix_tup (pv 0) pe_int (fun _ _ => rfl)) pe_str (nomark _)) (pss_one (ps_ret (pe_op op_and (pv 3) (pv 4)))) pss_nil)
        (pss_cons (ps_if (pt_cmpR op_eq (pe_ix ix_tup (pv 0) pe_int (fun _ _ => rfl)) pe_str (nomark _)) (pss_one (ps_ret (pe_op op_or (pv 3) (pv 4)))) pss_nil)
        (pss_one (ps_ret (pe_op op_xor (pv 3) (pv 4))))))))), ?_⟩
      cases g with
      | x i =>
        obtain rfl : v = nI i := tv
        have hi : i < ns.length := ok
        have hx : (ns.map V.int)[i]? = some (V.int (ns.getD i 0)) := by rw [List.getElem?_map, List.getD_eq_getElem?_getD, List.getElem?_eq_getElem hi]; rfl
        exact ⟨_, rfl, nI i, .ty "int", _, _, true, rfl, .ty _, rp_ty (.int (i : Int)), kit_ty (kit_int (.int (i : Int))), true, rfl, iteT ⟨_, rfl, _, rfl, l, _, (i : Int), _, rfl, rfl, SqL.of hl, atI_nat hx, q⟩⟩
      | no g =>
        obtain ⟨a, u, rfl, ha, hu⟩ := tv
        have hd' : g.deep + 1 < fu + 1 := hd
        refine ⟨_, rfl, .ref a, .ty "int", _, _, false, rfl, .ty _, .base (.tup ha), kit_ty (kit_int (.tuple [])), false, rfl, iteF ?_⟩
        refine ⟨_, rfl, a, _, 1, u, rfl, rfl, SqT.of ha, rfl, _, rfl, _, rfl, u, l, ns, e, g, rfl, hu, by omega, ok, hl, ?_⟩
        exact ⟨_, rfl, a, _, 0, .str wNot, rfl, rfl, SqT.of ha, rfl, rfl, true, rfl, iteT ⟨_, rfl, _, rfl, e, _, rfl, rfl, q⟩⟩
      | two j g g2 =>
        obtain ⟨a, u, u2, rfl, ha, hu, hu2⟩ := tv
        obtain ⟨hj, ok1, ok2⟩ := ok
        have hd' : max g.deep g2.deep + 1 < fu + 1 := hd
        refine ⟨_, rfl, .ref a, .ty "int", _, _, false, rfl, .ty _, .base (.tup ha), kit_ty (kit_int (.tuple [])), false, rfl, iteF ?_⟩
        refine ⟨_, rfl, a, _, 1, u, rfl, rfl, SqT.of ha, rfl, _, rfl, _, rfl, u, l, ns, e, g, rfl, hu, by omega, ok1, hl, ?_⟩
        have hjn : j ≠ wNot := fun z => by rw [z] at hj; exact absurd hj (by decide +kernel)
        refine ⟨_, rfl, a, _, 0, .str j, rfl, rfl, SqT.of ha, rfl, rfl, false, congrArg V.bl ((word_eq j wNot).trans (decide_eq_false hjn)), iteF ?_⟩
        refine ⟨_, rfl, a, _, 2, u2, rfl, rfl, SqT.of ha, rfl, _, rfl, _, rfl, u2, l, ns, e, g2, rfl, hu2, by omega, ok2, hl, ?_⟩
        refine ⟨_, rfl, a, _, 0, .str j, rfl, rfl, SqT.of ha, rfl, rfl, decide (j = ("and" : Str)), congrArg V.bl (word_eq j _), ?_⟩
        rw [worthI] at q
        by_cases h1 : j = ("and" : Str)
        · rw [if_pos h1] at q
          rw [decide_eq_true h1]
          exact iteT ⟨_, rfl, _, rfl, _, _, rfl, rfl, q⟩
        · rw [if_neg h1] at q
          rw [decide_eq_false h1]
          refine iteF ⟨_, rfl, a, _, 0, .str j, rfl, rfl, SqT.of ha, rfl, rfl, decide (j = ("or" : Str)), congrArg V.bl (word_eq j _), ?_⟩
          by_cases h2 : j = ("or" : Str)
          · rw [if_pos h2] at q
            rw [decide_eq_true h2]
            exact iteT ⟨_, rfl, _, rfl, _, _, rfl, rfl, q⟩
          · rw [if_neg h2] at q
            rw [decide_eq_false h2]
            exact iteF ⟨_, rfl, _, rfl, _, _, rfl, rfl, q⟩
end
end Lt

set_option Elab.async false
set_option linter.all false
set_option maxRecDepth 100000
set_option maxHeartbeats 1000000
/-! the words of a text, without their places; what a formula comes to -/
namespace Lt
open PySem PySem.Spec PyProof.Rows L2
def isRun (c : Nat) : Bool := decide (c ∈ runS.cps.toList)
def flW (cur : List Nat) : List Str := if cur = [] then [] else [⟨cur.toArray⟩]
/-- the words that end within, and the run behind -/
def lexS : List Nat → List Nat → List Str × List Nat
  | cur, [] => ([], cur)
  | cur, c :: cs => if isRun c then lexS (cur ++ [c]) cs else (flW cur ++ (if c = 32 then [] else [⟨#[c]⟩]) ++ (lexS [] cs).1, (lexS [] cs).2)
theorem lexS_app : ∀ (a b cur : List Nat), lexS cur (a ++ b) = ((lexS cur a).1 ++ (lexS (lexS cur a).2 b).1, (lexS (lexS cur a).2 b).2)
  | [], b, cur => rfl
  | c :: a, b, cur => by
    rw [List.cons_append, lexS, lexS]
    by_cases h : isRun c = true
    · rw [if_pos h, if_pos h, lexS_app a b]
    · rw [if_neg h, if_neg h, lexS_app a b]
      simp only [List.append_assoc]
theorem lexS_run : ∀ {w cur : List Nat}, (∀ c ∈ w, isRun c = true) → lexS cur w = ([], cur ++ w)
  | [], cur, _ => by rw [List.append_nil]; rfl
  | c :: w, cur, h => by
    rw [lexS, if_pos (h c List.mem_cons_self), lexS_run fun x hx => h x (List.mem_cons_of_mem _ hx), List.append_assoc]
    rfl
theorem lexS_sps : ∀ n : Nat, lexS [] (List.replicate n 32) = ([], [])
  | 0 => rfl
  | n + 1 => by
    rw [List.replicate_succ, lexS, if_neg (by decide +kernel), lexS_sps n]
    rfl
theorem lexS_sp (cur : List Nat) (n : Nat) : lexS cur (List.replicate (n + 1) 32) = (flW cur, []) := by
  rw [List.replicate_succ, lexS, if_neg (by decide +kernel), lexS_sps n]
  simp
theorem isRun_iff {c : Nat} : isRun c = true ↔ c ∈ runS.cps.toList := by unfold isRun; exact decide_eq_true_iff
/-- the placed words' words -/
theorem lex_words {T : List Nat} : ∀ (rest done : List Nat) (st : List Tok × Nat) (cur : List Nat), T = done ++ rest → st.2 ≤ done.length → done.drop st.2 = cur →
    (flush T (lexFrom T st done.length rest) (done.length + rest.length)).map (·.2) = st.1.map (·.2) ++ ((lexS cur rest).1 ++ flW (lexS cur rest).2)
  | [], done, st, cur, hT, hl, hc => by
    rw [lex_nil, List.length_nil, Nat.add_zero]
    unfold flush
    show _ = _ ++ ([] ++ flW cur)
    rw [List.nil_append]
    unfold flW
    by_cases h : st.2 < done.length
    · rw [if_pos h, if_neg (by rw [← hc]; intro z; have := congrArg List.length z; rw [List.length_drop, List.length_nil] at this; omega), List.map_append]
      congr 1
      show [cut T st.2 done.length] = _
      unfold cut
      rw [hT, List.append_nil, hc, List.take_of_length_le (by rw [← hc, List.length_drop]; exact Nat.le_refl _)]
    · rw [if_neg h, if_pos (by rw [← hc]; exact List.drop_eq_nil_of_le (by omega)), List.append_nil]
  | c :: rest, done, st, cur, hT, hl, hc => by
    rw [lex_cons]
    have hT2 : T = (done ++ [c]) ++ rest := by rw [hT]; simp
    have l2 : (done ++ [c]).length = done.length + 1 := by simp
    have hcut : cut T st.2 done.length = ⟨cur.toArray⟩ := by
      unfold cut
      rw [hT, List.drop_append_of_le_length hl, hc, List.take_append_of_le_length (by rw [← hc, List.length_drop]; exact Nat.le_refl _), List.take_of_length_le (by rw [← hc, List.length_drop]; exact Nat.le_refl _)]
    have hfl : (flush T st done.length).map (·.2) = st.1.map (·.2) ++ flW cur := by
      unfold flush flW
      by_cases h : st.2 < done.length
      · rw [if_pos h, if_neg (by rw [← hc]; intro z; have := congrArg List.length z; rw [List.length_drop, List.length_nil] at this; omega), List.map_append]
        show _ ++ [cut T st.2 done.length] = _
        rw [hcut]
      · rw [if_neg h, if_pos (by rw [← hc]; exact List.drop_eq_nil_of_le (by omega)), List.append_nil]
    rw [lexS]
    by_cases h : c ∈ runS.cps.toList
    · rw [if_pos (isRun_iff.mpr h)]
      unfold lexStep
      rw [if_pos h]
      have := lex_words (T := T) rest (done ++ [c]) st (cur ++ [c]) hT2 (by rw [l2]; omega) (by rw [List.drop_append_of_le_length hl, hc])
      rw [l2] at this
      rw [List.length_cons, ← Nat.add_assoc, Nat.add_right_comm]
      exact this
    · rw [if_neg (fun z => h (isRun_iff.mp z))]
      unfold lexStep
      rw [if_neg h]
      have := lex_words (T := T) rest (done ++ [c]) (if c = 32 then flush T st done.length else flush T st done.length ++ [(done.length, ⟨#[c]⟩)], done.length + 1) [] hT2 (by rw [l2]; exact Nat.le_refl _) (by
        show (done ++ [c]).drop (done.length + 1) = []
        exact List.drop_eq_nil_of_le (by rw [l2]; exact Nat.le_refl _))
      rw [l2] at this
      rw [List.length_cons, ← Nat.add_assoc, Nat.add_right_comm, this]
      by_cases h32 : c = 32
      · simp only [if_pos h32]
        rw [hfl]
        simp only [List.append_assoc, List.nil_append]
      · simp only [if_neg h32]
        rw [List.map_append, hfl]
        simp only [List.append_assoc, List.map_cons, List.map_nil]
theorem lexWords_map (x : Str) : (lexWords x).map (·.2) = (lexS [] x.cps.toList).1 ++ flW (lexS [] x.cps.toList).2 ++ [wVoid] := by
  unfold lexWords lexWords.toks'
  rw [List.map_append]
  have := lex_words (T := x.cps.toList) x.cps.toList [] ([], 0) [] rfl (Nat.le_refl _) rfl
  rw [List.length_nil, Nat.zero_add] at this
  rw [this]
  rfl
/-! ### what a formula comes to -/
def evF : Fm → Nat → Nat
  | .x i, t => t / 2 ^ i % 2
  | .no f, t => 1 - evF f t
  | .two j f g, t => if j = ("and" : Str) then evF f t * evF g t else if j = ("or" : Str) then max (evF f t) (evF g t) else (evF f t + evF g t) % 2
theorem evF_le : ∀ (f : Fm) (t : Nat), evF f t ≤ 1
  | .x i, t => Nat.le_of_lt_succ (Nat.mod_lt _ (by decide))
  | .no f, t => Nat.sub_le ..
  | .two j f g, t => by
    have h1 := evF_le f t
    have h2 := evF_le g t
    unfold evF
    split
    · exact Nat.le_trans (Nat.mul_le_mul h1 h2) (by decide)
    · split
      · omega
      · omega
def tabF (m : Nat) (f : Fm) : List Nat := (List.range (2 ^ m)).map (evF f)
theorem tabF_len (m : Nat) (f : Fm) : (tabF m f).length = 2 ^ m := by unfold tabF; rw [List.length_map, List.length_range]
/-- the number of a table -/
def numB : List Nat → Nat
  | [] => 0
  | b :: bs => b + 2 * numB bs
theorem bitL_num : ∀ bs : List Nat, (bitL bs).sum = ((numB bs : Nat) : Int)
  | [] => rfl
  | b :: bs => by
    have e : bitL (b :: bs) = (b : Int) :: (bitL bs).map (fun z => 2 * z) := by
      unfold bitL
      rw [List.length_cons, List.range_succ_eq_map, List.map_cons, List.map_map, List.map_map]
      congr 1
      · show ((b : Nat) : Int) * 2 ^ 0 = _
        simp
      · refine List.map_congr_left fun i _ => ?_
        show (((b :: bs).getD (i + 1) 0 : Nat) : Int) * 2 ^ (i + 1) = 2 * (((bs.getD i 0 : Nat) : Int) * 2 ^ i)
        rw [List.getD_cons_succ, Int.pow_succ]
        have : ∀ a b : Int, a * (b * 2) = 2 * (a * b) := fun a b => by rw [← Int.mul_assoc, Int.mul_comm]
        exact this _ _
    have s : ∀ l : List Int, (l.map (fun z => 2 * z)).sum = 2 * l.sum := fun l => by
      induction l with
      | nil => rfl
      | cons a l ih => rw [List.map_cons, List.sum_cons, List.sum_cons, ih]; omega
    rw [e, List.sum_cons, s, bitL_num bs]
    show _ = ((b + 2 * numB bs : Nat) : Int)
    omega
theorem numB_bit : ∀ (bs : List Nat) (p : Nat), (∀ b ∈ bs, b ≤ 1) → numB bs / 2 ^ p % 2 = bs.getD p 0
  | [], p, _ => by simp [numB]
  | b :: bs, 0, h => by
    have := h b List.mem_cons_self
    show (b + 2 * numB bs) / 1 % 2 = b
    omega
  | b :: bs, p + 1, h => by
    have hb := h b List.mem_cons_self
    rw [List.getD_cons_succ, ← numB_bit bs p fun x hx => h x (List.mem_cons_of_mem _ hx), Nat.pow_succ, Nat.mul_comm, ← Nat.div_div_eq_div_mul]
    congr 2
    show (b + 2 * numB bs) / 2 = numB bs
    omega
theorem bit_xor (a b p : Nat) : (a ^^^ b) / 2 ^ p % 2 = (a / 2 ^ p % 2 + b / 2 ^ p % 2) % 2 := by
  have e := Nat.testBit_xor a b p
  rw [Nat.testBit_eq_decide_div_mod_eq, Nat.testBit_eq_decide_div_mod_eq, Nat.testBit_eq_decide_div_mod_eq] at e
  have h1 := Nat.mod_lt (a / 2 ^ p) (show 2 > 0 by decide)
  have h2 := Nat.mod_lt (b / 2 ^ p) (show 2 > 0 by decide)
  have h3 := Nat.mod_lt ((a ^^^ b) / 2 ^ p) (show 2 > 0 by decide)
  generalize a / 2 ^ p % 2 = x at *
  generalize b / 2 ^ p % 2 = y at *
  generalize (a ^^^ b) / 2 ^ p % 2 = z at *
  have hx : x = 0 ∨ x = 1 := by omega
  have hy : y = 0 ∨ y = 1 := by omega
  have hz : z = 0 ∨ z = 1 := by omega
  rcases hx with rfl | rfl <;> rcases hy with rfl | rfl <;> rcases hz with rfl | rfl <;> first | rfl | cases e
theorem bit_and (a b p : Nat) : (a &&& b) / 2 ^ p % 2 = (a / 2 ^ p % 2) * (b / 2 ^ p % 2) := by
  have e := Nat.testBit_and a b p
  rw [Nat.testBit_eq_decide_div_mod_eq, Nat.testBit_eq_decide_div_mod_eq, Nat.testBit_eq_decide_div_mod_eq] at e
  have h1 := Nat.mod_lt (a / 2 ^ p) (show 2 > 0 by decide)
  have h2 := Nat.mod_lt (b / 2 ^ p) (show 2 > 0 by decide)
  have h3 := Nat.mod_lt ((a &&& b) / 2 ^ p) (show 2 > 0 by decide)
  generalize a / 2 ^ p % 2 = x at *
  generalize b / 2 ^ p % 2 = y at *
  generalize (a &&& b) / 2 ^ p % 2 = z at *
  have hx : x = 0 ∨ x = 1 := by omega
  have hy : y = 0 ∨ y = 1 := by omega
  have hz : z = 0 ∨ z = 1 := by omega
  rcases hx with rfl | rfl <;> rcases hy with rfl | rfl <;> rcases hz with rfl | rfl <;> first | rfl | cases e
theorem bit_or (a b p : Nat) : (a ||| b) / 2 ^ p % 2 = max (a / 2 ^ p % 2) (b / 2 ^ p % 2) := by
  have e := Nat.testBit_or a b p
  rw [Nat.testBit_eq_decide_div_mod_eq, Nat.testBit_eq_decide_div_mod_eq, Nat.testBit_eq_decide_div_mod_eq] at e
  have h1 := Nat.mod_lt (a / 2 ^ p) (show 2 > 0 by decide)
  have h2 := Nat.mod_lt (b / 2 ^ p) (show 2 > 0 by decide)
  have h3 := Nat.mod_lt ((a ||| b) / 2 ^ p) (show 2 > 0 by decide)
  generalize a / 2 ^ p % 2 = x at *
  generalize b / 2 ^ p % 2 = y at *
  generalize (a ||| b) / 2 ^ p % 2 = z at *
  have hx : x = 0 ∨ x = 1 := by omega
  have hy : y = 0 ∨ y = 1 := by omega
  have hz : z = 0 ∨ z = 1 := by omega
  rcases hx with rfl | rfl <;> rcases hy with rfl | rfl <;> rcases hz with rfl | rfl <;> first | rfl | cases e
end Lt

set_option Elab.async false
set_option linter.all false
set_option maxRecDepth 100000
set_option maxHeartbeats 1000000
/-! table_of -/
namespace Lt
open PySem PySem.Spec PyProof.Rows L2
def leafL (m : Nat) : List Int := (List.range m).map fun own => (bitL (itab m own)).sum
section
variable {P : Program} {w : World} {K : PySem.W.Frag} {mg : Str → Option Value} {base : Heap} {CB : Addr}
theorem sc_table_of : FnScope ["inputs", "text", "tree", "many", "leaves", "bits", "own", "place"] ["inputs", "text"] (defScope s_table_of) := ⟨rfl, rfl, rfl, by decide +kernel, rfl, by decide +kernel, by decide +kernel⟩
end
end Lt

set_option Elab.async false
set_option linter.all false
set_option maxRecDepth 100000
set_option maxHeartbeats 1000000
/-! formula_tree and table_of, exactly -/
namespace Lt
open PySem PySem.Spec PyProof.Rows L2
theorem leafL_get {m i : Nat} (h : i < m) : (leafL m).getD i 0 = ((numB (itab m i) : Nat) : Int) := by
  unfold leafL
  rw [List.getD_eq_getElem?_getD, List.getElem?_map, List.getElem?_range h]
  exact bitL_num _
theorem pow_bit {K p : Nat} (h : p < K) : (2 ^ K - 1) / 2 ^ p % 2 = 1 := by
  have e := Nat.testBit_two_pow_sub_one K p
  rw [Nat.testBit_eq_decide_div_mod_eq, decide_eq_true h] at e
  exact of_decide_eq_true e
/-- a formula's number, bit by bit -/
theorem worth_bits (m : Nat) : ∀ f : Fm, f.Ok m → ∃ W : Nat, worthI (leafL m) (((2 ^ (2 ^ m) - 1 : Nat)) : Int) f = (W : Int) ∧ ∀ p, p < 2 ^ m → W / 2 ^ p % 2 = evF f p
  | .x i, ok => ⟨numB (itab m i), leafL_get ok, fun p hp => by
      rw [numB_bit _ _ fun b hb => itab_le hb]
      unfold itab
      rw [List.getD_eq_getElem?_getD, List.getElem?_map, List.getElem?_range hp]
      rfl⟩
  | .no f, ok => by
    obtain ⟨W, h1, h2⟩ := worth_bits m f ok
    refine ⟨(2 ^ (2 ^ m) - 1) ^^^ W, ?_, fun p hp => ?_⟩
    · rw [worthI, h1, Bits.bitXor_pp (Int.natCast_nonneg _) (Int.natCast_nonneg _), Int.toNat_natCast, Int.toNat_natCast]
    · rw [bit_xor, h2 p hp, pow_bit hp]
      show _ = 1 - evF f p
      have := evF_le f p
      omega
  | .two j f g, ok => by
    obtain ⟨hj, ok1, ok2⟩ := ok
    obtain ⟨V, h1, h2⟩ := worth_bits m f ok1
    obtain ⟨W, h3, h4⟩ := worth_bits m g ok2
    rw [worthI]
    unfold evF
    by_cases e1 : j = ("and" : Str)
    · refine ⟨V &&& W, ?_, fun p hp => ?_⟩
      · rw [if_pos e1, h1, h3, PyProof.Rows.bitAnd_pp (Int.natCast_nonneg _) (Int.natCast_nonneg _), Int.toNat_natCast, Int.toNat_natCast]
      · rw [if_pos e1, bit_and, h2 p hp, h4 p hp]
    · by_cases e2 : j = ("or" : Str)
      · refine ⟨V ||| W, ?_, fun p hp => ?_⟩
        · rw [if_neg e1, if_pos e2, h1, h3, Bits.bitOr_pp (Int.natCast_nonneg _) (Int.natCast_nonneg _), Int.toNat_natCast, Int.toNat_natCast]
        · rw [if_neg e1, if_pos e2, bit_or, h2 p hp, h4 p hp]
      · refine ⟨V ^^^ W, ?_, fun p hp => ?_⟩
        · rw [if_neg e1, if_neg e2, h1, h3, Bits.bitXor_pp (Int.natCast_nonneg _) (Int.natCast_nonneg _), Int.toNat_natCast, Int.toNat_natCast]
        · rw [if_neg e1, if_neg e2, bit_xor, h2 p hp, h4 p hp]
section
variable {P : Program} {w : World} {K : PySem.W.Frag} {mg : Str → Option Value} {base : Heap} {CB CS : Addr}
def spFTE : Sp := fun vs H Q E => ∃ (m : Nat) (x : Str) (f : Fm), vs = [nI m, .str x] ∧ 1 ≤ m ∧ m ≤ 6 ∧ x.length ≤ 1000 ∧ f.Ok m ∧ f.deep ≤ 20 ∧ (lexWords x).map (·.2) = f.spell ++ [wVoid] ∧ ∀ v H', Same H H' → f.At H' v → Q v H'
theorem has_formula_treeE (T : Top K mg "formula_tree" s_formula_tree ["inputs", "text"]) (B : Bi mg) (X1 : ErrI P w K mg base "BadSign" "place" CB) (X2 : Err0 K mg "BadString" CS)
    (hC : Has P w K mg base (L2.CX P w) 3 "check_inputs" ["inputs"] spCheckIn) (hW : Has P w K mg base CX0 1 "placed_words" ["text"] spWordsT)
    (hT : Has P w K mg base (L2.CX P w) 25 "tree_from" ["names", "words", "at", "around"] (spTreeE 21)) : Has P w K mg base (L2.CX P w) 26 "formula_tree" ["inputs", "text"] spFTE := by
  refine T.okX sc_formula_tree (fun vs H Q E h => ?_) (fun f cdv A outer s H vs Q E hr h => ?_)
  · obtain ⟨m, x, f, rfl, _⟩ := h
    rfl
  · obtain ⟨m, x, fm, rfl, h1, h6, hx, ok, hd, hwd, q⟩ := h
    have hr1 : Room 1 _ := hr.mono (by decide)
    have hr2 : Room 2 _ := hr.mono (by decide)
    have hr3 : Room 3 _ := hr.mono (by decide)
    refine ⟨_, pss_cons (ps_expr (pe_hasL hC hr3 (by rfl) (pa_cons (pv 0) pa_nil)))
      (pss_cons (ps_if (pt_not (pt_val (pe_callB call_isi (by rfl) B.isinstance PyProof.Rows.boot_isinstance (pa_cons (pv 1) (pa_cons (pe_bltn (by rfl) B.str PyProof.Rows.boot_str (rr_ty "str")) pa_nil))))) (pss_one (ps_raise rfl (takes_of rfl rfl rfl rfl) (pmk_err0 X2 (by rfl)))) pss_nil)
      (pss_cons (ps_set (i := 2) sc_formula_tree.nd rfl (Or.inl rfl) (pe_has hW hr1 (by rfl) (pa_cons (pv 1) pa_nil)))
      (pss_cons (ps_setLc (i := 3) (own := [("own", 6)]) (g := gName 6) (te := tXn) (by rfl) sc_formula_tree.nd rfl rfl (sw_true rfl rfl rfl (by decide +kernel)) (pi_range1 (by rfl) B.range (pa_cons (pv 0) pa_nil)) (blkOk_by (own := [("own", 6)]) (N := ["inputs", "text", "words", "names", "tree", "at", "own"]) (sc := defScope s_formula_tree) (by decide +kernel))
        (fun _ _ _ _ _ => pg_name (i := 6) sc_formula_tree.nd rfl (Or.inl rfl)) (fun _ _ _ _ _ => pts_nil) (fun _ _ _ _ _ => pe_joined (.cons pe_str (.cons (pe_fmt (pv 6)) .nil))))
      (pss_cons (ps_asg (pe_hasL hT hr (by rfl) (pa_cons (pv 3) (pa_cons (pv 2) (pa_cons pe_int (pa_cons pe_int pa_nil))))) (pg_tup rfl (pgs_cons (pg_name (i := 4) sc_formula_tree.nd rfl (Or.inl rfl)) (pgs_cons (pg_name (i := 5) sc_formula_tree.nd rfl (Or.inl rfl)) pgs_nil))))
      (pss_cons (ps_if (pt_cmpR op_lt (pv 5) (pe_op op_sub (pe_callB call_len_seq (by rfl) B.len PySem.boot_len (pa_cons (pv 2) pa_nil)) pe_int) (nomark _)) (pss_one (ps_raise rfl (takes_of rfl rfl rfl rfl) (pmk_errI X1 hr2 (by rfl) (pa_cons (pe_ix ix_tup (pe_ix ix_list (pv 2) (pv 5) (fun _ _ => rfl)) pe_int (fun _ _ => rfl)) pa_nil)))) pss_nil)
      (pss_one (ps_ret (pv 4)))))))), ?_⟩
    refine ⟨_, rfl, m, rfl, h1, h6, ?_⟩
    refine ⟨_, rfl, .str x, .ty "str", _, _, true, rfl, .ty _, rp_ty (.str x), kit_ty (kit_str (.str x)), true, rfl, iteF ?_⟩
    refine ⟨_, rfl, x, rfl, hx, fun l H1 s1 hl => ?_⟩
    refine ⟨_, rfl, (m : Int), rfl, by omega, by omega, fun D hD => lc_rangeM (n := (m : Int).toNat) RStr (nmL m) (fun _ _ _ _ _ r => r) (by omega) (by unfold nmL; rw [List.length_map, List.length_range, Int.toNat_natCast]) hD (fun x => rfl) (fun i z hi hz H' sm Q' q' => ?_) (fun H2 zs s2 hz pr => ?_)⟩
    · have hi6 : i < 6 := by omega
      have ez : z = xN i := by
        unfold nmL at hz
        rw [List.getElem?_map, List.getElem?_range (by omega)] at hz
        exact (Option.some.inj hz).symm
      obtain ⟨l1, l2⟩ := xN_len i hi6
      refine ⟨("x" : Str), rfl, by rw [sizeLine_eq]; exact l1, _, rfl, .inr ⟨((i : Nat) : Int), congrArg V.int (Int.zero_add _), log_small (by omega), _, rfl, by rw [sizeLine_eq]; exact l2, q' _ H' (Same.refl _) ?_⟩⟩
      rw [ez]
      rfl
    · rw [RStr.all pr] at hz
      have sD : Same H H2 := s1.trans s2
      have hl2 := hl.same s2
      refine ⟨_, rfl, _, rfl, D, l, 0, 0, m, lexWords x, fm, [wVoid], rfl, hz, h6, hl2, ok, by omega, by omega, hwd, fun a v k H3 s3 ha tv hk => ?_⟩
      have hl3 := hl2.same s3
      obtain ⟨xs, hx1, hx2⟩ := hl3
      have hxl := Paired.length hx2
      have hlen := congrArg List.length hwd
      rw [List.length_map, List.length_append, List.length_singleton] at hlen
      refine ⟨a, _, rfl, SqT.of ha, rfl, v, _, rfl, nI k, _, rfl, rfl, ?_⟩
      refine ⟨_, rfl, _, rfl, l, xs, rfl, .inl (SqL.of hx1), (xs.length : Int), 1, rfl, rfl, (k : Int), (xs.length : Int) - 1, rfl, rfl, false, congrArg V.bl (decide_eq_false (by omega)), iteF ⟨_, rfl, q v _ (sD.trans s3) tv⟩⟩
def spTabE : Sp := fun vs H Q E => ∃ (m : Nat) (x : Str) (f : Fm), vs = [nI m, .str x] ∧ 1 ≤ m ∧ m ≤ 6 ∧ x.length ≤ 1000 ∧ f.Ok m ∧ f.deep ≤ 20 ∧ (lexWords x).map (·.2) = f.spell ++ [wVoid] ∧ ∀ v H', Same H H' → TK H' v (tabF m f) → Q v H'
theorem has_table_ofE (T : Top K mg "table_of" s_table_of ["inputs", "text"]) (B : Bi mg) (hF : Has P w K mg base (L2.CX P w) 26 "formula_tree" ["inputs", "text"] spFTE) (hI : Has P w K mg base CX0 1 "input_table" ["inputs", "own"] spITab)
    (hB : Has P w K mg base CX0 1 "bits_of" ["table"] spBits) (hW : Has P w K mg base CX0 23 "worth_of" ["tree", "leaves", "every"] (spWorthE 22)) : Has P w K mg base (L2.CX P w) 27 "table_of" ["inputs", "text"] spTabE := by
  refine T.okX sc_table_of (fun vs H Q E h => ?_) (fun f cdv A outer s H vs Q E hr h => ?_)
  · obtain ⟨m, x, f, rfl, _⟩ := h
    rfl
  · obtain ⟨m, x, fm, rfl, h1, h6, hx, ok, hd, hwd, q⟩ := h
    have hr1 : Room 1 _ := hr.mono (by decide)
    have hr23 : Room 23 _ := hr.mono (by decide)
    have h64 := pow6 h6
    refine ⟨_, pss_cons (ps_set (i := 2) sc_table_of.nd rfl (Or.inl rfl) (pe_hasL hF hr (by rfl) (pa_cons (pv 0) (pa_cons (pv 1) pa_nil))))
      (pss_cons (ps_set (i := 3) sc_table_of.nd rfl (Or.inl rfl) (pe_op op_shl pe_int (pv 0)))
      (pss_cons (ps_setLc (i := 4) (own := [("own", 6)]) (g := gName 6) (te := tCall spBits [] E0 (tCons (tCall spITab [] E0 (tCons (tVar 0) (tCons (tVar 6) tNil))) tNil)) (by rfl) sc_table_of.nd rfl rfl (sw_true rfl rfl rfl (by decide +kernel)) (pi_range1 (by rfl) B.range (pa_cons (pv 0) pa_nil)) (blkOk_by (own := [("own", 6)]) (N := ["inputs", "text", "tree", "many", "leaves", "bits", "own", "place"]) (sc := defScope s_table_of) (by decide +kernel))
        (fun _ _ _ _ _ => pg_name (i := 6) sc_table_of.nd rfl (Or.inl rfl)) (fun _ _ _ _ _ => pts_nil) (fun _ _ _ _ _ => pe_has hB hr1 (by rfl) (pa_cons (pe_has hI hr1 (by rfl) (pa_cons (pv 0) (pa_cons (pv 6) pa_nil))) pa_nil)))
      (pss_cons (ps_set (i := 5) sc_table_of.nd rfl (Or.inr rfl) (pe_has hW hr23 (by rfl) (pa_cons (pv 2) (pa_cons (pv 4) (pa_cons (pe_op op_sub (pe_op op_shl pe_int (pv 3)) pe_int) pa_nil)))))
      (pss_one (ps_ret (pe_tupleOf (by rfl) B.tuple (pe_lc (own := [("place", 7)]) (g := gName 7) (te := tOp (fun x y H Q => ∃ (i : Int) (k : Nat), x = .int i ∧ y = .int (2 ^ k - 1) ∧ Q (.int (i % 2 ^ k)) H) (tOp (fun x y H Q => ∃ (i : Int) (k : Nat), x = .int i ∧ y = .int (k : Int) ∧ Q (.int (i / 2 ^ k)) H) (tVar 5) (tVar 7)) (tC (.int 1))) (by rfl) sc_table_of.nd (pi_range1 (by rfl) B.range (pa_cons (pv 3) pa_nil)) (blkOk_by (own := [("place", 7)]) (N := ["inputs", "text", "tree", "many", "leaves", "bits", "own", "place"]) (sc := defScope s_table_of) (by decide +kernel))
        (fun _ _ _ _ _ => pg_name (i := 7) sc_table_of.nd rfl (Or.inl rfl)) (fun _ _ _ _ _ => pts_nil) (fun _ _ _ _ _ => pe_op op_andM (pe_op op_shrN (pv 5) (pv 7)) pe_int)))))))), ?_⟩
    refine ⟨_, rfl, _, rfl, m, x, fm, rfl, h1, h6, hx, ok, hd, hwd, fun v H1 s1 tv => ?_⟩
    have e1 : (1 : Int) * 2 ^ (m : Int).toNat = ((2 ^ m : Nat) : Int) := by rw [Int.toNat_natCast, Int.one_mul, Int.natCast_pow]; rfl
    obtain ⟨W, hW1, hW2⟩ := worth_bits m fm ok
    have hl1 := tabF_len m fm
    obtain ⟨k, hk⟩ : ∃ k, k = 2 ^ m := ⟨_, rfl⟩
    rw [← hk] at e1 h64 hW1 hW2 hl1
    refine ⟨_, rfl, 1, (m : Int), rfl, rfl, ⟨by omega, by omega, by decide⟩, ?_⟩
    show gName 3 (V.int ((1 : Int) * 2 ^ (m : Int).toNat)) _ _ _
    rw [e1]
    refine ⟨_, rfl, (m : Int), rfl, by omega, by omega, fun D hD => lc_rangeM (n := (m : Int).toNat) RI (leafL m) (fun _ _ _ _ _ r => r) (by omega) (by unfold leafL; rw [List.length_map, List.length_range, Int.toNat_natCast]) hD (fun x => rfl) (fun i n hi hn H' sm Q' q' => ?_) (fun H2 zs s2 hz pr => ?_)⟩
    · have en : n = (bitL (itab m i)).sum := by
        unfold leafL at hn
        rw [List.getElem?_map, List.getElem?_range (by omega)] at hn
        exact (Option.some.inj hn).symm
      refine ⟨_, rfl, _, rfl, m, i, by rw [Int.zero_add]; rfl, h6, fun u H3 s3 tk => ⟨u, itab m i, rfl, tk, by rw [itab_len]; exact pow6 h6, fun b hb => itab_le hb, fun H4 s4 => q' _ H4 (s3.trans s4) (by rw [en]; rfl)⟩⟩
    · rw [RI.all pr] at hz
      have ek : (1 : Int) * 2 ^ (k : Int).toNat - 1 = ((2 ^ k - 1 : Nat) : Int) := by
        have := Nat.one_le_two_pow (n := k)
        rw [Int.toNat_natCast, Int.one_mul, Int.natCast_sub this, Int.natCast_pow]
        rfl
      refine ⟨_, rfl, _, rfl, _, rfl, 1, (k : Int), rfl, rfl, ⟨by omega, by omega, by decide⟩, _, 1, rfl, rfl, v, D, leafL m, _, fm, rfl, tv.same s2, by omega, by unfold leafL; rw [List.length_map, List.length_range]; exact ok, hz, ?_⟩
      rw [ek, hW1]
      refine ⟨_, rfl, (k : Int), rfl, by omega, by omega, fun D2 hD2 => lc_rangeM (n := (k : Int).toNat) RN (tabF m fm) (fun _ _ _ _ _ r => r) (by omega) (by rw [hl1]; omega) hD2 (fun x => rfl) (fun j b hj hb H' sm Q' q' => ?_) (fun H3 zs3 s3 hz3 pr3 => ?_)⟩
      · have hj' : j < k := by omega
        have eb : b = evF fm j := by
          unfold tabF at hb
          rw [List.getElem?_map, List.getElem?_range (by omega)] at hb
          exact (Option.some.inj hb).symm
        refine ⟨_, rfl, _, rfl, (W : Int), j, rfl, by rw [Int.zero_add], _, 1, rfl, rfl, q' _ H' (Same.refl _) ?_⟩
        show V.int _ = nI b
        rw [eb, ← hW2 j hj']
        unfold nI
        rw [Int.natCast_emod, Int.natCast_ediv, Int.natCast_pow]
        rfl
      · exact .inl ⟨D2, zs3, rfl, SqL.of hz3, fun p hp => q _ _ (s1.trans (s2.trans (s3.trans (same_new hp)))) (tn_of upd_same (RN.all pr3))⟩
end
end Lt

set_option Elab.async false
set_option linter.all false
set_option maxRecDepth 100000
set_option maxHeartbeats 1000000
namespace Lt
open PySem PySem.Spec PyProof.Rows L2
section
variable {P : Program} {w : World} {K : PySem.W.Frag} {mg : Str → Option Value} {base : Heap}
/-! ### _law_pick, _law_is -/
def spPick (K : PySem.W.Frag) : Sp := fun vs H Q _ => ∃ (r l sc : Addr) (ns : List Int) (xs : List V), vs = [.ref r, .ref l] ∧ RowAt K H r sc ns ∧ H l = some (.lst xs) ∧ l ≠ r ∧ 1 ≤ xs.length ∧ xs.length ≤ 1000 ∧ ∀ x H', x ∈ xs → StepR r H H' → RowAt K H' r sc ns → Q x H'
theorem sc_law_pick : FnScope ["row", "things"] ["row", "things"] (defScope s_law_pick) := ⟨rfl, rfl, rfl, by decide +kernel, rfl, by decide +kernel, by decide +kernel⟩
theorem has_law_pick (T : Top K mg "_law_pick" s_law_pick ["row", "things"]) (B : Bi mg) (hT : Has P w K mg base CX0 1 "_law_taken" ["row", "many"] (spTaken K)) : Has P w K mg base CX0 2 "_law_pick" ["row", "things"] (spPick K) := by
  refine T.ok sc_law_pick (fun vs H Q E h => ?_) (fun f cdv A outer s H vs Q E hr h => ?_)
  · obtain ⟨r, l, sc, ns, xs, rfl, _⟩ := h
    rfl
  · obtain ⟨r, l, sc, ns, xs, rfl, ra, hl, hne, h1, h2, q⟩ := h
    refine ⟨_, pss_one (ps_ret (pe_ix ix_list (pv 1) (pe_has hT hr (by rfl) (pa_cons (pv 0) (pa_cons (pe_callB call_len_seq (by rfl) B.len PySem.boot_len (pa_cons (pv 1) pa_nil)) pa_nil))) (fun _ _ => rfl))), ?_⟩
    refine ⟨_, rfl, _, rfl, _, rfl, l, xs, rfl, .inl (SqL.of hl), r, sc, ns, xs.length, rfl, ra, h1, h2, fun x H' hx st ra' => ?_⟩
    exact ⟨l, xs, (x : Int), xs[x], rfl, rfl, SqL.of (st l _ hne hl), atI_nat (List.getElem?_eq_getElem hx), q _ H' (List.getElem_mem hx) st ra'⟩
end
end Lt

set_option Elab.async false
set_option linter.all false
set_option maxRecDepth 100000
set_option maxHeartbeats 1000000
/-! the law's formulas: _law_tree, _law_spelled -/
namespace Lt
open PySem PySem.Spec PyProof.Rows L2
/-- the law's name of an input -/
def xL (i : Nat) : Str := ("x" : Str) ++ Str.ofString (toString ((i : Nat) : Int))
theorem Str_len (a b : Str) : (a ++ b).length = a.length + b.length := by
  show (a.cps ++ b.cps).size = _
  rw [Array.size_append]
  rfl
section
variable {P : Program} {w : World} {K : PySem.W.Frag} {mg : Str → Option Value} {base : Heap}
end
end Lt

set_option Elab.async false
set_option linter.all false
set_option maxRecDepth 100000
set_option maxHeartbeats 1000000
/-! _law_first -/
namespace Lt
open PySem PySem.Spec PyProof.Rows L2
section
variable {P : Program} {w : World} {K : PySem.W.Frag} {mg : Str → Option Value} {base : Heap}
end
end Lt

set_option Elab.async false
set_option linter.all false
set_option maxRecDepth 100000
set_option maxHeartbeats 1000000
/-! the law's words -/
namespace Lt
open PySem PySem.Spec PyProof.Rows L2
def sps (n : Nat) : Str := ⟨(List.replicate n 32).toArray⟩
theorem mul_sp : ∀ n : Nat, n ≤ 2 → Txt.mul (" " : Str) (n : Int) = sps n := by decide +kernel
theorem mulOk_sp (n : Nat) (h : n ≤ 2) : MulOk (" " : Str) (n : Int) := by
  have : n = 0 ∨ n = 1 ∨ n = 2 := by omega
  rcases this with rfl | rfl | rfl
  · exact ⟨by decide +kernel, fun h => absurd (by decide) h, fun h => absurd (by decide) h⟩
  · exact ⟨by decide +kernel, fun _ h => absurd h (by decide +kernel), fun _ h => absurd h (by decide +kernel)⟩
  · exact ⟨by decide +kernel, fun _ _ => by decide +kernel, fun _ _ => by decide +kernel⟩
def rSp : R2 := fun x y H Q => ∃ n : Nat, x = .str " " ∧ y = .int (n : Int) ∧ n ≤ 2 ∧ Q (.str (sps n)) H
theorem op_sp {X : Cx} : OpR X (binaryOp .Mult) rSp := by
  intro pins s σ H x y v u Q I rx ry h
  obtain ⟨n, rfl, rfl, hn, q⟩ := h
  obtain ⟨t, rfl⟩ := rx
  obtain ⟨t', rfl⟩ := ry
  refine SB.mul (mulOk_sp n hn) fun t' k => ⟨.str (sps n), H, I.tok _, ⟨t', ?_⟩, q⟩
  rw [mul_sp n hn]
end Lt

set_option Elab.async false
set_option linter.all false
set_option maxRecDepth 100000
set_option maxHeartbeats 2000000
/-! comprehensions whose parts draw from the row -/
namespace Lt
open PySem PySem.Spec PyProof.Rows L2
section
variable {K : PySem.W.Frag} {te : TE} {vs : List Nat} {σ : L2.St} {H1 : Hp} {D r sc : Addr} {ns : List Int} {Qd : Hp → Prop} {β : Type} {j : Nat}
end
end Lt

set_option Elab.async false
set_option linter.all false
set_option maxRecDepth 100000
set_option maxHeartbeats 1000000
/-! k04: the law's trees and texts -/
namespace Lt
open PySem PySem.Spec PyProof.Rows L2
/-- the law's tree -/
def Fm.LAt (H : Hp) : Fm → V → Prop
  | .x i, v => ∃ a, v = .ref a ∧ H a = some (.tup [.str "x", nI i])
  | .no f, v => ∃ a u, v = .ref a ∧ H a = some (.tup [.str wNot, u]) ∧ f.LAt H u
  | .two j f g, v => ∃ a u t, v = .ref a ∧ H a = some (.tup [.str j, u, t]) ∧ f.LAt H u ∧ g.LAt H t
theorem Fm.LAt.tm {H H' : Hp} (e : Tm H H') : ∀ {f : Fm} {v : V}, f.LAt H v → f.LAt H' v
  | .x _, _, ⟨a, h1, h2⟩ => ⟨a, h1, e.1 _ _ h2⟩
  | .no _, _, ⟨a, u, h1, h2, h3⟩ => ⟨a, u, h1, e.1 _ _ h2, Fm.LAt.tm e h3⟩
  | .two _ _ _, _, ⟨a, u, t, h1, h2, h3, h4⟩ => ⟨a, u, t, h1, e.1 _ _ h2, Fm.LAt.tm e h3, Fm.LAt.tm e h4⟩
def spellOf (x : Str) : List Str := (lexS [] x.cps.toList).1 ++ flW (lexS [] x.cps.toList).2
theorem cps_app (a b : Str) : (a ++ b).cps.toList = a.cps.toList ++ b.cps.toList := Array.toList_append
theorem Str_assoc (a b c : Str) : a ++ b ++ c = a ++ (b ++ c) := by
  show (⟨(a.cps ++ b.cps) ++ c.cps⟩ : Str) = ⟨a.cps ++ (b.cps ++ c.cps)⟩
  rw [Array.append_assoc]
theorem sps_cps (n : Nat) : (sps n).cps.toList = List.replicate n 32 := rfl
theorem xN_run : ∀ i, i < 6 → ((xN i).cps.toList.all isRun = true ∧ (xN i).cps.toList ≠ []) := by decide +kernel
theorem lex_gap (n : Nat) (z : List Nat) : lexS [] (List.replicate n 32 ++ z) = lexS [] z := by
  rw [lexS_app, lexS_sps, List.nil_append]
theorem flW_run {w : Str} (h : w.cps.toList ≠ []) : flW w.cps.toList = [w] := by
  unfold flW
  rw [if_neg h]
theorem tx_leaf (g : Nat) {i : Nat} (hi : i < 6) : spellOf (sps g ++ xN i) = [xN i] := by
  unfold spellOf
  obtain ⟨h1, h2⟩ := xN_run i hi
  rw [cps_app, sps_cps, lex_gap, lexS_run fun c hc => List.all_eq_true.mp h1 c hc, List.nil_append, List.nil_append, flW_run h2]
theorem not_cps : ("not " : Str).cps.toList = wNot.cps.toList ++ [32] := by decide +kernel
theorem not_run : wNot.cps.toList.all isRun = true ∧ wNot.cps.toList ≠ [] := by decide +kernel
theorem lex_wsp {w : Str} (h1 : w.cps.toList.all isRun = true) (h2 : w.cps.toList ≠ []) (z : List Nat) : lexS [] (w.cps.toList ++ ([32] ++ z)) = (w :: (lexS [] z).1, (lexS [] z).2) := by
  rw [lexS_app, lexS_run fun c hc => List.all_eq_true.mp h1 c hc, lexS_app, show ([32] : List Nat) = List.replicate (0 + 1) 32 from rfl, lexS_sp, List.nil_append, List.nil_append, flW_run h2]
  rfl
theorem tx_not (g : Nat) (x : Str) : spellOf (sps g ++ ("not " : Str) ++ x) = wNot :: spellOf x := by
  unfold spellOf
  rw [cps_app, cps_app, sps_cps, List.append_assoc, lex_gap, not_cps, List.append_assoc, lex_wsp not_run.1 not_run.2]
  rfl
theorem op_cps : wOp.cps.toList = [40] ∧ wCl.cps.toList = [41] ∧ wOp = ⟨#[40]⟩ ∧ wCl = ⟨#[41]⟩ ∧ isRun 40 = false ∧ isRun 41 = false := by decide +kernel
theorem join_run {j : Str} (h : j ∈ joins) : j.cps.toList.all isRun = true ∧ j.cps.toList ≠ [] := by
  have : ∀ j ∈ joins, j.cps.toList.all isRun = true ∧ j.cps.toList ≠ [] := by decide +kernel
  exact this j h
theorem lexS_op (z : List Nat) : lexS [] ([40] ++ z) = (wOp :: (lexS [] z).1, (lexS [] z).2) := by
  show lexS [] (40 :: z) = _
  rw [lexS, if_neg (by rw [op_cps.2.2.2.2.1]; decide), op_cps.2.2.1]
  rfl
theorem tx_two (g : Nat) {j : Str} (hj : j ∈ joins) (x y : Str) : spellOf (sps g ++ wOp ++ x ++ (" " : Str) ++ j ++ (" " : Str) ++ y ++ sps g ++ wCl) = wOp :: (spellOf x ++ (j :: (spellOf y ++ [wCl]))) := by
  unfold spellOf
  obtain ⟨r1, r2⟩ := join_run hj
  have sp : (" " : Str).cps.toList = [32] := by decide +kernel
  simp only [cps_app, sps_cps, sp, op_cps.1, op_cps.2.1, List.append_assoc]
  rw [lex_gap, lexS_op, lexS_app]
  generalize lexS [] x.cps.toList = A
  obtain ⟨A1, A2⟩ := A
  have h32 : ∀ z, lexS A2 ([32] ++ z) = (flW A2 ++ (lexS [] z).1, (lexS [] z).2) := fun z => by
    rw [lexS_app, show ([32] : List Nat) = List.replicate (0 + 1) 32 from rfl, lexS_sp]
  simp only [h32]
  rw [lex_wsp r1 r2, lexS_app]
  generalize lexS [] y.cps.toList = C
  obtain ⟨C1, C2⟩ := C
  have hcl : ∀ cur, lexS cur [41] = (flW cur ++ [wCl], []) := fun cur => by
    rw [lexS, if_neg (by rw [op_cps.2.2.2.2.2]; decide), op_cps.2.2.2.1]
    show (flW cur ++ (if 41 = 32 then [] else [⟨#[41]⟩]) ++ [], []) = _
    rw [if_neg (by decide), List.append_nil]
  have hgc : lexS C2 (List.replicate g 32 ++ [41]) = (flW C2 ++ [wCl], []) := by
    cases g with
    | zero => exact hcl C2
    | succ g => rw [lexS_app, lexS_sp]; dsimp only; rw [hcl []]; rfl
  simp only [hgc]
  show wOp :: (A1 ++ (flW A2 ++ j :: (C1 ++ (flW C2 ++ [wCl])))) ++ flW [] = _
  simp [flW]
def capT (d : Nat) : Nat := 15 * 2 ^ d - 11
theorem capT_s (d : Nat) : 11 + 2 * capT d ≤ capT (d + 1) ∧ 6 + capT d ≤ capT (d + 1) ∧ 4 ≤ capT d := by
  unfold capT
  have := Nat.one_le_two_pow (n := d)
  rw [Nat.pow_succ]
  omega
section
variable {P : Program} {w : World} {K : PySem.W.Frag} {mg : Str → Option Value} {base : Heap}
def spLT (K : PySem.W.Frag) (fu : Nat) : Sp := fun vs H Q _ => ∃ (r sc : Addr) (ns : List Int) (m d : Nat), vs = [.ref r, nI m, nI d] ∧ RowAt K H r sc ns ∧ 1 ≤ m ∧ m ≤ 6 ∧ d < fu ∧ d ≤ 10 ∧
  ∀ (v : V) (H' : Hp) (f : Fm), f.Ok m → f.deep ≤ d → StepR r H H' → RowAt K H' r sc ns → f.LAt H' v → Q v H'
theorem sc_law_treeE : FnScope ["row", "inputs", "deep", "way"] ["row", "inputs", "deep"] (defScope s_law_tree) := ⟨rfl, rfl, rfl, by decide +kernel, rfl, by decide +kernel, by decide +kernel⟩
theorem has_law_treeE (T : Top K mg "_law_tree" s_law_tree ["row", "inputs", "deep"]) (hT : Has P w K mg base CX0 1 "_law_taken" ["row", "many"] (spTaken K)) : ∀ f, Has P w K mg base CX0 (f + 2) "_law_tree" ["row", "inputs", "deep"] (spLT K f)
  | 0 => T.ok sc_law_treeE (fun vs H Q E h => by obtain ⟨r, sc, ns, m, d, rfl, _⟩ := h; rfl) (fun f cdv A outer s H vs Q E hr h => by
      obtain ⟨r, sc, ns, m, d, rfl, _, _, _, h5, _⟩ := h
      exact absurd h5 (Nat.not_lt_zero _))
  | fu + 1 => by
    have ih := has_law_treeE T hT fu
    refine T.ok sc_law_treeE (fun vs H Q E h => ?_) (fun f cdv A outer s H vs Q E hr h => ?_)
    · obtain ⟨r, sc, ns, m, d, rfl, _⟩ := h
      rfl
    · obtain ⟨r, sc, ns, m, d, rfl, ra, h1, h6, hd, hd10, q⟩ := h
      have hr1 : Room 1 _ := hr.mono (by omega)
      refine ⟨_, C8.pss_cut (ps_set (i := 3) sc_law_treeE.nd rfl (Or.inl rfl) (pe_ifExp (pt_cmpR op_gt (pv 2) pe_int (nomark _)) (pe_has hT hr1 (by rfl) (pa_cons (pv 0) (pa_cons pe_int pa_nil))) pe_int))
        (pss_cons (ps_if (pt_cmpR op_lt (pv 3) pe_int (nomark _)) (pss_one (ps_ret (pe_tup (pa_cons pe_str (pa_cons (pe_has hT hr1 (by rfl) (pa_cons (pv 0) (pa_cons (pv 1) pa_nil))) pa_nil))))) pss_nil)
        (pss_cons (ps_if (pt_cmpR op_eq (pv 3) pe_int (nomark _)) (pss_one (ps_ret (pe_tup (pa_cons pe_str (pa_cons (pe_has ih hr (by rfl) (pa_cons (pv 0) (pa_cons (pv 1) (pa_cons (pe_op op_sub (pv 2) pe_int) pa_nil)))) pa_nil))))) pss_nil)
        (pss_one (ps_ret (pe_tup (pa_cons (pe_ix ix_list (pe_lst (pa_cons pe_str (pa_cons pe_str (pa_cons pe_str pa_nil)))) (pe_op op_sub (pv 3) pe_int) (fun _ _ => rfl)) (pa_cons (pe_has ih hr (by rfl) (pa_cons (pv 0) (pa_cons (pv 1) (pa_cons (pe_op op_sub (pv 2) pe_int) pa_nil)))) (pa_cons (pe_has ih hr (by rfl) (pa_cons (pv 0) (pa_cons (pv 1) (pa_cons (pe_op op_sub (pv 2) pe_int) pa_nil)))) pa_nil)))))))), ?_⟩
      refine ⟨fun σ1 H1 => ∃ y : Nat, σ1 = [some (.ref r), some (nI m), some (nI d), some (nI y)] ∧ y < 6 ∧ (0 < d ∨ y = 0) ∧ StepR r H H1 ∧ RowAt K H1 r sc ns, ?_, ?_⟩
      · refine ⟨_, rfl, (d : Int), 0, rfl, rfl, decide ((0 : Int) < (d : Int)), rfl, ite2 (fun h => ⟨_, rfl, r, sc, ns, 6, rfl, ra, by decide, by decide, fun x H' hx st ra' => ⟨x, rfl, hx, .inl ?_, st, ra'⟩⟩) (fun h => ⟨0, rfl, by decide, .inr rfl, .refl _ _, ra⟩)⟩
        have := of_decide_eq_true h
        omega
      · rintro σ1 H1 ⟨y, rfl, hy, hyd, st, ra1⟩
        refine ⟨_, rfl, (y : Int), 2, rfl, rfl, decide ((y : Int) < 2), rfl, ite2 (fun h => ⟨_, rfl, _, rfl, r, sc, ns, m, rfl, ra1, h1, by omega, fun x H2 hx st2 ra2 => ⟨by show 2 ≤ sizeLine; decide, fun p hp => q _ _ (.x x) hx (Nat.zero_le _) (st.trans (st2.trans (StepR.of (same_new hp)))) (ra2.step (same_new hp)) ⟨p, rfl, upd_same⟩⟩⟩) (fun h => ?_)⟩
        have h2 : ¬ (y : Int) < 2 := fun z => h (decide_eq_true z)
        cases d with
        | zero => omega
        | succ d =>
          have ed : (((d + 1 : Nat) : Int) - 1) = (d : Int) := by omega
          refine ⟨_, rfl, rfl, _, rfl, ite2 (fun h3 => ?_) (fun h3 => ?_)⟩
          · refine ⟨_, rfl, _, rfl, _, rfl, ((d + 1 : Nat) : Int), 1, rfl, rfl, r, sc, ns, m, d, congrArg (fun z : Int => [V.ref r, nI m, V.int z]) ed, ra1, h1, h6, by omega, by omega, fun v H2 f ok dp st2 ra2 lt => ⟨by show 2 ≤ sizeLine; decide, fun p hp => ?_⟩⟩
            exact q _ _ (.no f) ok (Nat.succ_le_succ dp) (st.trans (st2.trans (StepR.of (same_new hp)))) (ra2.step (same_new hp)) ⟨p, v, rfl, upd_same, lt.tm (.of (same_new hp))⟩
          · have h4 : (y : Int) ≠ 2 := fun z => h3 (decide_eq_true (congrArg V.int z))
            obtain ⟨j, hj, hat⟩ : ∃ j, j ∈ joins ∧ atI [V.str "and", V.str "or", V.str "xor"] ((y : Int) - 3) = some (V.str j) := by
              have : y = 3 ∨ y = 4 ∨ y = 5 := by omega
              rcases this with rfl | rfl | rfl
              · exact ⟨"and", by decide +kernel, rfl⟩
              · exact ⟨"or", by decide +kernel, rfl⟩
              · exact ⟨"xor", by decide +kernel, rfl⟩
            refine ⟨by show 3 ≤ sizeLine; decide, fun pl hpl => ⟨_, rfl, (y : Int), 3, rfl, rfl, pl, _, (y : Int) - 3, .str j, rfl, rfl, SqL.of upd_same, hat, ?_⟩⟩
            have s1 := same_new (o := .lst [V.str "and", V.str "or", V.str "xor"]) hpl
            refine ⟨_, rfl, _, rfl, _, rfl, ((d + 1 : Nat) : Int), 1, rfl, rfl, r, sc, ns, m, d, congrArg (fun z : Int => [V.ref r, nI m, V.int z]) ed, ra1.step s1, h1, h6, by omega, by omega, fun v H2 f ok dp st2 ra2 lt => ?_⟩
            refine ⟨_, rfl, _, rfl, _, rfl, ((d + 1 : Nat) : Int), 1, rfl, rfl, r, sc, ns, m, d, congrArg (fun z : Int => [V.ref r, nI m, V.int z]) ed, ra2, h1, h6, by omega, by omega, fun u H3 g okg dg st3 ra3 lu => ⟨by show 3 ≤ sizeLine; decide, fun p hp => ?_⟩⟩
            exact q _ _ (.two j f g) ⟨hj, ok, okg⟩ (Nat.succ_le_succ (Nat.max_le.mpr ⟨dp, dg⟩)) (st.trans ((StepR.of s1).trans (st2.trans (st3.trans (StepR.of (same_new hp)))))) (ra3.step (same_new hp)) ⟨p, v, u, rfl, upd_same, lt.tm ((st3.tm ra2).trans (.of (same_new hp))), lu.tm (.of (same_new hp))⟩
/-! ### _law_text -/
def spLTxt (K : PySem.W.Frag) (fu : Nat) : Sp := fun vs H Q _ => ∃ (r sc : Addr) (ns : List Int) (m d : Nat) (v : V) (f : Fm), vs = [.ref r, v] ∧ RowAt K H r sc ns ∧ m ≤ 6 ∧ f.Ok m ∧ f.deep ≤ d ∧ d < fu ∧ d ≤ 10 ∧ f.LAt H v ∧
  ∀ x H', StepR r H H' → RowAt K H' r sc ns → spellOf x = f.spell → x.length ≤ capT d → Q (.str x) H'
theorem sc_law_text : FnScope ["row", "tree", "gap"] ["row", "tree"] (defScope s_law_text) := ⟨rfl, rfl, rfl, by decide +kernel, rfl, by decide +kernel, by decide +kernel⟩
theorem sps_len (n : Nat) : (sps n).length = n := by
  show (List.replicate n 32).toArray.size = n
  rw [List.size_toArray, List.length_replicate]
theorem wlen1 : ("(" : Str).length = 1 ∧ (")" : Str).length = 1 ∧ (" " : Str).length = 1 ∧ ("not " : Str).length = 4 ∧ ("x" : Str).length = 1 := by decide +kernel
theorem join_len {j : Str} (h : j ∈ joins) : j.length ≤ 3 := by
  have : ∀ j ∈ joins, j.length ≤ 3 := by decide +kernel
  exact this j h
theorem xd_len : ∀ i, i < 6 → (Str.ofString (toString ((i : Nat) : Int))).length = 1 ∧ (("x" : Str) ++ Str.ofString (toString ((i : Nat) : Int))) = xN i := by decide +kernel
theorem has_law_text (T : Top K mg "_law_text" s_law_text ["row", "tree"]) (B : Bi mg) (hT : Has P w K mg base CX0 1 "_law_taken" ["row", "many"] (spTaken K)) : ∀ f, Has P w K mg base CX0 (f + 2) "_law_text" ["row", "tree"] (spLTxt K f)
  | 0 => T.ok sc_law_text (fun vs H Q E h => by obtain ⟨r, sc, ns, m, d, v, f, rfl, _⟩ := h; rfl) (fun f cdv A outer s H vs Q E hr h => by
      obtain ⟨r, sc, ns, m, d, v, f, rfl, _, _, _, _, h5, _⟩ := h
      exact absurd h5 (Nat.not_lt_zero _))
  | fu + 1 => by
    have ih := has_law_text T B hT fu
    refine T.ok sc_law_text (fun vs H Q E h => ?_) (fun f cdv A outer s H vs Q E hr h => ?_)
    · obtain ⟨r, sc, ns, m, d, v, f, rfl, _⟩ := h
      rfl
    · obtain ⟨r, sc, ns, m, d, v, fm, rfl, ra, h6, ok, hdp, hd, hd10, la, q⟩ := h
      have hr1 : Room 1 _ := hr.mono (by omega)
      refine ⟨_, pss_cons (ps_set (i := 2) sc_law_text.nd rfl (Or.inl rfl) (pe_op op_sp pe_str (pe_has hT hr1 (by rfl) (pa_cons (pv 0) (pa_cons pe_int pa_nil)))))
        (pss_cons (ps_if (pt_cmpR op_eq (pe_ix ix_tup (pv 1) pe_int (fun _ _ => rfl)) pe_str (nomark _)) (pss_one (ps_ret (pe_op op_add_str (pe_op op_add_str (pv 2) pe_str) (pe_callTy call_str_int (by rfl) B.str PyProof.Rows.boot_str (pa_cons (pe_ix ix_tup (pv 1) pe_int (fun _ _ => rfl)) pa_nil))))) pss_nil)
        (pss_cons (ps_if (pt_cmpR op_eq (pe_ix ix_tup (pv 1) pe_int (fun _ _ => rfl)) pe_str (nomark _)) (pss_one (ps_ret (pe_op op_add_str (pe_op op_add_str (pv 2) pe_str) (pe_has ih hr (by rfl) (pa_cons (pv 0) (pa_cons (pe_ix ix_tup (pv 1) pe_int (fun _ _ => rfl)) pa_nil)))))) pss_nil)
        (pss_one (ps_ret (pe_op op_add_str (pe_op op_add_str (pe_op op_add_str (pe_op op_add_str (pe_op op_add_str (pe_op op_add_str (pe_op op_add_str (pe_op op_add_str (pv 2) pe_str) (pe_has ih hr (by rfl) (pa_cons (pv 0) (pa_cons (pe_ix ix_tup (pv 1) pe_int (fun _ _ => rfl)) pa_nil)))) pe_str) (pe_ix ix_tup (pv 1) pe_int (fun _ _ => rfl))) pe_str) (pe_has ih hr (by rfl) (pa_cons (pv 0) (pa_cons (pe_ix ix_tup (pv 1) pe_int (fun _ _ => rfl)) pa_nil)))) (pv 2)) pe_str))))), ?_⟩
      refine ⟨_, rfl, r, sc, ns, 3, rfl, ra, by decide, by decide, fun g H1 hg st1 ra1 => ⟨g, rfl, rfl, by omega, ?_⟩⟩
      have la1 := la.tm (st1.tm ra)
      have gl := sps_len g
      obtain ⟨w1, w2, w3, w4, w5⟩ := wlen1
      have c4 := (capT_s d).2.2
      have hcap : capT d ≤ 20000 := by
        unfold capT
        have : 2 ^ d ≤ 2 ^ 10 := Nat.pow_le_pow_right (by decide) hd10
        omega
      cases fm with
      | x i =>
        obtain ⟨a, rfl, ha⟩ := la1
        have hi : i < m := ok
        obtain ⟨x1, x2⟩ := xd_len i (by omega)
        have l2 : (sps g ++ ("x" : Str)).length = g + 1 := by rw [Str_len, gl, w5]
        refine ⟨_, rfl, a, _, 0, .str "x", rfl, rfl, SqT.of ha, rfl, rfl, true, rfl, iteT ⟨_, rfl, _, _, rfl, rfl, by rw [sizeLine_eq, gl, w5]; omega, _, rfl, a, _, 1, nI i, rfl, rfl, SqT.of ha, rfl, (i : Int), rfl, log_small (by omega), _, _, rfl, rfl, by rw [sizeLine_eq, l2, x1]; omega, ?_⟩⟩
        have e : sps g ++ ("x" : Str) ++ Str.ofString (toString ((i : Nat) : Int)) = sps g ++ xN i := by rw [Str_assoc, x2]
        refine q _ _ st1 ra1 ?_ ?_
        · rw [e]; exact tx_leaf g (by omega)
        · rw [Str_len, l2, x1]; omega
      | no f =>
        obtain ⟨a, u, rfl, ha, hu⟩ := la1
        have hd1 : f.deep + 1 ≤ d := hdp
        cases d with
        | zero => omega
        | succ d =>
        obtain ⟨k1, k2, k3⟩ := capT_s d
        have l2 : (sps g ++ ("not " : Str)).length = g + 4 := by rw [Str_len, gl, w4]
        refine ⟨_, rfl, a, _, 0, .str wNot, rfl, rfl, SqT.of ha, rfl, rfl, false, rfl, iteF ⟨_, rfl, a, _, 0, .str wNot, rfl, rfl, SqT.of ha, rfl, rfl, true, rfl, iteT ⟨_, rfl, _, _, rfl, rfl, by rw [sizeLine_eq, gl, w4]; omega, ?_⟩⟩⟩
        refine ⟨_, rfl, _, rfl, a, _, 1, u, rfl, rfl, SqT.of ha, rfl, r, sc, ns, m, d, u, f, rfl, ra1, h6, ok, by omega, by omega, by omega, hu, fun x H2 st2 ra2 ex hx => ⟨_, _, rfl, rfl, by rw [sizeLine_eq, l2]; omega, ?_⟩⟩
        refine q _ _ (st1.trans st2) ra2 ?_ ?_
        · rw [tx_not, ex]; rfl
        · rw [Str_len, l2]; omega
      | two j f f2 =>
        obtain ⟨a, u, u2, rfl, ha, hu, hu2⟩ := la1
        obtain ⟨hj, ok1, ok2⟩ := ok
        have hd1 : max f.deep f2.deep + 1 ≤ d := hdp
        have hjn : j ≠ wNot := fun z => by rw [z] at hj; exact absurd hj (by decide +kernel)
        have hjx : j ≠ ("x" : Str) := fun z => by rw [z] at hj; exact absurd hj (by decide +kernel)
        have jl := join_len hj
        cases d with
        | zero => omega
        | succ d =>
        obtain ⟨k1, k2, k3⟩ := capT_s d
        refine ⟨_, rfl, a, _, 0, .str j, rfl, rfl, SqT.of ha, rfl, rfl, false, congrArg V.bl ((word_eq j _).trans (decide_eq_false hjx)), iteF ⟨_, rfl, a, _, 0, .str j, rfl, rfl, SqT.of ha, rfl, rfl, false, congrArg V.bl ((word_eq j wNot).trans (decide_eq_false hjn)), iteF ?_⟩⟩
        refine ⟨_, rfl, _, _, rfl, rfl, by rw [sizeLine_eq, gl, w1]; omega, ?_⟩
        refine ⟨_, rfl, _, rfl, a, _, 1, u, rfl, rfl, SqT.of ha, rfl, r, sc, ns, m, d, u, f, rfl, ra1, h6, ok1, by omega, by omega, by omega, hu, fun x H2 st2 ra2 ex hx => ⟨_, _, rfl, rfl, ?_, ?_⟩⟩
        · rw [sizeLine_eq, Str_len, gl, w1]; omega
        have tm2 := st2.tm ra1
        refine ⟨_, _, rfl, rfl, by rw [sizeLine_eq, Str_len, Str_len, gl, w1, w3]; omega, ?_⟩
        refine ⟨_, rfl, a, _, 0, .str j, rfl, rfl, SqT.of (tm2.1 _ _ ha), rfl, _, _, rfl, rfl, by rw [sizeLine_eq, Str_len, Str_len, Str_len, gl, w1, w3]; omega, ?_⟩
        refine ⟨_, _, rfl, rfl, by rw [sizeLine_eq, Str_len, Str_len, Str_len, Str_len, gl, w1, w3]; omega, ?_⟩
        refine ⟨_, rfl, _, rfl, a, _, 2, u2, rfl, rfl, SqT.of (tm2.1 _ _ ha), rfl, r, sc, ns, m, d, u2, f2, rfl, ra2, h6, ok2, by omega, by omega, by omega, hu2.tm tm2, fun y H3 st3 ra3 ey hy => ⟨_, _, rfl, rfl, ?_, ?_⟩⟩
        · rw [sizeLine_eq, Str_len, Str_len, Str_len, Str_len, Str_len, gl, w1, w3]; omega
        refine ⟨_, rfl, _, _, rfl, rfl, by rw [sizeLine_eq, Str_len, Str_len, Str_len, Str_len, Str_len, Str_len, gl, w1, w3]; omega, _, _, rfl, rfl, by rw [sizeLine_eq, Str_len, Str_len, Str_len, Str_len, Str_len, Str_len, Str_len, gl, w1, w2, w3]; omega, ?_⟩
        refine q _ _ (st1.trans (st2.trans st3)) ra3 ?_ ?_
        · refine (tx_two g hj x y).trans ?_
          rw [ex, ey]
          rfl
        · rw [Str_len, Str_len, Str_len, Str_len, Str_len, Str_len, Str_len, Str_len, gl, w1, w2, w3]; omega
end
end Lt

set_option Elab.async false
set_option linter.all false
set_option maxRecDepth 100000
set_option maxHeartbeats 1000000
/-! the law's rows of bits, what its trees come to -/
namespace Lt
open PySem PySem.Spec PyProof.Rows L2
def bitsR (n t : Nat) : List Nat := (List.range n).map fun i => t / 2 ^ i % 2
def rowsB (n : Nat) : List (List Nat) := (List.range (2 ^ n)).map (bitsR n)
theorem bitsR_len (n t : Nat) : (bitsR n t).length = n := by unfold bitsR; rw [List.length_map, List.length_range]
theorem bitsR_le {n t b : Nat} (h : b ∈ bitsR n t) : b ≤ 1 := by
  unfold bitsR at h
  obtain ⟨i, _, rfl⟩ := List.mem_map.mp h
  omega
theorem bitsR_get {n t i : Nat} (h : i < n) : (bitsR n t)[i]? = some (t / 2 ^ i % 2) := by
  unfold bitsR
  rw [List.getElem?_map, List.getElem?_range h]
  rfl
theorem rowsB_len (n : Nat) : (rowsB n).length = 2 ^ n := by unfold rowsB; rw [List.length_map, List.length_range]
theorem rowsB_get {n t : Nat} (h : t < 2 ^ n) : (rowsB n)[t]? = some (bitsR n t) := by
  unfold rowsB
  rw [List.getElem?_map, List.getElem?_range h]
  rfl
theorem bitsR_succ (n t : Nat) : bitsR (n + 1) t = bitsR n t ++ [t / 2 ^ n % 2] := by
  unfold bitsR
  rw [List.range_succ, List.map_append]
  rfl
theorem bitsR_high (n t : Nat) : bitsR n (2 ^ n + t) = bitsR n t := by
  unfold bitsR
  refine List.map_congr_left fun i hi => ?_
  have hi := List.mem_range.mp hi
  obtain ⟨d, rfl⟩ : ∃ d, n = i + (d + 1) := ⟨n - i - 1, by omega⟩
  rw [Nat.pow_add, Nat.mul_add_div (Nat.two_pow_pos i), Nat.pow_succ]
  omega
theorem rowsB_succ (n : Nat) : rowsB (n + 1) = (rowsB n).map (· ++ [0]) ++ (rowsB n).map (· ++ [1]) := by
  unfold rowsB
  have e : 2 ^ (n + 1) = 2 ^ n + 2 ^ n := by rw [Nat.pow_succ]; omega
  rw [e, List.range_add, List.map_append, List.map_map, List.map_map, List.map_map]
  congr 1
  · refine List.map_congr_left fun t ht => ?_
    have ht := List.mem_range.mp ht
    show bitsR (n + 1) t = bitsR n t ++ [0]
    rw [bitsR_succ, Nat.div_eq_of_lt ht]
  · refine List.map_congr_left fun t ht => ?_
    have ht := List.mem_range.mp ht
    show bitsR (n + 1) (2 ^ n + t) = bitsR n t ++ [1]
    rw [bitsR_succ, bitsR_high, Nat.add_div_left _ (Nat.two_pow_pos n), Nat.div_eq_of_lt ht]
section
variable {P : Program} {w : World} {K : PySem.W.Frag} {mg : Str → Option Value} {base : Heap}
def LKb (H : Hp) (p : Addr) (ts : List (List Nat)) : Prop := ∃ xs, H p = some (.lst xs) ∧ Paired (TK H) xs ts
theorem TKbs.tm {H H' : Hp} (e : Tm H H') : ∀ {xs : List V} {ts : List (List Nat)}, Paired (TK H) xs ts → Paired (TK H') xs ts
  | _, _, .nil => .nil
  | _, _, .cons r t => .cons (r.tm e) (TKbs.tm e t)
theorem LKb.same {H H' : Hp} {p : Addr} {ts : List (List Nat)} (h : LKb H p ts) (s : Same H H') : LKb H' p ts := let ⟨xs, a, b⟩ := h; ⟨xs, s _ _ a, TKbs.tm (.of s) b⟩
def spLBits : Sp := fun vs H Q _ => ∃ m : Nat, vs = [nI m] ∧ m ≤ 6 ∧ ∀ p H', Same H H' → H p = none → LKb H' p (rowsB m) → Q (.ref p) H'
theorem sc_law_bits : FnScope ["inputs", "found", "turn", "bits"] ["inputs"] (defScope s_law_bits) := ⟨rfl, rfl, rfl, by decide +kernel, rfl, by decide +kernel, by decide +kernel⟩
theorem rows_cap {n : Nat} (h : n ≤ 6) : (rowsB n).length ≤ 64 := by rw [rowsB_len]; exact pow6 h
/-- one side: bits and one more -/
theorem bits_side {j : Nat} {te : TE} {vs : List Nat} {σ : L2.St} {H1 : Hp} {D fl : Addr} {Qd : Hp → Prop} {n b : Nat} {xs : List V} (hx : H1 fl = some (.lst xs)) (px : Paired (TK H1) xs (rowsB n)) (hn : n ≤ 6) (hD : H1 D = none)
    (hw : ∀ x, wipe ((wipe σ vs).set j (some x)) vs = wipe σ vs)
    (hte : ∀ (x : V) (a : Addr) (t : List Nat) (H : Hp) (Q : VK), x = .ref a → H a = some (.tup (nIs t)) → t.length ≤ 10 → (∀ v H', Same H H' → TK H' v (t ++ [b]) → Q v H') → te ((wipe σ vs).set j (some x)) H Q)
    (hd : ∀ H zs, Same H1 H → H D = some (.lst zs) → Paired (TK H) zs ((rowsB n).map (· ++ [b])) → Qd H) :
    ∃ W : Nat → Nat → Hp → Prop, (∃ m, W 0 m (upd H1 D (.lst []))) ∧ ∀ i m H, W i m H →
      ((Itl K fl).stop i H ∧ Qd H) ∨ ((Itl K fl).go i H ∧ ∃ Nx : Hp → Prop, (∀ H', Nx H' → ∃ m', m' < m ∧ W (i + 1) m' H') ∧ ∀ x H', (Itl K fl).yld i H x H' → gName j x (wipe σ vs) H' fun σ2 H2 => wipe σ2 vs = wipe σ vs ∧ tYes σ2 H2 fun b H3 =>
        if b = true then te σ2 H3 fun y H4 => ∃ acc, H4 D = some (.lst acc) ∧ acc.length < sizeLine ∧ Nx (upd H4 D (.lst (acc ++ [y]))) else Nx H3) := by
  have hxl := Paired.length px
  have h64 := rows_cap hn
  refine lc_listM (xs := xs) (fun H v t => TK H v t) ((rowsB n).map (· ++ [b])) (fun H H' v t e r => TK.tm e r) (fun H s => SqL.of (s _ _ hx)) (by omega) (by rw [List.length_map, hxl]) hD hw (fun i x t hi ht H s Q q => ?_) hd
  obtain ⟨t0, h0, a, rfl, ha⟩ := Paired.getL px hi
  rw [List.getElem?_map, h0] at ht
  have ht : t0 ++ [b] = t := Option.some.inj ht
  subst ht
  have hl : t0.length ≤ 10 := by
    obtain ⟨t', _, e⟩ := List.mem_map.mp (List.mem_of_getElem? h0)
    rw [← e, bitsR_len]
    omega
  exact hte _ a t0 H _ rfl (s _ _ ha) hl q
theorem has_law_bits (T : Top K mg "_law_bits" s_law_bits ["inputs"]) (B : Bi mg) : Has P w K mg base CX0 1 "_law_bits" ["inputs"] spLBits := by
  refine T.ok sc_law_bits (fun vs H Q E h => ?_) (fun f cdv A outer s H vs Q E hr h => ?_)
  · obtain ⟨m, rfl, _⟩ := h
    rfl
  · obtain ⟨m, rfl, hm, q⟩ := h
    refine ⟨_, pss_cons (ps_set (i := 1) sc_law_bits.nd rfl (Or.inl rfl) (pe_lst (pa_cons (pe_tup pa_nil) pa_nil)))
      (pss_cons (ps_for PassesOwn.never rfl (pi_range1 (by rfl) B.range (pa_cons (pv 0) pa_nil)) (pg_name (i := 2) sc_law_bits.nd rfl (Or.inl rfl))
        (pss_one (ps_set (i := 1) sc_law_bits.nd rfl (Or.inl rfl) (pe_op op_cat
          (pe_lc (own := [("bits", 3)]) (g := gName 3) (te := tOp (rCatA K) (tVar 3) (tTup (tCons (tC (.int 0)) tNil))) (by rfl) sc_law_bits.nd (pi_list (pv 1)) (blkOk_by (own := [("bits", 3)]) (N := ["inputs", "found", "turn", "bits"]) (sc := defScope s_law_bits) (by decide +kernel))
            (fun _ _ _ _ _ => pg_name (i := 3) sc_law_bits.nd rfl (Or.inl rfl)) (fun _ _ _ _ _ => pts_nil) (fun _ _ _ _ _ => pe_op op_catA (pv 3) (pe_tup (pa_cons pe_int pa_nil))))
          (pe_lc (own := [("bits", 3)]) (g := gName 3) (te := tOp (rCatA K) (tVar 3) (tTup (tCons (tC (.int 1)) tNil))) (by rfl) sc_law_bits.nd (pi_list (pv 1)) (blkOk_by (own := [("bits", 3)]) (N := ["inputs", "found", "turn", "bits"]) (sc := defScope s_law_bits) (by decide +kernel))
            (fun _ _ _ _ _ => pg_name (i := 3) sc_law_bits.nd rfl (Or.inl rfl)) (fun _ _ _ _ _ => pts_nil) (fun _ _ _ _ _ => pe_op op_catA (pv 3) (pe_tup (pa_cons pe_int pa_nil))))))))
      (pss_one (ps_ret (pv 1)))), ?_⟩
    refine ⟨Nat.zero_le _, fun t0 ht0 => ⟨by show 1 ≤ sizeLine; decide, fun l0 hl0 => ?_⟩⟩
    have s1 := same_new (o := .tup []) ht0
    have s2 := same_new (o := .lst [V.ref t0]) hl0
    have s12 := s1.trans s2
    have cat : ∀ (b : Nat) (x : V) (a : Addr) (t : List Nat) (H : Hp) (Q : VK), x = .ref a → H a = some (.tup (nIs t)) → t.length ≤ 10 → (∀ v H', Same H H' → TK H' v (t ++ [b]) → Q v H') → ∀ (p : Addr), H p = none → rCatA K x (.ref p) (upd H p (.tup [V.int (b : Int)])) Q := by
      intro b x a t H Q ex ha hl q p hp
      subst ex
      have s3 := same_new (o := .tup [V.int (b : Int)]) hp
      refine ⟨a, p, nIs t, [V.int (b : Int)], rfl, rfl, SqT.of (s3 _ _ ha), SqT.of upd_same, by rw [sizeLine_eq, nIs_len]; show t.length + 1 ≤ _; omega, fun e => ?_, fun _ e => (by cases e), fun _ _ p2 hp2 => q _ _ (s3.trans (same_new hp2)) ⟨p2, rfl, ?_⟩⟩
      · have : t = [] := by
          cases t with
          | nil => rfl
          | cons => cases e
        subst this
        exact q _ _ s3 ⟨p, rfl, upd_same⟩
      · rw [upd_same]
        unfold nIs
        rw [List.map_append]
        rfl
    refine ⟨_, rfl, (m : Int), rfl, by omega, by omega, for_range (lo := 0) (n := (m : Int).toNat) (fun i σ H' => ∃ l y2 y3, σ = [some (nI m), some (.ref l), y2, y3] ∧ Same H H' ∧ H l = none ∧ LKb H' l (rowsB i))
      ⟨l0, none, none, rfl, s12, s1.free hl0, [V.ref t0], upd_same, .cons ⟨t0, rfl, s2 _ _ upd_same⟩ .nil⟩ ?_ ?_⟩
    · rintro i σ H' hi ⟨l, y2, y3, rfl, sm, hl, xs, hx, px⟩
      have hi6 : i ≤ 6 := by omega
      have px' : Paired (TK H') xs (rowsB i) := px
      refine ⟨_, rfl, l, rfl, ⟨_, SqL.of hx⟩, fun D1 hD1 => bits_side (b := 0) hx px' hi6 hD1 (fun x => rfl) (fun x a t H Q ex ha hl q => ?_) (fun H2 zs s2 hz pz => ?_)⟩
      · subst ex
        exact ⟨_, rfl, by show 1 ≤ sizeLine; decide, fun p hp => cat 0 _ a t H Q rfl ha hl q p hp⟩
      · have hx2 := s2 _ _ hx
        have px2 := TKbs.tm (.of s2) px'
        refine ⟨_, rfl, l, rfl, ⟨_, SqL.of hx2⟩, fun D2 hD2 => bits_side (b := 1) hx2 px2 hi6 hD2 (fun x => rfl) (fun x a t H Q ex ha hl q => ?_) (fun H3 zs3 s3 hz3 pz3 => ?_)⟩
        · subst ex
          exact ⟨_, rfl, by show 1 ≤ sizeLine; decide, fun p hp => cat 1 _ a t H Q rfl ha hl q p hp⟩
        · have hz2 := s3 _ _ hz
          have pz2 := TKbs.tm (.of s3) pz
          have e1 := Paired.length pz2
          have e2 := Paired.length pz3
          rw [List.length_map] at e1 e2
          have h64 := rows_cap hi6
          refine ⟨_, _, _, _, rfl, rfl, hz2, hz3, by rw [sizeLine_eq]; omega, fun p hp => ?_⟩
          have s4 := same_new (o := .lst (zs ++ zs3)) hp
          have sA := (sm.trans (s2.trans s3)).trans s4
          refine ⟨p, _, y3, rfl, sA, (sm.trans (s2.trans s3)).free hp, zs ++ zs3, upd_same, ?_⟩
          rw [rowsB_succ]
          exact Paired.app (TKbs.tm (.of s4) pz2) (TKbs.tm (.of s4) pz3)
    · rintro σ H' ⟨l, y2, y3, rfl, sm, hl, lk⟩
      exact ⟨_, rfl, q l H' sm hl lk⟩
end
end Lt

set_option Elab.async false
set_option linter.all false
set_option maxRecDepth 100000
set_option maxHeartbeats 1000000
/-! what the law's tree comes to on a row of bits -/
namespace Lt
open PySem PySem.Spec PyProof.Rows L2
def evL : Fm → List Nat → Nat
  | .x i, bs => bs.getD i 0
  | .no f, bs => 1 - evL f bs
  | .two j f g, bs => if j = ("and" : Str) then evL f bs * evL g bs else if j = ("or" : Str) then max (evL f bs) (evL g bs) else (evL f bs + evL g bs) % 2
theorem evL_bits {m t : Nat} : ∀ {f : Fm}, f.Ok m → evL f (bitsR m t) = evF f t
  | .x i, h => by
    have h : i < m := h
    show (bitsR m t).getD i 0 = t / 2 ^ i % 2
    rw [List.getD_eq_getElem?_getD, bitsR_get h]
    rfl
  | .no f, h => by
    show 1 - evL f _ = 1 - evF f t
    rw [evL_bits (f := f) h]
  | .two j f g, h => by
    obtain ⟨_, h1, h2⟩ := h
    unfold evL evF
    rw [evL_bits h1, evL_bits h2]
theorem evL_le {bs : List Nat} (hb : ∀ x ∈ bs, x ≤ 1) : ∀ f : Fm, evL f bs ≤ 1
  | .x i => by
    show bs.getD i 0 ≤ 1
    by_cases h : i < bs.length
    · rw [List.getD_eq_getElem?_getD, List.getElem?_eq_getElem h]
      exact hb _ (List.getElem_mem h)
    · rw [List.getD_eq_getElem?_getD, List.getElem?_eq_none (by omega)]
      exact Nat.zero_le _
  | .no f => Nat.sub_le ..
  | .two j f g => by
    have h1 := evL_le hb f
    have h2 := evL_le hb g
    unfold evL
    split
    · exact Nat.le_trans (Nat.mul_le_mul h1 h2) (by decide)
    · split
      · omega
      · omega
section
variable {X : Cx}
theorem op_modN2 : OpR X (binaryOp .Mod) (fun x y H Q => ∃ n m : Nat, x = .int (n : Int) ∧ y = .int (m : Int) ∧ 1 ≤ m ∧ Q (.int ((n % m : Nat) : Int)) H) := by
  intro pins s σ H x y v u Q I rx ry h
  obtain ⟨n, m, rfl, rfl, hm, q⟩ := h
  refine op_modN pins s σ H _ _ v u Q I rx ry ⟨_, _, rfl, rfl, by omega, ?_⟩
  have e : Int.fmod (n : Int) (m : Int) = ((n % m : Nat) : Int) := by rw [Int.fmod_eq_emod_of_nonneg _ (by omega), Int.natCast_emod]
  show Q (.int (Int.fmod (n : Int) (m : Int))) H
  rw [e]
  exact q
end
theorem val3 {j : Str} (hj : j ∈ joins) (u1 u2 u3 : V) : valV (mergeK [] [(.inr "and", u1), (.inr "or", u2), (.inr "xor", u3)]) (.inr j) = some (if j = ("and" : Str) then u1 else if j = ("or" : Str) then u2 else u3) := by
  have a1 : ("and" : Str) ≠ "or" := by decide +kernel
  have a2 : ("and" : Str) ≠ "xor" := by decide +kernel
  have a3 : ("or" : Str) ≠ "xor" := by decide +kernel
  have a4 : ("or" : Str) ≠ "and" := by decide +kernel
  have a5 : ("xor" : Str) ≠ "and" := by decide +kernel
  have a6 : ("xor" : Str) ≠ "or" := by decide +kernel
  have e : mergeK [] [((.inr "and" : Key), u1), (.inr "or", u2), (.inr "xor", u3)] = [(.inr "and", u1), (.inr "or", u2), (.inr "xor", u3)] := by
    simp only [mergeK, List.foldl_cons, List.foldl_nil, putK, List.any_nil, List.any_cons, Bool.false_eq_true, if_false, List.nil_append, Sum.inr.injEq, a1, a2, a3, decide_false, Bool.or_false, List.cons_append, List.singleton_append]
  rw [e]
  unfold valV
  unfold joins at hj
  rcases List.mem_cons.mp hj with rfl | hj
  · simp
  · rcases List.mem_cons.mp hj with rfl | hj
    · simp [a1, a4]
    · rcases List.mem_cons.mp hj with rfl | hj
      · simp [a2, a3, a5, a6]
      · cases hj
section
variable {P : Program} {w : World} {K : PySem.W.Frag} {mg : Str → Option Value} {base : Heap}
def spLW (fu : Nat) : Sp := fun vs H Q _ => ∃ (m : Nat) (b : Addr) (bs : List Nat) (v : V) (f : Fm), vs = [v, .ref b] ∧ bs.length = m ∧ (∀ x ∈ bs, x ≤ 1) ∧ H b = some (.tup (nIs bs)) ∧ f.Ok m ∧ f.deep < fu ∧ f.LAt H v ∧ ∀ H', Same H H' → Q (nI (evL f bs)) H'
theorem sc_law_worth : FnScope ["tree", "bits", "one", "other"] ["tree", "bits"] (defScope s_law_worth) := ⟨rfl, rfl, rfl, by decide +kernel, rfl, by decide +kernel, by decide +kernel⟩
theorem has_law_worth (T : Top K mg "_law_worth" s_law_worth ["tree", "bits"]) (B : Bi mg) (bm : mg "max" = none) : ∀ f, Has P w K mg base CX0 (f + 2) "_law_worth" ["tree", "bits"] (spLW f)
  | 0 => T.ok sc_law_worth (fun vs H Q E h => by obtain ⟨m, b, bs, v, f, rfl, _⟩ := h; rfl) (fun f cdv A outer s H vs Q E hr h => by
      obtain ⟨m, b, bs, v, f, rfl, _, _, _, _, h5, _⟩ := h
      exact absurd h5 (Nat.not_lt_zero _))
  | fu + 1 => by
    have ih := has_law_worth T B bm fu
    refine T.ok sc_law_worth (fun vs H Q E h => ?_) (fun f cdv A outer s H vs Q E hr h => ?_)
    · obtain ⟨m, b, bs, v, f, rfl, _⟩ := h
      rfl
    · obtain ⟨m, b, bs, v, fm, rfl, hm, h1, hb, ok, hdp, la, q⟩ := h
      have hu1 := hr.units
      have hu : (cxOf CX0 P w K mg base ["tree", "bits", "one", "other"] "_law_worth" (defScope s_law_worth) f cdv A outer s H E).nox.A.units + 1 < cLine := by
        show (A.deeper _).units + 1 < cLine
        omega
      refine ⟨_, pss_cons (ps_if (pt_cmpR op_eq (pe_ix ix_tup (pv 0) pe_int (fun _ _ => rfl)) pe_str (nomark _)) (pss_one (ps_ret (pe_ix ix_tup (pv 1) (pe_ix ix_tup (pv 0) pe_int (fun _ _ => rfl)) (fun _ _ => rfl)))) pss_nil)
        (pss_cons (ps_set (i := 2) sc_law_worth.nd rfl (Or.inl rfl) (pe_has ih hr (by rfl) (pa_cons (pe_ix ix_tup (pv 0) pe_int (fun _ _ => rfl)) (pa_cons (pv 1) pa_nil))))
        (pss_cons (ps_if (pt_cmpR op_eq (pe_ix ix_tup (pv 0) pe_int (fun _ _ => rfl)) pe_str (nomark _)) (pss_one (ps_ret (pe_op op_subN pe_int (pv 2)))) pss_nil)
        (pss_cons (ps_set (i := 3) sc_law_worth.nd rfl (Or.inl rfl) (pe_has ih hr (by rfl) (pa_cons (pe_ix ix_tup (pv 0) pe_int (fun _ _ => rfl)) (pa_cons (pv 1) pa_nil))))
        (pss_one (ps_ret (pe_dget hu (pe_disp (pps_cons pe_str (pe_op op_mulN (pv 2) (pv 3)) (pps_cons pe_str (pe_callB (call_max2 (by rfl)) (by rfl) bm (by rfl) (pa_cons (pv 2) (pa_cons (pv 3) pa_nil))) (pps_cons pe_str (pe_op op_modN2 (pe_op op_add (pv 2) (pv 3)) pe_int) pps_nil))) (by rfl) (by rfl) (by intro z; cases z) (by decide)) (pe_ix ix_tup (pv 0) pe_int (fun _ _ => rfl)) (fun _ _ => rfl))))))), ?_⟩
      cases fm with
      | x i =>
        obtain ⟨a, rfl, ha⟩ := la
        have hi : i < m := ok
        have e : (nIs bs)[i]? = some (nI (bs.getD i 0)) := by
          unfold nIs
          rw [List.getElem?_map, List.getElem?_eq_getElem (by omega), List.getD_eq_getElem?_getD, List.getElem?_eq_getElem (by omega)]
          rfl
        exact ⟨_, rfl, a, _, 0, .str "x", rfl, rfl, SqT.of ha, rfl, rfl, true, rfl, iteT ⟨_, rfl, _, rfl, a, _, 1, nI i, rfl, rfl, SqT.of ha, rfl, b, _, i, _, rfl, rfl, SqT.of hb, atI_nat e, q _ (Same.refl _)⟩⟩
      | no f =>
        obtain ⟨a, u, rfl, ha, hu'⟩ := la
        have hd1 : f.deep + 1 < fu + 1 := hdp
        have l1 := evL_le h1 f
        refine ⟨_, rfl, a, _, 0, .str wNot, rfl, rfl, SqT.of ha, rfl, rfl, false, rfl, iteF ⟨_, rfl, a, _, 1, u, rfl, rfl, SqT.of ha, rfl, _, rfl, m, b, bs, u, f, rfl, hm, h1, hb, ok, by omega, hu', fun H1 s1 => ?_⟩⟩
        refine ⟨_, rfl, a, _, 0, .str wNot, rfl, rfl, SqT.of (s1 _ _ ha), rfl, rfl, true, rfl, iteT ⟨_, rfl, 1, evL f bs, rfl, rfl, l1, q _ s1⟩⟩
      | two j f f2 =>
        obtain ⟨a, u, u2, rfl, ha, hu1, hu2⟩ := la
        obtain ⟨hj, ok1, ok2⟩ := ok
        have hd1 : max f.deep f2.deep + 1 < fu + 1 := hdp
        have hjn : j ≠ wNot := fun z => by rw [z] at hj; exact absurd hj (by decide +kernel)
        have hjx : j ≠ ("x" : Str) := fun z => by rw [z] at hj; exact absurd hj (by decide +kernel)
        have l1 := evL_le h1 f
        have l2 := evL_le h1 f2
        refine ⟨_, rfl, a, _, 0, .str j, rfl, rfl, SqT.of ha, rfl, rfl, false, congrArg V.bl ((word_eq j _).trans (decide_eq_false hjx)), iteF ⟨_, rfl, a, _, 1, u, rfl, rfl, SqT.of ha, rfl, _, rfl, m, b, bs, u, f, rfl, hm, h1, hb, ok1, by omega, hu1, fun H1 s1 => ?_⟩⟩
        refine ⟨_, rfl, a, _, 0, .str j, rfl, rfl, SqT.of (s1 _ _ ha), rfl, rfl, false, congrArg V.bl ((word_eq j wNot).trans (decide_eq_false hjn)), iteF ⟨_, rfl, a, _, 2, u2, rfl, rfl, SqT.of (s1 _ _ ha), rfl, _, rfl, m, b, bs, u2, f2, rfl, hm, h1, s1 _ _ hb, ok2, by omega, hu2.tm (.of s1), fun H2 s2 => ?_⟩⟩
        intro p hp
        refine ⟨_, rfl, _, rfl, evL f bs, evL f2 bs, rfl, rfl, by omega, _, rfl, _, rfl, (evL f bs : Int), (evL f2 bs : Int), rfl, ?_⟩
        refine ⟨_, rfl, _, rfl, (evL f bs : Int), (evL f2 bs : Int), rfl, rfl, evL f bs + evL f2 bs, 2, ?_, rfl, by decide, ?_⟩
        · show V.int _ = V.int _
          congr 1
        have sA := s1.trans s2
        have sp := same_new (o := HO.dK []) hp
        refine ⟨upd_same, [(.inr "and", _), (.inr "or", _), (.inr "xor", _)], rfl, by show 3 ≤ 15; decide, _, rfl, a, [.str j, u, u2], 0, .str j, rfl, rfl, SqT.of ?_, rfl, p, _, rfl, (val3 hj _ _ _) ▸ DGet.k upd_same, ?_⟩
        · exact (upd_ne (ne_of_none (sA _ _ ha) hp)).trans (sp _ _ (sA _ _ ha))
        · have e : (if j = ("and" : Str) then nI (evL f bs * evL f2 bs) else if j = ("or" : Str) then V.int (if (evL f2 bs : Int) > (evL f bs : Int) then (evL f2 bs : Int) else (evL f bs : Int)) else nI ((evL f bs + evL f2 bs) % 2)) = nI (evL (.two j f f2) bs) := by
            show _ = nI (if j = ("and" : Str) then evL f bs * evL f2 bs else if j = ("or" : Str) then max (evL f bs) (evL f2 bs) else (evL f bs + evL f2 bs) % 2)
            split
            · rfl
            · split
              · show V.int _ = V.int _
                congr 1
                split <;> omega
              · rfl
          have q' : ∀ H', Same H H' → ∀ v, v = nI (evL (.two j f f2) bs) → Q v H' := fun H' s v ev => ev ▸ q H' s
          refine q' _ (fun b' o' hb' => ?_) _ e
          have hb2 := sA _ _ hb'
          exact (upd_ne (ne_of_none hb2 hp)).trans (sp _ _ hb2)
end
end Lt

set_option Elab.async false
set_option linter.all false
set_option maxRecDepth 100000
set_option maxHeartbeats 1000000
/-! a comprehension with a test, over whatever is walked -/
namespace Lt
open PySem PySem.Spec PyProof.Rows L2
def Cf {β : Type} (H1 : Hp) (D : Addr) (R : Hp → V → β → Prop) (ys : List β) (i : Nat) (H : Hp) : Prop := Same H1 H ∧ ∃ zs, H D = some (.lst zs) ∧ Paired (R H) zs ys ∧ zs.length ≤ i
theorem lc_genF {J : It} {g : TG} {tt : L2.TT} {te : TE} {vs : List Nat} {σ : L2.St} {H1 : Hp} {D : Addr} {Qd : Hp → Prop} {β : Type} {n : Nat} (R : Hp → V → β → Prop) (p : Nat → Bool) (f : Nat → β) (mono : ∀ H H' v b, Tm H H' → R H v b → R H' v b) (hz : n ≤ 100000) (hD : H1 D = none)
    (hgo : ∀ i H, i < n → Same H1 H → J.go i H) (hst : ∀ H, Same H1 H → J.stop n H)
    (hs : ∀ i H x H', i < n → Same H1 H → J.yld i H x H' → Same H H' ∧ ∃ σ2, (∀ Kk : L2.St → Hp → Prop, Kk σ2 H' → g x (wipe σ vs) H' Kk) ∧ wipe σ2 vs = wipe σ vs ∧ (∀ Q, (∀ H3, Same H' H3 → Q (p i) H3) → tt σ2 H' Q) ∧
      (p i = true → ∀ H3, Same H' H3 → ∀ Q : VK, (∀ v H4, Same H3 H4 → R H4 v (f i) → Q v H4) → te σ2 H3 Q))
    (hd : ∀ H zs, Same H1 H → H D = some (.lst zs) → Paired (R H) zs (((List.range n).filter p).map f) → Qd H) :
    ∃ W : Nat → Nat → Hp → Prop, (∃ m, W 0 m (upd H1 D (.lst []))) ∧ ∀ i m H, W i m H →
      (J.stop i H ∧ Qd H) ∨ (J.go i H ∧ ∃ Nx : Hp → Prop, (∀ H', Nx H' → ∃ m', m' < m ∧ W (i + 1) m' H') ∧ ∀ x H', J.yld i H x H' → g x (wipe σ vs) H' fun σ2 H2 => wipe σ2 vs = wipe σ vs ∧ tt σ2 H2 fun b H3 =>
        if b = true then te σ2 H3 fun y H4 => ∃ acc, H4 D = some (.lst acc) ∧ acc.length < sizeLine ∧ Nx (upd H4 D (.lst (acc ++ [y]))) else Nx H3) := by
  refine ⟨fun i m H => m = n - i ∧ i ≤ n ∧ Cf H1 D R (((List.range i).filter p).map f) i H, ⟨n, by simp, Nat.zero_le _, same_new hD, [], upd_same, .nil, Nat.le_refl _⟩, ?_⟩
  rintro i m H ⟨rfl, hi, c⟩
  obtain ⟨sm, zs, h1, pr, hl⟩ := c
  by_cases hlt : i < n
  · refine .inr ⟨hgo i H hlt sm, Cf H1 D R (((List.range (i + 1)).filter p).map f) (i + 1), fun H' p' => ⟨n - (i + 1), by omega, rfl, hlt, p'⟩, fun x H' y => ?_⟩
    obtain ⟨s', σ2, hg, hw, ht, he⟩ := hs i H x H' hlt sm y
    refine hg _ ⟨hw, ht _ fun H3 s3 => ?_⟩
    have s13 := s'.trans s3
    cases hp : p i with
    | false =>
      rw [if_neg (by decide)]
      refine ⟨sm.trans s13, zs, s13 _ _ h1, ?_, by omega⟩
      rw [List.range_succ, List.filter_append]
      show Paired (R H3) zs ((List.filter p (List.range i) ++ List.filter p [i]).map f)
      rw [List.filter_cons_of_neg (by rw [hp]; decide), List.filter_nil, List.append_nil]
      exact paired_mono (fun a b r => mono _ _ _ _ (Tm.of s13) r) pr
    | true =>
      rw [if_pos rfl]
      refine he hp H3 s3 _ fun v H4 s4 r => ?_
      have s14 := s13.trans s4
      have h4 := s14 _ _ h1
      have t4 : Tm H4 (upd H4 D (.lst (zs ++ [v]))) := Tm.lst h4
      refine ⟨zs, h4, Nat.lt_of_le_of_lt hl (Nat.lt_of_lt_of_le (Nat.lt_of_lt_of_le hlt hz) (by decide)), same_mut (sm.trans s14) hD, zs ++ [v], upd_same, ?_, by rw [List.length_append]; show zs.length + 1 ≤ i + 1; omega⟩
      rw [List.range_succ, List.filter_append]
      show Paired _ _ ((List.filter p (List.range i) ++ List.filter p [i]).map f)
      rw [List.filter_cons_of_pos hp, List.filter_nil, List.map_append]
      exact Paired.app (paired_mono (fun a b q => mono _ _ _ _ ((Tm.of s14).trans t4) q) pr) (Paired.one (mono _ _ _ _ t4 r))
  · have e : i = n := by omega
    subst e
    exact .inl ⟨hst H sm, hd H zs sm h1 pr⟩
end Lt

set_option Elab.async false
set_option linter.all false
set_option maxRecDepth 100000
set_option maxHeartbeats 1000000
/-! tasks.py: what is checked, the inputs and the parts of a table -/
namespace Lt
open PySem PySem.Spec PyProof.Rows L2
def outD (d : PyData) : Prop := isNum d = false ∨ ∃ i, d = .int i ∧ ¬ ((1 : Int) ≤ i ∧ i ≤ 6)
section
variable {P : Program} {w : World} {K : PySem.W.Frag} {mg : Str → Option Value} {base : Heap} {CN CT : Addr}
def spCheckI (CN : Addr) : Sp := fun vs H Q E => ∃ (v : V) (d : PyData), vs = [v] ∧ Rp H v d ∧ ((∃ m : Nat, d = .int m ∧ 1 ≤ m ∧ m ≤ 6 ∧ Q .non H) ∨ (outD d ∧ Bad0 CN H E))
theorem has_check_inputs2 (T : Top K mg "check_inputs" s_check_inputs ["inputs"]) (G : ∃ u, mg "MOST_INPUTS" = some u ∧ RelV (.int 6) u) (X0 : Err0 K mg "BadNumber" CN) (hN : Has P w K mg base CX0 1 "is_number" ["value"] spNum) : Has P w K mg base (L2.CX P w) 3 "check_inputs" ["inputs"] (spCheckI CN) := by
  refine T.okX sc_check_inputs (fun vs H Q E h => ?_) (fun f cdv A outer s H vs Q E hr h => ?_)
  · obtain ⟨v, d, rfl, _⟩ := h
    rfl
  · obtain ⟨v, d, rfl, hd, cs⟩ := h
    have hr1 : Room 1 _ := hr.mono (by decide)
    refine ⟨_, pss_one (ps_if (PW.pt (pw_or (pt_not (pt_val (pe_has hN hr1 (by rfl) (pa_cons (pv 0) pa_nil)))) (pw_or1 (pt_not (pt_chain op_le op_le pe_int (pv 0) (pe_gc2 (by rfl) G)))))) (pss_one (ps_raise rfl (takes_of rfl rfl rfl rfl) (pmk_err0 X0 (by rfl)))) pss_nil), ?_⟩
    rcases cs with ⟨m, rfl, h1, h6, q⟩ | ⟨out, bad⟩
    · cases hd
      refine ⟨_, rfl, nI m, .int m, rfl, .int _, true, rfl, iteF ⟨_, rfl, 1, (m : Int), rfl, rfl, true, congrArg V.bl (decide_eq_true (show (1 : Int) ≤ (m : Int) by omega)), iteT ⟨(m : Int), 6, rfl, rfl, true, congrArg V.bl (decide_eq_true (show (m : Int) ≤ 6 by omega)), iteF q⟩⟩⟩
    · have go : E (.ref CN) none H := bad H (Same.refl _)
      rcases out with hn | ⟨i, rfl, hi⟩
      · exact ⟨_, rfl, v, d, rfl, hd, isNum d, rfl, by rw [hn]; exact iteT (iteT go)⟩
      · cases hd
        refine ⟨_, rfl, .int i, .int i, rfl, .int _, true, rfl, iteF ⟨_, rfl, 1, i, rfl, rfl, decide ((1 : Int) ≤ i), rfl, ?_⟩⟩
        by_cases h1 : (1 : Int) ≤ i
        · rw [decide_eq_true h1]
          exact iteT ⟨i, 6, rfl, rfl, false, congrArg V.bl (decide_eq_false fun z => hi ⟨h1, z⟩), iteT go⟩
        · rw [decide_eq_false h1]
          exact iteF ⟨false, rfl, iteT go⟩
end
end Lt

set_option Elab.async false
set_option linter.all false
set_option maxRecDepth 100000
set_option maxHeartbeats 1000000
/-! rows.py: check_row, yes_where -/
namespace Lt
open PySem PySem.Spec PyProof.Rows L2
/-- the table that is yes where a turn is -/
def yesT (ts : List (List Nat)) (t : List Nat) : List Nat := ts.map fun x => if x = t then 1 else 0
section
variable {P : Program} {w : World} {K : PySem.W.Frag} {mg : Str → Option Value} {base : Heap} {CR : Addr}
def spCheckRow (CR : Addr) : Sp := fun vs H Q E => ∃ (m : Addr) (L : List (List Nat × List Nat)) (k : Nat) (v : V) (ds : List PyData), vs = [.ref m, nI k, v] ∧ DW H m L ∧ Rp H v (.tuple ds) ∧ ds.length ≤ 6000 ∧ (∀ e ∈ ds, Sml3 e) ∧
  (((∀ e ∈ ds, stepD L k e = true) ∧ ∀ H', Same H H' → Q .non H') ∨
   ∃ pre e post, ds = pre ++ e :: post ∧ (∀ x ∈ pre, stepD L k x = true) ∧ stepD L k e = false ∧ BadF CR "place" (nI pre.length) H E)
theorem sc_check_row : FnScope ["made", "inputs", "row", "place", "step"] ["made", "inputs", "row"] (defScope s_check_row) := ⟨rfl, rfl, rfl, by decide +kernel, rfl, by decide +kernel, by decide +kernel⟩
theorem has_check_row (T : Top K mg "check_row" s_check_row ["made", "inputs", "row"]) (B : Bi mg) (G : ∃ u, mg "MOST_STEPS" = some u ∧ RelV (.int 6000) u) (X1 : ErrI P w K mg base "BadRow" "place" CR)
    (hS : Has P w K mg base CX0 4 "is_step" ["made", "inputs", "value"] spIsStep) : Has P w K mg base (L2.CX P w) 5 "check_row" ["made", "inputs", "row"] (spCheckRow CR) := by
  refine T.okX sc_check_row (fun vs H Q E h => ?_) (fun f cdv A outer s H vs Q E hr h => ?_)
  · obtain ⟨m, L, k, v, ds, rfl, _⟩ := h
    rfl
  · obtain ⟨m, L, k, v, ds, rfl, hw, hd, hl, hs, cs⟩ := h
    have hr2 : Room 2 _ := hr.mono (by decide)
    refine ⟨_, pss_cons (ps_if (PW.pt (pw_or (pt_not (pt_val (pe_callB call_isi (by rfl) B.isinstance PyProof.Rows.boot_isinstance (pa_cons (pv 2) (pa_cons (pe_bltn (by rfl) B.tuple PyProof.Rows.boot_tuple (rr_ty "tuple")) pa_nil)))))
        (pw_or1 (pt_cmpR op_gt (pe_callB call_len_seq (by rfl) B.len PySem.boot_len (pa_cons (pv 2) pa_nil)) (pe_gc2 (by rfl) G) (by rfl))))) (pss_one (ps_raise rfl (takes_of rfl rfl rfl rfl) (pmk_errI X1 hr2 (by rfl) (pa_cons pe_non pa_nil)))) pss_nil)
      (pss_one (ps_for (passes_of rfl) rfl (pi_enumT (by rfl) B.enumerate (pa_cons (pv 2) pa_nil)) (pg_tup rfl (pgs_cons (pg_name (i := 3) sc_check_row.nd rfl (Or.inl rfl)) (pgs_cons (pg_name (i := 4) sc_check_row.nd rfl (Or.inl rfl)) pgs_nil)))
        (pss_one (ps_if (pt_not (pt_val (pe_has hS hr (by rfl) (pa_cons (pv 0) (pa_cons (pv 1) (pa_cons (pv 4) pa_nil)))))) (pss_one (ps_raise rfl (takes_of rfl rfl rfl rfl) (pmk_errI X1 hr2 (by rfl) (pa_cons (pv 3) pa_nil)))) pss_nil)))), ?_⟩
    refine ⟨_, rfl, v, .ty "tuple", _, _, true, rfl, .ty _, rp_ty hd, kit_ty (kit_tup (.tuple ds)), true, rfl, iteF ?_⟩
    cases hd with
    | @tup a xs ds ha hx =>
      have hxl := hx.len
      refine ⟨_, rfl, a, xs, rfl, .inr ha.sq, (xs.length : Int), 6000, rfl, rfl, false, congrArg V.bl (decide_eq_false (by omega)), iteF ?_⟩
      refine ⟨_, rfl, a, xs, rfl, ha.sq, for_enumT (K := K) (xs := xs) (fun i σ H' => ∃ y3 y4, σ = [some (.ref m), some (nI k), some (.ref a), y3, y4] ∧ Same H H' ∧ ∀ j, j < i → ∀ e, ds[j]? = some e → stepD L k e = true)
        ⟨none, none, rfl, Same.refl _, fun j hj => absurd hj (Nat.not_lt_zero j)⟩ (fun i σ H' _ ⟨_, _, _, s, _⟩ => (ha.sm s).sq) ?_ ?_⟩
      · rintro i x σ H' T hi ⟨y3, y4, rfl, s1, pre⟩ hT
        have sT := same_new (o := .tup [nI i, x]) hT
        have s12 := s1.trans sT
        obtain ⟨e, he, hre⟩ := hx.get hi
        refine ⟨T, _, rfl, SqT.of upd_same, rfl, nI i, _, rfl, x, _, rfl, rfl, ?_⟩
        refine ⟨_, rfl, _, rfl, _, rfl, m, L, k, x, e, rfl, hw.same s12, Rp.same s12 _ _ hre, hs e (List.mem_of_getElem? he), fun H2 s2 => ⟨stepD L k e, rfl, ?_⟩⟩
        have s02 := s12.trans s2
        cases hst : stepD L k e with
        | true =>
          refine iteF ⟨_, _, rfl, s02, fun j hj e' he' => ?_⟩
          by_cases hji : j = i
          · subst hji
            rw [he] at he'
            cases he'
            exact hst
          · exact pre j (by omega) e' he'
        | false =>
          refine iteT ⟨_, rfl, ?_⟩
          rcases cs with ⟨good, _⟩ | ⟨pr, e', post, rfl, hpre, hbad, bad⟩
          · have := good e (List.mem_of_getElem? he)
            rw [hst] at this
            cases this
          · have hip : i = pr.length := by
              by_cases h1 : i < pr.length
              · rw [List.getElem?_append_left h1] at he
                have := hpre e (List.mem_of_getElem? he)
                rw [hst] at this
                cases this
              · by_cases h2 : pr.length < i
                · have := pre pr.length h2 e' (by rw [List.getElem?_append_right (Nat.le_refl _), Nat.sub_self]; rfl)
                  rw [hbad] at this
                  cases this
                · omega
            subst hip
            exact mk_read X1.oex X1.no (bad.same s02)
      · rintro σ H' ⟨y3, y4, rfl, s1, all⟩
        rcases cs with ⟨_, q⟩ | ⟨pr, e', post, rfl, hpre, hbad, bad⟩
        · exact q H' s1
        · have := all pr.length (by rw [hxl, List.length_append]; show _ < _ + (_ + 1); omega) e' (by rw [List.getElem?_append_right (Nat.le_refl _), Nat.sub_self]; rfl)
          rw [hbad] at this
          cases this
def spYes : Sp := fun vs H Q _ => ∃ (v u : V) (ts : List (List Nat)) (t : List Nat), vs = [v, u] ∧ TT H v ts ∧ TN H u t ∧ ts.length ≤ 1000 ∧ ∀ r H', Same H H' → TK H' r (yesT ts t) → Q r H'
theorem sc_yes_where : FnScope ["reached", "turn", "one"] ["reached", "turn"] (defScope s_yes_where) := ⟨rfl, rfl, rfl, by decide +kernel, rfl, by decide +kernel, by decide +kernel⟩
theorem has_yes_where (T : Top K mg "yes_where" s_yes_where ["reached", "turn"]) (B : Bi mg) : Has P w K mg base CX0 1 "yes_where" ["reached", "turn"] spYes := by
  refine T.ok sc_yes_where (fun vs H Q E h => ?_) (fun f cdv A outer s H vs Q E hr h => ?_)
  · obtain ⟨v, u, ts, t, rfl, _⟩ := h
    rfl
  · obtain ⟨v, u, ts, t, rfl, hv, hu', hlt, q⟩ := h
    have hu := hr.units
    have hu64 : (cxOf CX0 P w K mg base ["reached", "turn", "one"] "yes_where" (defScope s_yes_where) f cdv A outer s H E).nox.A.units + 64 < cLine := hu
    refine ⟨_, pss_one (ps_ret (pe_tupleOf (by rfl) B.tuple (pe_lc (own := [("one", 2)]) (g := gName 2) (te := tIf (tTest (tOp (rEqD K) (tVar 2) (tVar 1))) (tC (.int 1)) (tC (.int 0))) (by rfl) sc_yes_where.nd (pi_tup (pv 0)) (blkOk_by (own := [("one", 2)]) (N := ["reached", "turn", "one"]) (sc := defScope s_yes_where) (by decide +kernel))
      (fun _ _ _ _ _ => pg_name (i := 2) sc_yes_where.nd rfl (Or.inl rfl)) (fun _ _ _ _ _ => pts_nil) (fun _ _ _ _ _ => pe_ifExp (pt_cmpR (by refine op_eqD ?_; exact hu64) (pv 2) (pv 1) (by rfl)) pe_int pe_int)))), ?_⟩
    obtain ⟨a, xs, rfl, ha, hx⟩ := hv
    have hxl := Paired.length hx
    refine ⟨_, rfl, a, rfl, ⟨_, SqT.of ha⟩, fun D hD => lc_tupM (xs := xs) (fun H' => RN H') (yesT ts t) (fun _ _ _ _ _ r => r) (SqT.of ha) (fun H' sm => SqT.of (sm _ _ ha)) (by omega) (by unfold yesT; rw [List.length_map, hxl]) hD (fun x => rfl) (fun i x b hi hb H' sm Q' q' => ?_) (fun H' zs sm hz pr => ?_)⟩
    · obtain ⟨y, hy, ry⟩ := Paired.getL hx hi
      have eb : b = if y = t then 1 else 0 := by
        unfold yesT at hb
        rw [List.getElem?_map, hy] at hb
        exact (Option.some.inj hb).symm
      subst eb
      have r1 := ry.tm (.of sm)
      have r2 := hu'.tm (.of sm)
      refine ⟨_, rfl, _, rfl, dT y, dT t, r1.dp, r2.dp, sh_T _, sh_T _, decide (y = t), by rw [eqv_dT], ?_⟩
      by_cases e : y = t
      · rw [decide_eq_true e]
        rw [if_pos e] at q'
        exact iteT (q' _ _ (Same.refl _) rfl)
      · rw [decide_eq_false e]
        rw [if_neg e] at q'
        exact iteF (q' _ _ (Same.refl _) rfl)
    · exact .inl ⟨D, zs, rfl, SqL.of hz, fun p hp => q _ _ (sm.trans (same_new hp)) (tn_of upd_same (RN.all pr))⟩
end
end Lt

set_option Elab.async false
set_option linter.all false
set_option maxRecDepth 100000
set_option maxHeartbeats 4000000
/-! a dict by a comprehension, its keys tuples -/
namespace L2
open PySem PySem.Spec PyProof.Rows
section
variable {X : Cx} {pins : List (Addr × Obj)} {σ : St} {H : Hp} {s : Shared}
theorem put_tup {E : Value → Shared → Prop} {D b : Addr} {m : List (List Key × V)} {k : List Key} {v : V} {r : Value} {Q : Unit → Shared → Prop} (room : X.A.units + 1 < cLine) (I : Inv X pins σ H s) (hD : H D = some (.dT m)) (short : m.length < sizeLine) (hb : H b = some (.tup (k.map kV))) (rv : RelV v r)
    (q : ∀ s1, Inv X pins σ (upd H D (.dT (putK m k v))) s1 → Q () s1) : wpAny (model X.prog X.w) X.A (dictSet D (.ref b) r) Q E s := by
  obtain ⟨z, own, xs, rel, dd⟩ := dt_of I.hok hD
  have lx : xs.length = m.length := (Paired.length rel).symm
  have lp := length_putK m k v
  refine wpAny_dictSet_heap (hsz := by omega) (show X.A.units < cLine by omega) (key_of I.hok hb) dd fun h1 ⟨ob, es, ep, o1, o2, o3, o4, _, o5⟩ same => q _ ?_
  refine d_write I (by rw [hD]; exact True.intro) same ⟨ob, o1⟩ ⟨by omega, own, _, (rel.put k hb rv).keeps fun c ys e => ?_, ob, es, ep, o1, o2, o3, o4, o5⟩
  exact (upd_ne (ne_of e hD fun z => nomatch z)).trans e
end
section
variable {X : Cx}
abbrev voidDict : Obj := { cls := .type "dict", data := .dict #[] }
abbrev AtBlk (Pr : Shared → Hp → Addr → List (Str × Addr) → List Addr → Prop) : Prop := ∀ s H C cl fp, Pr s H C cl fp
/-- {k: v for target in iter if ..}, each k a tuple: D the new dict -/
def tDcT (wi : TI) (g : TG) (tt : TT) (tk tv : TE) (vs : List Nat) : TE := fun σ H Q => wi σ H fun J H1 => ∀ D, H1 D = none → ∃ W : Nat → Nat → Hp → Prop, (∃ m, W 0 m (upd H1 D (.dT []))) ∧ ∀ i m H2, W i m H2 →
  (J.stop i H2 ∧ Q (.ref D) H2) ∨ (J.go i H2 ∧ ∃ Nx : Hp → Prop, (∀ H3, Nx H3 → ∃ m1, m1 < m ∧ W (i + 1) m1 H3) ∧ ∀ x H3, J.yld i H2 x H3 → g x (wipe σ vs) H3 fun σ4 H4 => wipe σ4 vs = wipe σ vs ∧ tt σ4 H4 fun c H5 =>
    if c = true then tk σ4 H5 fun y H6 => tv σ4 H6 fun z H7 => ∃ kvs k b, y = .ref b ∧ H7 b = some (.tup (k.map kV)) ∧ H7 D = some (.dT kvs) ∧ kvs.length < sizeLine ∧ Nx (upd H7 D (.dT (putK kvs k z))) else Nx H5)
theorem dcT_core {pins : List (Addr × Obj)} {s : Shared} {σ : St} {H : Hp} {Q : VK} {ke ve tg it : Expr} {ifs : List Expr} {sc : Scope} {own : List (Str × Nat)} {p1 p2 : Pos} {wi : TI} {g : TG} {tt : TT} {tk tv : TE} {use : Option (Value → Sem Unit)} {R : Value → Shared → Prop}
    (room : X.A.units + 1 < cLine) (hc : X.calm = true) (hN : X.N.Nodup) (I : Inv X pins σ H s) (walk : PI X tg it wi) (ok : BlkOk X.N X.env.scope sc own)
    (hg : AtBlk fun s H C cl fp => PG (X.blk s H sc (compEnvC sc cl C X.env) fp) tg g) (ht : AtBlk fun s H C cl fp => PTs (X.blk s H sc (compEnvC sc cl C X.env) fp) ifs tt)
    (hk : AtBlk fun s H C cl fp => PE (X.blk s H sc (compEnvC sc cl C X.env) fp) ke tk) (hv : AtBlk fun s H C cl fp => PE (X.blk s H sc (compEnvC sc cl C X.env) fp) ve tv) (plain : ∀ x, foldedSetIterable it X.env x = pure x) (h : tDcT wi g tt tk tv (own.map (·.2)) σ H Q)
    (after : ∀ D C s1 m H1, Inv X pins σ H1 s1 → Q (.ref D) H1 → s1.heap.Ns C m → FpOk X pins H1 C → compPost (model X.prog X.w) X.A X.xe use R (.ref D) C (.ok .next) s1) :
    wpAny (model X.prog X.w) X.A (comprehension (.DictComp ke ve [⟨tg, it, ifs, 0⟩] sc p1) sc X.env p2 newDict false (eval it X.env) use) R X.xe s := by
  refine wpAny_comprehension_free (use := use) rfl plain (closure_ok fun y hy e => (ok.free y hy e).elim (fun z => I.ok.has _ (.inl z)) fun z => I.ok.has _ (.inr z)) ok.kind (fun y hy e => by rw [ok.uniq y hy, e])
    (thn (walk.run pins s σ H _ I h) fun _ s1 k1 => thn k1 fun _ s2 k2 => ?_)
  obtain ⟨a, fp, tn, J, H2, rfl, I2, T, at2, fine2, q⟩ := k2
  refine wpAny_newObj_type (newEnv_comp ?_)
  generalize eD : s2.heap.objs.size = D
  obtain ⟨W, ⟨m0, start⟩, turn⟩ := q D (I2.hok.fresh (Nat.le_of_eq eD))
  -- behind the new dict
  have below : ∀ b ∈ fp, b < s2.heap.objs.size := fun b hb => let ⟨_, e, _⟩ := T.obj _ _ at2 b hb; Heap.lt_size e
  generalize e3 : ({ s2 with heap := s2.heap.push voidDict } : Shared) = s3
  have heap3 : s3.heap = s2.heap.push voidDict := by rw [← e3]
  have I3 : Inv X pins σ (upd H2 D (.dT [])) s3 := by
    subst e3 eD
    exact I2.laid (t' := s2.toks) (fun _ _ e => Heap.get?_push_of_some _ e) (Nat.le_refl _) (dt_empty s2.heap I2.big)
  have at3 : tn 0 s3.heap := T.keep _ _ _ at2 fun _ _ _ e => by rw [heap3]; exact Heap.get?_push_of_some _ e
  have fine3 : ∀ b ∈ fp, FpOk X pins (upd H2 D (.dT [])) b ∧ b < s3.heap.objs.size := fun b hb => by
    have lt := below b hb
    refine ⟨⟨(upd_ne (eD ▸ Nat.ne_of_lt lt)).trans (fine2 b hb).1, (fine2 b hb).2⟩, ?_⟩
    rw [heap3, Heap.size_push]
    exact Nat.lt_succ_of_lt lt
  have I4 := block_start I3 ok hN fine3
  have pg : PG (X.blk s3 (upd H2 D (.dT [])) sc (compEnvC sc (cellsFrom (s3.heap.objs.size + 1) sc.names (cloFrom X.env.cells sc.names [])) s3.heap.objs.size X.env) fp) tg g := hg _ _ _ _ _
  have pt : PTs (X.blk s3 (upd H2 D (.dT [])) sc (compEnvC sc (cellsFrom (s3.heap.objs.size + 1) sc.names (cloFrom X.env.cells sc.names [])) s3.heap.objs.size X.env) fp) ifs tt := ht _ _ _ _ _
  have pk : PE (X.blk s3 (upd H2 D (.dT [])) sc (compEnvC sc (cellsFrom (s3.heap.objs.size + 1) sc.names (cloFrom X.env.cells sc.names [])) s3.heap.objs.size X.env) fp) ke tk := hk _ _ _ _ _
  have pv : PE (X.blk s3 (upd H2 D (.dT [])) sc (compEnvC sc (cellsFrom (s3.heap.objs.size + 1) sc.names (cloFrom X.env.cells sc.names [])) s3.heap.objs.size X.env) fp) ve tv := hv _ _ _ _ _
  show codeAny _ _ (.compStart _ 0 (.ref a) (.ref D) (compEnvC sc (cellsFrom (s3.heap.objs.size + 1) sc.names (cloFrom X.env.cells sc.names [])) s3.heap.objs.size X.env)) (compPost (model X.prog X.w) X.A X.xe use R (.ref D) s3.heap.objs.size) { s3 with heap := pushCells (s3.heap.push voidDict) sc.names }
  have clear3 : ∀ b ∈ fp, (upd H2 D (.dT [])) b = none := fun b hb => (fine3 b hb).1.1
  generalize eE : compEnvC sc (cellsFrom (s3.heap.objs.size + 1) sc.names (cloFrom X.env.cells sc.names [])) s3.heap.objs.size X.env = en at I4 pg pt pk pv ⊢
  have eL : en.locals = s3.heap.objs.size := by subst eE; rfl
  generalize upd H2 D (.dT []) = H3 at *
  generalize e4 : ({ s3 with heap := pushCells (s3.heap.push voidDict) sc.names } : Shared) = s4 at I4 ⊢
  have at4 : tn 0 s4.heap := T.keep _ _ _ at3 fun _ _ _ e => by rw [← e4]; exact pushCells_keeps _ _ _ _ (Heap.get?_push_of_some _ e)
  have still : ∀ {σ1 : St} {H1 : Hp} {s1 : Shared}, Inv (X.blk s3 H3 sc en fp) [] σ1 H1 s1 → (∀ b ∈ fp, H1 b = none) → ∀ b ∈ fp, FpOk (X.blk s3 H3 sc en fp) [] H1 b :=
    fun {_ _ _} J1 none1 b hb => ⟨none1 b hb, (J1.ok.exf b hb).1, J1.ok.exfs b hb, .inl hb, fun y c e => (J1.ok.exf b hb).2 y c e, fun p hp => absurd (show p ∈ ([] : List (Addr × Obj)) ++ [] from hp) (by simp)⟩
  let Go : Nat → Shared → Prop := fun n s1 => ∃ i H1, Inv (X.blk s3 H3 sc en fp) [] (wipe σ (own.map (·.2))) H1 s1 ∧ tn i s1.heap ∧ (∀ b ∈ fp, H1 b = none) ∧ W i n H1
  have loop : codeAny (model X.prog X.w) X.A (.compLoop (.DictComp ke ve [⟨tg, it, ifs, 0⟩] sc p1) 0 (.ref a) (.ref D) en) (compPost (model X.prog X.w) X.A X.xe use R (.ref D) s3.heap.objs.size) s4 := by
    refine compLoop_anyD Go ?_ m0 ⟨0, H3, I4, at4, clear3, start⟩
    rintro n s5 ⟨i, H5, I5, at5, clear5, w5⟩
    rcases turn i n H5 w5 with ⟨stop, done⟩ | ⟨go, Nx, less, step⟩
    · refine thnF (T.done (X.blk s3 H3 sc en fp) rfl rfl rfl hc i [] s5 _ H5 (fun _ _ => False) I5 (still I5 clear5) at5 stop) fun r s6 ⟨er, I6⟩ => ?_
      subst er
      obtain ⟨m, hn, _⟩ := I6.loc
      have free : H5 en.locals = none := I6.free
      have names : s6.heap.Ns en.locals m := hn
      rw [eL] at free names
      exact after D s3.heap.objs.size s6 m H5 (I3.call' (ch := fp) I6.os I6.base I6.hok I6.bare fun b hb => let f := (fine3 b hb).1.2.2; ⟨f.2.1, (fine3 b hb).1.2.1, f.2.2.1, f.2.2.2⟩) done names (I3.fpOk (Nat.le_refl _) free)
    · refine thnF (T.item (X.blk s3 H3 sc en fp) rfl rfl rfl hc i [] s5 _ H5 (fun _ _ => False) I5 (still I5 clear5) at5 go) fun r s6 ⟨u, er, k6⟩ => ?_
      subst er
      refine thnF k6 fun _ s7 ⟨x, H7, I7, rx, got, at7, clear7⟩ => ?_
      refine thnF (pg.run _ s7 _ H7 x u _ (I7.pinned (still I7 clear7) (T.obj _ _ at7)) rx (step x H7 got)) fun _ s8 ⟨σ8, H8, I8, same8, q8⟩ => thnF (pt.run _ s8 σ8 H8 _ I8 q8) fun c s9 ⟨H9, I9, q9⟩ => ?_
      have next : ∀ {s1 : Shared} {H1 : Hp}, Inv (X.blk s3 H3 sc en fp) ([] ++ pinsAt fp s7.heap) σ8 H1 s1 → Nx H1 → ∃ m, m < n ∧ Go m s1 := fun {s1 H1} J1 nx => by
        obtain ⟨m, lt, w⟩ := less H1 nx
        have kept : ∀ b ∈ fp, ∀ o, s7.heap.get? b = some o → s1.heap.get? b = some o ∧ H1 b = none := fun b hb o e => let z := J1.pin (b, o) (List.mem_append_right _ (List.mem_append_right _ (mem_pinsAt hb e))); ⟨z.1, z.2.1⟩
        refine ⟨m, lt, i + 1, H1, (J1.unpinned (pins := [])).weak (by rw [← same8, wipe_length]) (fun j v e => (wipe_some (same8 ▸ e)).1), T.keep _ _ _ at7 fun b hb o e => (kept b hb o e).1, fun b hb => ?_, w⟩
        obtain ⟨o, e, _⟩ := T.obj _ _ at7 b hb
        exact (kept b hb o e).2
      cases c
      · rw [if_neg Bool.false_ne_true] at q9
        rw [if_neg Bool.false_ne_true]
        exact next I9 q9
      · rw [if_pos rfl] at q9
        rw [if_pos rfl]
        refine thnF (pk.run _ s9 σ8 H9 _ I9 q9) fun _ s10 ⟨y, H10, I10, ry, q10⟩ => thnF (pv.run _ s10 σ8 H10 _ I10 q10) fun w2 s11 ⟨z, H11, I11, rz, m, k, b, ey, hb, hD, short, nx⟩ => ?_
        subst ey
        cases ry
        exact put_tup (X := X.blk s3 H3 sc en fp) room I11 hD short hb rz fun s12 I12 => next I12 nx
  exact codeAny_compStart_dict loop (T.self X.A 0 _ _ _ at4 loop)
end
end L2

set_option Elab.async false
set_option linter.all false
set_option maxRecDepth 100000
set_option maxHeartbeats 4000000
/-! {k: v for ..} with tuple keys, as an expression -/
namespace L2
open PySem PySem.Spec PyProof.Rows
theorem pe_dcT {X : Cx} {ke ve tg it : Expr} {ifs : List Expr} {sc : Scope} {own : List (Str × Nat)} {pos : Pos} {wi : TI} {g : TG} {tt : TT} {tk tv : TE} (room : X.A.units + 1 < cLine) (hc : X.calm = true) (hN : X.N.Nodup) (walk : PI X tg it wi) (ok : BlkOk X.N X.env.scope sc own)
    (hg : ∀ (s : Shared) (H : Hp) (C : Addr) (cl : List (Str × Addr)) (fp : List Addr), PG (X.blk s H sc (compEnvC sc cl C X.env) fp) tg g) (ht : ∀ (s : Shared) (H : Hp) (C : Addr) (cl : List (Str × Addr)) (fp : List Addr), PTs (X.blk s H sc (compEnvC sc cl C X.env) fp) ifs tt)
    (hk : ∀ (s : Shared) (H : Hp) (C : Addr) (cl : List (Str × Addr)) (fp : List Addr), PE (X.blk s H sc (compEnvC sc cl C X.env) fp) ke tk) (hv : ∀ (s : Shared) (H : Hp) (C : Addr) (cl : List (Str × Addr)) (fp : List Addr), PE (X.blk s H sc (compEnvC sc cl C X.env) fp) ve tv)
    (plain : ∀ x, foldedSetIterable it X.env x = pure x := by intro _; rfl) : PE X (.DictComp ke ve [⟨tg, it, ifs, 0⟩] sc pos) (tDcT wi g tt tk tv (own.map (·.2))) := by
  refine ⟨fun pins s σ H Q I h => ?_⟩
  rw [arm_eval_DictComp]
  refine dcT_core room hc hN I walk ok hg ht hk hv plain h fun D C s' m H' I' q hn f => ⟨m, hn, fun h'' sb => ?_⟩
  obtain ⟨f0, f1, f2, f3, f4, f5⟩ := f
  exact ⟨.ref D, H', I'.turned (t' := s'.toks) (fun b o hb e => (sb.2 b hb).trans e) f0 f1 f3 f4 f5, rfl, q⟩
end L2

set_option Elab.async false
set_option linter.all false
set_option maxRecDepth 100000
set_option maxHeartbeats 1000000
/-! {k: v for ..}: as many pairs as are walked, their keys unlike -/
namespace Lt
open PySem PySem.Spec PyProof.Rows L2
theorem putK_app {κ : Type} [DecidableEq κ] {kvs : List (κ × V)} {k : κ} {v : V} (h : ∀ p ∈ kvs, p.1 ≠ k) : putK kvs k v = kvs ++ [(k, v)] := by
  unfold putK
  rw [if_neg]
  intro z
  obtain ⟨p, hp, e⟩ := List.any_eq_true.mp z
  exact h p hp (of_decide_eq_true e)
theorem dcT_gen {J : It} {g : TG} {tk tv : TE} {vs : List Nat} {σ : L2.St} {H1 : Hp} {D : Addr} {Qd : Hp → Prop} {n : Nat} (key : Nat → List Key) (val : Nat → V) (inj : ∀ i j, i < n → j < n → key i = key j → i = j) (hz : n ≤ 100000) (hD : H1 D = none)
    (hgo : ∀ i H, i < n → Same H1 H → J.go i H) (hst : ∀ H, Same H1 H → J.stop n H)
    (hs : ∀ i H x H', i < n → Same H1 H → J.yld i H x H' → Same H H' ∧ ∃ σ2, (∀ Kk : L2.St → Hp → Prop, Kk σ2 H' → g x (wipe σ vs) H' Kk) ∧ wipe σ2 vs = wipe σ vs ∧
      (∀ H3, Same H' H3 → ∀ Q : VK, (∀ b H4, Same H3 H4 → H4 b = some (.tup ((key i).map kV)) → Q (.ref b) H4) → tk σ2 H3 Q) ∧ (∀ H3, Same H' H3 → ∀ Q : VK, (∀ H4, Same H3 H4 → Q (val i) H4) → tv σ2 H3 Q))
    (hd : ∀ H, Same H1 H → H D = some (.dT ((List.range n).map fun i => (key i, val i))) → Qd H) :
    ∃ W : Nat → Nat → Hp → Prop, (∃ m, W 0 m (upd H1 D (.dT []))) ∧ ∀ i m H2, W i m H2 →
      (J.stop i H2 ∧ Qd H2) ∨ (J.go i H2 ∧ ∃ Nx : Hp → Prop, (∀ H3, Nx H3 → ∃ m1, m1 < m ∧ W (i + 1) m1 H3) ∧ ∀ x H3, J.yld i H2 x H3 → g x (wipe σ vs) H3 fun σ4 H4 => wipe σ4 vs = wipe σ vs ∧ tYes σ4 H4 fun c H5 =>
        if c = true then tk σ4 H5 fun y H6 => tv σ4 H6 fun z H7 => ∃ kvs k b, y = .ref b ∧ H7 b = some (.tup (k.map kV)) ∧ H7 D = some (.dT kvs) ∧ kvs.length < sizeLine ∧ Nx (upd H7 D (.dT (putK kvs k z))) else Nx H5) := by
  refine ⟨fun i m H => m = n - i ∧ i ≤ n ∧ Same H1 H ∧ H D = some (.dT ((List.range i).map fun j => (key j, val j))), ⟨n, by simp, Nat.zero_le _, same_new hD, upd_same⟩, ?_⟩
  rintro i m H ⟨rfl, hi, sm, hk⟩
  by_cases hlt : i < n
  · refine .inr ⟨hgo i H hlt sm, fun H' => Same H1 H' ∧ H' D = some (.dT ((List.range (i + 1)).map fun j => (key j, val j))), fun H' p' => ⟨n - (i + 1), by omega, rfl, hlt, p'⟩, fun x H' y => ?_⟩
    obtain ⟨s', σ2, hg, hw, hk1, hv1⟩ := hs i H x H' hlt sm y
    refine hg _ ⟨hw, iteT (B := Same H1 H' ∧ H' D = some (.dT ((List.range (i + 1)).map fun j => (key j, val j)))) (hk1 H' (Same.refl _) _ fun b H4 s4 hb => hv1 H4 s4 _ fun H5 s5 => ?_)⟩
    have s15 := s'.trans (s4.trans s5)
    have h5 := s15 _ _ hk
    refine ⟨_, key i, b, rfl, s5 _ _ hb, h5, by rw [List.length_map, List.length_range, sizeLine_eq]; omega, same_mut (sm.trans s15) hD, ?_⟩
    rw [upd_same, putK_app, List.range_succ, List.map_append]
    · rfl
    · intro p hp e
      obtain ⟨j, hj, rfl⟩ := List.mem_map.mp hp
      have hj := List.mem_range.mp hj
      have := inj j i (by omega) hlt e
      omega
  · have e : i = n := by omega
    subst e
    exact .inl ⟨hst H sm, hd H sm hk⟩
end Lt

set_option Elab.async false
set_option linter.all false
set_option maxRecDepth 100000
set_option maxHeartbeats 4000000
namespace Lt
open PySem PySem.Spec PyProof.Rows L2
/-! ### ascending -/
def iN (t : List Nat) : List Int := t.map Int.ofNat
def cd (t : List Nat) : Int := TS.code 9 (iN t)
def Asc (ts : List (List Nat)) : Prop := ts.Pairwise fun x y => cd x ≤ cd y
theorem iN_len (t : List Nat) : (iN t).length = t.length := List.length_map ..
theorem iN_inj {s t : List Nat} (h : iN s = iN t) : s = t := (List.map_inj_right ofNat_inj).mp h
theorem bd_iN {n : Nat} {t : List Nat} (h : IsP n t) (hn : n ≤ 9) : TS.Bd 9 (iN t) := fun m hm => by
  obtain ⟨i, hi, rfl⟩ := List.mem_map.mp hm
  have := h.lt i hi
  exact ⟨Int.natCast_nonneg i, by show (i : Int) < 9; omega⟩
theorem code_inj : ∀ {x y : List Int}, x.length = y.length → TS.Bd 9 x → TS.Bd 9 y → TS.code 9 x = TS.code 9 y → x = y
  | [], [], _, _, _, _ => rfl
  | [], _ :: _, h, _, _, _ => by cases h
  | _ :: _, [], h, _, _, _ => by cases h
  | a :: x, b :: y, h, hx, hy, e => by
    have hl : x.length = y.length := Nat.succ.inj h
    rcases Int.lt_trichotomy a b with z | z | z
    · have := TS.code_lt hl hx.tail hy.tail z
      omega
    · subst z
      have e2 : TS.code 9 x = TS.code 9 y := by
        have e' : a * 9 ^ x.length + TS.code 9 x = a * 9 ^ y.length + TS.code 9 y := e
        rw [hl] at e'
        omega
      rw [code_inj hl hx.tail hy.tail e2]
    · have := TS.code_lt hl.symm hy.tail hx.tail z
      omega
theorem cd_inj {n : Nat} {s t : List Nat} (hs : IsP n s) (ht : IsP n t) (hn : n ≤ 9) (e : cd s = cd t) : s = t :=
  iN_inj (code_inj (by rw [iN_len, iN_len, hs.len, ht.len]) (bd_iN hs hn) (bd_iN ht hn) e)
/-- an ascending list is told by its members -/
theorem asc_one {n : Nat} {a b : List (List Nat)} (hn : n ≤ 9) (ha : ∀ t ∈ a, IsP n t) (p : a.Perm b) (h1 : Asc a) (h2 : Asc b) : a = b :=
  List.Perm.eq_of_pairwise (fun x y hx hy e1 e2 => cd_inj (ha x hx) (ha y (p.mem_iff.mpr hy)) hn (Int.le_antisymm e1 e2)) h1 h2 p
/-- a lock that is asked of -/
structure Good (H : Hp) (v : V) (ls : List (List Nat)) (n : Nat) : Prop where
  tt : TT H v ls
  gl : GL ls n
  few : Few ls n 63
theorem Good.tm {H H' : Hp} {v : V} {ls : List (List Nat)} {n : Nat} (h : Good H v ls n) (e : Tm H H') : Good H' v ls n := ⟨h.tt.tm e, h.gl, h.few⟩
theorem Good.same {H H' : Hp} {v : V} {ls : List (List Nat)} {n : Nat} (h : Good H v ls n) (e : Same H H') : Good H' v ls n := h.tm (.of e)
theorem Good.isP {H : Hp} {v : V} {ls : List (List Nat)} {n : Nat} (h : Good H v ls n) {t : List Nat} (m : Mk ls n t) : IsP n t := m.isP h.gl.2.2.2.2
theorem Good.mem {H : Hp} {v : V} {ls : List (List Nat)} {n : Nat} (h : Good H v ls n) (t : List Nat) : t ∈ (LL ls n).map (·.1) ↔ Mk ls n t := LL_mem h.few (by omega) t
section
variable {P : Program} {w : World} {K : PySem.W.Frag} {mg : Str → Option Value} {base : Heap} {CL CM CT : Addr}
theorem Good.wd {H : Hp} {v : V} {ls : List (List Nat)} {n : Nat} (g : Good H v ls n) {L : List (List Nat × List Nat)} (hL : Wd ls n L) : L = LL ls n := by
  obtain ⟨a, e1, e2, _⟩ := g.few.wd (by omega) hL
  rw [e1] at e2 ⊢
  exact LL_of g.few (by omega) e2
/-! ### all_turns -/
/-- a tuple of turns that may be keys -/
def TTK (H : Hp) (v : V) (ts : List (List Nat)) : Prop := ∃ a xs, v = .ref a ∧ H a = some (.tup xs) ∧ Paired (TK H) xs ts
theorem TTK.tt {H : Hp} {v : V} {ts : List (List Nat)} (h : TTK H v ts) : TT H v ts := let ⟨a, xs, e, ha, p⟩ := h; ⟨a, xs, e, ha, paired_mono (fun _ _ r => r.tn) p⟩
def spAllK (CL CM : Addr) : Sp := fun vs H Q E => ∃ v, vs = [v] ∧ LockIn CL CM v H E (fun ls n => ∀ L, Wd ls n L → L.length ≤ 240 → L.length < 64 ∧ ∀ r H' ts, Same H H' → TTK H' r ts → ts.Perm (L.map (·.1)) → Asc ts → Q r H')
theorem sc_all_turns : FnScope ["lock"] ["lock"] (defScope s_all_turns) := ⟨rfl, rfl, rfl, by decide +kernel, rfl, by decide +kernel, by decide +kernel⟩
theorem keysI {H : Hp} {kvs : List (List Key × V)} {L : List (List Nat × List Nat)} (p : Paired (DE H) kvs L) : kvs.map (·.1) = (numL L).map fun k => k.map Sum.inl := by
  induction p with
  | nil => rfl
  | cons r _ ih =>
    rw [List.map_cons, ih, r.1, keyN_I]
    rfl
theorem wd_isP {ls : List (List Nat)} {n : Nat} (hg : ∀ g ∈ ls, IsP n g) {L : List (List Nat × List Nat)} (h : Wd ls n L) : ∀ x ∈ L, IsP n x.1 := fun x hx => by
  obtain ⟨a, rfl, _⟩ := h
  exact (qq_mk ls n a x.1 (List.mem_map.mpr ⟨x, hx, rfl⟩)).isP hg
/-- the bases of sorted ints are turns -/
theorem turns_back {L : List (List Nat × List Nat)} : ∀ {ks : List (List Int)}, (∀ k ∈ ks, k ∈ numL L) → ∃ ts : List (List Nat), ks = ts.map iN
  | [], _ => ⟨[], rfl⟩
  | k :: ks, h => by
    obtain ⟨x, _, e⟩ := List.mem_map.mp (h k List.mem_cons_self)
    obtain ⟨ts, e2⟩ := turns_back fun y hy => h y (List.mem_cons_of_mem _ hy)
    exact ⟨x.1 :: ts, by rw [e2, List.map_cons, ← e]; rfl⟩
theorem perm_iN {a b : List (List Nat)} (h : (a.map iN).Perm (b.map iN)) : a.Perm b := by
  have z := h.map fun k : List Int => k.map Int.toNat
  rw [List.map_map, List.map_map] at z
  have e : ∀ l : List (List Nat), l.map ((fun k : List Int => k.map Int.toNat) ∘ iN) = l := fun l => (List.map_congr_left (g := id) fun t _ => by
    show (t.map Int.ofNat).map Int.toNat = t
    rw [List.map_map]
    exact (List.map_congr_left (g := id) fun _ _ => rfl).trans (List.map_id t)).trans (List.map_id l)
  rw [e, e] at z
  exact z
theorem tns_of {H : Hp} : ∀ {bs : List Addr} {ts : List (List Nat)}, Paired (fun (b : Addr) k => H b = some (.tup (k.map V.int))) bs (ts.map iN) → Paired (TK H) (bs.map V.ref) ts
  | [], [], .nil => .nil
  | b :: bs, t :: ts, .cons r s => .cons ⟨b, rfl, by rw [r, nIs_int]; rfl⟩ (tns_of s)
theorem has_all_turnsK (T : Top K mg "all_turns" s_all_turns ["lock"]) (B : Bi mg) (hM : Has P w K mg base (L2.CX P w) 5 "made_words" ["lock"] (spMade CL CM)) : Has P w K mg base (L2.CX P w) 6 "all_turns" ["lock"] (spAllK CL CM) := by
  refine T.okX sc_all_turns (fun vs H Q E h => ?_) (fun f cdv A outer s H vs Q E hr h => ?_)
  · obtain ⟨v, rfl, _⟩ := h
    rfl
  · obtain ⟨v, rfl, hl⟩ := h
    obtain ⟨n, hn1, hl⟩ : ∃ n, 1 ≤ n ∧ LockIn CL CM v H E (fun ls m => m = n ∧ ∀ L, Wd ls m L → L.length ≤ 240 → L.length < 64 ∧ ∀ r H' ts, Same H H' → TTK H' r ts → ts.Perm (L.map (·.1)) → Asc ts → Q r H') := by
      obtain ⟨d, h1, h2, h3, h4⟩ := hl
      cases hb : lockBad d with
      | some pl => exact ⟨1, Nat.le_refl 1, d, h1, h2, h3, fun e => by rw [hb] at e; cases e⟩
      | none =>
        obtain ⟨ls, n, a, b, c, q⟩ := h4 hb
        exact ⟨n, by have := b.2.2.1; omega, d, h1, h2, h3, fun _ => ⟨ls, n, a, b, c, rfl, q⟩⟩
    refine ⟨_, pss_one (ps_ret (pe_tupleOf (by rfl) B.tuple (pe_callB (cr_sortDT (d := n) (B := 9) rfl hn1) (by rfl) B.sorted PyProof.Rows.boot_sorted (pa_cons (pe_hasX (E := E) hM hr (by rfl) (passes_call (takes_of rfl rfl rfl rfl) (fun _ _ _ _ h => h)) (pa_cons (pv 0) pa_nil)) pa_nil)))), ?_⟩
    refine ⟨_, rfl, v, rfl, hl.imp fun ls m ht hg ⟨em, q⟩ d H1 L s1 hd hw hL h240 => ?_⟩
    subst em
    obtain ⟨kvs, hk, pk⟩ := hw
    obtain ⟨h64, q⟩ := q L hL h240
    have hP := wd_isP hg.2.2.2.2 hL
    refine ⟨d, kvs, numL L, rfl, .inl hk, keysI pk, by rw [List.length_map]; exact h64, fun k hk => ?_, fun bs ks' p pm so pr hp => ?_⟩
    · obtain ⟨x, hx, rfl⟩ := List.mem_map.mp hk
      exact ⟨by rw [List.length_map, (hP x hx).len], bd_iN (hP x hx) hg.2.2.2.1⟩
    · obtain ⟨ts, rfl⟩ := turns_back (L := L) fun k hk => pm.mem_iff.mp hk
      have pm2 : ts.Perm (L.map (·.1)) := perm_iN (by
        rw [List.map_map]
        exact pm)
      refine .inl ⟨p, _, rfl, SqL.of upd_same, fun r hr => ?_⟩
      have s2 := (same_new (o := .lst (bs.map V.ref)) hp).trans (same_new (o := .tup (bs.map V.ref)) hr)
      refine q _ _ ts (s1.trans s2) ⟨r, _, rfl, upd_same, paired_mono (fun _ _ r => TK.tm (.of s2) r) (tns_of pr)⟩ pm2 (show ts.Pairwise fun x y => cd x ≤ cd y from (List.pairwise_map (f := iN) (R := fun x y => TS.code 9 x ≤ TS.code 9 y)).mp so)
end
end Lt

set_option Elab.async false
set_option linter.all false
set_option maxRecDepth 100000
set_option maxHeartbeats 1000000
/-! the still turn is the least -/
namespace Lt
open PySem PySem.Spec PyProof.Rows L2
theorem bd_some {t : List Nat} (h : ∀ x ∈ t, x < 9) : TS.Bd 9 (iN t) := fun m hm => by
  obtain ⟨i, hi, rfl⟩ := List.mem_map.mp hm
  have := h i hi
  exact ⟨Int.natCast_nonneg i, by show (i : Int) < 9; omega⟩
theorem code_least : ∀ (t : List Nat) (k : Nat), t.Nodup → (∀ x ∈ t, k ≤ x ∧ x < 9) → t.length + k ≤ 9 → TS.code 9 (iN (List.range' k t.length)) ≤ TS.code 9 (iN t)
  | [], k, _, _, _ => Int.le_refl _
  | a :: t, k, nd, h, hl => by
    rw [List.length_cons] at hl ⊢
    rw [List.range'_succ]
    have ha := h a List.mem_cons_self
    have hnd := List.nodup_cons.mp nd
    have hlen : (iN (List.range' (k + 1) t.length)).length = (iN t).length := by rw [iN_len, iN_len, List.length_range']
    by_cases e : a = k
    · subst e
      have ih := code_least t (a + 1) hnd.2 (fun x hx => by
        have := h x (List.mem_cons_of_mem _ hx)
        have : x ≠ a := fun z => hnd.1 (z ▸ hx)
        omega) (by omega)
      show (a : Int) * 9 ^ (iN (List.range' (a + 1) t.length)).length + TS.code 9 (iN (List.range' (a + 1) t.length)) ≤ (a : Int) * 9 ^ (iN t).length + TS.code 9 (iN t)
      rw [hlen]
      omega
    · refine Int.le_of_lt (TS.code_lt hlen (bd_some fun x hx => ?_) (bd_some fun x hx => (h x (List.mem_cons_of_mem _ hx)).2) (show (k : Int) < (a : Int) by omega))
      have := List.mem_range'_1.mp hx
      omega
theorem still_least {n : Nat} {t : List Nat} (h : IsP n t) (hn : n ≤ 9) : cd (List.range n) ≤ cd t := by
  have e := code_least t 0 h.nd (fun x hx => ⟨Nat.zero_le x, by have := h.lt x hx; omega⟩) (by rw [h.len]; omega)
  rw [h.len, ← List.range_eq_range'] at e
  exact e
theorem asc_head {n : Nat} {ts : List (List Nat)} (hn : n ≤ 9) (ha : ∀ t ∈ ts, IsP n t) (h : Asc ts) (hs : List.range n ∈ ts) : ts[0]? = some (List.range n) := by
  cases ts with
  | nil => cases hs
  | cons a r =>
    rcases List.mem_cons.mp hs with e | e
    · rw [e]; rfl
    · have h1 := (List.pairwise_cons.mp h).1 _ e
      have h2 := still_least (ha a List.mem_cons_self) hn
      rw [cd_inj (ha a List.mem_cons_self) (.still n) hn (Int.le_antisymm h1 h2)]
      rfl
end Lt

set_option Elab.async false
set_option linter.all false
set_option maxRecDepth 100000
set_option maxHeartbeats 1000000
/-! tuples whose object is known: they bear no dict, so their methods are found -/
namespace L2
open PySem PySem.Spec PyProof.Rows
section
variable {X : Cx} {a : Expr} {ta : TE} {te : St → Hp → (Int → Int → Hp → Prop) → Prop} {e : Expr}
def kTupF (K : PySem.W.Frag) (x : V) (H : Hp) (Q : VK) : Prop := ∃ p xs, x = .ref p ∧ SqL K H p xs ∧ ∀ q o, o.dict = none → H q = none → Q (.ref q) (upd H q (.frz o (.tup xs)))
theorem pe_tupleOfF {p pos : Pos} (hg : Gl X "tuple") (hm : X.mg "tuple" = none) (ha : PE X a ta) (na : starEach [a] X.env = (false, eval a X.env) :: starEach [] X.env := by rfl) :
    PE X (.Call (.Name "tuple" p) [a] [] pos) (tThen ta (kTupF X.K)) := by
  refine ⟨fun pins s σ H Q I h => ?_⟩
  refine Call_ (ld_blt I hg hm boot_tuple (PyProof.Rows.callWith_type1 (one_arg ha I h (fun v s2 x H2 I2 r q => ?_) na) na))
  obtain ⟨l, xs, rfl, hs, q⟩ := q
  obtain rfl : v = .ref l := r
  obtain ⟨its, rv, pl, hz⟩ := I2.list hs
  refine call_tuple_list pl.isList (fun h' hk => ?_) (by rw [List.size_toArray, ← rv.length]; exact hz)
  have I3 : Inv X pins σ H2 { s2 with heap := h' } := I2.kept (t' := s2.toks) hk
  have hget : (h'.push { cls := .type "tuple", data := .seq its.toArray }).get? h'.objs.size = some { cls := .type "tuple", data := .seq its.toArray } := Heap.get?_push_size _ rfl
  have I4 := I3.laid (a := h'.objs.size) (o := .frz { cls := .type "tuple", data := .seq its.toArray } (.tup xs)) (h' := h'.push { cls := .type "tuple", data := .seq its.toArray }) (t' := s2.toks) (fun b o e => Heap.get?_push_of_some _ e) (Nat.le_refl _) ⟨hget, hz, its, rv, _, hget, rfl, _, rfl⟩
  exact ⟨.ref h'.objs.size, _, I4, rfl, q _ _ rfl (I3.hok.fresh (Nat.le_refl _))⟩
def tTupRgF (te : St → Hp → (Int → Int → Hp → Prop) → Prop) : TE := fun σ H Q => te σ H fun a b H1 => RgOk a b ∧ ∀ q o, o.dict = none → H1 q = none → Q (.ref q) (upd H1 q (.frz o (.tup (rgV a b))))
theorem pe_tupRgF {p pos : Pos} (hc : X.calm = true) (hg : Gl X "tuple") (hm : X.mg "tuple" = none) (he : PRg X e te) (na : starEach [e] X.env = (false, eval e X.env) :: starEach [] X.env := by rfl) : PE X (.Call (.Name "tuple" p) [e] [] pos) (tTupRgF te) := by
  refine ⟨fun pins s σ H Q I h => ?_⟩
  refine Call_ (ld_blt I hg hm boot_tuple (PyProof.Rows.callWith_type1 (args_cons (thn (he pins s σ H _ I h) fun x s1 ⟨r, a, b, t, u, v, H1, ex, hr, I1, ok, q⟩ => args_nil ?_) na) na))
  subst ex
  obtain ⟨b1, b2, b3, b4, b5⟩ := ok
  refine call_tuple_range (n := (b - a).toNat) (I1.ok.hd hc) hr (small_one b1 b2 b3 b4) (rangeSize_nat a b) b5 fun h' tk acc hk hi => ?_
  have I2 : Inv X pins σ H1 { s1 with heap := h', toks := tk } := I1.kept hk
  have hget : (h'.push { cls := .type "tuple", data := .seq acc }).get? h'.objs.size = some { cls := .type "tuple", data := .seq acc } := Heap.get?_push_size _ rfl
  have hz : (rgV a b).length ≤ sizeLine := by rw [rgV_length, sizeLine_eq]; omega
  have hi2 : IsTup (h'.push { cls := .type "tuple", data := .seq acc }) h'.objs.size acc.toList.toArray := by rw [Array.toArray_toList]; exact IsTup.new _ _
  have I3 := I2.laid (a := h'.objs.size) (o := .frz { cls := .type "tuple", data := .seq acc } (.tup (rgV a b))) (h' := h'.push { cls := .type "tuple", data := .seq acc }) (t' := tk) (fun c o e => Heap.get?_push_of_some _ e) (Nat.le_refl _) ⟨hget, hz, acc.toList, vals_rg hi, hi2⟩
  exact ⟨.ref h'.objs.size, _, I3, rfl, q _ _ rfl (I2.hok.fresh (Nat.le_refl _))⟩
/-- a method of a tuple whose object is known -/
def tBMF (r : V → List V → Hp → VK → Prop) (to : TE) (t : TA) : TE := fun σ H Q => to σ H fun x H1 => (∃ a o xs, x = .ref a ∧ H1 a = some (.frz o (.tup xs)) ∧ o.dict = none) ∧ t σ H1 fun ys H2 => r x ys H2 Q
theorem pe_bmF {o e : Expr} {es : List Expr} {to : TE} {t : TA} {name : Str} {apos cpos : Pos} {id : String} {r : V → List V → Hp → VK → Prop} (slot : Slot "tuple" name id) (hty : typeOf (.builtin id) = pure (.type "method_descriptor")) (hm : MtR X id r) (ho : PE X o to) (ha : PA X (e :: es) t)
    (hbase : attributeBase o name X.env (eval o X.env) = eval o X.env := by rfl)
    (hfew : ((backTo cpos (starEach (e :: es) X.env)).all (fun x => !x.1) && (backToKw cpos (keywordEach [] X.env)).all (fun x => x.1.isSome)
      && decide ((e :: es).length + ([] : List Keyword).length + (if ([] : List Keyword).isEmpty then 0 else 1) < 30)) = true := by rfl)
    (hline : (apos.endLine == cpos.line) = true := by rfl) (hs : starEach (e :: es) X.env = (false, eval e X.env) :: starEach es X.env := by rfl) (hplain : (backTo cpos (starEach es X.env)).any (·.1) = false := by rfl) :
    PE X (.Call (.Attribute o name apos) (e :: es) [] cpos) (tBMF r to t) := by
  refine ⟨fun pins s σ H Q I h => ?_⟩
  refine wpAny_Call_method_late hbase hfew hline rfl (thn (ho.run pins s σ H _ I h) fun v s1 ⟨x, H1, I1, r1, ty, q1⟩ => ?_)
  obtain ⟨a, ob, xs, rfl, hH, hdn⟩ := ty
  obtain rfl : v = Value.ref a := r1
  obtain ⟨hget, hz, its, rv, ob', hget', hcls, hdat⟩ := (show ObjOk X.prog X.w H1 s1.heap a (.frz ob (.tup xs)) from I1.hok a _ hH)
  refine ⟨"tuple", id, PySem.F.plainAttrs_tuple, slot, hty, ⟨ob', hget', hcls⟩, fun b eb => ?_, ?_⟩
  · cases eb
    exact ⟨ob, hget, hdn⟩
  have hA := ha.run cpos pins s1 σ H1 _ I1 q1
  rw [hs] at hA ⊢
  refine Calls.callWith_builtin (by show (false || (backTo cpos (starEach es X.env)).any (·.1)) = false; rw [hplain] <;> rfl) (Calls.evalArgs_plain ?_)
  exact thn hA fun us s2 ⟨vs, H2, I2, r2, q2⟩ => hm pins s2 σ H2 (.ref a) vs (.ref a) us Q I2 rfl r2 q2
end
end L2

set_option Elab.async false
set_option linter.all false
set_option maxRecDepth 100000
set_option maxHeartbeats 1000000
namespace Lt
open PySem PySem.Spec PyProof.Rows L2
/-- a turn whose object is known -/
def TF (H : Hp) (v : V) (t : List Nat) : Prop := ∃ a o, v = .ref a ∧ H a = some (.frz o (.tup (nIs t))) ∧ o.dict = none
theorem TF.tn {H : Hp} {v : V} {t : List Nat} (h : TF H v t) : TN H v t := let ⟨a, o, e, h, _⟩ := h; ⟨a, e, .inr ⟨o, h⟩⟩
theorem TF.tm {H H' : Hp} {v : V} {t : List Nat} (e : Tm H H') (h : TF H v t) : TF H' v t := let ⟨a, o, ev, h, d⟩ := h; ⟨a, o, ev, e.2 _ _ _ h, d⟩
section
variable {P : Program} {w : World} {K : PySem.W.Frag} {mg : Str → Option Value} {base : Heap}
/-! ### _law_is -/
/-! ### _law_behind, _law_back, _law_swap -/
theorem sc_law_behind : FnScope ["one", "other", "place"] ["one", "other"] (defScope s_law_behind) := ⟨rfl, rfl, rfl, by decide +kernel, rfl, by decide +kernel, by decide +kernel⟩
theorem has_law_behind (T : Top K mg "_law_behind" s_law_behind ["one", "other"]) (B : Bi mg) : Has P w K mg base CX0 1 "_law_behind" ["one", "other"] spProd := by
  refine T.ok sc_law_behind (fun vs H Q E h => ?_) (fun f cdv A outer s H vs Q E hr h => ?_)
  · obtain ⟨a, b, x, y, rfl, _⟩ := h
    rfl
  · obtain ⟨a, b, x, y, rfl, ha, hb, hxy, hx, q⟩ := h
    refine ⟨_, pss_one (ps_ret (pe_tupleOf (by rfl) B.tuple (pe_lc (own := [("place", 2)]) (g := gName 2) (te := tOp (rIxT K) (tVar 1) (tVar 2)) (by rfl) sc_law_behind.nd (pi_tup (pv 0)) (blkOk_by (own := [("place", 2)]) (N := ["one", "other", "place"]) (sc := defScope s_law_behind) (by decide +kernel))
      (fun _ _ _ _ _ => pg_name (i := 2) sc_law_behind.nd rfl (Or.inl rfl)) (fun _ _ _ _ _ => pts_nil) (fun _ _ _ _ _ => pe_ix ix_tup (pv 1) (pv 2) (fun _ _ => rfl))))), ?_⟩
    obtain ⟨pa, rfl, ea⟩ := ha
    obtain ⟨pb, rfl, eb⟩ := hb
    refine ⟨_, rfl, pa, rfl, ⟨_, ea.sq⟩, fun D hD => lc_tupM RN (prod x y) (fun _ _ _ _ _ r => r) ea.sq (fun H' sm => (ea.sm sm).sq) (by rw [nIs_len]; omega) (by rw [prod_len, nIs_len]) hD (fun x => rfl) (fun i v n hi hn H' sm Q' q' => ?_) (fun H' zs sm hz pr => ?_)⟩
    · rw [nIs_get] at hi
      obtain ⟨m, hm, rfl⟩ := Option.map_eq_some_iff.mp hi
      have hlt := hxy m (List.mem_of_getElem? hm)
      have e : n = y.getD m 0 := by
        have z : (prod x y)[i]? = some (y.getD m 0) := by
          unfold prod
          rw [List.getElem?_map, hm]
          rfl
        exact Option.some.inj (hn.symm.trans z)
      refine ⟨_, rfl, _, rfl, pb, _, _, nI n, rfl, rfl, (eb.sm sm).sq, atI_nat ?_, q' _ _ (Same.refl _) rfl⟩
      rw [nIs_get, e, List.getD_eq_getElem?_getD, List.getElem?_eq_getElem hlt]
      rfl
    · refine .inl ⟨D, zs, rfl, SqL.of hz, fun p hp => q _ _ (sm.trans (same_new hp)) (tn_of upd_same (RN.all pr))⟩
/-- the same, the new turn's object told -/
def spProdF : Sp := fun vs H Q _ => ∃ (a b : V) (x y : List Nat), vs = [a, b] ∧ TN H a x ∧ TN H b y ∧ (∀ i ∈ x, i < y.length) ∧ x.length ≤ 1000 ∧ ∀ v H', Same H H' → TF H' v (prod x y) → Q v H'
theorem has_law_behindF (T : Top K mg "_law_behind" s_law_behind ["one", "other"]) (B : Bi mg) : Has P w K mg base CX0 1 "_law_behind" ["one", "other"] spProdF := by
  refine T.ok sc_law_behind (fun vs H Q E h => ?_) (fun f cdv A outer s H vs Q E hr h => ?_)
  · obtain ⟨a, b, x, y, rfl, _⟩ := h
    rfl
  · obtain ⟨a, b, x, y, rfl, ha, hb, hxy, hx, q⟩ := h
    refine ⟨_, pss_one (ps_ret (pe_tupleOfF (by rfl) B.tuple (pe_lc (own := [("place", 2)]) (g := gName 2) (te := tOp (rIxT K) (tVar 1) (tVar 2)) (by rfl) sc_law_behind.nd (pi_tup (pv 0)) (blkOk_by (own := [("place", 2)]) (N := ["one", "other", "place"]) (sc := defScope s_law_behind) (by decide +kernel))
      (fun _ _ _ _ _ => pg_name (i := 2) sc_law_behind.nd rfl (Or.inl rfl)) (fun _ _ _ _ _ => pts_nil) (fun _ _ _ _ _ => pe_ix ix_tup (pv 1) (pv 2) (fun _ _ => rfl))))), ?_⟩
    obtain ⟨pa, rfl, ea⟩ := ha
    obtain ⟨pb, rfl, eb⟩ := hb
    refine ⟨_, rfl, pa, rfl, ⟨_, ea.sq⟩, fun D hD => lc_tupM RN (prod x y) (fun _ _ _ _ _ r => r) ea.sq (fun H' sm => (ea.sm sm).sq) (by rw [nIs_len]; omega) (by rw [prod_len, nIs_len]) hD (fun x => rfl) (fun i v n hi hn H' sm Q' q' => ?_) (fun H' zs sm hz pr => ?_)⟩
    · rw [nIs_get] at hi
      obtain ⟨m, hm, rfl⟩ := Option.map_eq_some_iff.mp hi
      have hlt := hxy m (List.mem_of_getElem? hm)
      have e : n = y.getD m 0 := by
        have z : (prod x y)[i]? = some (y.getD m 0) := by
          unfold prod
          rw [List.getElem?_map, hm]
          rfl
        exact Option.some.inj (hn.symm.trans z)
      refine ⟨_, rfl, _, rfl, pb, _, _, nI n, rfl, rfl, (eb.sm sm).sq, atI_nat ?_, q' _ _ (Same.refl _) rfl⟩
      rw [nIs_get, e, List.getD_eq_getElem?_getD, List.getElem?_eq_getElem hlt]
      rfl
    · refine ⟨D, zs, rfl, SqL.of hz, fun p o ho hp => q _ _ (sm.trans (same_new hp)) ⟨p, o, rfl, by rw [upd_same, RN.all pr], ho⟩⟩
def rTupIx (K : PySem.W.Frag) : V → List V → Hp → VK → Prop := fun x xs H Q => ∃ p, ∃ ys : List Int, ∃ z j, x = .ref p ∧ xs = [.int z] ∧ SqT K H p (ys.map V.int) ∧ ys[j]? = some z ∧ (∀ m, m < j → ys[m]? ≠ some z) ∧ Q (.int (j : Nat)) H
def spLawBack : Sp := fun vs H Q _ => ∃ (a : V) (t : List Nat) (n : Nat), vs = [a] ∧ TF H a t ∧ IsP n t ∧ n ≤ 1000 ∧ ∀ v H', Same H H' → TK H' v (inv t) → Q v H'
theorem sc_law_back : FnScope ["turn", "place"] ["turn"] (defScope s_law_back) := ⟨rfl, rfl, rfl, by decide +kernel, rfl, by decide +kernel, by decide +kernel⟩
theorem has_law_back (T : Top K mg "_law_back" s_law_back ["turn"]) (B : Bi mg) : Has P w K mg base CX0 1 "_law_back" ["turn"] spLawBack := by
  refine T.ok sc_law_back (fun vs H Q E h => ?_) (fun f cdv A outer s H vs Q E hr h => ?_)
  · obtain ⟨a, t, n, rfl, _⟩ := h
    rfl
  · obtain ⟨a, t, n, rfl, ⟨pa, o, rfl, ea, ho⟩, ht, hn, q⟩ := h
    refine ⟨_, pss_one (ps_ret (pe_tupleOf (by rfl) B.tuple (pe_lc (own := [("place", 1)]) (g := gName 1) (te := tBMF (rTupIx K) (tVar 0) (tCons (tVar 1) tNil)) (by rfl) sc_law_back.nd (pi_range1 (by rfl) B.range (pa_cons (pe_callB call_len_seq (by rfl) B.len PySem.boot_len (pa_cons (pv 0) pa_nil)) pa_nil)) (blkOk_by (own := [("place", 1)]) (N := ["turn", "place"]) (sc := defScope s_law_back) (by decide +kernel))
      (fun _ _ _ _ _ => pg_name (i := 1) sc_law_back.nd rfl (Or.inl rfl)) (fun _ _ _ _ _ => pts_nil) (fun _ _ _ _ _ => pe_bmF PySem.F.slot_tuple_index PySem.F.type_tuple_index mt_tup_indexI (pv 0) (pa_cons (pv 1) pa_nil))))), ?_⟩
    have hlen := ht.len
    refine ⟨_, rfl, pa, nIs t, rfl, .inr (RT.sq (.inr ⟨o, ea⟩)), ((nIs t).length : Int), rfl, by omega, by rw [nIs_len, hlen]; omega, fun D hD => lc_rangeM (n := ((nIs t).length : Int).toNat) RN (inv t) (fun _ _ _ _ _ r => r) (by rw [nIs_len]; omega) (by rw [inv_len, nIs_len]; omega) hD (fun x => rfl) (fun i m hi hm H' sm Q' q' => ?_) (fun H' zs sm hz pr => ?_)⟩
    · have hit : i < t.length := by rw [nIs_len] at hi; omega
      have hmem : i ∈ t := ht.mem.mpr (by omega)
      have em : m = t.idxOf i := by
        unfold inv at hm
        rw [List.getElem?_map, List.getElem?_range hit] at hm
        exact (Option.some.inj hm).symm
      have hil := List.idxOf_lt_length_of_mem hmem
      refine ⟨_, rfl, ⟨pa, o, _, rfl, sm _ _ ea, ho⟩, _, rfl, pa, iN t, (0 : Int) + (i : Int), m, rfl, rfl, by rw [show (iN t).map V.int = nIs t from (nIs_int t).symm]; exact RT.sq (.inr ⟨o, sm _ _ ea⟩), ?_, fun j hj e => ?_, q' _ _ (Same.refl _) rfl⟩
      · unfold iN
        rw [em, List.getElem?_map, List.getElem?_eq_getElem hil, List.getElem_idxOf, Int.zero_add]
        rfl
      · unfold iN at e
        rw [List.getElem?_map] at e
        obtain ⟨y, hy, ey⟩ := Option.map_eq_some_iff.mp e
        have ey : (y : Int) = 0 + (i : Int) := ey
        have eyi : y = i := by omega
        subst eyi
        have : j = t.idxOf y := nd_ix ht.nd hy (by rw [List.getElem?_eq_getElem hil, List.getElem_idxOf])
        omega
    · refine .inl ⟨D, zs, rfl, SqL.of hz, fun p hp => q _ _ (sm.trans (same_new hp)) (tn_of upd_same (RN.all pr))⟩
def spLawSwap : Sp := fun vs H Q _ => ∃ (a b : V) (x y : List Nat) (n : Nat), vs = [a, b] ∧ TF H a x ∧ TF H b y ∧ IsP n x ∧ IsP n y ∧ n ≤ 1000 ∧ ∀ v H', Same H H' → TK H' v (prod (prod x y) (prod (inv x) (inv y))) → Q v H'
theorem sc_law_swap : FnScope ["one", "other"] ["one", "other"] (defScope s_law_swap) := ⟨rfl, rfl, rfl, by decide +kernel, rfl, by decide +kernel, by decide +kernel⟩
theorem has_law_swap (T : Top K mg "_law_swap" s_law_swap ["one", "other"]) (hP : Has P w K mg base CX0 1 "_law_behind" ["one", "other"] spProd) (hB : Has P w K mg base CX0 1 "_law_back" ["turn"] spLawBack) : Has P w K mg base CX0 2 "_law_swap" ["one", "other"] spLawSwap := by
  refine T.ok sc_law_swap (fun vs H Q E h => ?_) (fun f cdv A outer s H vs Q E hr h => ?_)
  · obtain ⟨a, b, x, y, n, rfl, _⟩ := h
    rfl
  · obtain ⟨a, b, x, y, n, rfl, ha, hb, hx, hy, hn, q⟩ := h
    refine ⟨_, pss_one (ps_ret (pe_has hP hr (by rfl) (pa_cons (pe_has hP hr (by rfl) (pa_cons (pv 0) (pa_cons (pv 1) pa_nil))) (pa_cons (pe_has hP hr (by rfl) (pa_cons (pe_has hB hr (by rfl) (pa_cons (pv 0) pa_nil)) (pa_cons (pe_has hB hr (by rfl) (pa_cons (pv 1) pa_nil)) pa_nil))) pa_nil)))), ?_⟩
    refine ⟨_, rfl, _, rfl, pr_call ha.tn hb.tn hx hy hn fun u1 H1 s1 h1 => ?_⟩
    refine ⟨_, rfl, a, x, n, rfl, ha.tm (.of s1), hx, hn, fun u2 H2 s2 h2 => ?_⟩
    refine ⟨_, rfl, b, y, n, rfl, hb.tm (.of (s1.trans s2)), hy, hn, fun u3 H3 s3 h3 => ?_⟩
    refine pr_call (h2.tm (.of s3)).tn h3.tn hx.inv hy.inv hn fun u4 H4 s4 h4 => ?_
    exact pr_call (h1.tm (.of ((s2.trans s3).trans s4))).tn h4.tn (hx.prod hy) (hx.inv.prod hy.inv) hn fun u5 H5 s5 h5 => q u5 H5 ((((s1.trans s2).trans s3).trans s4).trans s5) h5
/-! ### _law_permutation -/
def spLawPerm (K : PySem.W.Frag) : Sp := fun vs H Q _ => ∃ (r sc : Addr) (ns : List Int) (n : Nat), vs = [.ref r, nI n] ∧ RowAt K H r sc ns ∧ n ≤ 1000 ∧ ∀ v H' t, IsP n t → StepR r H H' → RowAt K H' r sc ns → TK H' v t → Q v H'
theorem sc_law_permutation : FnScope ["row", "places", "left", "found", "turn"] ["row", "places"] (defScope s_law_permutation) := ⟨rfl, rfl, rfl, by decide +kernel, rfl, by decide +kernel, by decide +kernel⟩
theorem nIs_erase : ∀ (t : List Nat) (i : Nat), (nIs t).eraseIdx i = nIs (t.eraseIdx i)
  | [], _ => rfl
  | _ :: _, 0 => rfl
  | a :: t, i + 1 => by
    show nI a :: (nIs t).eraseIdx i = nI a :: nIs (t.eraseIdx i)
    rw [nIs_erase t i]
theorem erase_perm : ∀ (l : List Nat) (x : Nat) (h : x < l.length), (l[x] :: l.eraseIdx x).Perm l
  | [], x, h => absurd h (Nat.not_lt_zero x)
  | a :: l, 0, _ => List.Perm.refl _
  | a :: l, x + 1, h => (List.Perm.swap a (l[x]'(Nat.lt_of_succ_lt_succ h)) (l.eraseIdx x)).trans ((erase_perm l x (Nat.lt_of_succ_lt_succ h)).cons a)
theorem has_law_permutation (T : Top K mg "_law_permutation" s_law_permutation ["row", "places"]) (B : Bi mg) (hT : Has P w K mg base CX0 1 "_law_taken" ["row", "many"] (spTaken K)) : Has P w K mg base CX0 2 "_law_permutation" ["row", "places"] (spLawPerm K) := by
  refine T.ok sc_law_permutation (fun vs H Q E h => ?_) (fun f cdv A outer s H vs Q E hr h => ?_)
  · obtain ⟨r, sc, ns, n, rfl, _⟩ := h
    rfl
  · obtain ⟨r, sc, ns, n, rfl, ra, hn, q⟩ := h
    refine ⟨_, pss_cons (ps_par (i := 2) (j := 3) (by rfl) sc_law_permutation.nd rfl rfl (by decide) rfl rfl (pa_cons (pe_listRg (by rfl) (by rfl) B.list (prg_1 (by rfl) B.range (pv 1))) (pa_cons (pe_lst pa_nil) pa_nil)) (by rfl))
      (pss_cons (ps_for PassesOwn.never rfl (pi_range1 (by rfl) B.range (pa_cons (pv 1) pa_nil)) (pg_name (i := 4) sc_law_permutation.nd rfl (Or.inl rfl))
        (pss_one (ps_expr (pe_bm PySem.F.plainAttrs_list PySem.F.slot_list_append PySem.F.type_list_append mt_append (pv 3) (pa_cons
          (pe_bm PySem.F.plainAttrs_list PySem.F.slot_list_pop PySem.F.type_list_pop mt_popAt (pv 2) (pa_cons (pe_has hT hr (by rfl) (pa_cons (pv 0) (pa_cons (pe_callB call_len_seq (by rfl) B.len PySem.boot_len (pa_cons (pv 2) pa_nil)) pa_nil))) pa_nil)) pa_nil)))))
      (pss_one (ps_ret (pe_tupleOf (by rfl) B.tuple (pv 3))))), ?_⟩
    refine ⟨_, rfl, n, rfl, .of_le (by omega) (by omega) (by omega) (by omega), fun lf hlf => ?_⟩
    have s1 := same_new (o := .lst (rgV 0 n)) hlf
    refine ⟨Nat.zero_le _, fun fd hfd => ⟨_, _, rfl, ?_⟩⟩
    have s2 := s1.trans (same_new (o := .lst []) hfd)
    have hfd0 : H fd = none := s1.free hfd
    have hlfd : lf ≠ fd := fun z => by rw [← z, upd_same] at hfd; cases hfd
    refine ⟨_, rfl, (n : Int), rfl, by omega, by omega, for_range (lo := 0) (n := (n : Int).toNat) (fun i σ H' => ∃ (l f : List Nat) (y : Option V), σ = [some (.ref r), some (nI n), some (.ref lf), some (.ref fd), y] ∧ StepR r H H' ∧ RowAt K H' r sc ns ∧ H' lf = some (.lst (nIs l)) ∧ H' fd = some (.lst (nIs f)) ∧ (f ++ l).Perm (List.range n) ∧ f.length = i)
      ⟨List.range n, [], none, rfl, .of s2, ra.step s2, by rw [upd_ne hlfd, upd_same, rgV_nat], by rw [upd_same]; rfl, List.Perm.refl _, rfl⟩ ?_ ?_⟩
    · rintro i σ H' hi ⟨l, f, y, rfl, st, ra', hl, hf, pm, hfl⟩
      have hlen := pm.length_eq
      rw [List.length_append, List.length_range] at hlen
      have hl1 : 1 ≤ l.length := by omega
      refine ⟨_, rfl, .inl ⟨rfl, _, SqL.of hf⟩, _, rfl, .inl ⟨rfl, _, SqL.of hl⟩, _, rfl, _, rfl, lf, nIs l, rfl, .inl (SqL.of hl), r, sc, ns, l.length, by rw [nIs_len]; rfl, ra', hl1, by omega, fun x H2 hx st2 ra2 => ?_⟩
      have hlr : lf ≠ r := (ra.ne hlf).symm
      have hfr : fd ≠ r := (ra.ne hfd0).symm
      have hl2 := st2 _ _ hlr hl
      have hf2 := st2 _ _ hfr hf
      refine ⟨lf, nIs l, (x : Int), x, nI l[x], rfl, rfl, hl2, by omega, by omega, (ixN_seq (Evl.ixN_nat (by rw [nIs_len]; exact hx))).1, by rw [nIs_get, List.getElem?_eq_getElem hx]; rfl, ?_⟩
      have hf3 : (upd H2 lf (.lst ((nIs l).eraseIdx x))) fd = some (.lst (nIs f)) := by rw [upd_ne hlfd.symm]; exact hf2
      refine ⟨fd, nIs f, nI l[x], rfl, rfl, hf3, by rw [nIs_len, sizeLine_eq]; omega, ?_⟩
      refine ⟨l.eraseIdx x, f ++ [l[x]], _, rfl, ((st.trans st2).mut hlf).mut hfd0, RowAt.mut ra hfd0 (RowAt.mut ra hlf ra2), ?_, ?_, ?_, by rw [List.length_append, hfl]; rfl⟩
      · rw [upd_ne hlfd, upd_same, nIs_erase]
      · rw [upd_same]
        unfold nIs
        rw [List.map_append]
        rfl
      · rw [List.append_assoc]
        refine List.Perm.trans (List.Perm.append_left f ?_) pm
        exact erase_perm l x hx
    · rintro σ H' ⟨l, f, y, rfl, st, ra', hl, hf, pm, hfl⟩
      have hlen := pm.length_eq
      rw [List.length_append, List.length_range] at hlen
      have hl0 : l = [] := by
        cases l with
        | nil => rfl
        | cons a l => rw [List.length_cons] at hlen; omega
      subst hl0
      rw [List.append_nil] at pm
      refine ⟨_, rfl, .inl ⟨fd, nIs f, rfl, SqL.of hf, fun p hp => ?_⟩⟩
      have sp := same_new (o := .tup (nIs f)) hp
      exact q _ _ f pm (st.trans (.of sp)) (ra'.step sp) ⟨p, rfl, upd_same⟩
end
end Lt

set_option Elab.async false
set_option linter.all false
set_option maxRecDepth 100000
set_option maxHeartbeats 1000000
/-! k06: the law's helpers -/
namespace Lt
open PySem PySem.Spec PyProof.Rows L2
/-- a step: an input, a turn for no, a turn for yes -/
abbrev StepT := Nat × List Nat × List Nat
def StAt (H : Hp) (v : V) (s : StepT) : Prop := ∃ p x y, v = .ref p ∧ H p = some (.tup [nI s.1, x, y]) ∧ TN H x s.2.1 ∧ TN H y s.2.2
theorem StAt.tm {H H' : Hp} {v : V} {s : StepT} (e : Tm H H') (h : StAt H v s) : StAt H' v s := let ⟨p, x, y, h1, h2, h3, h4⟩ := h; ⟨p, x, y, h1, e.1 _ _ h2, h3.tm e, h4.tm e⟩
/-- what a row comes to on a row of bits -/
def stepV (bs : List Nat) (c : List Nat) (s : StepT) : List Nat := prod c (if bs.getD s.1 0 = 1 then s.2.2 else s.2.1)
def valS (n : Nat) (ss : List StepT) (bs : List Nat) : List Nat := ss.foldl (stepV bs) (List.range n)
structure StOk (n k : Nat) (s : StepT) : Prop where
  own : s.1 < k
  no : IsP n s.2.1
  yes : IsP n s.2.2
section
variable {P : Program} {w : World} {K : PySem.W.Frag} {mg : Str → Option Value} {base : Heap}
def spValue : Sp := fun vs H Q _ => ∃ (n k : Nat) (sv : V) (a b : Addr) (xs : List V) (ss : List StepT) (bs : List Nat), vs = [nI n, sv, .ref b] ∧ sv = .ref a ∧ H a = some (.tup xs) ∧ Paired (StAt H) xs ss ∧ (∀ s ∈ ss, StOk n k s) ∧ ss.length ≤ 1000 ∧ n ≤ 9 ∧ H b = some (.tup (nIs bs)) ∧ bs.length = k ∧ (∀ x ∈ bs, x ≤ 1) ∧
  ∀ r H', Same H H' → TK H' r (valS n ss bs) → Q r H'
theorem sc_law_value : FnScope ["places", "steps", "bits", "found", "step"] ["places", "steps", "bits"] (defScope s_law_value) := ⟨rfl, rfl, rfl, by decide +kernel, rfl, by decide +kernel, by decide +kernel⟩
theorem has_law_value (T : Top K mg "_law_value" s_law_value ["places", "steps", "bits"]) (B : Bi mg) (hB : Has P w K mg base CX0 1 "_law_behind" ["one", "other"] spProd) : Has P w K mg base CX0 2 "_law_value" ["places", "steps", "bits"] spValue := by
  refine T.ok sc_law_value (fun vs H Q E h => ?_) (fun f cdv A outer s H vs Q E hr h => ?_)
  · obtain ⟨n, k, sv, a, b, xs, ss, bs, rfl, _⟩ := h
    rfl
  · obtain ⟨n, k, sv, a, b, xs, ss, bs, rfl, rfl, ha, px, ok, hl, hn, hb, hbk, hb1, q⟩ := h
    have hr1 : Room 1 _ := hr.mono (by decide)
    refine ⟨_, pss_cons (ps_set (i := 3) sc_law_value.nd rfl (Or.inl rfl) (pe_tupRg (by rfl) (by rfl) B.tuple (prg_1 (by rfl) B.range (pv 0))))
      (pss_cons (ps_for PassesOwn.never rfl (pi_tup (pv 1)) (pg_name (i := 4) sc_law_value.nd rfl (Or.inl rfl))
        (pss_one (ps_set (i := 3) sc_law_value.nd rfl (Or.inl rfl) (pe_has hB hr1 (by rfl) (pa_cons (pv 3) (pa_cons (pe_ix ix_tup (pv 4) (pe_op op_add pe_int (pe_ix ix_tup (pv 2) (pe_ix ix_tup (pv 4) pe_int (fun _ _ => rfl)) (fun _ _ => rfl))) (fun _ _ => rfl)) pa_nil))))))
      (pss_one (ps_ret (pv 3)))), ?_⟩
    have lx := Paired.length px
    refine ⟨_, rfl, _, rfl, .of_le (by omega) (by omega) (by omega) (by omega), fun p0 hp0 => ?_⟩
    have s0 := same_new (o := .tup (rgV 0 (n : Int))) hp0
    have k0 : TK (upd H p0 (.tup (rgV 0 (n : Int)))) (.ref p0) (List.range n) := tn_of upd_same (rgV_nat n)
    refine ⟨_, rfl, a, rfl, ⟨xs, SqT.of (s0 _ _ ha)⟩, for_tup (K := K) (a := a) (xs := xs) (fun i σ H' => ∃ cur y4, σ = [some (nI n), some (.ref a), some (.ref b), some cur, y4] ∧ Same H H' ∧ TK H' cur (valS n (ss.take i) bs) ∧ IsP n (valS n (ss.take i) bs))
      ⟨.ref p0, none, rfl, s0, k0, .still n⟩ (fun i σ H' _ ⟨_, _, _, sm, _⟩ => SqT.of (sm _ _ ha)) ?_ ?_⟩
    · rintro i x σ H' hi ⟨cur, y4, rfl, sm, kc, ip⟩
      obtain ⟨s, hs, p, u, v, rfl, hp, hu, hv⟩ := Paired.getL px hi
      have so := ok s (List.mem_of_getElem? hs)
      have hbv : (nIs bs)[s.1]? = some (nI (bs.getD s.1 0)) := by
        rw [nIs_get, List.getElem?_eq_getElem (by have := so.own; omega), List.getD_eq_getElem?_getD, List.getElem?_eq_getElem (by have := so.own; omega)]
        rfl
      have hle : bs.getD s.1 0 ≤ 1 := by
        rw [List.getD_eq_getElem?_getD, List.getElem?_eq_getElem (by have := so.own; omega)]
        exact hb1 _ (List.getElem_mem _)
      have hx3 : ([nI s.1, u, v] : List V)[1 + bs.getD s.1 0]? = some (if bs.getD s.1 0 = 1 then v else u) := by
        have : bs.getD s.1 0 = 0 ∨ bs.getD s.1 0 = 1 := by omega
        rcases this with e | e <;> rw [e] <;> rfl
      have tz : TN H' (if bs.getD s.1 0 = 1 then v else u) (if bs.getD s.1 0 = 1 then s.2.2 else s.2.1) := by
        by_cases e : bs.getD s.1 0 = 1
        · rw [if_pos e, if_pos e]; exact hv.tm (.of sm)
        · rw [if_neg e, if_neg e]; exact hu.tm (.of sm)
      have iz : IsP n (if bs.getD s.1 0 = 1 then s.2.2 else s.2.1) := by
        by_cases e : bs.getD s.1 0 = 1
        · rw [if_pos e]; exact so.yes
        · rw [if_neg e]; exact so.no
      have e1 : (1 : Int) + ((bs.getD s.1 0 : Nat) : Int) = ((1 + bs.getD s.1 0 : Nat) : Int) := by omega
      refine ⟨_, rfl, _, rfl, _, rfl, _, rfl, p, _, 0, nI s.1, rfl, rfl, SqT.of (sm _ _ hp), rfl, b, _, ((s.1 : Nat) : Int), _, rfl, rfl, SqT.of (sm _ _ hb), atI_nat hbv, 1, ((bs.getD s.1 0 : Nat) : Int), rfl, rfl, p, _, _, _, rfl, rfl, SqT.of (sm _ _ hp), by rw [e1]; exact atI_nat hx3, ?_⟩
      refine ⟨cur, _, _, _, rfl, kc.tn, tz, fun j hj => by rw [iz.len]; exact ip.lt j hj, by rw [ip.len]; omega, fun r H2 s2 kr => ⟨_, _, rfl, sm.trans s2, ?_, ?_⟩⟩
      · rw [List.take_add_one, hs]
        unfold valS
        rw [List.foldl_append]
        exact kr
      · rw [List.take_add_one, hs]
        unfold valS
        rw [List.foldl_append]
        exact ip.prod iz
    · rintro σ H' ⟨cur, y4, rfl, sm, kc, ip⟩
      rw [lx, List.take_length] at kc
      exact ⟨_, rfl, q cur H' sm kc⟩
end
end Lt

set_option Elab.async false
set_option linter.all false
set_option maxRecDepth 100000
set_option maxHeartbeats 2000000
/-! rows.py: products -/
namespace Lt
open PySem PySem.Spec PyProof.Rows L2
abbrev prdN : List Str := ["made", "inputs", "row", "turns", "turn", "places", "leads", "reached", "own", "no", "yes", "chosen", "place", "before", "at"]
theorem sc_products : FnScope prdN ["made", "inputs", "row"] (defScope s_products) := ⟨rfl, rfl, rfl, by decide +kernel, rfl, by decide +kernel, by decide +kernel⟩
section
variable {P : Program} {w : World} {K : PySem.W.Frag} {mg : Str → Option Value} {base : Heap}
/-- a step whose turns may be keys -/
def StK (H : Hp) (v : V) (s : StepT) : Prop := ∃ p x y, v = .ref p ∧ H p = some (.tup [nI s.1, x, y]) ∧ TK H x s.2.1 ∧ TK H y s.2.2
theorem StK.tm {H H' : Hp} {v : V} {s : StepT} (e : Tm H H') (h : StK H v s) : StK H' v s := let ⟨p, x, y, h1, h2, h3, h4⟩ := h; ⟨p, x, y, h1, e.1 _ _ h2, h3.tm e, h4.tm e⟩
/-- what a row comes to at a place of a table -/
def valK (n : Nat) (ss : List StepT) (t : Nat) : List Nat := ss.foldl (fun c s => prod c (if t / 2 ^ s.1 % 2 = 1 then s.2.2 else s.2.1)) (List.range n)
def spProducts : Sp := fun vs H Q _ => ∃ (m ra : Addr) (L : List (List Nat × List Nat)) (n k : Nat) (xs : List V) (ss : List StepT), vs = [.ref m, nI k, .ref ra] ∧ DW H m L ∧ (∀ x ∈ L, IsP n x.1) ∧ 1 ≤ n ∧ n ≤ 9 ∧ L.length < 64 ∧ (L.map (·.1)).Nodup ∧ List.range n ∈ L.map (·.1) ∧ (∀ x ∈ L.map (·.1), ∀ y ∈ L.map (·.1), prod x y ∈ L.map (·.1)) ∧
  H ra = some (.tup xs) ∧ Paired (StK H) xs ss ∧ (∀ s ∈ ss, s.1 < k ∧ s.2.1 ∈ L.map (·.1) ∧ s.2.2 ∈ L.map (·.1)) ∧ ss.length ≤ 6000 ∧ 1 ≤ k ∧ k ≤ 6 ∧ ∀ r H', Same H H' → TTK H' r ((List.range (2 ^ k)).map (valK n ss)) → Q r H'
/-- where a turn leads all others, by their places -/
def ledL (ts : List (List Nat)) (t : List Nat) : List V := ts.map fun x => nI (ts.idxOf (prod x t))
/-- the dict of what is worked out -/
def LdOk (H : Hp) (ts : List (List Nat)) (lk : List (List Key × V)) : Prop := ∀ p ∈ lk, ∃ t la, p = (keyN t, V.ref la) ∧ t ∈ ts ∧ H la = some (.lst (ledL ts t))
theorem LdOk.get {H : Hp} {ts : List (List Nat)} {lk : List (List Key × V)} (h : LdOk H ts lk) {t : List Nat} {v : V} (e : valV lk (keyN t) = some v) : ∃ la, v = .ref la ∧ H la = some (.lst (ledL ts t)) := by
  unfold valV at e
  obtain ⟨p, hp, rfl⟩ := Option.map_eq_some_iff.mp e
  have h1 := List.find?_some hp
  have hm := List.mem_of_find?_eq_some hp
  obtain ⟨t', la, rfl, _, hl⟩ := h p hm
  have : keyN t' = keyN t := of_decide_eq_true h1
  rw [keyN_inj this] at hl
  exact ⟨la, rfl, hl⟩
theorem LdOk.same {H H' : Hp} {ts : List (List Nat)} {lk : List (List Key × V)} (h : LdOk H ts lk) (s : Same H H') : LdOk H' ts lk := fun p hp => let ⟨t, la, a, b, c⟩ := h p hp; ⟨t, la, a, b, s _ _ c⟩
theorem LdOk.put {H : Hp} {ts : List (List Nat)} {lk : List (List Key × V)} {ld : Addr} (h : LdOk H ts lk) (hd : H ld = some (.dT lk)) {t : List Nat} {la : Addr} (ht : t ∈ ts) (hl : H la = some (.lst (ledL ts t))) (hn : ∀ p ∈ lk, p.1 ≠ keyN t) : LdOk (upd H ld (.dT (putK lk (keyN t) (.ref la)))) ts (putK lk (keyN t) (.ref la)) := by
  rw [putK_app hn]
  intro p hp
  have ne : ∀ {a xs}, H a = some (.lst xs) → a ≠ ld := fun e z => by rw [z, hd] at e; cases e
  rcases List.mem_append.mp hp with hp | hp
  · obtain ⟨t', a', e1, e2, e3⟩ := h p hp
    exact ⟨t', a', e1, e2, (upd_ne (ne e3)).trans e3⟩
  · rw [List.mem_singleton.mp hp]
    exact ⟨t, la, rfl, ht, (upd_ne (ne hl)).trans hl⟩
theorem valV_no {κ : Type} [DecidableEq κ] {kvs : List (κ × V)} {k : κ} (h : valV kvs k = none) : ∀ p ∈ kvs, p.1 ≠ k := fun p hp e => by
  unfold valV at h
  have := List.find?_eq_none.mp (Option.map_eq_none_iff.mp h) p hp
  exact this (decide_eq_true e)
theorem val_places {ts : List (List Nat)} {y : List Nat} (nd : ts.Nodup) (h : y ∈ ts) : valV ((List.range ts.length).map fun i => (keyN (ts.getD i []), nI i)) (keyN y) = some (nI (ts.idxOf y)) := by
  have hi : ts.idxOf y < ts.length := List.idxOf_lt_length_of_mem h
  have e : ((List.range ts.length).map fun i => (keyN (ts.getD i []), nI i)).find? (fun kv => decide (kv.1 = keyN y)) = some (keyN (ts.getD (ts.idxOf y) []), nI (ts.idxOf y)) := by
    refine List.find?_eq_some_iff_getElem.mpr ⟨?_, ts.idxOf y, by rw [List.length_map, List.length_range]; exact hi, by rw [List.getElem_map, List.getElem_range], fun j hj => ?_⟩
    · rw [List.getD_eq_getElem?_getD, List.getElem?_eq_getElem hi, Option.getD_some, List.getElem_idxOf hi]
      exact decide_eq_true rfl
    · rw [List.getElem_map, List.getElem_range]
      have hjl : j < ts.length := by omega
      have hne : ts[j] ≠ y := fun z => by
        have := nd.idxOf_getElem j hjl
        rw [z] at this
        omega
      have : ¬ keyN (ts.getD j []) = keyN y := fun z => by
        have z := keyN_inj z
        rw [List.getD_eq_getElem?_getD, List.getElem?_eq_getElem hjl, Option.getD_some] at z
        exact hne z
      show (!decide (keyN (ts.getD j []) = keyN y)) = true
      rw [decide_eq_false this]
      rfl
  unfold valV
  rw [e]
  rfl
theorem has_products (T : Top K mg "products" s_products ["made", "inputs", "row"]) (B : Bi mg) (hP : Has P w K mg base CX0 1 "product_of" ["one", "other"] spProd) : Has P w K mg base CX0 3 "products" ["made", "inputs", "row"] spProducts := by
  refine T.ok sc_products (fun vs H Q E h => ?_) (fun f cdv A outer s H vs Q E hr h => ?_)
  · obtain ⟨m, ra, L, n, k, xs, ss, rfl, _⟩ := h
    rfl
  obtain ⟨m, ra, L, n, k, xs, ss, rfl, ⟨kvs, hk, pk⟩, hL, hn1, hn9, h64, hnd, hst, hcl, ha, px, ok, hss, hk1, hk6, q⟩ := h
  have hu := hr.units
  have hr1 : Room 1 (cxOf CX0 P w K mg base prdN "products" (defScope s_products) f cdv A outer s H E).nox.A := hr.mono (by decide)
  have hu1 : (cxOf CX0 P w K mg base prdN "products" (defScope s_products) f cdv A outer s H E).nox.A.units + 1 < cLine := by
    show (A.deeper _).units + 1 < cLine
    omega
  refine ⟨_, pss_cons (ps_set (i := 3) sc_products.nd rfl (Or.inr rfl) (pe_callB (cr_sortDT (d := n) (B := 9) (by rfl) hn1) (by rfl) B.sorted PyProof.Rows.boot_sorted (pa_cons (pv 0) pa_nil)))
    (pss_cons (ps_set (i := 5) sc_products.nd rfl (Or.inr rfl) (pe_dcT (own := [("place", 12), ("turn", 4)]) (g := gTup K 2 (gCons (gName 12) (gCons (gName 4) gNil))) (tk := tVar 4) (tv := tVar 12) hu1 (by rfl) sc_products.nd (pi_enum (by rfl) B.enumerate (pa_cons (pv 3) pa_nil)) (blkOk_by (own := [("place", 12), ("turn", 4)]) (N := prdN) (sc := defScope s_products) (by decide +kernel))
        (fun _ _ _ _ _ => pg_tup rfl (pgs_cons (pg_name (i := 12) sc_products.nd rfl (Or.inl rfl)) (pgs_cons (pg_name (i := 4) sc_products.nd rfl (Or.inl rfl)) pgs_nil))) (fun _ _ _ _ _ => pts_nil) (fun _ _ _ _ _ => pv 4) (fun _ _ _ _ _ => pv 12)))
    (pss_cons (ps_set (i := 6) sc_products.nd rfl (Or.inl rfl) pe_dnewT)
    (pss_cons (ps_set (i := 7) sc_products.nd rfl (Or.inl rfl) (pe_op op_rep (pe_lst (pa_cons pe_int pa_nil)) (pe_op op_shl pe_int (pv 1))))
    (pss_cons (ps_for PassesOwn.never rfl (pi_tup (pv 2)) (pg_tup rfl (pgs_cons (pg_name (i := 8) sc_products.nd rfl (Or.inr rfl)) (pgs_cons (pg_name (i := 9) sc_products.nd rfl (Or.inl rfl)) (pgs_cons (pg_name (i := 10) sc_products.nd rfl (Or.inl rfl)) pgs_nil))))
      (pss_cons (ps_for PassesOwn.never rfl (pi_tup (pe_tup (pa_cons (pv 9) (pa_cons (pv 10) pa_nil)))) (pg_name (i := 4) sc_products.nd rfl (Or.inr rfl))
        (pss_one (ps_if (pt_cmp (pc_dnotin hu1 (pv 4) (pv 6)))
          (pss_one (ps_dput hu1 (pv 6) (pv 4) (pe_lc (own := [("before", 13)]) (g := gName 13) (te := tDGet (tVar 5) (tCall spProd [] E0 (tCons (tVar 13) (tCons (tVar 4) tNil)))) (by rfl) sc_products.nd (pi_list (pv 3)) (blkOk_by (own := [("before", 13)]) (N := prdN) (sc := defScope s_products) (by decide +kernel))
            (fun _ _ _ _ _ => pg_name (i := 13) sc_products.nd rfl (Or.inl rfl)) (fun _ _ _ _ _ => pts_nil) (fun _ _ _ _ _ => pe_dget (by exact hu1) (pv 5) (pe_has hP hr1 (by rfl) (pa_cons (pv 13) (pa_cons (pv 4) pa_nil))) (fun _ _ => rfl))) rfl)) pss_nil)))
      (pss_cons (ps_set (i := 11) sc_products.nd rfl (Or.inr rfl) (pe_tup (pa_cons (pe_dget hu1 (pv 6) (pv 9) (fun _ _ => rfl)) (pa_cons (pe_dget hu1 (pv 6) (pv 10) (fun _ _ => rfl)) pa_nil))))
      (pss_one (ps_setLc (i := 7) (own := [("place", 12), ("at", 14)]) (g := gTup K 2 (gCons (gName 12) (gCons (gName 14) gNil))) (te := tOp (rIxL K) (tOp (rIxT K) (tVar 11) (tOp (fun x y H Q => ∃ (i : Int) (k : Nat), x = .int i ∧ y = .int (2 ^ k - 1) ∧ Q (.int (i % 2 ^ k)) H) (tOp (fun x y H Q => ∃ (i : Int) (k : Nat), x = .int i ∧ y = .int (k : Int) ∧ Q (.int (i / 2 ^ k)) H) (tVar 12) (tVar 8)) (tC (.int 1)))) (tVar 14)) (by rfl) sc_products.nd rfl rfl (sw_true rfl rfl rfl (by decide +kernel)) (pi_enum (by rfl) B.enumerate (pa_cons (pv 7) pa_nil)) (blkOk_by (own := [("place", 12), ("at", 14)]) (N := prdN) (sc := defScope s_products) (by decide +kernel))
        (fun _ _ _ _ _ => pg_tup rfl (pgs_cons (pg_name (i := 12) sc_products.nd rfl (Or.inl rfl)) (pgs_cons (pg_name (i := 14) sc_products.nd rfl (Or.inl rfl)) pgs_nil))) (fun _ _ _ _ _ => pts_nil) (fun _ _ _ _ _ => pe_ix ix_list (pe_ix ix_tup (pv 11) (pe_op op_andM (pe_op op_shrN (pv 12) (pv 8)) pe_int) (fun _ _ => rfl)) (pv 14) (fun _ _ => rfl)))))))
    (pss_one (ps_ret (pe_tupleOf (by rfl) B.tuple (pe_lc (own := [("at", 14)]) (g := gName 14) (te := tOp (rIxL K) (tVar 3) (tVar 14)) (by rfl) sc_products.nd (pi_list (pv 7)) (blkOk_by (own := [("at", 14)]) (N := prdN) (sc := defScope s_products) (by decide +kernel))
      (fun _ _ _ _ _ => pg_name (i := 14) sc_products.nd rfl (Or.inl rfl)) (fun _ _ _ _ _ => pts_nil) (fun _ _ _ _ _ => pe_ix ix_list (pv 3) (pv 14) (fun _ _ => rfl)))))))))), ?_⟩
  refine ⟨_, rfl, m, kvs, numL L, rfl, .inl hk, keysI pk, by rw [List.length_map]; exact h64, fun k hk => ?_, fun bs ks' tl pm so pr htl => ?_⟩
  · obtain ⟨x, hx, rfl⟩ := List.mem_map.mp hk
    exact ⟨by rw [List.length_map, (hL x hx).len], bd_iN (hL x hx) hn9⟩
  obtain ⟨ts, rfl⟩ := turns_back (L := L) fun k hk => pm.mem_iff.mp hk
  have pm2 : ts.Perm (L.map (·.1)) := perm_iN (by
    rw [List.map_map]
    exact pm)
  have hasc : Asc ts := (show ts.Pairwise fun x y => cd x ≤ cd y from (List.pairwise_map (f := iN) (R := fun x y => TS.code 9 x ≤ TS.code 9 y)).mp so)
  have tsP : ∀ t ∈ ts, IsP n t := fun t ht => by
    obtain ⟨x, hx, e⟩ := List.mem_map.mp (pm2.mem_iff.mp ht)
    rw [← e]
    exact hL x hx
  have tsnd : ts.Nodup := pm2.nodup_iff.mpr hnd
  have ts0 : ts[0]? = some (List.range n) := asc_head hn9 tsP hasc (pm2.mem_iff.mpr hst)
  have tsl : ts.length < 64 := by
    have := pm2.length_eq
    rw [List.length_map] at this
    omega
  have s1 := same_new (o := .lst (bs.map V.ref)) htl
  have kt : (upd H tl (.lst (bs.map V.ref))) tl = some (.lst (bs.map V.ref)) := upd_same
  have pt : Paired (TK (upd H tl (.lst (bs.map V.ref)))) (bs.map V.ref) ts := paired_mono (fun _ _ r => TK.tm (.of s1) r) (tns_of pr)
  have ltv := Paired.length pt
  generalize hgv : bs.map V.ref = tv at *
  generalize upd H tl (.lst tv) = H1 at *
  refine ⟨_, rfl, tl, tv, rfl, SqL.of kt, fun D hD => dcT_gen (J := Ite K tl) (n := tv.length) (fun i => keyN (ts.getD i [])) (fun i => nI i) (fun i j hi hj e => ?_) (by omega) hD (fun i H2 hi s2 => ⟨tv, _, SqL.of (s2 _ _ kt), List.getElem?_eq_getElem hi⟩) (fun H2 s2 => ⟨tv, SqL.of (s2 _ _ kt), Nat.le_refl _⟩) (fun i H2 x H3 hi s2 y => ?_) (fun H2 s2 hpl => ?_)⟩
  · have hi' : i < ts.length := by omega
    have hj' : j < ts.length := by omega
    have e := keyN_inj e
    rw [List.getD_eq_getElem?_getD, List.getD_eq_getElem?_getD, List.getElem?_eq_getElem hi', List.getElem?_eq_getElem hj'] at e
    exact List.getElem_inj tsnd |>.mp e
  · obtain ⟨T, x', rfl, hT, rfl, hx⟩ := y
    have hx := hx tv (SqL.of (s2 _ _ kt))
    obtain ⟨t, ht, b, rfl, hb⟩ := Paired.getL pt hx
    have et : ts.getD i [] = t := by rw [List.getD_eq_getElem?_getD, ht]; rfl
    rw [et]
    have sT := same_new (o := .tup [V.int (i : Nat), .ref b]) hT
    refine ⟨sT, _, fun Kk q => ⟨T, _, rfl, SqT.of upd_same, rfl, _, _, rfl, _, _, rfl, rfl, q⟩, rfl, fun H4 s4 Q q => ⟨_, rfl, q b _ (Same.refl _) ?_⟩, fun H4 s4 Q q => ⟨_, rfl, q _ (Same.refl _)⟩⟩
    show H4 b = some (.tup ((t.map fun n : Nat => (Sum.inl (Int.ofNat n) : Key)).map kV))
    rw [← nIs_key]
    exact s4 _ _ (sT _ _ (s2 _ _ hb))
  · refine fun ld hld => ?_
    have s3 := same_new (o := .dT []) hld
    refine ⟨by show 1 ≤ sizeLine; decide, fun l0 hl0 => ⟨_, rfl, 1, (k : Int), rfl, rfl, ⟨by omega, by omega, by decide⟩, ?_⟩⟩
    have e2 : (1 : Int) * 2 ^ (k : Int).toNat = ((2 ^ k : Nat) : Int) := by rw [Int.toNat_natCast, Int.one_mul, Int.natCast_pow]; rfl
    have h64k := pow6 hk6
    have s4 := same_new (o := .lst [V.int 0]) hl0
    show rRep (.ref l0) (.int ((1 : Int) * 2 ^ (k : Int).toNat)) _ _
    rw [e2]
    refine ⟨l0, ((2 ^ k : Nat) : Int), [V.int 0], rfl, rfl, upd_same, Int.le_trans (by decide) (Int.natCast_nonneg _), Int.lt_of_le_of_lt (Int.ofNat_le.mpr h64k) (by decide), (by rw [Int.toNat_natCast, sizeLine_eq]; show 1 * 2 ^ k ≤ _; omega), fun rl hrl => ?_⟩
    have s5 := same_new (o := .lst (List.replicate ((2 ^ k : Nat) : Int).toNat [V.int 0]).flatten) hrl
    have s35 := s3.trans (s4.trans s5)
    have hld5 := (s4.trans s5) _ _ (upd_same (H := H2) (a := ld) (o := HO.dT []))
    have s05 := s1.trans (s2.trans s35)
    have hld0 := hld
    refine ⟨_, rfl, ra, rfl, ⟨xs, SqT.of (s05 _ _ ha)⟩, for_tup (K := K) (a := ra) (xs := xs) (fun i σ H' => ∃ rl' lk y4 y8 y9 y10 y11, σ = [some (.ref m), some (nI k), some (.ref ra), some (.ref tl), y4, some (.ref D), some (.ref ld), some (.ref rl'), y8, y9, y10, y11, none, none, none] ∧ Same H2 H' ∧ H' ld = some (.dT lk) ∧ LdOk H' ts lk ∧ lk.length ≤ 2 * i ∧ H' rl' = some (.lst ((List.range (2 ^ k)).map fun p => nI (ts.idxOf (valK n (ss.take i) p)))) ∧ ∀ p, valK n (ss.take i) p ∈ ts)
      ⟨rl, [], none, none, none, none, none, rfl, s35, hld5, (fun p hp => by cases hp), Nat.zero_le _, ?_, fun p => pm2.mem_iff.mpr hst⟩ (fun i σ H' _ ⟨_, _, _, _, _, _, _, _, sm, _⟩ => SqT.of ((s1.trans (s2.trans sm)) _ _ ha)) ?_ ?_⟩
    · rw [upd_same, Int.toNat_natCast, rep_zero]
      congr 1
      congr 1
      have e0 : ts.idxOf (List.range n) = 0 := by
        cases ts with
        | nil => cases ts0
        | cons a r =>
          cases Option.some.inj ts0
          exact List.idxOf_cons_self
      have : (fun p => nI (ts.idxOf (valK n (ss.take 0) p))) = fun _ => nI 0 := by
        funext p
        show nI (ts.idxOf (List.range n)) = _
        rw [e0]
      rw [this, List.map_const', List.length_range]
      unfold nIs
      rw [List.map_replicate]
    · rintro i x σ H' hi ⟨rl', lk, y4, y8, y9, y10, y11, rfl, sm, hldT, lok, lkl, hrl', hmem⟩
      obtain ⟨st, hst', p, u, v, rfl, hp, hu', hv'⟩ := Paired.getL px hi
      have so := ok st (List.mem_of_getElem? hst')
      have s0H := s1.trans (s2.trans sm)
      refine ⟨p, _, rfl, SqT.of (s0H _ _ hp), rfl, nI st.1, _, rfl, u, _, rfl, v, _, rfl, rfl, ?_⟩
      refine ⟨_, rfl, _, rfl, by show 2 ≤ sizeLine; decide, fun gl hgl => ⟨gl, rfl, ⟨_, SqT.of upd_same⟩, ?_⟩⟩
      have sg := same_new (o := .tup [u, v]) hgl
      have kg : (upd H' gl (.tup [u, v])) gl = some (.tup [u, v]) := upd_same
      have smg := sm.trans sg
      have hldg := sg _ _ hldT
      have lokg := lok.same sg
      have hrlg := sg _ _ hrl'
      have hl1 : ld ≠ rl' := ne_of hldT hrl' (fun z => nomatch z)
      have hlk : ∀ t ∈ [st.2.1, st.2.2], t ∈ ts := fun t ht => by
        rcases List.mem_cons.mp ht with rfl | ht
        · exact pm2.mem_iff.mpr so.2.1
        · rw [List.mem_singleton.mp ht]
          exact pm2.mem_iff.mpr so.2.2
      generalize upd H' gl (.tup [u, v]) = Hg at *
      refine for_tup (K := K) (a := gl) (xs := [u, v]) (fun j σ H3 => ∃ lk3 z4, σ = [some (.ref m), some (nI k), some (.ref ra), some (.ref tl), z4, some (.ref D), some (.ref ld), some (.ref rl'), some (nI st.1), some u, some v, y11, none, none, none] ∧ Same H2 H3 ∧ Tm Hg H3 ∧ H3 gl = some (.tup [u, v]) ∧ H3 ld = some (.dT lk3) ∧ LdOk H3 ts lk3 ∧ lk3.length ≤ 2 * i + j ∧ H3 rl' = some (.lst ((List.range (2 ^ k)).map fun p => nI (ts.idxOf (valK n (ss.take i) p)))) ∧ ∀ j', j' < j → ∀ t, [st.2.1, st.2.2][j']? = some t → (valV lk3 (keyN t)).isSome = true)
        ⟨lk, y4, rfl, smg, Tm.refl _, kg, hldg, lokg, lkl, hrlg, fun j' h => absurd h (Nat.not_lt_zero j')⟩ (fun j σ H3 _ ⟨_, _, _, _, _, kg3, _⟩ => SqT.of kg3) ?_ ?_
      · rintro j x σ H3 hj ⟨lk3, z4, rfl, sm3, tm3, kg3, hld3, lok3, lkl3, hrl3, pre⟩
        obtain ⟨t, ht, htx⟩ : ∃ t, [st.2.1, st.2.2][j]? = some t ∧ TK Hg x t := by
          match j, hj with
          | 0, hj => cases Option.some.inj hj; exact ⟨_, rfl, hu'.tm (.of (s0H.trans sg))⟩
          | 1, hj => cases Option.some.inj hj; exact ⟨_, rfl, hv'.tm (.of (s0H.trans sg))⟩
        have htt := hlk t (List.mem_of_getElem? ht)
        have htx3 := htx.tm tm3
        obtain ⟨b, rfl, hb⟩ := htx3.key
        refine ⟨_, rfl, _, rfl, ld, _, rfl, DGet.t hld3 hb, _, rfl, ?_⟩
        have fin : ∀ {lk4 : List (List Key × V)} {j' : Nat}, (∀ t', (valV lk3 (keyN t')).isSome = true → (valV lk4 (keyN t')).isSome = true) → (valV lk4 (keyN t)).isSome = true → j' < j + 1 → ∀ t', [st.2.1, st.2.2][j']? = some t' → (valV lk4 (keyN t')).isSome = true := fun h1 h2 h3 t' ht' => by
          rcases Nat.lt_succ_iff_lt_or_eq.mp h3 with h | rfl
          · exact h1 t' (pre _ h t' ht')
          · rw [ht] at ht'
            cases ht'
            exact h2
        by_cases hin : (valV lk3 (keyN t)).isSome = true
        · rw [hin]
          exact iteF ⟨lk3, _, rfl, sm3, tm3, kg3, hld3, lok3, by omega, hrl3, fun j' h => fin (fun _ h => h) hin h⟩
        · have hno : valV lk3 (keyN t) = none := by
            cases e : valV lk3 (keyN t) with
            | none => rfl
            | some z => rw [e] at hin; exact absurd rfl hin
          have hf : (valV lk3 (keyN t)).isSome = false := by rw [hno]; rfl
          rw [hf]
          refine iteT ?_
          have htP := tsP t htt
          have j2 : j < 2 := (List.getElem?_eq_some_iff.mp hj).1
          have i6 : i < 6000 := by
            have := (List.getElem?_eq_some_iff.mp hi).1
            have := Paired.length px
            omega
          have ktl3 := (s2.trans sm3) _ _ kt
          have ptl3 : Paired (TK H3) tv ts := paired_mono (fun _ _ r => TK.tm (.of (s2.trans sm3)) r) pt
          refine ⟨_, rfl, tl, rfl, ⟨_, SqL.of ktl3⟩, fun D2 hD2 => lc_listM (K := K) (j := 13) (xs := tv) RN (ts.map fun x => ts.idxOf (prod x t)) (fun _ _ _ _ _ r => r) (fun H4 s4 => SqL.of (s4 _ _ ktl3)) (by omega) (by rw [List.length_map, ltv]) hD2 (fun x => rfl) (fun p' x' b' hx' hb' H4 s4 Q4 q4 => ?_) (fun H4 zs s4 hz pz => ?_)⟩
          · obtain ⟨y, hy, rx⟩ := Paired.getL ptl3 hx'
            rw [List.getElem?_map, hy] at hb'
            have hb' := (Option.some.inj hb').symm
            subst hb'
            have hyt := List.mem_of_getElem? hy
            have hpt : prod y t ∈ ts := pm2.mem_iff.mpr (hcl y (pm2.mem_iff.mp hyt) t (pm2.mem_iff.mp htt))
            have s24 := sm3.trans s4
            refine ⟨_, rfl, _, rfl, _, rfl, pr_call (rx.tm (.of s4)).tn (htx3.tm (.of s4)).tn (tsP y hyt) htP (by omega) fun w' H5 s5 hw' => ?_⟩
            obtain ⟨b5, rfl, hb5⟩ := hw'.key
            refine ⟨D, nI (ts.idxOf (prod y t)), rfl, ?_, q4 _ _ s5 rfl⟩
            have e := val_places tsnd hpt
            rw [← ltv] at e
            rw [← e]
            exact DGet.t ((s24.trans s5) _ _ hpl) hb5
          · have hz' : H4 D2 = some (.lst (ledL ts t)) := by
              rw [hz, RN.all pz]
              unfold nIs ledL
              rw [List.map_map]
              rfl
            have hld4 := s4 _ _ hld3
            have hb4 := s4 _ _ hb
            have hn := valV_no hno
            have tmd : Tm H4 (upd H4 ld (.dT (putK lk3 (keyN t) (.ref D2)))) := Tm.dT hld4
            refine ⟨_, rfl, _, rfl, ld, _, rfl, DPut.t hld4 hb4 (by rw [sizeLine_eq]; omega), ?_⟩
            refine ⟨putK lk3 (keyN t) (.ref D2), _, rfl, same_mut (sm3.trans s4) hld0, tm3.trans ((Tm.of s4).trans tmd), tmd.1 _ _ (s4 _ _ kg3), upd_same, (lok3.same s4).put hld4 htt hz' hn, ?_, ?_, fun j' h => fin (fun t' h' => ?_) ?_ h⟩
            · rw [putK_app hn, List.length_append]
              show lk3.length + 1 ≤ _
              omega
            · rw [upd_ne (ne_of (s4 _ _ hrl3) hld4 (fun z => nomatch z))]
              exact s4 _ _ hrl3
            · rw [putK_app hn]
              unfold valV at h' ⊢
              rw [List.find?_append]
              cases e : lk3.find? (fun kv => decide (kv.1 = keyN t')) with
              | none => rw [e] at h'; cases h'
              | some z => rfl
            · rw [putK_app hn]
              have e : lk3.find? (fun kv => decide (kv.1 = keyN t)) = none := Option.map_eq_none_iff.mp hno
              unfold valV
              rw [List.find?_append, e]
              show ((List.find? (fun kv => decide (kv.1 = keyN t)) [(keyN t, V.ref D2)]).map (·.2)).isSome = true
              rw [List.find?_cons_of_pos (by exact decide_eq_true rfl)]
              rfl
      · rintro σ H3 ⟨lk3, z4, rfl, sm3, tm3, kg3, hld3, lok3, lkl3, hrl3, pre⟩
        have g0 := pre 0 (show 0 < 2 by decide) _ rfl
        have g1 := pre 1 (show 1 < 2 by decide) _ rfl
        obtain ⟨v0, e0⟩ := Option.isSome_iff_exists.mp g0
        obtain ⟨v1, e1⟩ := Option.isSome_iff_exists.mp g1
        obtain ⟨l0, rfl, hl0⟩ := lok3.get e0
        obtain ⟨l1, rfl, hl1'⟩ := lok3.get e1
        obtain ⟨bu, rfl, hbu⟩ := ((hu'.tm (.of (s0H.trans sg))).tm tm3).key
        obtain ⟨bv, rfl, hbv⟩ := ((hv'.tm (.of (s0H.trans sg))).tm tm3).key
        refine ⟨_, rfl, _, rfl, ld, .ref l0, rfl, by rw [← e0]; exact DGet.t hld3 hbu, _, rfl, _, rfl, ld, .ref l1, rfl, by rw [← e1]; exact DGet.t hld3 hbv, by show 2 ≤ sizeLine; decide, fun c hc => ?_⟩
        have sc := same_new (o := .tup [V.ref l0, .ref l1]) hc
        have kc : (upd H3 c (.tup [V.ref l0, .ref l1])) c = some (.tup [V.ref l0, .ref l1]) := upd_same
        have hrc := sc _ _ hrl3
        have hl0c := sc _ _ hl0
        have hl1c := sc _ _ hl1'
        have hldc := sc _ _ hld3
        have lokc := lok3.same sc
        have smc := sm3.trans sc
        generalize upd H3 c (.tup [V.ref l0, .ref l1]) = Hc at *
        refine ⟨_, rfl, rl', _, rfl, SqL.of hrc, fun D3 hD3 => lc_genF (J := Ite K rl') (n := 2 ^ k) RN (fun _ => true) (fun p => ts.idxOf (valK n (ss.take (i + 1)) p)) (fun _ _ _ _ _ r => r) (by have := pow6 hk6; omega) hD3 (fun p H4 hp s4 => ⟨_, nI (ts.idxOf (valK n (ss.take i) p)), SqL.of (s4 _ _ hrc), by rw [List.getElem?_map, List.getElem?_range hp]; rfl⟩) (fun H4 s4 => ⟨_, SqL.of (s4 _ _ hrc), by rw [List.length_map, List.length_range]; exact Nat.le_refl _⟩) (fun p H4 x' H5 hp s4 y => ?_) (fun H4 zs s4 hz pz => ?_)⟩
        · obtain ⟨T, x'', rfl, hT, rfl, hx''⟩ := y
          have hx'' := hx'' _ (SqL.of (s4 _ _ hrc))
          rw [List.getElem?_map, List.getElem?_range hp] at hx''
          have hx'' := (Option.some.inj hx'').symm
          subst hx''
          have sT := same_new (o := .tup [V.int (p : Nat), nI (ts.idxOf (valK n (ss.take i) p))]) hT
          refine ⟨sT, _, fun Kk q => ⟨T, _, rfl, SqT.of upd_same, rfl, _, _, rfl, _, _, rfl, rfl, q⟩, rfl, fun Q q => q _ (Same.refl _), fun _ H6 s6 Q q => ?_⟩
          have s46 := s4.trans (sT.trans s6)
          have hc6 := s46 _ _ kc
          have hm : valK n (ss.take i) p ∈ ts := hmem p
          have hil : ts.idxOf (valK n (ss.take i) p) < ts.length := List.idxOf_lt_length_of_mem hm
          have hit : ts[ts.idxOf (valK n (ss.take i) p)]? = some (valK n (ss.take i) p) := by
            rw [List.getElem?_eq_getElem hil, List.getElem_idxOf hil]
          have hnx : valK n (ss.take (i + 1)) p = prod (valK n (ss.take i) p) (if p / 2 ^ st.1 % 2 = 1 then st.2.2 else st.2.1) := by
            rw [List.take_add_one, hst']
            unfold valK
            rw [List.foldl_append]
            rfl
          have led : ∀ t, (ledL ts t)[ts.idxOf (valK n (ss.take i) p)]? = some (nI (ts.idxOf (prod (valK n (ss.take i) p) t))) := fun t => by
            unfold ledL
            rw [List.getElem?_map, hit]
            rfl
          have ebit : ((p : Nat) : Int) / 2 ^ st.1 % 2 ^ 1 = ((p / 2 ^ st.1 % 2 : Nat) : Int) := by
            rw [Int.natCast_emod, Int.natCast_ediv, Int.natCast_pow]
            rfl
          refine ⟨_, rfl, _, rfl, _, rfl, ((p : Nat) : Int), st.1, rfl, rfl, ((p : Nat) : Int) / 2 ^ st.1, 1, rfl, rfl, ?_⟩
          rw [ebit]
          by_cases hb : p / 2 ^ st.1 % 2 = 1
          · rw [hb]
            rw [if_pos hb] at hnx
            refine ⟨c, _, _, .ref l1, rfl, rfl, SqT.of hc6, rfl, _, rfl, l1, _, _, _, rfl, rfl, SqL.of (s46 _ _ hl1c), atI_nat (led _), q _ _ (Same.refl _) ?_⟩
            rw [hnx]
            rfl
          · have hb0 : p / 2 ^ st.1 % 2 = 0 := by omega
            rw [hb0]
            rw [if_neg hb] at hnx
            refine ⟨c, _, _, .ref l0, rfl, rfl, SqT.of hc6, rfl, _, rfl, l0, _, _, _, rfl, rfl, SqL.of (s46 _ _ hl0c), atI_nat (led _), q _ _ (Same.refl _) ?_⟩
            rw [hnx]
            rfl
        · have hfl : (List.range (2 ^ k)).filter (fun _ => true) = List.range (2 ^ k) := List.filter_eq_self.mpr fun _ _ => rfl
          rw [hfl] at pz
          refine ⟨D3, lk3, _, _, _, _, _, rfl, smc.trans s4, s4 _ _ hldc, lokc.same s4, ?_, ?_, fun p => ?_⟩
          · have : [V.ref bu, V.ref bv].length = 2 := rfl
            omega
          · rw [hz, RN.all pz]
            unfold nIs
            rw [List.map_map]
            rfl
          · rw [List.take_add_one, hst']
            unfold valK
            rw [List.foldl_append]
            have := hmem p
            refine pm2.mem_iff.mpr (hcl _ (pm2.mem_iff.mp this) _ ?_)
            split
            · exact so.2.2
            · exact so.2.1
    · rintro σ H' ⟨rl', lk, y4, y8, y9, y10, y11, rfl, sm, hld, lok, _, hrl', hmem⟩
      have lx := Paired.length px
      rw [lx, List.take_length] at hrl' hmem
      have s0H := s1.trans (s2.trans sm)
      have ktl := (s2.trans sm) _ _ kt
      have ptl : Paired (TK H') tv ts := paired_mono (fun _ _ r => TK.tm (.of (s2.trans sm)) r) pt
      refine ⟨_, rfl, rl', rfl, ⟨_, SqL.of hrl'⟩, fun D2 hD2 => lc_listM (K := K) (j := 14) (xs := (List.range (2 ^ k)).map fun p => nI (ts.idxOf (valK n ss p))) (fun H v t => TK H v t) ((List.range (2 ^ k)).map (valK n ss)) (fun _ _ _ _ e r => TK.tm e r) (fun H4 s4 => SqL.of (s4 _ _ hrl')) (by rw [List.length_map, List.length_range]; omega) (by rw [List.length_map, List.length_map]) hD2 (fun x => rfl) (fun p x b hx hb H4 s4 Q4 q4 => ?_) (fun H4 zs s4 hz pz => ?_)⟩
      · rw [List.getElem?_map] at hx hb
        obtain ⟨p', hp', rfl⟩ := Option.map_eq_some_iff.mp hx
        rw [hp'] at hb
        have hb := (Option.some.inj hb).symm
        subst hb
        have hi : ts.idxOf (valK n ss p') < ts.length := List.idxOf_lt_length_of_mem (hmem p')
        have hit : ts[ts.idxOf (valK n ss p')]? = some (valK n ss p') := by
          rw [List.getElem?_eq_getElem hi, List.getElem_idxOf hi]
        obtain ⟨v, hv⟩ : ∃ v, tv[ts.idxOf (valK n ss p')]? = some v := ⟨_, List.getElem?_eq_getElem (by omega)⟩
        obtain ⟨t, ht, rt⟩ := Paired.getL ptl hv
        rw [hit] at ht
        cases ht
        exact ⟨_, rfl, _, rfl, tl, tv, _, v, rfl, rfl, SqL.of (s4 _ _ ktl), atI_nat hv, q4 _ _ (Same.refl _) (rt.tm (.of s4))⟩
      · exact .inl ⟨D2, zs, rfl, SqL.of hz, fun p hp => q _ _ ((s0H.trans s4).trans (same_new hp)) ⟨p, zs, rfl, upd_same, paired_mono (fun _ _ r => TK.tm (.of (same_new hp)) r) pz⟩⟩
end
end Lt

set_option Elab.async false
set_option linter.all false
set_option maxRecDepth 100000
set_option maxHeartbeats 4000000
/-! sorted of data that are alike, any length -/
namespace Lt
open PySem PySem.Spec PyProof.Rows L2
open PySem.W (EachIs AllAlike Sortable dataLe)
section
variable {X : Cx}
end
end Lt

set_option Elab.async false
set_option linter.all false
set_option maxRecDepth 100000
set_option maxHeartbeats 4000000
/-! sorted(xs, key=lambda x: (len(x[0]), x[0])), x[0] a tuple of numbers -/
namespace Lt
open PySem PySem.Spec PyProof.Rows L2 NdefX LamX LmX
open PySem.W (EachIs AllAlike Sortable dataLe KeyPure)
section
variable {X : Cx} {pins : List (Addr × Obj)} {σ : L2.St} {H : Hp} {s : Shared}
end
section
variable {X : Cx}
end
end Lt

set_option Elab.async false
set_option linter.all false
set_option maxRecDepth 100000
set_option maxHeartbeats 2000000
/-! zip of a list and a tuple; max(xs, default=None) -/
namespace Lt
open PySem PySem.Spec PyProof.Rows L2
/-! ### max(xs, default=None) -/
end Lt

set_option Elab.async false
set_option linter.all false
set_option maxRecDepth 100000
set_option maxHeartbeats 1000000
/-! the order of a polynomial's parts -/
namespace Lt
open PySem PySem.Spec PyProof.Rows L2 PySem.W
def kcL : List Nat := [0, 1, 2, 7, 3, 8, 12, 22, 4, 9, 13, 23, 16, 26, 32, 42, 5, 10, 14, 24, 17, 27, 33, 43, 19, 29, 35, 45, 38, 48, 52, 57, 6, 11, 15, 25, 18, 28, 34, 44, 20, 30, 36, 46, 39, 49, 53, 58, 21, 31, 37, 47, 40, 50, 54, 59, 41, 51, 55, 60, 56, 61, 62, 63]
def kc (t : Nat) : Nat := kcL.getD t 0
end Lt

set_option Elab.async false
set_option linter.all false
set_option maxRecDepth 100000
set_option maxHeartbeats 1000000
/-! the factors of a polynomial: differences, one input after the other, and sums over what lies within -/
namespace Lt
open PySem PySem.Spec PyProof.Rows L2
/-! ### the law's sum -/
end Lt

set_option Elab.async false
set_option linter.all false
set_option maxRecDepth 100000
set_option maxHeartbeats 1000000
/-! tasks.py: inputs_of, part_of, factors_of -/
namespace Lt
open PySem PySem.Spec PyProof.Rows L2
/-- the numbers of a table, by place -/
def fT (bs : List Nat) (t : Nat) : Int := ((bs.getD t 0 : Nat) : Int)
section
variable {P : Program} {w : World} {K : PySem.W.Frag} {mg : Str → Option Value} {base : Heap}
end
end Lt

set_option Elab.async false
set_option linter.all false
set_option maxRecDepth 100000
set_option maxHeartbeats 2000000
/-! a tuple once: t * 1 -/
namespace Lt
open PySem PySem.Spec PyProof.Rows L2
end Lt

set_option Elab.async false
set_option linter.all false
set_option maxRecDepth 100000
set_option maxHeartbeats 2000000
/-! tasks.py: polynomial, degree, all_of -/
namespace Lt
open PySem PySem.Spec PyProof.Rows L2
section
variable {P : Program} {w : World} {K : PySem.W.Frag} {mg : Str → Option Value} {base : Heap} {CN CT : Addr}
abbrev rLenS (K : PySem.W.Frag) : List V → Hp → VK → Prop := fun xs H Q => ∃ p ys, xs = [V.ref p] ∧ (SqL K H p ys ∨ SqT K H p ys) ∧ Q (.int ys.length) H
end
end Lt

set_option Elab.async false
set_option linter.all false
set_option maxRecDepth 100000
set_option maxHeartbeats 2000000
/-! rows.py: worths, written, writes -/
namespace Lt
open PySem PySem.Spec PyProof.Rows L2
def dS (s : StepT) : PyData := .tuple [dN s.1, dT s.2.1, dT s.2.2]
theorem StK.rp {H : Hp} {v : V} {s : StepT} (h : StK H v s) : Rp H v (dS s) := by
  obtain ⟨p, x, y, rfl, hp, hx, hy⟩ := h
  exact .tup (.inl hp) (.cons (.int _) (.cons hx.tn.rp (.cons hy.tn.rp .nil)))
theorem StKs.rp {H : Hp} : ∀ {xs : List V} {ss : List StepT}, Paired (StK H) xs ss → RpAll H xs (ss.map dS)
  | _, _, .nil => .nil
  | _, _, .cons r t => .cons r.rp (StKs.rp t)
/-- a row's tuple, whose turns may be keys -/
def RwK (H : Hp) (v : V) (ss : List StepT) : Prop := ∃ a xs, v = .ref a ∧ H a = some (.tup xs) ∧ Paired (StK H) xs ss
theorem RwK.tm {H H' : Hp} {v : V} {ss : List StepT} (e : Tm H H') (h : RwK H v ss) : RwK H' v ss := let ⟨a, xs, h1, h2, h3⟩ := h; ⟨a, xs, h1, e.1 _ _ h2, paired_mono (fun _ _ r => StK.tm e r) h3⟩
theorem RwK.rp {H : Hp} {v : V} {ss : List StepT} (h : RwK H v ss) : Rp H v (.tuple (ss.map dS)) := by
  obtain ⟨a, xs, rfl, ha, hx⟩ := h
  exact .tup (.inl ha) (StKs.rp hx)
theorem lenT {t : List Nat} {m : Nat} (h : t.length ≤ m) : ∀ ds, dT t = .tuple ds → ds.length ≤ m := fun ds e => by
  injection e with e
  subst e
  rw [List.length_map]
  exact h
theorem sml3_S {n : Nat} {s : StepT} (h1 : s.2.1.length ≤ 1000) (h2 : s.2.2.length ≤ 1000) : Sml3 (dS s) := fun ds e => by
  injection e with e
  subst e
  refine ⟨by show 3 ≤ 1000; decide, fun e he es ee => ?_⟩
  simp only [List.mem_cons, List.not_mem_nil, or_false] at he
  rcases he with rfl | rfl | rfl
  · cases ee
  · exact lenT h1 _ ee
  · exact lenT h2 _ ee
theorem stepD_S (L : List (List Nat × List Nat)) (k : Nat) (s : StepT) : stepD L k (dS s) = (decide (s.1 < k) && decide (s.2.1 ∈ L.map (·.1)) && decide (s.2.2 ∈ L.map (·.1))) := by
  show (ownD k (.int (s.1 : Int)) && isTurnD L (dT s.2.1) && isTurnD L (dT s.2.2)) = _
  rw [isTurnD_dT, isTurnD_dT]
  congr 2
  show (decide ((0 : Int) ≤ (s.1 : Int)) && decide ((s.1 : Int) < (k : Int))) = _
  rw [decide_eq_true (Int.natCast_nonneg _), Bool.true_and]
  exact decide_eq_decide.mpr Int.ofNat_lt
/-- a row of a lock for so many inputs -/
structure RowOk (ls : List (List Nat)) (n k : Nat) (ss : List StepT) : Prop where
  ok : ∀ s ∈ ss, s.1 < k ∧ Mk ls n s.2.1 ∧ Mk ls n s.2.2
  len : ss.length ≤ 6000
theorem RowOk.step {ls : List (List Nat)} {n k : Nat} {ss : List StepT} {H : Hp} {v : V} (h : RowOk ls n k ss) (g : Good H v ls n) : ∀ e ∈ ss.map dS, stepD (LL ls n) k e = true := fun e he => by
  obtain ⟨s, hs, rfl⟩ := List.mem_map.mp he
  obtain ⟨h1, h2, h3⟩ := h.ok s hs
  rw [stepD_S, decide_eq_true h1, decide_eq_true ((g.mem _).mpr h2), decide_eq_true ((g.mem _).mpr h3)]
  rfl
theorem RowOk.sml {ls : List (List Nat)} {n k : Nat} {ss : List StepT} {H : Hp} {v : V} (h : RowOk ls n k ss) (g : Good H v ls n) : ∀ e ∈ ss.map dS, Sml3 e := fun e he => by
  obtain ⟨s, hs, rfl⟩ := List.mem_map.mp he
  obtain ⟨_, h2, h3⟩ := h.ok s hs
  have := g.gl.2.2.2.1
  exact sml3_S (n := n) (by rw [(g.isP h2).len]; omega) (by rw [(g.isP h3).len]; omega)
section
variable {P : Program} {w : World} {K : PySem.W.Frag} {mg : Str → Option Value} {base : Heap} {CL CM CT CN CR CK : Addr}
/-- the argument row: what is none, or a row of which q -/
def RowIn (CR : Addr) (H : Hp) (E : XK) (rv : V) (ls : List (List Nat)) (n k : Nat) (q : List StepT → Prop) : Prop :=
  (∃ ss, RwK H rv ss ∧ RowOk ls n k ss ∧ q ss) ∨
  ∃ pre e post, Rp H rv (.tuple (pre ++ e :: post)) ∧ (pre ++ e :: post).length ≤ 6000 ∧ (∀ x ∈ pre ++ e :: post, Sml3 x) ∧ (∀ x ∈ pre, stepD (LL ls n) k x = true) ∧ stepD (LL ls n) k e = false ∧ BadF CR "place" (nI pre.length) H E
/-- check_row's promise from it -/
theorem RowIn.check {H H1 : Hp} {E : XK} {v rv : V} {ls : List (List Nat)} {n k : Nat} {q : List StepT → Prop} {m : Addr} {Q : VK} (h : RowIn CR H E rv ls n k q) (g : Good H v ls n) (s : Same H H1) (dw : DW H1 m (LL ls n))
    (go : ∀ ss, RwK H rv ss → RowOk ls n k ss → q ss → ∀ H', Same H1 H' → Q .non H') : spCheckRow CR [.ref m, nI k, rv] H1 Q E := by
  rcases h with ⟨ss, hr, ok, q0⟩ | ⟨pre, e, post, hrp, hl, hs, h1, h2, bad⟩
  · exact ⟨m, LL ls n, k, rv, ss.map dS, rfl, dw, (hr.tm (.of s)).rp, by rw [List.length_map]; exact ok.len, ok.sml g, .inl ⟨ok.step g, go ss hr ok q0⟩⟩
  · exact ⟨m, LL ls n, k, rv, pre ++ e :: post, rfl, dw, Rp.same s _ _ hrp, hl, hs, .inr ⟨pre, e, post, rfl, h1, h2, bad.same s⟩⟩
/-- products' promise from it -/
theorem prods {H H1 : Hp} {v rv : V} {ls : List (List Nat)} {n k : Nat} {m : Addr} {Q : VK} {ss : List StepT} (g : Good H v ls n) (dw : DW H1 m (LL ls n)) (hr : RwK H1 rv ss) (ok : RowOk ls n k ss) (k1 : 1 ≤ k) (k6 : k ≤ 6)
    (q : ∀ r H', Same H1 H' → TTK H' r ((List.range (2 ^ k)).map (valK n ss)) → Q r H') : spProducts [.ref m, nI k, rv] H1 Q E0 := by
  obtain ⟨a, xs, rfl, ha, hx⟩ := hr
  have hP : ∀ x ∈ LL ls n, IsP n x.1 := fun x hx => g.isP ((g.mem _).mp (List.mem_map.mpr ⟨x, hx, rfl⟩))
  refine ⟨m, a, LL ls n, n, k, xs, ss, rfl, dw, hP, by have := g.gl.2.2.1; omega, g.gl.2.2.2.1, by have := LL_len g.few; omega, LL_nd ls n, (g.mem _).mpr .still, fun x hx y hy => (g.mem _).mpr (((g.mem x).mp hx).prod g.gl.2.2.2.2 ((g.mem y).mp hy)), ha, hx, fun s hs => ?_, ok.len, k1, k6, q⟩
  obtain ⟨h1, h2, h3⟩ := ok.ok s hs
  exact ⟨h1, (g.mem _).mpr h2, (g.mem _).mpr h3⟩
/-- what a row comes to, by places of a table -/
abbrev valsK (n k : Nat) (ss : List StepT) : List (List Nat) := (List.range (2 ^ k)).map (valK n ss)
theorem valsK_len (n k : Nat) (ss : List StepT) : (valsK n k ss).length = 2 ^ k := by rw [List.length_map, List.length_range]
/-- the argument turn: what is none, or a turn of which q -/
def TurnIn (CT : Addr) (H : Hp) (E : XK) (tv : V) (ls : List (List Nat)) (n : Nat) (q : List Nat → Prop) : Prop :=
  (∃ t, TN H tv t ∧ Mk ls n t ∧ q t) ∨ ∃ d, Rp H tv d ∧ (∀ ds, d = .tuple ds → ds.length ≤ 1000) ∧ isTurnD (LL ls n) d = false ∧ Bad0 CT H E
theorem TurnIn.check {H H1 : Hp} {E : XK} {v tv : V} {ls : List (List Nat)} {n : Nat} {q : List Nat → Prop} {m : Addr} {Q : VK} (h : TurnIn CT H E tv ls n q) (g : Good H v ls n) (s : Same H H1) (dw : DW H1 m (LL ls n))
    (go : ∀ t, TN H tv t → Mk ls n t → q t → ∀ H', Same H1 H' → Q .non H') : spCheckTurn CT [.ref m, tv] H1 Q E := by
  rcases h with ⟨t, ht, mt, q0⟩ | ⟨d, hd, hl, hf, bad⟩
  · have hlen : t.length ≤ 1000 := by have := (g.isP mt).len; have := g.gl.2.2.2.1; omega
    exact ⟨m, LL ls n, tv, dT t, rfl, dw, (ht.tm (.of s)).rp, lenT hlen, fun _ => go t ht mt q0, fun z => (by rw [isTurnD_dT, decide_eq_true ((g.mem t).mpr mt)] at z; cases z)⟩
  · exact ⟨m, LL ls n, tv, d, rfl, dw, Rp.same s _ _ hd, hl, fun z => (by rw [hf] at z; cases z), fun _ => bad.same s⟩
def spWritten (CN CR CT : Addr) : Sp := fun vs H Q E => ∃ (v rv tv : V) (ls : List (List Nat)) (n k : Nat), vs = [v, nI k, rv, tv] ∧ Good H v ls n ∧ 1 ≤ k ∧ k ≤ 6 ∧
  RowIn CR H E rv ls n k fun ss => TurnIn CT H E tv ls n fun t => ∀ r H', Same H H' → TK H' r (yesT (valsK n k ss) t) → Q r H'
theorem sc_written : FnScope ["lock", "inputs", "row", "turn", "made"] ["lock", "inputs", "row", "turn"] (defScope s_written) := ⟨rfl, rfl, rfl, by decide +kernel, rfl, by decide +kernel, by decide +kernel⟩
theorem has_written (T : Top K mg "written" s_written ["lock", "inputs", "row", "turn"]) (hM : Has P w K mg base (L2.CX P w) 5 "made_words" ["lock"] (spMade CL CM)) (hI : Has P w K mg base (L2.CX P w) 3 "check_inputs" ["inputs"] (spCheckI CN)) (hR : Has P w K mg base (L2.CX P w) 5 "check_row" ["made", "inputs", "row"] (spCheckRow CR))
    (hC : Has P w K mg base (L2.CX P w) 4 "check_turn" ["made", "turn"] (spCheckTurn CT)) (hP : Has P w K mg base CX0 3 "products" ["made", "inputs", "row"] spProducts) (hY : Has P w K mg base CX0 1 "yes_where" ["reached", "turn"] spYes) : Has P w K mg base (L2.CX P w) 6 "written" ["lock", "inputs", "row", "turn"] (spWritten CN CR CT) := by
  refine T.okX sc_written (fun vs H Q E h => ?_) (fun f cdv A outer s H vs Q E hr h => ?_)
  · obtain ⟨v, rv, tv, ls, n, k, rfl, _⟩ := h
    rfl
  · obtain ⟨v, rv, tv, ls, n, k, rfl, g, k1, k6, rin⟩ := h
    have hr3 : Room 3 _ := hr.mono (by decide)
    have hr4 : Room 4 _ := hr.mono (by decide)
    have hr1 : Room 1 _ := hr.mono (by decide)
    refine ⟨_, pss_cons (ps_set (i := 4) sc_written.nd rfl (Or.inl rfl) (pe_hasX (E := E) hM hr (by rfl) (passes_call (takes_of rfl rfl rfl rfl) (fun _ _ _ _ h => h)) (pa_cons (pv 0) pa_nil)))
      (pss_cons (ps_expr (pe_hasX (E := E) hI hr3 (by rfl) (passes_call (takes_of rfl rfl rfl rfl) (fun _ _ _ _ h => h)) (pa_cons (pv 1) pa_nil)))
      (pss_cons (ps_expr (pe_hasX (E := E) hR hr (by rfl) (passes_call (takes_of rfl rfl rfl rfl) (fun _ _ _ _ h => h)) (pa_cons (pv 4) (pa_cons (pv 1) (pa_cons (pv 2) pa_nil)))))
      (pss_cons (ps_expr (pe_hasX (E := E) hC hr4 (by rfl) (passes_call (takes_of rfl rfl rfl rfl) (fun _ _ _ _ h => h)) (pa_cons (pv 4) (pa_cons (pv 3) pa_nil))))
      (pss_one (ps_ret (pe_has hY hr1 (by rfl) (pa_cons (pe_has hP hr3 (by rfl) (pa_cons (pv 4) (pa_cons (pv 1) (pa_cons (pv 2) pa_nil)))) (pa_cons (pv 3) pa_nil)))))))), ?_⟩
    refine ⟨_, rfl, v, rfl, lockIn_good g.tt g.gl g.few (by omega) fun m H1 L s1 hm dw hL _ => ?_⟩
    have eL := g.wd hL
    subst eL
    refine ⟨_, rfl, nI k, .int k, rfl, .int _, .inl ⟨k, rfl, k1, k6, _, rfl, _, rfl, _, rfl, ?_⟩⟩
    dsimp only [tNil, List.cons_append, List.nil_append, List.append_nil]
    refine rin.check g s1 dw fun ss hr ok q0 H2 s2 => ?_
    have s02 := s1.trans s2
    refine ⟨_, rfl, _, rfl, ?_⟩
    dsimp only [tNil, List.cons_append, List.nil_append, List.append_nil]
    refine q0.check g s02 (dw.same s2) fun t ht mt q1 H3 s3 => ?_
    have s03 := s02.trans s3
    refine ⟨_, rfl, _, rfl, _, rfl, prods g (dw.same (s2.trans s3)) (hr.tm (.of s03)) ok k1 k6 fun r H4 s4 tt => ⟨_, rfl, r, tv, valsK n k ss, t, rfl, tt.tt, ht.tm (.of (s03.trans s4)), by rw [valsK_len]; have := pow6 k6; omega, fun y H5 s5 ty => q1 y H5 (s03.trans (s4.trans s5)) ty⟩⟩
end
end Lt

set_option Elab.async false
set_option linter.all false
set_option maxRecDepth 100000
set_option maxHeartbeats 1000000
/-! k10: what a formula's row comes to -/
namespace Lt
open PySem PySem.Spec PyProof.Rows L2
def bkt (x y : List Nat) : List Nat := prod (prod x y) (inv (prod y x))
def undoL (ss : List StepT) : List StepT := ss.reverse.map fun s => (s.1, inv s.2.1, inv s.2.2)
def lastS (ss : List StepT) : StepT := ss.getLast?.getD (0, [], [])
def unlessL (ss : List StepT) (t : List Nat) : List StepT := ss.dropLast ++ [((lastS ss).1, prod (lastS ss).2.1 t, prod (lastS ss).2.2 t)]
def bothL (a b : List StepT) : List StepT := a ++ b ++ undoL a ++ undoL b
abbrev PrF := List Nat → List Nat × List Nat
def stF (pr : PrF) (n : Nat) : Fm → List Nat → List StepT
  | .x i, t => [(i, List.range n, t)]
  | .no f, t => unlessL (stF pr n f (inv t)) t
  | .two j f g, t => if j = ("and" : Str) then bothL (stF pr n f (pr t).1) (stF pr n g (pr t).2)
    else if j = ("or" : Str) then unlessL (bothL (unlessL (stF pr n f (inv (pr (inv t)).1)) (pr (inv t)).1) (unlessL (stF pr n g (inv (pr (inv t)).2)) (pr (inv t)).2)) t
    else stF pr n f t ++ stF pr n g t ++ bothL (stF pr n f (pr (inv (prod t t))).1) (stF pr n g (pr (inv (prod t t))).2)
/-- a bound of the steps, as many_steps tells them -/
def manyF : Fm → Nat
  | .x _ => 1
  | .no f => manyF f
  | .two j f g => if j = ("xor" : Str) then 3 * (manyF f + manyF g) else 2 * (manyF f + manyF g)
theorem many_1 : ∀ f : Fm, 1 ≤ manyF f
  | .x _ => Nat.le_refl _
  | .no f => many_1 f
  | .two j f g => by
    have := many_1 f
    have := many_1 g
    unfold manyF
    split <;> omega
theorem many_6 : ∀ f : Fm, manyF f ≤ 6 ^ f.deep
  | .x _ => Nat.le_refl _
  | .no f => by
    have h := many_6 f
    show manyF f ≤ 6 ^ (f.deep + 1)
    rw [Nat.pow_succ]
    omega
  | .two j f g => by
    have h1 := many_6 f
    have h2 := many_6 g
    have p1 : 6 ^ f.deep ≤ 6 ^ max f.deep g.deep := Nat.pow_le_pow_right (by decide) (Nat.le_max_left _ _)
    have p2 : 6 ^ g.deep ≤ 6 ^ max f.deep g.deep := Nat.pow_le_pow_right (by decide) (Nat.le_max_right _ _)
    show manyF (.two j f g) ≤ 6 ^ (max f.deep g.deep + 1)
    rw [Nat.pow_succ]
    unfold manyF
    split <;> omega
theorem undo_len (ss : List StepT) : (undoL ss).length = ss.length := by unfold undoL; rw [List.length_map, List.length_reverse]
theorem unless_len {ss : List StepT} (h : 1 ≤ ss.length) (t : List Nat) : (unlessL ss t).length = ss.length := by
  unfold unlessL
  rw [List.length_append, List.length_dropLast]
  show ss.length - 1 + 1 = _
  omega
theorem both_len (a b : List StepT) : (bothL a b).length = 2 * (a.length + b.length) := by
  unfold bothL
  rw [List.length_append, List.length_append, List.length_append, undo_len, undo_len]
  omega
theorem join3 {j : Str} (h : j ∈ joins) : j = ("and" : Str) ∨ j = ("or" : Str) ∨ j = ("xor" : Str) := by
  unfold joins at h
  simp only [List.mem_cons, List.not_mem_nil, or_false] at h
  exact h
theorem join_ne : ("and" : Str) ≠ ("xor" : Str) ∧ ("or" : Str) ≠ ("xor" : Str) ∧ ("or" : Str) ≠ ("and" : Str) ∧ ("xor" : Str) ≠ ("and" : Str) ∧ ("xor" : Str) ≠ ("or" : Str) := by decide +kernel
theorem st_len (pr : PrF) (n : Nat) {m : Nat} : ∀ (f : Fm) (t : List Nat), f.Ok m → (stF pr n f t).length = manyF f
  | .x _, _, _ => rfl
  | .no f, t, ok => by
    have h := st_len pr n f (inv t) ok
    have h1 := many_1 f
    show (unlessL _ t).length = manyF f
    rw [unless_len (by omega), h]
  | .two j f g, t, ⟨hj, okf, okg⟩ => by
    have f1 := many_1 f
    have g1 := many_1 g
    have hf := fun u => st_len pr n f u okf
    have hg := fun u => st_len pr n g u okg
    obtain ⟨n1, n2, n3, n4, n5⟩ := join_ne
    rcases join3 hj with rfl | rfl | rfl
    · rw [stF, if_pos rfl, both_len, hf, hg, manyF, if_neg n1]
    · rw [stF, if_neg n3, if_pos rfl]
      have l1 := fun u v => unless_len (ss := stF pr n f u) (by rw [hf]; exact f1) v
      have l2 := fun u v => unless_len (ss := stF pr n g u) (by rw [hg]; exact g1) v
      rw [unless_len (by rw [both_len, l1, hf]; omega), both_len, l1, l2, hf, hg, manyF, if_neg n2]
    · rw [stF, if_neg n4, if_neg n5, List.length_append, List.length_append, both_len, hf, hg, hf, hg, manyF, if_pos rfl]
      omega
/-! ### what the rows come to -/
def Stp (n : Nat) (M : List Nat → Prop) (m : Nat) (s : StepT) : Prop := s.1 < m ∧ M s.2.1 ∧ M s.2.2
/-- closed turns -/
structure Cld (n : Nat) (M : List Nat → Prop) : Prop where
  isP : ∀ t, M t → IsP n t
  still : M (List.range n)
  prod : ∀ t u, M t → M u → M (prod t u)
  inv : ∀ t, M t → M (inv t)
def chs (p : Nat) (s : StepT) : List Nat := if p / 2 ^ s.1 % 2 = 1 then s.2.2 else s.2.1
theorem chs_in {n m p : Nat} {M : List Nat → Prop} {s : StepT} (h : Stp n M m s) : M (chs p s) := by
  unfold chs
  split
  · exact h.2.2
  · exact h.2.1
theorem foldl_go {n m p : Nat} {M : List Nat → Prop} (C : Cld n M) : ∀ (ss : List StepT) (c : List Nat), M c → (∀ s ∈ ss, Stp n M m s) → M (ss.foldl (fun c s => prod c (chs p s)) c) ∧ ss.foldl (fun c s => prod c (chs p s)) c = prod c (ss.foldl (fun c s => prod c (chs p s)) (List.range n))
  | [], c, hc, _ => ⟨hc, (prod_still_r (C.isP c hc).lt).symm⟩
  | s :: ss, c, hc, h => by
    have hs := chs_in (p := p) (h s List.mem_cons_self)
    have ht := fun x hx => h x (List.mem_cons_of_mem _ hx)
    obtain ⟨a1, a2⟩ := foldl_go (p := p) C ss (prod c (chs p s)) (C.prod _ _ hc hs) ht
    obtain ⟨b1, b2⟩ := foldl_go (p := p) C ss (prod (List.range n) (chs p s)) (C.prod _ _ C.still hs) ht
    obtain ⟨d1, _⟩ := foldl_go (p := p) C ss (List.range n) C.still ht
    refine ⟨a1, ?_⟩
    rw [List.foldl_cons, List.foldl_cons, a2, b2, prod_still_l (C.isP _ hs).len, prod_assoc]
    exact fun i hi => by rw [(C.isP _ hs).len]; exact (C.isP _ hc).lt i hi
theorem valK_eq (n : Nat) (ss : List StepT) (p : Nat) : valK n ss p = ss.foldl (fun c s => prod c (chs p s)) (List.range n) := rfl
theorem valK_in {n m : Nat} {M : List Nat → Prop} (C : Cld n M) {ss : List StepT} (h : ∀ s ∈ ss, Stp n M m s) (p : Nat) : M (valK n ss p) := (foldl_go (p := p) C ss _ C.still h).1
theorem valK_app {n m : Nat} {M : List Nat → Prop} (C : Cld n M) {a b : List StepT} (ha : ∀ s ∈ a, Stp n M m s) (hb : ∀ s ∈ b, Stp n M m s) (p : Nat) : valK n (a ++ b) p = prod (valK n a p) (valK n b p) := by
  rw [valK_eq, List.foldl_append]
  exact (foldl_go (p := p) C b _ (valK_in C ha p) hb).2
theorem valK_one {n m : Nat} {M : List Nat → Prop} (C : Cld n M) {s : StepT} (h : Stp n M m s) (p : Nat) : valK n [s] p = chs p s := prod_still_l (C.isP _ (chs_in h)).len
theorem undo_in {n m : Nat} {M : List Nat → Prop} (C : Cld n M) {ss : List StepT} (h : ∀ s ∈ ss, Stp n M m s) : ∀ s ∈ undoL ss, Stp n M m s := fun s hs => by
  unfold undoL at hs
  obtain ⟨u, hu, rfl⟩ := List.mem_map.mp hs
  obtain ⟨h1, h2, h3⟩ := h u (List.mem_reverse.mp hu)
  exact ⟨h1, C.inv _ h2, C.inv _ h3⟩
theorem chs_undo (p : Nat) (s : StepT) : chs p (s.1, inv s.2.1, inv s.2.2) = inv (chs p s) := by
  unfold chs
  dsimp only
  split <;> rfl
theorem inv_still {n : Nat} : inv (List.range n) = List.range n := (inv_unique (.still n) (.still n) (prod_still_l (by rw [List.length_range]))).symm
theorem valK_undo {n m : Nat} {M : List Nat → Prop} (C : Cld n M) (p : Nat) : ∀ {ss : List StepT}, (∀ s ∈ ss, Stp n M m s) → valK n (undoL ss) p = inv (valK n ss p)
  | [], _ => inv_still.symm
  | s :: ss, h => by
    have h1 := h s List.mem_cons_self
    have h2 := fun x hx => h x (List.mem_cons_of_mem _ hx)
    have e : undoL (s :: ss) = undoL ss ++ [(s.1, inv s.2.1, inv s.2.2)] := by
      unfold undoL
      rw [List.reverse_cons, List.map_append]
      rfl
    have h3 : Stp n M m (s.1, inv s.2.1, inv s.2.2) := ⟨h1.1, C.inv _ h1.2.1, C.inv _ h1.2.2⟩
    have e2 : valK n (s :: ss) p = prod (chs p s) (valK n ss p) := by
      have := valK_app C (a := [s]) (b := ss) (fun x hx => by rw [List.mem_singleton.mp hx]; exact h1) h2 p
      rw [valK_one C h1] at this
      exact this
    rw [e, valK_app C (undo_in C h2) (fun x hx => by rw [List.mem_singleton.mp hx]; exact h3), valK_undo C p h2, valK_one C h3, chs_undo, e2, inv_prod (C.isP _ (chs_in h1)) (C.isP _ (valK_in C h2 p))]
theorem last_split {ss : List StepT} (h : 1 ≤ ss.length) : ss = ss.dropLast ++ [lastS ss] := by
  have hn : ss ≠ [] := fun z => by rw [z] at h; cases h
  unfold lastS
  rw [List.getLast?_eq_some_getLast hn]
  exact (List.dropLast_concat_getLast hn).symm
theorem unless_in {n m : Nat} {M : List Nat → Prop} (C : Cld n M) {ss : List StepT} {t : List Nat} (ht : M t) (h1 : 1 ≤ ss.length) (h : ∀ s ∈ ss, Stp n M m s) : ∀ s ∈ unlessL ss t, Stp n M m s := fun s hs => by
  have e := last_split h1
  have hm : lastS ss ∈ ss.dropLast ++ [lastS ss] := List.mem_append_right _ List.mem_cons_self
  rw [← e] at hm
  have hl : Stp n M m (lastS ss) := h _ hm
  rcases List.mem_append.mp hs with z | z
  · exact h s (List.dropLast_subset _ z)
  · rw [List.mem_singleton.mp z]
    exact ⟨hl.1, C.prod _ _ hl.2.1 ht, C.prod _ _ hl.2.2 ht⟩
theorem valK_unless {n m : Nat} {M : List Nat → Prop} (C : Cld n M) {ss : List StepT} {t : List Nat} (ht : M t) (h1 : 1 ≤ ss.length) (h : ∀ s ∈ ss, Stp n M m s) (p : Nat) : valK n (unlessL ss t) p = prod (valK n ss p) t := by
  have e := last_split h1
  have hm : lastS ss ∈ ss.dropLast ++ [lastS ss] := List.mem_append_right _ List.mem_cons_self
  rw [← e] at hm
  have hl : Stp n M m (lastS ss) := h _ hm
  have hd : ∀ s ∈ ss.dropLast, Stp n M m s := fun s hs => h s (List.dropLast_subset _ hs)
  have hu : Stp n M m ((lastS ss).1, prod (lastS ss).2.1 t, prod (lastS ss).2.2 t) := ⟨hl.1, C.prod _ _ hl.2.1 ht, C.prod _ _ hl.2.2 ht⟩
  have ec : chs p ((lastS ss).1, prod (lastS ss).2.1 t, prod (lastS ss).2.2 t) = prod (chs p (lastS ss)) t := by
    unfold chs
    dsimp only
    split <;> rfl
  have e2 : valK n ss p = prod (valK n ss.dropLast p) (chs p (lastS ss)) := by
    have := valK_app C hd (b := [lastS ss]) (fun x hx => by rw [List.mem_singleton.mp hx]; exact hl) p
    rw [← e, valK_one C hl] at this
    exact this
  unfold unlessL
  rw [valK_app C hd (fun x hx => by rw [List.mem_singleton.mp hx]; exact hu), valK_one C hu, ec, e2, prod_assoc]
  exact fun i hi => by rw [(C.isP _ (chs_in (p := p) hl)).len]; exact (C.isP _ (valK_in C hd p)).lt i hi
/-- turns that are brackets of such turns -/
structure PrOk (pr : PrF) (n : Nat) (O : List Nat → Prop) : Prop where
  rinv : ∀ t, O t → O (inv t)
  sq : ∀ t, O t → O (inv (prod t t))
  fst : ∀ t, O t → O (pr t).1
  snd : ∀ t, O t → O (pr t).2
  brk : ∀ t, O t → bkt (pr t).1 (pr t).2 = t
theorem both_in {n m : Nat} {M : List Nat → Prop} (C : Cld n M) {a b : List StepT} (ha : ∀ s ∈ a, Stp n M m s) (hb : ∀ s ∈ b, Stp n M m s) : ∀ s ∈ bothL a b, Stp n M m s := fun s hs => by
  unfold bothL at hs
  rcases List.mem_append.mp hs with h | h
  · rcases List.mem_append.mp h with h | h
    · rcases List.mem_append.mp h with h | h
      · exact ha s h
      · exact hb s h
    · exact undo_in C ha s h
  · exact undo_in C hb s h
theorem valK_both {n m : Nat} {M : List Nat → Prop} (C : Cld n M) {a b : List StepT} (ha : ∀ s ∈ a, Stp n M m s) (hb : ∀ s ∈ b, Stp n M m s) (p : Nat) : valK n (bothL a b) p = bkt (valK n a p) (valK n b p) := by
  have va := C.isP _ (valK_in C ha p)
  have vb := C.isP _ (valK_in C hb p)
  have hab : ∀ s ∈ a ++ b, Stp n M m s := fun s hs => (List.mem_append.mp hs).elim (ha s) (hb s)
  have hab2 : ∀ s ∈ a ++ b ++ undoL a, Stp n M m s := fun s hs => (List.mem_append.mp hs).elim (hab s) (undo_in C ha s)
  unfold bothL bkt
  rw [valK_app C hab2 (undo_in C hb), valK_app C hab (undo_in C ha), valK_app C ha hb, valK_undo C p ha, valK_undo C p hb, inv_prod vb va, prod_assoc]
  exact fun i hi => by rw [va.inv.len]; exact (va.prod vb).lt i hi
theorem bkt_still_l {n : Nat} {y : List Nat} (h : IsP n y) : bkt (List.range n) y = List.range n := by
  unfold bkt
  rw [prod_still_l h.len, prod_still_r h.lt, prod_inv_r h]
theorem bkt_still_r {n : Nat} {x : List Nat} (h : IsP n x) : bkt x (List.range n) = List.range n := by
  unfold bkt
  rw [prod_still_l h.len, prod_still_r h.lt, prod_inv_r h]
section
variable {pr : PrF} {n m : Nat} {M O : List Nat → Prop}
theorem st_in (C : Cld n M) (R : PrOk pr n O) (OM : ∀ t, O t → M t) : ∀ (f : Fm) (t : List Nat), f.Ok m → O t → ∀ s ∈ stF pr n f t, Stp n M m s
  | .x i, t, ok, ht => fun s hs => by
    rw [List.mem_singleton.mp hs]
    exact ⟨ok, C.still, OM _ ht⟩
  | .no f, t, ok, ht => unless_in C (OM _ ht) (by rw [st_len pr n f _ ok]; exact many_1 f) (st_in C R OM f _ ok (R.rinv _ ht))
  | .two j f g, t, ⟨hj, okf, okg⟩, ht => by
    have hf := fun u hu => st_in C R OM f u okf hu
    have hg := fun u hu => st_in C R OM g u okg hu
    have lf := fun u => (show 1 ≤ (stF pr n f u).length by rw [st_len pr n f u okf]; exact many_1 f)
    have lg := fun u => (show 1 ≤ (stF pr n g u).length by rw [st_len pr n g u okg]; exact many_1 g)
    obtain ⟨n1, n2, n3, n4, n5⟩ := join_ne
    rcases join3 hj with rfl | rfl | rfl
    · rw [stF, if_pos rfl]
      exact both_in C (hf _ (R.fst _ ht)) (hg _ (R.snd _ ht))
    · rw [stF, if_neg n3, if_pos rfl]
      have hi := R.rinv _ ht
      have a1 := unless_in C (OM _ (R.fst _ hi)) (lf _) (hf _ (R.rinv _ (R.fst _ hi)))
      have a2 := unless_in C (OM _ (R.snd _ hi)) (lg _) (hg _ (R.rinv _ (R.snd _ hi)))
      refine unless_in C (OM _ ht) ?_ (both_in C a1 a2)
      rw [both_len, unless_len (lf _), unless_len (lg _)]
      have := lf (inv (pr (inv t)).1)
      omega
    · rw [stF, if_neg n4, if_neg n5]
      have hi := R.sq _ ht
      intro s hs
      rcases List.mem_append.mp hs with h | h
      · rcases List.mem_append.mp h with h | h
        · exact hf _ ht s h
        · exact hg _ ht s h
      · exact both_in C (hf _ (R.fst _ hi)) (hg _ (R.snd _ hi)) s h
theorem st_val (C : Cld n M) (R : PrOk pr n O) (OM : ∀ t, O t → M t) (p : Nat) : ∀ (f : Fm) (t : List Nat), f.Ok m → O t → valK n (stF pr n f t) p = if evF f p = 1 then t else List.range n
  | .x i, t, ok, ht => by
    have h : Stp n M m (i, List.range n, t) := ⟨ok, C.still, OM _ ht⟩
    show valK n [(i, List.range n, t)] p = _
    rw [valK_one C h]
    rfl
  | .no f, t, ok, ht => by
    have hP := C.isP _ (OM _ ht)
    have h1 : 1 ≤ (stF pr n f (inv t)).length := by rw [st_len pr n f _ ok]; exact many_1 f
    show valK n (unlessL (stF pr n f (inv t)) t) p = _
    rw [valK_unless C (OM _ ht) h1 (st_in C R OM f _ ok (R.rinv _ ht)), st_val C R OM p f _ ok (R.rinv _ ht)]
    have hle := evF_le f p
    have e : evF (.no f) p = 1 - evF f p := rfl
    rw [e]
    by_cases h : evF f p = 1
    · rw [if_pos h, if_neg (by omega), prod_inv_l hP]
    · rw [if_neg h, if_pos (by omega), prod_still_l hP.len]
  | .two j f g, t, ⟨hj, okf, okg⟩, ht => by
    have hP := C.isP _ (OM _ ht)
    have hf := fun u hu => st_in C R OM f u okf hu
    have hg := fun u hu => st_in C R OM g u okg hu
    have vf := fun u hu => st_val C R OM p f u okf hu
    have vg := fun u hu => st_val C R OM p g u okg hu
    have lf := fun u => (show 1 ≤ (stF pr n f u).length by rw [st_len pr n f u okf]; exact many_1 f)
    have lg := fun u => (show 1 ≤ (stF pr n g u).length by rw [st_len pr n g u okg]; exact many_1 g)
    have ef := evF_le f p
    have eg := evF_le g p
    obtain ⟨n1, n2, n3, n4, n5⟩ := join_ne
    rcases join3 hj with rfl | rfl | rfl
    · have e : evF (.two ("and" : Str) f g) p = evF f p * evF g p := by rw [evF, if_pos rfl]
      rw [stF, if_pos rfl, valK_both C (hf _ (R.fst _ ht)) (hg _ (R.snd _ ht)), vf _ (R.fst _ ht), vg _ (R.snd _ ht), e]
      have p1 := C.isP _ (OM _ (R.fst _ ht))
      have p2 := C.isP _ (OM _ (R.snd _ ht))
      by_cases h1 : evF f p = 1
      · by_cases h2 : evF g p = 1
        · rw [if_pos h1, if_pos h2, if_pos (show evF f p * evF g p = 1 by rw [h1, h2]), R.brk _ ht]
        · rw [if_pos h1, if_neg h2, if_neg (show ¬ evF f p * evF g p = 1 by rw [h1]; omega), bkt_still_r p1]
      · have z : evF f p = 0 := by omega
        rw [if_neg h1, if_neg (show ¬ evF f p * evF g p = 1 by rw [z]; omega)]
        by_cases h2 : evF g p = 1
        · rw [if_pos h2, bkt_still_l p2]
        · rw [if_neg h2, bkt_still_l (.still n)]
    · have e : evF (.two ("or" : Str) f g) p = max (evF f p) (evF g p) := by rw [evF, if_neg n3, if_pos rfl]
      rw [stF, if_neg n3, if_pos rfl]
      have hi := R.rinv _ ht
      have a1 := unless_in C (OM _ (R.fst _ hi)) (lf _) (hf _ (R.rinv _ (R.fst _ hi)))
      have a2 := unless_in C (OM _ (R.snd _ hi)) (lg _) (hg _ (R.rinv _ (R.snd _ hi)))
      have p1 := C.isP _ (OM _ (R.fst _ hi))
      have p2 := C.isP _ (OM _ (R.snd _ hi))
      have l3 : 1 ≤ (bothL (unlessL (stF pr n f (inv (pr (inv t)).1)) (pr (inv t)).1) (unlessL (stF pr n g (inv (pr (inv t)).2)) (pr (inv t)).2)).length := by
        rw [both_len, unless_len (lf _), unless_len (lg _)]
        have := lf (inv (pr (inv t)).1)
        omega
      rw [valK_unless C (OM _ ht) l3 (both_in C a1 a2), valK_both C a1 a2, valK_unless C (OM _ (R.fst _ hi)) (lf _) (hf _ (R.rinv _ (R.fst _ hi))), valK_unless C (OM _ (R.snd _ hi)) (lg _) (hg _ (R.rinv _ (R.snd _ hi))), vf _ (R.rinv _ (R.fst _ hi)), vg _ (R.rinv _ (R.snd _ hi)), e]
      by_cases h1 : evF f p = 1
      · rw [if_pos h1, if_pos (show max (evF f p) (evF g p) = 1 by omega), prod_inv_l p1]
        by_cases h2 : evF g p = 1
        · rw [if_pos h2, prod_inv_l p2, bkt_still_l (.still n), prod_still_l hP.len]
        · rw [if_neg h2, prod_still_l p2.len, bkt_still_l p2, prod_still_l hP.len]
      · rw [if_neg h1, prod_still_l p1.len]
        by_cases h2 : evF g p = 1
        · rw [if_pos h2, if_pos (show max (evF f p) (evF g p) = 1 by omega), prod_inv_l p2, bkt_still_r p1, prod_still_l hP.len]
        · rw [if_neg h2, if_neg (show ¬ max (evF f p) (evF g p) = 1 by omega), prod_still_l p2.len, R.brk _ hi, prod_inv_l hP]
    · have e : evF (.two ("xor" : Str) f g) p = (evF f p + evF g p) % 2 := by rw [evF, if_neg n4, if_neg n5]
      rw [stF, if_neg n4, if_neg n5]
      have hi := R.sq _ ht
      have p1 := C.isP _ (OM _ (R.fst _ hi))
      have p2 := C.isP _ (OM _ (R.snd _ hi))
      have h12 : ∀ s ∈ stF pr n f t ++ stF pr n g t, Stp n M m s := fun s hs => (List.mem_append.mp hs).elim (hf _ ht s) (hg _ ht s)
      rw [valK_app C h12 (both_in C (hf _ (R.fst _ hi)) (hg _ (R.snd _ hi))), valK_app C (hf _ ht) (hg _ ht), valK_both C (hf _ (R.fst _ hi)) (hg _ (R.snd _ hi)), vf _ ht, vg _ ht, vf _ (R.fst _ hi), vg _ (R.snd _ hi), e]
      by_cases h1 : evF f p = 1
      · by_cases h2 : evF g p = 1
        · rw [if_pos h1, if_pos h2, if_pos h1, if_pos h2, if_neg (show ¬ (evF f p + evF g p) % 2 = 1 by rw [h1, h2]; decide), R.brk _ hi, prod_inv_r (hP.prod hP)]
        · rw [if_pos h1, if_neg h2, if_pos h1, if_neg h2, if_pos (show (evF f p + evF g p) % 2 = 1 by omega), bkt_still_r p1, prod_still_r hP.lt, prod_still_r hP.lt]
      · have z : evF f p = 0 := by omega
        by_cases h2 : evF g p = 1
        · rw [if_neg h1, if_pos h2, if_neg h1, if_pos h2, if_pos (show (evF f p + evF g p) % 2 = 1 by omega), bkt_still_l p2, prod_still_l hP.len, prod_still_r hP.lt]
        · rw [if_neg h1, if_neg h2, if_neg h1, if_neg h2, if_neg (show ¬ (evF f p + evF g p) % 2 = 1 by omega), bkt_still_l (.still n), prod_still_l (by rw [List.length_range]), prod_still_l (by rw [List.length_range])]
end
end Lt

set_option Elab.async false
set_option linter.all false
set_option maxRecDepth 100000
set_option maxHeartbeats 2000000
/-! k10: undone_steps, unless, many_steps -/
namespace Lt
open PySem PySem.Spec PyProof.Rows L2
/-- a list of steps -/
def LS (H : Hp) (v : V) (ss : List StepT) : Prop := ∃ a xs, v = .ref a ∧ H a = some (.lst xs) ∧ Paired (StK H) xs ss
theorem LS.same {H H' : Hp} {v : V} {ss : List StepT} (s : Same H H') (h : LS H v ss) : LS H' v ss := let ⟨a, xs, e, h1, h2⟩ := h; ⟨a, xs, e, s _ _ h1, paired_mono (fun _ _ r => StK.tm (.of s) r) h2⟩
theorem cutL_less (xs : List V) (h : xs ≠ []) : cutV xs none (some (-1)) = xs.dropLast := by
  unfold cutV
  have e : HT.sIx xs.length xs.length (some (-1)) = xs.length - 1 := by
    unfold HT.sIx
    have : 1 ≤ xs.length := List.length_pos_iff.mpr h
    simp only [show ((-1 : Int) < 0) from by decide, if_true]
    omega
  rw [e, HT.sIx_none, List.drop_zero, Nat.sub_zero, List.dropLast_eq_take]
theorem paired_dropLast {α β : Type} {F : α → β → Prop} {xs : List α} {ys : List β} (h : Paired F xs ys) : Paired F xs.dropLast ys.dropLast := by
  have hl := Paired.length h
  rw [List.dropLast_eq_take, List.dropLast_eq_take, hl]
  generalize ys.length - 1 = k
  clear hl
  induction h generalizing k with
  | nil => simpa using Paired.nil
  | cons r t ih =>
    cases k with
    | zero => simpa using Paired.nil
    | succ k => exact .cons r (ih k)
theorem atI_lastS {α : Type} {xs : List α} {x : α} (h : xs.getLast? = some x) : atI xs (-1) = some x := by
  obtain ⟨ys, rfl⟩ := List.getLast?_eq_some_iff.mp h
  unfold atI ixN
  have e : (ys ++ [x]).length = ys.length + 1 := by rw [List.length_append]; rfl
  rw [if_neg (by decide), if_pos (by rw [e]; omega)]
  show (ys ++ [x])[((-1 : Int) + ((ys ++ [x]).length : Nat)).toNat]? = some x
  rw [show ((-1 : Int) + ((ys ++ [x]).length : Nat)).toNat = ys.length by rw [e]; omega]
  exact List.getElem?_concat_length
theorem paired_last {α β : Type} {F : α → β → Prop} {xs : List α} {ys : List β} (h : Paired F xs ys) (hn : 1 ≤ ys.length) : ∃ x y, xs.getLast? = some x ∧ ys.getLast? = some y ∧ F x y := by
  have hl := Paired.length h
  have h1 : xs[xs.length - 1]? = some (xs[xs.length - 1]'(by omega)) := List.getElem?_eq_getElem (by omega)
  obtain ⟨y, hy, r⟩ := Paired.getL h h1
  refine ⟨_, y, List.getLast?_eq_getElem?.trans h1, ?_, r⟩
  rw [List.getLast?_eq_getElem?, ← hl]
  exact hy
theorem getDd_rng {α : Type} (d : α) (l : List α) : (List.range l.length).map (fun i => l.getD i d) = l := by
  apply List.ext_getElem?
  intro i
  rw [List.getElem?_map]
  by_cases h : i < l.length
  · rw [List.getElem?_range h, List.getElem?_eq_getElem h]
    show some (l.getD i d) = _
    rw [List.getD_eq_getElem?_getD, List.getElem?_eq_getElem h]
    rfl
  · rw [List.getElem?_eq_none (by rw [List.length_range]; omega), List.getElem?_eq_none (by omega)]
    rfl
section
variable {P : Program} {w : World} {K : PySem.W.Frag} {mg : Str → Option Value} {base : Heap}
def spUndone : Sp := fun vs H Q _ => ∃ (v : V) (ss : List StepT) (n : Nat), vs = [v] ∧ LS H v ss ∧ (∀ s ∈ ss, IsP n s.2.1 ∧ IsP n s.2.2) ∧ n ≤ 9 ∧ ss.length ≤ 10000 ∧ ∀ r H', Same H H' → LS H' r (undoL ss) → Q r H'
abbrev udN : List Str := ["steps", "own", "no", "yes"]
theorem sc_undone_steps : FnScope udN ["steps"] (defScope s_undone_steps) := ⟨rfl, rfl, rfl, by decide +kernel, rfl, by decide +kernel, by decide +kernel⟩
def tUd : TE := tTup (tCons (tVar 1) (tCons (tCall spBack [] E0 (tCons (tVar 2) tNil)) (tCons (tCall spBack [] E0 (tCons (tVar 3) tNil)) tNil)))
theorem has_undone_steps (T : Top K mg "undone_steps" s_undone_steps ["steps"]) (brev : mg "reversed" = none) (hB : Has P w K mg base CX0 1 "back_of" ["turn"] spBack) : Has P w K mg base CX0 2 "undone_steps" ["steps"] spUndone := by
  refine T.ok sc_undone_steps (fun vs H Q E h => ?_) (fun f cdv A outer s H vs Q E hr h => ?_)
  · obtain ⟨v, ss, n, rfl, _⟩ := h
    rfl
  · obtain ⟨v, ss, n, rfl, ⟨a, xs, rfl, ha, px⟩, hP, n9, hl, q⟩ := h
    refine ⟨_, pss_one (ps_ret (pe_lc (own := [("own", 1), ("no", 2), ("yes", 3)]) (g := gTup K 3 (gCons (gName 1) (gCons (gName 2) (gCons (gName 3) gNil)))) (te := tUd) (by rfl) sc_undone_steps.nd (RT.pi_revA (by rfl) brev (pv 0)) (blkOk_by (own := [("own", 1), ("no", 2), ("yes", 3)]) (N := udN) (sc := defScope s_undone_steps) (by decide +kernel))
        (fun _ _ _ _ _ => pg_tup rfl (pgs_cons (pg_name (i := 1) sc_undone_steps.nd rfl (Or.inl rfl)) (pgs_cons (pg_name (i := 2) sc_undone_steps.nd rfl (Or.inl rfl)) (pgs_cons (pg_name (i := 3) sc_undone_steps.nd rfl (Or.inl rfl)) pgs_nil)))) (fun _ _ _ _ _ => pts_nil)
        (fun _ _ _ _ _ => pe_tup (pa_cons (pv 1) (pa_cons (pe_has hB hr (by rfl) (pa_cons (pv 2) pa_nil)) (pa_cons (pe_has hB hr (by rfl) (pa_cons (pv 3) pa_nil)) pa_nil)))))), ?_⟩
    have lx := Paired.length px
    refine ⟨_, rfl, a, xs, rfl, .inl ⟨SqL.of ha, fun D hD => lc_genF (J := Itv K a xs.length) (n := xs.length) StK (fun _ => true) (fun i => (undoL ss).getD i (0, [], [])) (fun _ _ _ _ e r => StK.tm e r) (by omega) hD
      (fun i H3 hi s3 => ⟨hi, xs, _, SqL.of (s3 _ _ ha), List.getElem?_eq_getElem (by omega)⟩) (fun H3 s3 => Nat.le_refl _) (fun i H3 x' H4 hi s3 y => ?_) (fun H3 zs s3 hz pr => ?_)⟩⟩
    · obtain ⟨rfl, hx'⟩ := y
      have hx' := hx' _ (SqL.of (s3 _ _ ha))
      obtain ⟨st, hst, tp, x1, x2, rfl, htp, kx1, kx2⟩ := Lt.Paired.getL px hx'
      obtain ⟨p1, p2⟩ := hP st (List.mem_of_getElem? hst)
      have eu : (undoL ss).getD i (0, [], []) = (st.1, inv st.2.1, inv st.2.2) := by
        unfold undoL
        rw [List.getD_eq_getElem?_getD, List.getElem?_map, List.getElem?_reverse (by omega), ← lx, hst]
        rfl
      rw [eu]
      refine ⟨Same.refl _, _, fun Kk q => ⟨tp, _, rfl, SqT.of (s3 _ _ htp), rfl, _, _, rfl, _, _, rfl, _, _, rfl, rfl, q⟩, rfl, fun Q q => q _ (Same.refl _), fun hp H5 s5 Q q => ?_⟩
      have s35 := s3.trans s5
      refine ⟨_, rfl, _, rfl, x1, st.2.1, n, rfl, (kx1.tm (.of s35)).tn, p1, by omega, fun u1 H6 s6 k6 => ⟨_, rfl, x2, st.2.2, n, rfl, (kx2.tm (.of (s35.trans s6))).tn, p2, by omega, fun u2 H7 s7 k7 => ⟨Nat.le_of_ble_eq_true rfl, fun tq htq => ?_⟩⟩⟩
      have s8 := same_new (o := .tup [nI st.1, u1, u2]) htq
      exact q _ _ (s6.trans (s7.trans s8)) ⟨tq, u1, u2, rfl, upd_same, k6.tm (.of (s7.trans s8)), k7.tm (.of s8)⟩
    · have e1 : ((List.range xs.length).filter fun _ => true).map (fun i => (undoL ss).getD i (0, [], [])) = undoL ss := by
        rw [List.filter_eq_self.mpr fun _ _ => rfl, show xs.length = (undoL ss).length by rw [undo_len, lx]]
        exact getDd_rng _ _
      rw [e1] at pr
      exact q _ _ s3 ⟨D, zs, rfl, hz, pr⟩
def spUnless : Sp := fun vs H Q _ => ∃ (v u : V) (ss : List StepT) (t : List Nat) (n : Nat), vs = [v, u] ∧ LS H v ss ∧ 1 ≤ ss.length ∧ ss.length ≤ 10000 ∧ (∀ s ∈ ss, IsP n s.2.1 ∧ IsP n s.2.2) ∧ TN H u t ∧ IsP n t ∧ n ≤ 9 ∧ ∀ r H', Same H H' → LS H' r (unlessL ss t) → Q r H'
theorem sc_unless : FnScope ["steps", "turn", "own", "no", "yes"] ["steps", "turn"] (defScope s_unless) := ⟨rfl, rfl, rfl, by decide +kernel, rfl, by decide +kernel, by decide +kernel⟩
theorem has_unless (T : Top K mg "unless" s_unless ["steps", "turn"]) (hP : Has P w K mg base CX0 1 "product_of" ["one", "other"] spProd) : Has P w K mg base CX0 2 "unless" ["steps", "turn"] spUnless := by
  refine T.ok sc_unless (fun vs H Q E h => ?_) (fun f cdv A outer s H vs Q E hr h => ?_)
  · obtain ⟨v, u, ss, t, n, rfl, _⟩ := h
    rfl
  · obtain ⟨v, u, ss, t, n, rfl, ⟨a, xs, rfl, ha, px⟩, h1, hl, hPs, ht, hIs, n9, q⟩ := h
    refine ⟨_, pss_cons (ps_asg (pe_ix ix_list (pv 0) (pe_un un_neg pe_int) (fun _ _ => rfl)) (pg_tup rfl (pgs_cons (pg_name (i := 2) sc_unless.nd rfl (Or.inl rfl)) (pgs_cons (pg_name (i := 3) sc_unless.nd rfl (Or.inl rfl)) (pgs_cons (pg_name (i := 4) sc_unless.nd rfl (Or.inl rfl)) pgs_nil)))))
      (pss_one (ps_ret (pe_op op_cat (pe_slice sl_list (pv 0) po_none (po_some (pe_un un_neg pe_int))) (pe_lst (pa_cons (pe_tup (pa_cons (pv 2) (pa_cons (pe_has hP hr (by rfl) (pa_cons (pv 3) (pa_cons (pv 1) pa_nil))) (pa_cons (pe_has hP hr (by rfl) (pa_cons (pv 4) (pa_cons (pv 1) pa_nil))) pa_nil)))) pa_nil))))), ?_⟩
    have lx := Paired.length px
    obtain ⟨xl, sl, e1, e2, tp, x1, x2, rfl, htp, kx1, kx2⟩ := paired_last px h1
    have hls : lastS ss = sl := by unfold lastS; rw [e2]; rfl
    obtain ⟨p1, p2⟩ := hPs sl (by rw [← hls]; exact List.mem_of_getLast? (by unfold lastS; rw [e2]; rfl))
    refine ⟨_, rfl, 1, rfl, a, xs, -1, .ref tp, rfl, rfl, SqL.of ha, atI_lastS e1, tp, _, rfl, SqT.of htp, rfl, _, _, rfl, _, _, rfl, _, _, rfl, rfl, ?_⟩
    refine ⟨_, rfl, 1, rfl, -1, rfl, a, xs, rfl, SqL.of ha, fun c hc => ?_⟩
    rw [cutL_less xs (fun z => by rw [z] at lx; simp at lx; omega)]
    have s1 := same_new (o := .lst xs.dropLast) hc
    have k1 : (upd H c (.lst xs.dropLast)) c = some (.lst xs.dropLast) := upd_same
    generalize upd H c (.lst xs.dropLast) = H1 at *
    refine ⟨_, rfl, _, rfl, _, rfl, x1, u, sl.2.1, t, rfl, (kx1.tm (.of s1)).tn, ht.tm (.of s1), fun i hi => by rw [hIs.len]; exact p1.lt i hi, by rw [p1.len]; omega, fun u1 H2 s2 k2 => ?_⟩
    refine ⟨_, rfl, _, rfl, x2, u, sl.2.2, t, rfl, (kx2.tm (.of (s1.trans s2))).tn, ht.tm (.of (s1.trans s2)), fun i hi => by rw [hIs.len]; exact p2.lt i hi, by rw [p2.len]; omega, fun u2 H3 s3 k3 => ⟨Nat.le_of_ble_eq_true rfl, fun tq htq => ⟨Nat.le_of_ble_eq_true rfl, fun d hd => ?_⟩⟩⟩
    have s4 := same_new (o := .tup [nI sl.1, u1, u2]) htq
    have s5 := same_new (o := .lst [V.ref tq]) hd
    have k4 := s5 _ _ (show (upd H3 tq (.tup [nI sl.1, u1, u2])) tq = some (.tup [nI sl.1, u1, u2]) from upd_same)
    have k5 : (upd (upd H3 tq (.tup [nI sl.1, u1, u2])) d (.lst [V.ref tq])) d = some (.lst [V.ref tq]) := upd_same
    have s45 := s4.trans s5
    generalize upd (upd H3 tq (.tup [nI sl.1, u1, u2])) d (.lst [V.ref tq]) = H5 at *
    have s25 := s2.trans (s3.trans s45)
    refine ⟨c, d, xs.dropLast, [V.ref tq], rfl, rfl, s25 _ _ k1, k5, by rw [List.length_dropLast, sizeLine_eq]; show xs.length - 1 + 1 ≤ _; omega, fun r hr => ?_⟩
    have s6 := same_new (o := .lst (xs.dropLast ++ [V.ref tq])) hr
    have s06 := s1.trans (s25.trans s6)
    refine q _ _ s06 ⟨r, _, rfl, upd_same, ?_⟩
    unfold unlessL
    rw [hls]
    exact Paired.app (paired_mono (fun _ _ r => StK.tm (.of s06) r) (paired_dropLast px)) (Paired.one ⟨tq, u1, u2, rfl, s6 _ _ k4, k2.tm (.of (s3.trans (s45.trans s6))), k3.tm (.of (s45.trans s6))⟩)
def spMany (fu : Nat) : Sp := fun vs H Q _ => ∃ (v : V) (f : Fm) (m : Nat), vs = [v] ∧ f.At H v ∧ f.deep < fu ∧ f.deep ≤ 20 ∧ f.Ok m ∧ Q (nI (manyF f)) H
theorem sc_many_steps : FnScope ["tree", "both"] ["tree"] (defScope s_many_steps) := ⟨rfl, rfl, rfl, by decide +kernel, rfl, by decide +kernel, by decide +kernel⟩
theorem has_many_steps (T : Top K mg "many_steps" s_many_steps ["tree"]) (B : Bi mg) : ∀ f, Has P w K mg base CX0 (f + 1) "many_steps" ["tree"] (spMany f)
  | 0 => T.ok sc_many_steps (fun vs H Q E h => by obtain ⟨v, f, m, rfl, _⟩ := h; rfl) (fun f cdv A outer s H vs Q E hr h => by
      obtain ⟨v, f, m, rfl, _, h5, _⟩ := h
      exact absurd h5 (Nat.not_lt_zero _))
  | fu + 1 => by
    have ih := has_many_steps T B fu
    refine T.ok sc_many_steps (fun vs H Q E h => ?_) (fun f cdv A outer s H vs Q E hr h => ?_)
    · obtain ⟨v, f, m, rfl, _⟩ := h
      rfl
    · obtain ⟨v, g, m, rfl, tv, hd, hd20, ok, q⟩ := h
      refine ⟨_, pss_cons (ps_if (pt_val (pe_callB call_isi (by rfl) B.isinstance PyProof.Rows.boot_isinstance (pa_cons (pv 0) (pa_cons (pe_bltn (by rfl) B.int PyProof.Rows.boot_int (rr_ty "int")) pa_nil)))) (pss_one (ps_ret pe_int)) pss_nil)
        (pss_cons (ps_if (pt_cmpR op_eq (pe_ix ix_tup (pv 0) pe_int (fun _ _ => rfl)) pe_str (nomark _)) (pss_one (ps_ret (pe_has ih hr (by rfl) (pa_cons (pe_ix ix_tup (pv 0) pe_int (fun _ _ => rfl)) pa_nil)))) pss_nil)
        (pss_cons (ps_set (i := 1) sc_many_steps.nd rfl (Or.inl rfl) (pe_op op_add (pe_has ih hr (by rfl) (pa_cons (pe_ix ix_tup (pv 0) pe_int (fun _ _ => rfl)) pa_nil)) (pe_has ih hr (by rfl) (pa_cons (pe_ix ix_tup (pv 0) pe_int (fun _ _ => rfl)) pa_nil))))
        (pss_one (ps_ret (pe_ifExp (pt_cmpR op_eq (pe_ix ix_tup (pv 0) pe_int (fun _ _ => rfl)) pe_str (nomark _)) (pe_op op_mul pe_int (pv 1)) (pe_op op_mul pe_int (pv 1))))))), ?_⟩
      cases g with
      | x i =>
        obtain rfl : v = nI i := tv
        exact ⟨_, rfl, nI i, .ty "int", _, _, true, rfl, .ty _, rp_ty (.int (i : Int)), kit_ty (kit_int (.int (i : Int))), true, rfl, iteT q⟩
      | no g =>
        obtain ⟨a, u, rfl, ha, hu⟩ := tv
        have hd' : g.deep + 1 < fu + 1 := hd
        have hd2 : g.deep + 1 ≤ 20 := hd20
        refine ⟨_, rfl, .ref a, .ty "int", _, _, false, rfl, .ty _, .base (.tup ha), kit_ty (kit_int (.tuple [])), false, rfl, iteF ?_⟩
        exact ⟨_, rfl, a, _, 0, .str wNot, rfl, rfl, SqT.of ha, rfl, rfl, true, rfl, iteT ⟨_, rfl, a, _, 1, u, rfl, rfl, SqT.of ha, rfl, u, g, m, rfl, hu, by omega, by omega, ok, q⟩⟩
      | two j g g2 =>
        obtain ⟨a, u, u2, rfl, ha, hu, hu2⟩ := tv
        obtain ⟨hj, ok1, ok2⟩ := ok
        have hd' : max g.deep g2.deep + 1 < fu + 1 := hd
        have hd2 : max g.deep g2.deep + 1 ≤ 20 := hd20
        have hjn : j ≠ wNot := fun z => by rw [z] at hj; exact absurd hj (by decide +kernel)
        refine ⟨_, rfl, .ref a, .ty "int", _, _, false, rfl, .ty _, .base (.tup ha), kit_ty (kit_int (.tuple [])), false, rfl, iteF ?_⟩
        refine ⟨_, rfl, a, _, 0, .str j, rfl, rfl, SqT.of ha, rfl, rfl, false, congrArg V.bl ((word_eq j wNot).trans (decide_eq_false hjn)), iteF ?_⟩
        refine ⟨_, rfl, a, _, 1, u, rfl, rfl, SqT.of ha, rfl, u, g, m, rfl, hu, by omega, by omega, ok1, _, rfl, a, _, 2, u2, rfl, rfl, SqT.of ha, rfl, u2, g2, m, rfl, hu2, by omega, by omega, ok2, _, _, rfl, rfl, ?_⟩
        refine ⟨_, rfl, a, _, 0, .str j, rfl, rfl, SqT.of ha, rfl, rfl, decide (j = ("xor" : Str)), congrArg V.bl (word_eq j _), ?_⟩
        rw [manyF] at q
        by_cases h1 : j = ("xor" : Str)
        · rw [if_pos h1] at q
          rw [decide_eq_true h1]
          exact iteT ⟨_, rfl, 3, _, rfl, rfl, .inl ⟨by omega, by omega⟩, by
            have e : V.int (3 * (((manyF g : Nat) : Int) + ((manyF g2 : Nat) : Int))) = nI (3 * (manyF g + manyF g2)) := congrArg V.int (by omega)
            dsimp only
            rw [e]
            exact q⟩
        · rw [if_neg h1] at q
          rw [decide_eq_false h1]
          exact iteF ⟨_, rfl, 2, _, rfl, rfl, .inl ⟨by omega, by omega⟩, by
            have e : V.int (2 * (((manyF g : Nat) : Int) + ((manyF g2 : Nat) : Int))) = nI (2 * (manyF g + manyF g2)) := congrArg V.int (by omega)
            dsimp only
            rw [e]
            exact q⟩
end
end Lt

set_option Elab.async false
set_option linter.all false
set_option maxRecDepth 100000
set_option maxHeartbeats 2000000
/-! k10: steps_for, both_steps -/
namespace Lt
open PySem PySem.Spec PyProof.Rows L2
/-- the dict of pairs -/
def PD (H : Hp) (d : Addr) (pr : PrF) (O : List Nat → Prop) : Prop := ∃ kvs, H d = some (.dT kvs) ∧ ∀ t, O t → ∃ q x y, valV kvs (keyN t) = some (.ref q) ∧ H q = some (.tup [x, y]) ∧ TK H x (pr t).1 ∧ TK H y (pr t).2
theorem PD.same {H H' : Hp} {d : Addr} {pr : PrF} {O : List Nat → Prop} (s : Same H H') (h : PD H d pr O) : PD H' d pr O := let ⟨kvs, h1, h2⟩ := h; ⟨kvs, s _ _ h1, fun t ht => let ⟨q, x, y, a, b, c, e⟩ := h2 t ht; ⟨q, x, y, a, s _ _ b, TK.tm (.of s) c, TK.tm (.of s) e⟩⟩
def wtF : Fm → Nat
  | .x _ => 0
  | .no f => wtF f + 1
  | .two _ f g => wtF f + wtF g + 2
theorem cldP (n : Nat) : Cld n (IsP n) := ⟨fun _ h => h, .still n, fun _ _ a b => a.prod b, fun _ a => a.inv⟩
theorem bothP {pr : PrF} {n m : Nat} {O : List Nat → Prop} (R : PrOk pr n O) (OP : ∀ t, O t → IsP n t) {f : Fm} (ok : f.Ok m) {t : List Nat} (ht : O t) : ∀ s ∈ stF pr n f t, IsP n s.2.1 ∧ IsP n s.2.2 := fun s hs => (st_in (cldP n) R OP f t ok ht s hs).2
theorem cat_LS {H : Hp} {x y : V} {a b : List StepT} {Q : VK} (hx : LS H x a) (hy : LS H y b) (hl : a.length + b.length ≤ 100000) (q : ∀ r H', Same H H' → LS H' r (a ++ b) → Q r H') : rCat x y H Q := by
  obtain ⟨p, xs, rfl, h1, p1⟩ := hx
  obtain ⟨p2, ys, rfl, h2, p3⟩ := hy
  refine ⟨p, p2, xs, ys, rfl, rfl, h1, h2, by rw [Paired.length p1, Paired.length p3, sizeLine_eq]; omega, fun r hr => ?_⟩
  have s := same_new (o := .lst (xs ++ ys)) hr
  exact q _ _ s ⟨r, _, rfl, upd_same, Paired.app (paired_mono (fun _ _ r => StK.tm (.of s) r) p1) (paired_mono (fun _ _ r => StK.tm (.of s) r) p3)⟩
/-- what the two defs need -/
structure StC (H : Hp) (d : Addr) (pr : PrF) (O : List Nat → Prop) (n m : Nat) : Prop where
  pd : PD H d pr O
  ok : PrOk pr n O
  isP : ∀ t, O t → IsP n t
  n9 : n ≤ 9
  m6 : m ≤ 6
theorem StC.same {H H' : Hp} {d : Addr} {pr : PrF} {O : List Nat → Prop} {n m : Nat} (h : StC H d pr O n m) (s : Same H H') : StC H' d pr O n m := ⟨h.pd.same s, h.ok, h.isP, h.n9, h.m6⟩
section
variable {P : Program} {w : World} {K : PySem.W.Frag} {mg : Str → Option Value} {base : Heap}
def spSteps (fu : Nat) : Sp := fun vs H Q _ => ∃ (d : Addr) (v u : V) (pr : PrF) (O : List Nat → Prop) (n m : Nat) (f : Fm) (t : List Nat), vs = [.ref d, v, u] ∧ StC H d pr O n m ∧ f.At H v ∧ f.Ok m ∧ wtF f < fu ∧ manyF f ≤ 1000 ∧ TK H u t ∧ O t ∧ ∀ r H', Same H H' → LS H' r (stF pr n f t) → Q r H'
def spBothS (fu : Nat) : Sp := fun vs H Q _ => ∃ (d : Addr) (v1 v2 u : V) (pr : PrF) (O : List Nat → Prop) (n m : Nat) (f g : Fm) (t : List Nat), vs = [.ref d, v1, v2, u] ∧ StC H d pr O n m ∧ f.At H v1 ∧ f.Ok m ∧ wtF f < fu ∧ g.At H v2 ∧ g.Ok m ∧ wtF g < fu ∧ manyF f ≤ 1000 ∧ manyF g ≤ 1000 ∧ TK H u t ∧ O t ∧
  ∀ r H', Same H H' → LS H' r (bothL (stF pr n f (pr t).1) (stF pr n g (pr t).2)) → Q r H'
theorem sc_both_steps : FnScope ["pairs", "one", "other", "turn", "first", "second", "ahead", "behind"] ["pairs", "one", "other", "turn"] (defScope s_both_steps) := ⟨rfl, rfl, rfl, by decide +kernel, rfl, by decide +kernel, by decide +kernel⟩
theorem has_both_steps {fu : Nat} (T : Top K mg "both_steps" s_both_steps ["pairs", "one", "other", "turn"]) (hU : Has P w K mg base CX0 2 "undone_steps" ["steps"] spUndone) (hS : Has P w K mg base CX0 (2 * fu + 3) "steps_for" ["pairs", "tree", "turn"] (spSteps fu)) : Has P w K mg base CX0 (2 * fu + 3 + 1) "both_steps" ["pairs", "one", "other", "turn"] (spBothS fu) := by
  refine T.ok sc_both_steps (fun vs H Q E h => ?_) (fun f cdv A outer s H vs Q E hr h => ?_)
  · obtain ⟨d, v1, v2, u, pr, O, n, m, f, g, t, rfl, _⟩ := h
    rfl
  · obtain ⟨d, v1, v2, u, pr, O, n, m, f, g, t, rfl, S, hf, okf, wf, hg, okg, wg, mf, mg', ht, hO, q⟩ := h
    have hr2 : Room 2 _ := hr.mono (by omega)
    have hu1 := hu_of hr2
    refine ⟨_, pss_cons (ps_asg (pe_dget hu1 (pv 0) (pv 3) (fun _ _ => rfl)) (pg_tup rfl (pgs_cons (pg_name (i := 4) sc_both_steps.nd rfl (Or.inl rfl)) (pgs_cons (pg_name (i := 5) sc_both_steps.nd rfl (Or.inl rfl)) pgs_nil))))
      (pss_cons (ps_set (i := 6) sc_both_steps.nd rfl (Or.inl rfl) (pe_has hS hr (by rfl) (pa_cons (pv 0) (pa_cons (pv 1) (pa_cons (pv 4) pa_nil)))))
      (pss_cons (ps_set (i := 7) sc_both_steps.nd rfl (Or.inl rfl) (pe_has hS hr (by rfl) (pa_cons (pv 0) (pa_cons (pv 2) (pa_cons (pv 5) pa_nil)))))
      (pss_one (ps_ret (pe_op op_cat (pe_op op_cat (pe_op op_cat (pv 6) (pv 7)) (pe_has hU hr2 (by rfl) (pa_cons (pv 6) pa_nil))) (pe_has hU hr2 (by rfl) (pa_cons (pv 7) pa_nil))))))), ?_⟩
    obtain ⟨kvs, hd, hk⟩ := id S.pd
    obtain ⟨qq, x, y, hv, hq, kx, ky⟩ := hk t hO
    obtain ⟨b, rfl, hb⟩ := ht.key
    have o1 := S.ok.fst t hO
    have o2 := S.ok.snd t hO
    refine ⟨_, rfl, _, rfl, d, .ref qq, rfl, by rw [← hv]; exact DGet.t hd hb, qq, _, rfl, SqT.of hq, rfl, _, _, rfl, _, _, rfl, rfl, ?_⟩
    refine ⟨_, rfl, _, rfl, _, rfl, d, v1, x, pr, O, n, m, f, (pr t).1, rfl, S, hf, okf, wf, mf, kx, o1, fun r1 H1 s1 l1 => ?_⟩
    refine ⟨_, rfl, _, rfl, _, rfl, d, v2, y, pr, O, n, m, g, (pr t).2, rfl, S.same s1, hg.same s1, okg, wg, mg', ky.tm (.of s1), o2, fun r2 H2 s2 l2 => ?_⟩
    have n1 := st_len pr n f (pr t).1 okf
    have n2 := st_len pr n g (pr t).2 okg
    refine ⟨_, rfl, _, rfl, cat_LS (l1.same s2) l2 (by omega) fun r3 H3 s3 l3 => ?_⟩
    refine ⟨_, rfl, r1, _, n, rfl, l1.same (s2.trans s3), bothP S.ok S.isP okf o1, S.n9, by omega, fun r4 H4 s4 l4 => cat_LS (l3.same s4) l4 (by rw [List.length_append, undo_len]; omega) fun r5 H5 s5 l5 => ?_⟩
    refine ⟨_, rfl, r2, _, n, rfl, l2.same (s3.trans (s4.trans s5)), bothP S.ok S.isP okg o2, S.n9, by omega, fun r6 H6 s6 l6 => cat_LS (l5.same s6) l6 (by rw [List.length_append, List.length_append, undo_len, undo_len]; omega) fun r7 H7 s7 l7 => ?_⟩
    exact q _ _ (s1.trans (s2.trans (s3.trans (s4.trans (s5.trans (s6.trans s7)))))) l7
theorem sc_steps_for : FnScope ["pairs", "tree", "turn", "word", "one", "other", "neither", "twice"] ["pairs", "tree", "turn"] (defScope s_steps_for) := ⟨rfl, rfl, rfl, by decide +kernel, rfl, by decide +kernel, by decide +kernel⟩
theorem has_steps_for (T : Top K mg "steps_for" s_steps_for ["pairs", "tree", "turn"]) (T2 : Top K mg "both_steps" s_both_steps ["pairs", "one", "other", "turn"]) (B : Bi mg) (hU : Has P w K mg base CX0 2 "undone_steps" ["steps"] spUndone) (hL : Has P w K mg base CX0 2 "unless" ["steps", "turn"] spUnless)
    (hI : Has P w K mg base CX0 1 "back_of" ["turn"] spBack) (hP : Has P w K mg base CX0 1 "product_of" ["one", "other"] spProd) (hSt : Has P w K mg base CX0 1 "still_of" ["size"] spStill) : ∀ fu, Has P w K mg base CX0 (2 * fu + 3) "steps_for" ["pairs", "tree", "turn"] (spSteps fu)
  | 0 => T.ok sc_steps_for (fun vs H Q E h => by obtain ⟨d, v, u, pr, O, n, m, f, t, rfl, _⟩ := h; rfl) (fun f cdv A outer s H vs Q E hr h => by
      obtain ⟨d, v, u, pr, O, n, m, f, t, rfl, _, _, _, h5, _⟩ := h
      exact absurd h5 (Nat.not_lt_zero _))
  | fu + 1 => by
    have ih := has_steps_for T T2 B hU hL hI hP hSt fu
    have ib := has_both_steps (fu := fu) T2 hU ih
    refine T.ok (k := 2 * fu + 4) sc_steps_for (fun vs H Q E h => ?_) (fun f cdv A outer s H vs Q E hr h => ?_)
    · obtain ⟨d, v, u, pr, O, n, m, f, t, rfl, _⟩ := h
      rfl
    · obtain ⟨d, v, u, pr, O, n, m, f, t, rfl, S, hf, okf, wf, mf, ht, hO, q⟩ := h
      have hr1 : Room 1 _ := hr.mono (by omega)
      have hr2 : Room 2 _ := hr.mono (by omega)
      have hr3 : Room (2 * fu + 3) _ := hr.mono (by omega)
      refine ⟨_, pss_cons (ps_if (pt_val (pe_callB call_isi (by rfl) B.isinstance PyProof.Rows.boot_isinstance (pa_cons (pv 1) (pa_cons (pe_bltn (by rfl) B.int PyProof.Rows.boot_int (rr_ty "int")) pa_nil)))) (pss_one (ps_ret (pe_lst (pa_cons (pe_tup (pa_cons (pv 1) (pa_cons (pe_has hSt hr1 (by rfl) (pa_cons (pe_callB call_len_seq (by rfl) B.len PySem.boot_len (pa_cons (pv 2) pa_nil)) pa_nil)) (pa_cons (pv 2) pa_nil)))) pa_nil)))) pss_nil)
        (pss_cons (ps_if (pt_cmpR op_eq (pe_ix ix_tup (pv 1) pe_int (fun _ _ => rfl)) pe_str (nomark _)) (pss_one (ps_ret (pe_has hL hr2 (by rfl) (pa_cons (pe_has ih hr3 (by rfl) (pa_cons (pv 0) (pa_cons (pe_ix ix_tup (pv 1) pe_int (fun _ _ => rfl)) (pa_cons (pe_has hI hr1 (by rfl) (pa_cons (pv 2) pa_nil)) pa_nil)))) (pa_cons (pv 2) pa_nil))))) pss_nil)
        (pss_cons (ps_asg (pv 1) (pg_tup rfl (pgs_cons (pg_name (i := 3) sc_steps_for.nd rfl (Or.inl rfl)) (pgs_cons (pg_name (i := 4) sc_steps_for.nd rfl (Or.inl rfl)) (pgs_cons (pg_name (i := 5) sc_steps_for.nd rfl (Or.inl rfl)) pgs_nil)))))
        (pss_cons (ps_if (pt_cmpR op_eq (pv 3) pe_str (nomark _)) (pss_one (ps_ret (pe_has ib hr (by rfl) (pa_cons (pv 0) (pa_cons (pv 4) (pa_cons (pv 5) (pa_cons (pv 2) pa_nil))))))) pss_nil)
        (pss_cons (ps_if (pt_cmpR op_eq (pv 3) pe_str (nomark _)) (pss_cons (ps_set (i := 6) sc_steps_for.nd rfl (Or.inl rfl) (pe_has ib hr (by rfl) (pa_cons (pv 0) (pa_cons (pe_tup (pa_cons pe_str (pa_cons (pv 4) pa_nil))) (pa_cons (pe_tup (pa_cons pe_str (pa_cons (pv 5) pa_nil))) (pa_cons (pe_has hI hr1 (by rfl) (pa_cons (pv 2) pa_nil)) pa_nil))))))
            (pss_one (ps_ret (pe_has hL hr2 (by rfl) (pa_cons (pv 6) (pa_cons (pv 2) pa_nil)))))) pss_nil)
        (pss_cons (ps_set (i := 7) sc_steps_for.nd rfl (Or.inl rfl) (pe_has ib hr (by rfl) (pa_cons (pv 0) (pa_cons (pv 4) (pa_cons (pv 5) (pa_cons (pe_has hI hr1 (by rfl) (pa_cons (pe_has hP hr1 (by rfl) (pa_cons (pv 2) (pa_cons (pv 2) pa_nil))) pa_nil)) pa_nil))))))
        (pss_one (ps_ret (pe_op op_cat (pe_op op_cat (pe_has ih hr3 (by rfl) (pa_cons (pv 0) (pa_cons (pv 4) (pa_cons (pv 2) pa_nil)))) (pe_has ih hr3 (by rfl) (pa_cons (pv 0) (pa_cons (pv 5) (pa_cons (pv 2) pa_nil))))) (pv 7))))))))), ?_⟩
      have n9 := S.n9
      have hIs := S.isP t hO
      obtain ⟨n1, n2, n3, n4, n5⟩ := join_ne
      cases f with
      | x i =>
        obtain rfl : v = nI i := hf
        obtain ⟨b, rfl, hb⟩ := id ht
        refine ⟨_, rfl, nI i, .ty "int", _, _, true, rfl, .ty _, rp_ty (.int (i : Int)), kit_ty (kit_int (.int (i : Int))), true, rfl, iteT ?_⟩
        refine ⟨_, rfl, _, rfl, b, _, rfl, .inr (SqT.of hb), n, by rw [nIs_len, hIs.len]; rfl, by omega, fun st H1 s1 k1 => ⟨_, rfl, Nat.le_of_ble_eq_true rfl, fun tp htp => ⟨Nat.le_of_ble_eq_true rfl, fun r hr => ?_⟩⟩⟩
        have s2 := same_new (o := .tup [nI i, st, V.ref b]) htp
        have s3 := same_new (o := .lst [V.ref tp]) hr
        have k2 := s3 _ _ (show (upd H1 tp (.tup [nI i, st, V.ref b])) tp = some (.tup [nI i, st, V.ref b]) from upd_same)
        have s13 := s1.trans (s2.trans s3)
        exact q _ _ s13 ⟨r, _, rfl, upd_same, .cons ⟨tp, st, .ref b, rfl, k2, k1.tm (.of (s2.trans s3)), ht.tm (.of s13)⟩ .nil⟩
      | no f =>
        obtain ⟨a, c, rfl, ha, hc⟩ := hf
        have wf' : wtF f + 1 < fu + 1 := wf
        have mf' : manyF f ≤ 1000 := mf
        refine ⟨_, rfl, .ref a, .ty "int", _, _, false, rfl, .ty _, .base (.tup ha), kit_ty (kit_int (.tuple [])), false, rfl, iteF ?_⟩
        refine ⟨_, rfl, a, _, 0, .str wNot, rfl, rfl, SqT.of ha, rfl, rfl, true, rfl, iteT ?_⟩
        refine ⟨_, rfl, _, rfl, a, _, 1, c, rfl, rfl, SqT.of ha, rfl, _, rfl, u, t, n, rfl, ht.tn, hIs, by omega, fun u1 H1 s1 k1 => ?_⟩
        refine ⟨d, c, u1, pr, O, n, m, f, inv t, rfl, S.same s1, hc.same s1, okf, by omega, mf', k1, S.ok.rinv t hO, fun r1 H2 s2 l2 => ?_⟩
        have ln := st_len pr n f (inv t) okf
        have m1 := many_1 f
        exact ⟨_, rfl, r1, u, _, t, n, rfl, l2, by omega, by omega, bothP (f := f) S.ok S.isP okf (S.ok.rinv t hO), (ht.tm (.of (s1.trans s2))).tn, hIs, n9, fun r2 H3 s3 l3 => q _ _ (s1.trans (s2.trans s3)) l3⟩
      | two j f g =>
        obtain ⟨a, c1, c2, rfl, ha, hc1, hc2⟩ := hf
        obtain ⟨hj, ok1, ok2⟩ := okf
        have wf' : wtF f + wtF g + 2 < fu + 1 := wf
        have m1 := many_1 f
        have m2 := many_1 g
        have hm : 2 * (manyF f + manyF g) ≤ 1000 := by
          have h := mf
          unfold manyF at h
          split at h <;> omega
        have hjn : j ≠ wNot := fun z => by rw [z] at hj; exact absurd hj (by decide +kernel)
        have lf := fun v => st_len pr n f v ok1
        have lg := fun v => st_len pr n g v ok2
        refine ⟨_, rfl, .ref a, .ty "int", _, _, false, rfl, .ty _, .base (.tup ha), kit_ty (kit_int (.tuple [])), false, rfl, iteF ?_⟩
        refine ⟨_, rfl, a, _, 0, .str j, rfl, rfl, SqT.of ha, rfl, rfl, false, congrArg V.bl ((word_eq j wNot).trans (decide_eq_false hjn)), iteF ?_⟩
        refine ⟨_, rfl, a, _, rfl, SqT.of ha, rfl, _, _, rfl, _, _, rfl, _, _, rfl, rfl, ?_⟩
        refine ⟨_, rfl, rfl, decide (j = ("and" : Str)), congrArg V.bl (word_eq j _), ?_⟩
        rcases join3 hj with rfl | rfl | rfl
        · rw [decide_eq_true rfl]
          rw [stF, if_pos rfl] at q
          exact iteT ⟨_, rfl, _, rfl, _, rfl, _, rfl, d, c1, c2, u, pr, O, n, m, f, g, t, rfl, S, hc1, ok1, by omega, hc2, ok2, by omega, by omega, by omega, ht, hO, q⟩
        · rw [decide_eq_false n3]
          rw [stF, if_neg n3, if_pos rfl] at q
          have oi := S.ok.rinv t hO
          refine iteF ⟨_, rfl, rfl, true, rfl, iteT ?_⟩
          refine ⟨_, rfl, _, rfl, Nat.le_of_ble_eq_true rfl, fun t1 h1 => ⟨_, rfl, Nat.le_of_ble_eq_true rfl, fun t2 h2 => ?_⟩⟩
          have s1 := same_new (o := .tup [V.str ("not" : Str), c1]) h1
          have s2 := same_new (o := .tup [V.str ("not" : Str), c2]) h2
          have k1 := s2 _ _ (show (upd H t1 (.tup [V.str ("not" : Str), c1])) t1 = some (.tup [V.str wNot, c1]) from upd_same)
          have k2 : (upd (upd H t1 (.tup [V.str ("not" : Str), c1])) t2 (.tup [V.str ("not" : Str), c2])) t2 = some (.tup [V.str wNot, c2]) := upd_same
          have s12 := s1.trans s2
          generalize upd (upd H t1 (.tup [V.str ("not" : Str), c1])) t2 (.tup [V.str ("not" : Str), c2]) = H2 at *
          refine ⟨_, rfl, u, t, n, rfl, (ht.tm (.of s12)).tn, hIs, by omega, fun u3 H3 s3 k3 => ?_⟩
          refine ⟨d, .ref t1, .ref t2, u3, pr, O, n, m, .no f, .no g, inv t, rfl, S.same (s12.trans s3), ⟨t1, c1, rfl, s3 _ _ k1, hc1.same (s12.trans s3)⟩, ok1, by show wtF f + 1 < fu; omega, ⟨t2, c2, rfl, s3 _ _ k2, hc2.same (s12.trans s3)⟩, ok2, by show wtF g + 1 < fu; omega, by show manyF f ≤ 1000; omega, by show manyF g ≤ 1000; omega, k3, oi, fun r4 H4 s4 l4 => ?_⟩
          have hP1 := bothP (m := m) S.ok S.isP (f := .no f) ok1 (S.ok.fst _ oi)
          have hP2 := bothP (m := m) S.ok S.isP (f := .no g) ok2 (S.ok.snd _ oi)
          have ll := both_len (stF pr n (.no f) (pr (inv t)).1) (stF pr n (.no g) (pr (inv t)).2)
          have e1 := st_len pr n (.no f) (pr (inv t)).1 (m := m) ok1
          have e2 := st_len pr n (.no g) (pr (inv t)).2 (m := m) ok2
          have e3 : manyF (.no f) = manyF f := rfl
          have e4 : manyF (.no g) = manyF g := rfl
          refine ⟨_, rfl, _, rfl, r4, u, _, t, n, rfl, l4, by omega, by omega, fun s hs => ?_, (ht.tm (.of (s12.trans (s3.trans s4)))).tn, hIs, n9, fun r5 H5 s5 l5 => q _ _ (s12.trans (s3.trans (s4.trans s5))) l5⟩
          exact (both_in (cldP n) (st_in (cldP n) S.ok S.isP (.no f) _ ok1 (S.ok.fst _ oi)) (st_in (m := m) (cldP n) S.ok S.isP (.no g) _ ok2 (S.ok.snd _ oi)) s hs).2
        · rw [decide_eq_false n4]
          rw [stF, if_neg n4, if_neg n5] at q
          have hm3 : 3 * (manyF f + manyF g) ≤ 1000 := by
            have h := mf
            rw [manyF, if_pos rfl] at h
            exact h
          have oq := S.ok.sq t hO
          refine iteF ⟨_, rfl, rfl, false, congrArg V.bl ((word_eq _ _).trans (decide_eq_false n5)), iteF ?_⟩
          refine ⟨_, rfl, _, rfl, _, rfl, _, rfl, _, rfl, pr_call ht.tn ht.tn hIs hIs (by omega) fun u1 H1 s1 k1 => ⟨u1, _, n, rfl, k1.tn, hIs.prod hIs, by omega, fun u2 H2 s2 k2 => ?_⟩⟩
          have s12 := s1.trans s2
          refine ⟨d, c1, c2, u2, pr, O, n, m, f, g, inv (prod t t), rfl, S.same s12, hc1.same s12, ok1, by omega, hc2.same s12, ok2, by omega, by omega, by omega, k2, oq, fun r3 H3 s3 l3 => ?_⟩
          have s13 := s12.trans s3
          refine ⟨_, rfl, _, rfl, _, rfl, d, c1, u, pr, O, n, m, f, t, rfl, S.same s13, hc1.same s13, ok1, by omega, by omega, ht.tm (.of s13), hO, fun r4 H4 s4 l4 => ?_⟩
          have s14 := s13.trans s4
          refine ⟨_, rfl, _, rfl, _, rfl, d, c2, u, pr, O, n, m, g, t, rfl, S.same s14, hc2.same s14, ok2, by omega, by omega, ht.tm (.of s14), hO, fun r5 H5 s5 l5 => ?_⟩
          have e1 := lf t
          have e2 := lg t
          refine cat_LS (l4.same s5) l5 (by omega) fun r6 H6 s6 l6 => ⟨_, rfl, cat_LS l6 (l3.same (s4.trans (s5.trans s6))) ?_ fun r7 H7 s7 l7 => q _ _ (s14.trans (s5.trans (s6.trans s7))) l7⟩
          rw [List.length_append, both_len, lf, lg, lf, lg]
          omega
end
end Lt

set_option linter.all false
set_option Elab.async false
set_option maxHeartbeats 1000000
/-! commutators: given turns stand for any turn -/
namespace Lt
def cm (x y : List Nat) : List Nat := prod (prod x y) (inv (prod y x))
section
variable {n : Nat}
theorem pas {x y : List Nat} (z : List Nat) (hx : IsP n x) (hy : IsP n y) : prod (prod x y) z = prod x (prod y z) := prod_assoc fun i hi => by rw [hy.len]; exact hx.lt i hi
theorem pc1 {x z : List Nat} (hx : IsP n x) (hz : IsP n z) : prod (inv x) (prod x z) = z := by
  rw [← pas z hx.inv hx, prod_inv_l hx, prod_still_l hz.len]
theorem pc2 {x z : List Nat} (hx : IsP n x) (hz : IsP n z) : prod x (prod (inv x) z) = z := by
  rw [← pas z hx hx.inv, prod_inv_r hx, prod_still_l hz.len]
theorem inv_inv {x : List Nat} (hx : IsP n x) : inv (inv x) = x := (inv_unique hx.inv hx (prod_inv_l hx)).symm
theorem IsP.cm {x y : List Nat} (hx : IsP n x) (hy : IsP n y) : IsP n (cm x y) := (hx.prod hy).prod (hy.prod hx).inv
theorem cm_step {t y g : List Nat} (ht : IsP n t) (hy : IsP n y) (hg : IsP n g) : cm t (prod y g) = prod (cm t y) (prod (prod y (cm t g)) (inv y)) := by
  have A : ∀ x y z, IsP n x → IsP n y → prod (prod x y) z = prod x (prod y z) := fun x y z a b => pas z a b
  have I : ∀ x y, IsP n x → IsP n y → inv (prod x y) = prod (inv y) (inv x) := fun x y a b => inv_prod a b
  have C1 : ∀ x z, IsP n x → IsP n z → prod (inv x) (prod x z) = z := fun x z a b => pc1 a b
  have C2 : ∀ x z, IsP n x → IsP n z → prod x (prod (inv x) z) = z := fun x z a b => pc2 a b
  have Pr : ∀ x y, IsP n x → IsP n y → IsP n (prod x y) := fun x y a b => a.prod b
  have V : ∀ x, IsP n x → IsP n (inv x) := fun x a => a.inv
  unfold cm
  simp (maxDischargeDepth := 30) only [A, I, C1, C2, Pr, V, ht, hy, hg]
theorem cm_flip {c y : List Nat} (hc : IsP n c) (hy : IsP n y) : prod (prod y c) (inv y) = prod (inv (cm c y)) c := by
  have A : ∀ x y z, IsP n x → IsP n y → prod (prod x y) z = prod x (prod y z) := fun x y z a b => pas z a b
  have I : ∀ x y, IsP n x → IsP n y → inv (prod x y) = prod (inv y) (inv x) := fun x y a b => inv_prod a b
  have I2 : ∀ x, IsP n x → inv (inv x) = x := fun x a => inv_inv a
  have C3 : ∀ x, IsP n x → prod (inv x) x = List.range n := fun x a => prod_inv_l a
  have S : ∀ x, IsP n x → prod x (List.range n) = x := fun x a => prod_still_r a.lt
  have Pr : ∀ x y, IsP n x → IsP n y → IsP n (prod x y) := fun x y a b => a.prod b
  have V : ∀ x, IsP n x → IsP n (inv x) := fun x a => a.inv
  unfold cm
  simp (maxDischargeDepth := 30) only [A, I, I2, C3, S, Pr, V, hc, hy]
theorem cm_still {t : List Nat} (ht : IsP n t) : cm t (List.range n) = List.range n := by
  unfold cm
  rw [prod_still_r ht.lt, prod_still_l ht.len, prod_inv_r ht]
end
theorem Mk.one {gs : List (List Nat)} {n : Nat} (hg : ∀ g ∈ gs, IsP n g) {g : List Nat} (h : g ∈ gs) : Mk gs n g := by
  have z := Mk.step (Mk.still (gs := gs) (n := n)) h
  rw [prod_still_l (hg g h).len] at z
  exact z
theorem Mk.inv {gs : List (List Nat)} {n m : Nat} (hg : ∀ g ∈ gs, IsP n g) (hf : Few gs n m) {t : List Nat} (h : Mk gs n t) : Mk gs n (Lt.inv t) := by
  obtain ⟨N, h1, _, e⟩ := pw_back hg hf h
  obtain ⟨k, rfl⟩ : ∃ k, N = 1 + k := ⟨N - 1, by omega⟩
  have hP := h.isP hg
  rw [pw_add hP 1 k, pw_one hP] at e
  rw [← inv_unique hP (pw_isP hP k) e]
  exact h.pw hg k
theorem Mk.mono {gs hs : List (List Nat)} {n : Nat} (hh : ∀ g ∈ hs, IsP n g) (s : ∀ g ∈ gs, Mk hs n g) {t : List Nat} (h : Mk gs n t) : Mk hs n t := by
  induction h with
  | still => exact .still
  | step _ hg ih => exact ih.prod hh (s _ hg)
theorem Few.sub {gs hs : List (List Nat)} {n m : Nat} (hf : Few hs n m) (s : ∀ t, Mk gs n t → Mk hs n t) : Few gs n m := let ⟨D, h1, h2⟩ := hf; ⟨D, h1, fun t ht => h2 t (s t ht)⟩
/-- commutators with the given turns make the commutators with any turn -/
theorem cm_all {n m : Nat} {gs bs : List (List Nat)} {N : List Nat → Prop} (hN : ∀ t, N t → IsP n t) (hgs : ∀ g ∈ gs, IsP n g) (hbs : ∀ b ∈ bs, IsP n b) (hf : Few bs n m)
    (hc : ∀ t g, N t → g ∈ gs → N (cm t g)) (hb : ∀ t g, N t → g ∈ gs → cm t g ∈ bs) {x : List Nat} (hx : Mk gs n x) : ∀ t, N t → Mk bs n (cm t x) := by
  induction hx with
  | still => exact fun t ht => by rw [cm_still (hN t ht)]; exact .still
  | @step y g hy hg ih =>
    intro t ht
    have c := hc t g ht hg
    have hyP := hy.isP hgs
    rw [cm_step (hN t ht) hyP (hgs g hg), cm_flip (hN _ c) hyP]
    exact (ih t ht).prod hbs (((ih _ c).inv hbs hf).prod hbs (.one hbs (hb t g ht hg)))
/-- a part of a whole that is less is at most half of it -/
theorem half {n : Nat} {H T : List (List Nat)} (hT : ∀ t ∈ T, IsP n t) (nd : H.Nodup) (sub : ∀ h ∈ H, h ∈ T) (pr : ∀ a ∈ T, ∀ b ∈ T, prod a b ∈ T) (cl : ∀ a ∈ H, ∀ b ∈ H, prod (inv a) b ∈ H) {t : List Nat} (ht : t ∈ T) (hn : t ∉ H) : 2 * H.length ≤ T.length := by
  have tP := hT t ht
  have P := fun h hh => hT h (sub h hh)
  have z : (H ++ H.map fun h => prod h t).Nodup := by
    refine List.nodup_append.mpr ⟨nd, ?_, fun a ha b hb e => ?_⟩
    · refine List.pairwise_map.mpr (List.Pairwise.imp_of_mem (fun {a b} ha hb hne e => hne ?_) nd)
      have e2 := congrArg (fun x => prod x (inv t)) e
      have e2 : prod (prod a t) (inv t) = prod (prod b t) (inv t) := e2
      rw [pas _ (P a ha) tP, pas _ (P b hb) tP, prod_inv_r tP, prod_still_r (P a ha).lt, prod_still_r (P b hb).lt] at e2
      exact e2
    · obtain ⟨h, hh, rfl⟩ := List.mem_map.mp hb
      subst e
      have y := cl h hh _ ha
      rw [pc1 (P h hh) tP] at y
      exact hn y
  have l := nodup_len _ T z fun x hx => by
    rcases List.mem_append.mp hx with q | q
    · exact sub x q
    · obtain ⟨h, hh, rfl⟩ := List.mem_map.mp q
      exact pr _ (sub h hh) t ht
  rw [List.length_append, List.length_map] at l
  omega
end Lt

set_option Elab.async false
set_option linter.all false
set_option maxRecDepth 100000
set_option maxHeartbeats 4000000
namespace Lt
open PySem PySem.Spec PyProof.Rows L2
theorem for_enumL {K : PySem.W.Frag} {a : Addr} {xs : List V} {g : TG} {tb : TS} {D : Ends} {σ : L2.St} {H : Hp} (Pv : Nat → L2.St → Hp → Prop) (h0 : Pv 0 σ H) (hl : ∀ i σ H, i ≤ xs.length → Pv i σ H → SqL K H a xs)
    (hs : ∀ (i : Nat) (x : V) σ H T, xs[i]? = some x → Pv i σ H → H T = none → g (.ref T) σ (upd H T (.tup [nI i, x])) fun σ2 H2 => tb { D with nx := Pv (i + 1), ct := Pv (i + 1), bk := D.nx } σ2 H2) (hd : ∀ σ H, Pv xs.length σ H → D.nx σ H) :
    ∃ W : Nat → Nat → L2.St → Hp → Prop, (∃ m, W 0 m σ H) ∧ ∀ i m σ H, W i m σ H →
      ((Ite K a).stop i H ∧ D.nx σ H) ∨ ((Ite K a).go i H ∧ ∃ N : L2.St → Hp → Prop, (∀ σ' H', N σ' H' → ∃ m', m' < m ∧ W (i + 1) m' σ' H') ∧ ∀ x H', (Ite K a).yld i H x H' → g x σ H' fun σ2 H2 => tb { D with nx := N, ct := N, bk := D.nx } σ2 H2) := by
  refine ⟨fun i m σ H => m = xs.length - i ∧ i ≤ xs.length ∧ Pv i σ H, ⟨xs.length, by simp, Nat.zero_le _, h0⟩, ?_⟩
  rintro i m σ H ⟨rfl, hi, p⟩
  have q := hl i σ H hi p
  by_cases hlt : i < xs.length
  · refine .inr ⟨⟨xs, xs[i], q, by simp [hlt]⟩, Pv (i + 1), fun σ' H' p' => ⟨xs.length - (i + 1), by omega, rfl, hlt, p'⟩, fun x H' y => ?_⟩
    obtain ⟨T, z, rfl, hT, rfl, hz⟩ := y
    exact hs i z σ H T (hz xs q) p hT
  · exact .inl ⟨⟨xs, q, by omega⟩, hd σ H (by rw [show xs.length = i by omega]; exact p)⟩
section
variable {P : Program} {w : World} {K : PySem.W.Frag} {mg : Str → Option Value} {base : Heap}
/-! ### words_of, the makers a list -/
def spWordsL : Sp := fun vs H Q _ => ∃ (pm : Addr) (gs : List (List Nat)) (n : Nat), vs = [.ref pm, nI n] ∧ LT H pm gs ∧ (∀ g ∈ gs, IsP n g) ∧ n ≤ 1000 ∧ gs.length ≤ 1000 ∧
  ∀ d H' L, Same H H' → H d = none → DW H' d L → Wd gs n L → Q (.ref d) H'
theorem has_words_ofL (T : Top K mg "words_of" s_words_of ["makers", "size"]) (B : Bi mg) (C : Cn mg "MOST_TURNS" 240) (hS : Has P w K mg base CX0 1 "still_of" ["size"] spStill) (hP : Has P w K mg base CX0 1 "product_of" ["one", "other"] spProd) :
    Has P w K mg base CX0 2 "words_of" ["makers", "size"] spWordsL := by
  refine T.ok sc_words_of (fun vs H Q E h => ?_) (fun f cdv A outer s H vs Q E hr h => ?_)
  · obtain ⟨pm, gs, n, rfl, _⟩ := h
    rfl
  · obtain ⟨pm, gs, n, rfl, hms, hg, hn, hgl, q⟩ := h
    obtain ⟨tk, hC⟩ := C
    have hu := hu_of hr
    refine ⟨_, pss_cons (ps_set (i := 2) sc_words_of.nd rfl (Or.inl rfl) (pe_has hS hr (by rfl) (pa_cons (pv 1) pa_nil)))
      (pss_cons (ps_set (i := 3) sc_words_of.nd rfl (Or.inl rfl) (pe_dispT hu (pv 2) (pe_tup pa_nil)))
      (pss_cons (ps_set (i := 4) sc_words_of.nd rfl (Or.inl rfl) (pe_lst (pa_cons (pv 2) pa_nil)))
      (pss_cons (ps_while PassesOwn.never (PW.pt (pw_and (pt_truth (pv 4) (by intro _; rfl)) (pw_and1 (pt_cmpR op_le (pe_callB call_len_dT (by rfl) B.len PySem.boot_len (pa_cons (pv 3) pa_nil)) (pe_glob (v := .int 240) rfl hC ⟨_, rfl⟩) (nomark _)))))
        (pss_cons (ps_set (i := 5) sc_words_of.nd rfl (Or.inl rfl) (pe_lst pa_nil))
        (pss_cons (ps_for PassesOwn.never rfl (pi_list (pv 4)) (pg_name (i := 6) sc_words_of.nd rfl (Or.inl rfl))
          (pss_one (ps_for PassesOwn.never rfl (pi_enum (by rfl) B.enumerate (pa_cons (pv 0) pa_nil)) (pg_tup rfl (pgs_cons (pg_name (i := 7) sc_words_of.nd rfl (Or.inl rfl)) (pgs_cons (pg_name (i := 8) sc_words_of.nd rfl (Or.inl rfl)) pgs_nil)))
            (pss_cons (ps_set (i := 9) sc_words_of.nd rfl (Or.inl rfl) (pe_has hP hr (by rfl) (pa_cons (pv 6) (pa_cons (pv 8) pa_nil))))
            (pss_one (ps_if (pt_cmp (pc_dnotin hu (pv 9) (pv 3)))
              (pss_cons (ps_dput hu (pv 3) (pv 9) (pe_op op_catA (pe_dgetR hu (pv 3) (pv 6) (fun _ _ => rfl)) (pe_tup (pa_cons (pv 7) pa_nil))) rfl)
              (pss_one (ps_expr (pe_bm PySem.F.plainAttrs_list PySem.F.slot_list_append PySem.F.type_list_append mt_append (pv 5) (pa_cons (pv 9) pa_nil)))))
              pss_nil))))))
        (pss_one (ps_set (i := 4) sc_words_of.nd rfl (Or.inl rfl) (pv 5))))))
      (pss_one (ps_ret (pv 3)))))), ?_⟩
    refine ⟨_, rfl, n, rfl, hn, fun st H1 s1 hst => ?_⟩
    refine fun d hd => ⟨_, rfl, ⟨Nat.zero_le _, fun p hp => ?_⟩⟩
    have hpd : p ≠ d := fun z => by rw [z, upd_same] at hp; cases hp
    have s2 : Same H1 (upd (upd H1 d (.dT [])) p (.tup [])) := (same_new hd).trans (same_new hp)
    obtain ⟨b, ebv, hb⟩ := (hst.tm (.of s2)).key
    subst ebv
    refine ⟨b, keyN (List.range n), rfl, by rw [upd_ne hpd.symm, upd_same], hb, ?_⟩
    refine ⟨_, rfl, by show 1 ≤ sizeLine; decide, fun lv hlv => ?_⟩
    have hd0 : H d = none := s1.free hd
    have s3 : Same H1 (upd (upd (upd H1 d (.dT [])) p (.tup [])) d (.dT [(keyN (List.range n), .ref p)])) := same_mut s2 hd
    have s4 : Same H1 (upd (upd (upd (upd H1 d (.dT [])) p (.tup [])) d (.dT [(keyN (List.range n), .ref p)])) lv (.lst [.ref b])) := s3.trans (same_new hlv)
    have hdl : d ≠ lv := fun z => by rw [← z, upd_same] at hlv; cases hlv
    have hpl : p ≠ lv := fun z => by rw [← z, upd_ne hpd, upd_same] at hlv; cases hlv
    have hst' : TN (upd (upd (upd (upd H1 d (.dT [])) p (.tup [])) d (.dT [(keyN (List.range n), .ref p)])) lv (.lst [.ref b])) (.ref b) (List.range n) := (hst.tm (.of s4)).tn
    refine ⟨fun m σ H' => ∃ a, m = 240 - a ∧ WS H (.ref pm) (.ref b) n gs d a σ H', ⟨240, 0, rfl, ⟨⟨lv, none, none, none, none, none, rfl, [.ref b], upd_same, .cons hst' .nil⟩, s1.trans s4, ⟨[(keyN (List.range n), .ref p)], by rw [upd_ne hdl, upd_same], .cons ⟨rfl, p, rfl, .inl ?_⟩ .nil⟩, Nat.zero_le _, Nat.zero_le _⟩⟩, ?_⟩
    · rw [upd_ne hpl, upd_ne hpd, upd_same]
      rfl
    rintro m σ H' ⟨a, rfl, ⟨⟨lv, x5, x6, x7, x8, x9, rfl, xs, hlv', hxs⟩, sm, dw, le, le2⟩⟩
    have ret : (qq gs n a).length = a ∨ 240 < (qq gs n a).length → Q (.ref d) H' := fun h => q d H' _ sm hd0 dw ⟨a, rfl, le, h⟩
    have hxl : xs.length = (qq gs n a).length - a := by
      rw [Paired.length hxs, List.length_drop, List.length_map]
    refine ⟨_, rfl, !xs.isEmpty, .inl ⟨xs, SqL.of hlv', rfl⟩, ?_⟩
    refine ite2 (fun h => ?_) (fun h => ?_)
    rotate_left
    · refine iteF ⟨_, rfl, ret (.inl ?_)⟩
      cases xs with
      | nil => simp at hxl; omega
      | cons x xs => exact absurd rfl h
    obtain ⟨kvs, hkv, pkv⟩ := dw
    have hkl : kvs.length = (qq gs n a).length := Paired.length pkv
    refine ⟨_, rfl, d, kvs, rfl, hkv, _, _, rfl, rfl, _, rfl, ite2 (fun h2 => ?_) (fun h2 => ?_)⟩
    rotate_left
    · have h2 : ¬ ((kvs.length : Int) ≤ 240) := fun z => h2 (decide_eq_true z)
      exact ⟨_, rfl, ret (.inr (by omega))⟩
    have h2 : (kvs.length : Int) ≤ 240 := of_decide_eq_true h2
    have hpos : a < (qq gs n a).length := by
      cases xs with
      | nil => simp at h
      | cons x xs => rw [List.length_cons] at hxl; omega
    refine ⟨fun σ2 H2 => WS H (.ref pm) (.ref b) n gs d (qq gs n a).length σ2 H2, fun σ2 H2 hw => ⟨240 - (qq gs n a).length, by omega, _, rfl, hw⟩, ?_⟩
    -- longer = []
    refine ⟨Nat.zero_le _, fun lg hlg => ?_⟩
    have hlg0 : H lg = none := sm.free hlg
    have sl := same_new (o := .lst []) hlg
    obtain ⟨mxs, hpm, hmx⟩ := hms
    have hlvg : lv ≠ lg := ne_of_none hlv' hlg
    have hdg : d ≠ lg := ne_of_none hkv hlg
    have hlv0 : ∀ H2 : Hp, Same H' H2 → H2 lv = some (.lst xs) := fun H2 s => s _ _ hlv'
    refine ⟨_, rfl, lv, rfl, ⟨_, SqL.of (sl _ _ hlv')⟩, for_list (K := K) (a := lv) (xs := xs)
      (fun i σ2 H2 => ∃ y6 y7 y8 y9 M, σ2 = [some (.ref pm), some (nI n), some (.ref b), some (.ref d), some (.ref lv), some (.ref lg), y6, y7, y8, y9] ∧ Same H H2 ∧ qq gs n (a + i) = qq gs n a ++ M ∧ DW H2 d (qq gs n (a + i)) ∧ LT H2 lg (M.map (·.1)) ∧ H2 lv = some (.lst xs) ∧ Paired (TN H2) xs (((qq gs n a).map (·.1)).drop a))
      ⟨x6, x7, x8, x9, [], rfl, sm.trans sl, by rw [List.append_nil]; rfl, DW.same ⟨kvs, hkv, pkv⟩ sl, ⟨[], upd_same, .nil⟩, sl _ _ hlv', TNs.tm (.of sl) hxs⟩
      (fun i σ2 H2 _ ⟨_, _, _, _, _, _, _, _, _, _, h, _⟩ => SqL.of h) ?_ ?_⟩
    · rintro i x σ2 H2 hi ⟨y6, y7, y8, y9, M, rfl, sm2, eM, dw2, lt2, hlv2, hx2⟩
      obtain ⟨t, ht, htn⟩ := Paired.getL hx2 hi
      rw [List.getElem?_drop, List.getElem?_map] at ht
      obtain ⟨⟨t', w'⟩, hq, et⟩ := Option.map_eq_some_iff.mp ht
      have et : t' = t := et
      subst et
      have hstep := qq_step eM hq
      have htP : IsP n t' := Mk.isP hg (qq_mk gs n a t' (List.mem_map.mpr ⟨_, List.mem_of_getElem? hq, rfl⟩))
      refine ⟨_, rfl, pm, _, rfl, SqL.of (sm2 _ _ hpm), for_enumL (K := K) (xs := mxs)
        (fun j σ3 H3 => ∃ z7 z8 z9 M', σ3 = [some (.ref pm), some (nI n), some (.ref b), some (.ref d), some (.ref lv), some (.ref lg), some x, z7, z8, z9] ∧ Same H H3 ∧ grow t' w' (gs.take j) 0 (qq gs n (a + i)) = qq gs n a ++ M' ∧ DW H3 d (qq gs n a ++ M') ∧ LT H3 lg (M'.map (·.1)) ∧ H3 lv = some (.lst xs) ∧ Paired (TN H3) xs (((qq gs n a).map (·.1)).drop a))
        ⟨y7, y8, y9, M, rfl, sm2, eM, by rw [← eM]; exact dw2, lt2, hlv2, hx2⟩ (fun j σ3 H3 _ ⟨_, _, _, _, _, s, _⟩ => SqL.of (s _ _ hpm)) ?_ ?_⟩
      · rintro j y σ3 H3 T hj ⟨z7, z8, z9, M', rfl, sm3, eM', dw3, ⟨gz, hgz, pgz⟩, hlv3, hx3⟩ hT
        obtain ⟨g, hgj, hyg⟩ := Paired.getL hmx hj
        have hgP := hg g (List.mem_of_getElem? hgj)
        have sT := same_new (o := .tup [nI j, y]) hT
        refine ⟨T, _, rfl, SqT.of upd_same, rfl, nI j, _, rfl, y, _, rfl, rfl, ?_⟩
        obtain ⟨t2, ht2, htn3⟩ := Paired.getL hx3 hi
        rw [List.getElem?_drop, List.getElem?_map, hq] at ht2
        have ht2 : t' = t2 := Option.some.inj ht2
        subst ht2
        refine ⟨_, rfl, _, rfl, pr_call (htn3.tm (.of sT)) (hyg.tm (.of (sm3.trans sT))) htP hgP hn fun v H4 s4 hv => ?_⟩
        have s34 : Same H3 H4 := sT.trans s4
        have hvP := htP.prod hgP
        obtain ⟨b1, rfl, hb1⟩ := hv.key
        obtain ⟨kv4, hk4, pk4⟩ := dw3.same s34
        have hgz4 := s34 _ _ hgz
        have pgz4 := TNs.tm (.of s34) pgz
        have hlv4 := s34 _ _ hlv3
        have hx4 := TNs.tm (.of s34) hx3
        have hnd : ((qq gs n a ++ M').map (·.1)).Nodup := by rw [← eM']; exact grow_nd _ _ _ _ _ (qq_nd gs n (a + i))
        have hnx := grow_next (t := t') (w := w') hgj (qq gs n (a + i))
        rw [eM'] at hnx
        have sm4 : Same H H4 := sm3.trans s34
        refine ⟨_, rfl, _, rfl, d, _, rfl, DGet.t hk4 hb1, _, rfl, ?_⟩
        rw [dw_isSome pk4 hnd]
        by_cases hin : prod t' g ∈ (qq gs n a ++ M').map (·.1)
        · rw [if_pos hin] at hnx
          rw [decide_eq_true hin]
          exact iteF ⟨_, _, _, M', rfl, sm4, hnx, ⟨kv4, hk4, pk4⟩, ⟨gz, hgz4, pgz4⟩, hlv4, hx4⟩
        · rw [if_neg hin] at hnx
          rw [decide_eq_false hin]
          refine iteT ?_
          have hmem : (t', w') ∈ qq gs n a ++ M' := List.mem_append.mpr (.inl (List.mem_of_getElem? hq))
          obtain ⟨wv, hwv, hwn⟩ := dw_some pk4 hnd hmem
          obtain ⟨b2, rfl, hb2⟩ := (htn3.tm (.of s34)).key
          obtain ⟨pw, rfl, hpw⟩ := hwn
          have hwl : w'.length ≤ 240 := Nat.le_trans (qq_w gs n a _ (List.mem_of_getElem? hq)) le2
          refine ⟨_, rfl, _, rfl, d, .ref pw, kv4, _, _, rfl, rfl, .inl hk4, hb2, hwv, _, rfl, by show 1 ≤ sizeLine; decide, fun p hp => ?_⟩
          have s5 := same_new (o := .tup [nI j]) hp
          refine catA_tn (hpw.sm s5) upd_same (by omega) fun v5 H5 s6 hv5 => ?_
          have s45 := s5.trans s6
          have hk5 := s45 _ _ hk4
          have hkl4 : kv4.length = (grow t' w' (gs.take j) 0 (qq gs n (a + i))).length := by rw [Paired.length pk4, ← eM']
          have hsz : kv4.length ≤ 1000000 := by
            have h0 := grow_len t' w' (gs.take j) 0 (qq gs n (a + i))
            have h1 := qq_len_le gs n a i
            have h3 : i ≤ 240 := by
              have := (List.getElem?_eq_some_iff.mp hq).1
              omega
            have h4 : i * gs.length ≤ 240 * 1000 := Nat.mul_le_mul h3 hgl
            rw [List.length_take] at h0
            omega
          refine ⟨_, rfl, _, rfl, d, _, rfl, DPut.t hk5 (s45 _ _ hb1) (by rw [sizeLine_eq]; omega), ?_⟩
          rw [putK_new v5 (dw_none pk4 hin)]
          have t6 : Tm H5 (upd H5 d (.dT (kv4 ++ [(keyN (prod t' g), v5)]))) := Tm.dT hk5
          have hg6 : (upd H5 d (.dT (kv4 ++ [(keyN (prod t' g), v5)]))) lg = some (.lst gz) := by
            rw [upd_ne (ne_of hgz4 hk4 (fun z => nomatch z))]
            exact s45 _ _ hgz4
          have hgzl : gz.length ≤ kv4.length := by
            rw [Paired.length pgz, Paired.length pk4, List.length_map, List.length_append]
            omega
          refine ⟨_, rfl, .inl ⟨rfl, _, SqL.of hg6⟩, _, rfl, lg, _, _, rfl, rfl, hg6, by rw [sizeLine_eq]; omega, ?_⟩
          have t7 := Tm.lst (o := .lst (gz ++ [.ref b1])) hg6
          have tt := (Tm.of s45).trans (t6.trans t7)
          refine ⟨_, _, _, M' ++ [(prod t' g, w' ++ [j])], rfl, ?_, ?_, ⟨kv4 ++ [(keyN (prod t' g), v5)], ?_, ?_⟩, ⟨gz ++ [.ref b1], upd_same, ?_⟩, ?_, TNs.tm tt hx4⟩
          · exact same_mut (same_mut (sm4.trans s45) hd0) hlg0
          · rw [hnx, List.append_assoc]
          · rw [upd_ne hdg, upd_same]
          · rw [← List.append_assoc]
            exact Paired.app (DEs.tm tt pk4) (Paired.one ⟨rfl, hv5.tm (t6.trans t7)⟩)
          · rw [List.map_append]
            exact Paired.app (TNs.tm tt pgz4) (Paired.one (hv.tn.tm tt))
          · rw [upd_ne hlvg, upd_ne (ne_of hlv4 hk4 (fun z => nomatch z))]
            exact s45 _ _ hlv4
      · rintro σ3 H3 ⟨z7, z8, z9, M', rfl, sm3, eM', dw3, lt3, hlv3, hx3⟩
        have e : gs.take mxs.length = gs := by rw [Paired.length hmx, List.take_length]
        rw [e] at eM'
        refine ⟨_, _, _, _, M', rfl, sm3, ?_, ?_, lt3, hlv3, hx3⟩
        · show qq gs n (a + i + 1) = _
          rw [hstep, eM']
        · show DW H3 d (qq gs n (a + i + 1))
          rw [hstep, eM']
          exact dw3
    · rintro σ2 H2 ⟨y6, y7, y8, y9, M, rfl, sm2, eM, dw2, lt2, hlv2, hx2⟩
      have e : a + xs.length = (qq gs n a).length := by omega
      rw [e] at eM dw2
      refine ⟨_, rfl, ⟨⟨lg, _, _, _, _, _, rfl, ?_⟩, sm2, dw2, ?_, by omega⟩⟩
      · rw [eM, List.map_append, List.drop_append_of_le_length (by rw [List.length_map]; exact Nat.le_refl _), List.drop_of_length_le (by rw [List.length_map]; exact Nat.le_refl _), List.nil_append]
        exact lt2
      · rw [eM, List.length_append]
        omega
end
end Lt

set_option Elab.async false
set_option linter.all false
set_option maxRecDepth 100000
set_option maxHeartbeats 2000000
namespace Lt
open PySem PySem.Spec PyProof.Rows L2
/-- a list of turns that are keys -/
def LK (H : Hp) (a : Addr) (ts : List (List Nat)) : Prop := ∃ xs, H a = some (.lst xs) ∧ Paired (TK H) xs ts
theorem TKs.tm {H H' : Hp} (e : Tm H H') {xs : List V} {ts : List (List Nat)} (p : Paired (TK H) xs ts) : Paired (TK H') xs ts := paired_mono (fun _ _ r => TK.tm e r) p
/-- a dict with these turns as keys -/
def DKs (H : Hp) (d : Addr) (ks : List (List Nat)) : Prop := ∃ kvs, H d = some (.dT kvs) ∧ kvs.map (·.1) = ks.map keyN
theorem DW.dks {H : Hp} {d : Addr} {L : List (List Nat × List Nat)} (h : DW H d L) : DKs H d (L.map (·.1)) := by
  obtain ⟨kvs, h1, p⟩ := h
  refine ⟨kvs, h1, ?_⟩
  clear h1
  induction p with
  | nil => rfl
  | cons r _ ih => rw [List.map_cons, List.map_cons, List.map_cons, ih, r.1]
theorem dks_isSome : ∀ {kvs : List (List Key × V)} {ks : List (List Nat)}, kvs.map (·.1) = ks.map keyN → ∀ t, (valV kvs (keyN t)).isSome = decide (t ∈ ks)
  | [], ks, h, t => by
    cases ks with
    | nil => rfl
    | cons k ks => cases h
  | kv :: kvs, ks, h, t => by
    cases ks with
    | nil => cases h
    | cons k ks =>
      injection h with h1 h2
      have ih := dks_isSome h2 t
      have h1 : kv.1 = keyN k := h1
      by_cases hk : k = t
      · subst hk
        rw [valV_pos h1, decide_eq_true (List.mem_cons_self)]
        rfl
      · rw [valV_neg (by rw [h1]; exact fun z => hk (keyN_inj z)), ih]
        exact decide_eq_decide.mpr ⟨fun z => List.mem_cons_of_mem _ z, fun z => (List.mem_cons.mp z).resolve_left (fun y => hk y.symm)⟩
theorem Mk.nil {n : Nat} {t : List Nat} (h : Mk [] n t) : t = List.range n := by
  induction h with
  | still => rfl
  | step _ hg _ => cases hg
section
variable {P : Program} {w : World} {K : PySem.W.Frag} {mg : Str → Option Value} {base : Heap}
theorem sc_group_of : FnScope ["makers", "size", "few", "turns", "known", "maker"] ["makers", "size"] (defScope s_group_of) := ⟨rfl, rfl, rfl, by decide +kernel, rfl, by decide +kernel, by decide +kernel⟩
end
end Lt

set_option Elab.async false
set_option linter.all false
set_option maxRecDepth 100000
set_option maxHeartbeats 2000000
/-! the same, the turns as keys -/
namespace Lt
open PySem PySem.Spec PyProof.Rows L2
section
variable {P : Program} {w : World} {K : PySem.W.Frag} {mg : Str → Option Value} {base : Heap}
def spGroupK : Sp := fun vs H Q _ => ∃ (ml : Addr) (ms : List (List Nat)) (n : Nat), vs = [.ref ml, nI n] ∧ LK H ml ms ∧ (∀ g ∈ ms, IsP n g) ∧ 1 ≤ n ∧ n ≤ 9 ∧ Few ms n 63 ∧
  ∀ p fl tv few ts H', Same H H' → H' p = some (.tup [.ref fl, tv]) → H fl = none → LT H' fl few → TTK H' tv ts → (∀ g ∈ few, g ∈ ms) → few.length ≤ 63 → (∀ t, Mk few n t ↔ Mk ms n t) → ts.Nodup → (∀ t, t ∈ ts ↔ Mk ms n t) → Asc ts → Q (.ref p) H'
theorem has_group_ofK (T : Top K mg "group_of" s_group_of ["makers", "size"]) (B : Bi mg) (hS : Has P w K mg base CX0 1 "still_of" ["size"] spStill) (hW : Has P w K mg base CX0 2 "words_of" ["makers", "size"] spWordsL) : Has P w K mg base CX0 3 "group_of" ["makers", "size"] spGroupK := by
  refine T.ok sc_group_of (fun vs H Q E h => ?_) (fun f cdv A outer s H vs Q E hr h => ?_)
  · obtain ⟨ml, ms, n, rfl, _⟩ := h
    rfl
  · obtain ⟨ml, ms, n, rfl, ⟨mx, hml, pm⟩, hms, hn1, hn9, hf, q⟩ := h
    have hu := hu_of hr
    have hr1 : Room 1 _ := hr.mono (by decide)
    refine ⟨_, pss_cons (ps_set (i := 2) sc_group_of.nd rfl (Or.inl rfl) (pe_lst pa_nil))
      (pss_cons (ps_set (i := 3) sc_group_of.nd rfl (Or.inl rfl) (pe_lst (pa_cons (pe_has hS hr1 (by rfl) (pa_cons (pv 1) pa_nil)) pa_nil)))
      (pss_cons (ps_set (i := 4) sc_group_of.nd rfl (Or.inl rfl) (pe_dispT hu (pe_ix ix_list (pv 3) pe_int (fun _ _ => rfl)) pe_bl))
      (pss_cons (ps_for PassesOwn.never rfl (pi_list (pv 0)) (pg_name (i := 5) sc_group_of.nd rfl (Or.inl rfl))
        (pss_one (ps_if (pt_cmp (pc_dnotin hu (pv 5) (pv 4)))
          (pss_cons (ps_expr (pe_bm PySem.F.plainAttrs_list PySem.F.slot_list_append PySem.F.type_list_append mt_append (pv 2) (pa_cons (pv 5) pa_nil)))
          (pss_cons (ps_set (i := 4) sc_group_of.nd rfl (Or.inl rfl) (pe_has hW hr (by rfl) (pa_cons (pv 2) (pa_cons (pv 1) pa_nil))))
          (pss_one (ps_set (i := 3) sc_group_of.nd rfl (Or.inl rfl) (pe_callB (cr_sortDT (d := n) (B := 9) rfl hn1) (by rfl) B.sorted PyProof.Rows.boot_sorted (pa_cons (pv 4) pa_nil)))))) pss_nil)))
      (pss_one (ps_ret (pe_tup (pa_cons (pv 2) (pa_cons (pe_tupleOf (by rfl) B.tuple (pv 3)) pa_nil)))))))), ?_⟩
    refine ⟨Nat.zero_le _, fun fl hfl => ?_⟩
    have s1 := same_new (o := .lst []) hfl
    refine ⟨_, rfl, n, rfl, by omega, fun sv H1 s2 hsv => ?_⟩
    refine ⟨Nat.le_of_ble_eq_true rfl, fun tl htl => ?_⟩
    have s3 := same_new (o := .lst [sv]) htl
    obtain ⟨b, rfl, hb⟩ := hsv.key
    refine fun d hd => ?_
    have s4 := same_new (o := .dT []) hd
    have fl0 : H fl = none := hfl
    have hml1 := s2 _ _ (s1 _ _ hml)
    have fl1 := s2 _ _ (upd_same (H := H) (a := fl) (o := .lst []))
    have tl0 : H tl = none := (s1.trans s2).free htl
    have d0 : H d = none := ((s1.trans s2).trans s3).free hd
    have htd : tl ≠ d := fun z => by rw [← z, upd_same] at hd; cases hd
    have hfd : fl ≠ d := ne_of_none (s3 _ _ fl1) hd
    refine ⟨_, rfl, tl, [V.ref b], 0, .ref b, rfl, rfl, SqL.of (s4 _ _ upd_same), rfl, b, keyN (List.range n), rfl, upd_same, s4 _ _ (s3 _ _ hb), ?_⟩
    have sD : Same H (upd (upd (upd H1 tl (.lst [V.ref b])) d (.dT [])) d (.dT [(keyN (List.range n), V.bl true)])) := same_mut (((s1.trans s2).trans s3).trans s4) d0
    have tD : Tm H1 (upd (upd (upd H1 tl (.lst [V.ref b])) d (.dT [])) d (.dT [(keyN (List.range n), V.bl true)])) := (Tm.of (s3.trans s4)).trans (Tm.dT upd_same)
    refine ⟨_, rfl, ml, rfl, ⟨_, SqL.of (sD _ _ hml)⟩, for_list (K := K) (a := ml) (xs := mx)
      (fun i σ H' => ∃ x5 dl tl few ks ts, σ = [some (.ref ml), some (nI n), some (.ref fl), some (.ref tl), some (.ref dl), x5] ∧ Same H H' ∧ LT H' fl few ∧ DKs H' dl ks ∧ LK H' tl ts ∧ few.Nodup ∧ (∀ g ∈ few, g ∈ ms) ∧ (∀ g ∈ ms.take i, Mk few n g) ∧ (∀ t, t ∈ ks ↔ Mk few n t) ∧ ts.Nodup ∧ (∀ t, t ∈ ts ↔ Mk few n t) ∧ Asc ts)
      ⟨none, d, tl, [], [List.range n], [List.range n], rfl, sD, ⟨[], ?_, .nil⟩, ⟨[(keyN (List.range n), V.bl true)], upd_same, rfl⟩, ⟨[.ref b], ?_, .cons (TK.tm tD hsv) .nil⟩, List.nodup_nil, (fun g h => by cases h), (fun g h => by rw [List.take_zero] at h; cases h), fun t => ?_, List.nodup_cons.mpr ⟨List.not_mem_nil, List.nodup_nil⟩, fun t => ?_, List.pairwise_singleton ..⟩
      (fun i σ H' _ ⟨_, _, _, _, _, _, _, st, _⟩ => SqL.of (st _ _ hml)) ?_ ?_⟩
    · rw [upd_ne hfd, upd_ne hfd, s3 _ _ fl1]
    · rw [upd_ne htd, upd_ne htd, upd_same]
    · rw [List.mem_singleton]
      exact ⟨fun z => by rw [z]; exact .still, Mk.nil⟩
    · rw [List.mem_singleton]
      exact ⟨fun z => by rw [z]; exact .still, Mk.nil⟩
    · rintro i x σ H' hi ⟨x5, dl, tl, few, ks, ts, rfl, st, ⟨fx, hfx, pf⟩, ⟨kvs, hk, ek⟩, lts, fnd, fms, ftk, hks, tnd, hts, asc⟩
      obtain ⟨g, hg, hgk⟩ := Paired.getL pm hi
      have gms := List.mem_of_getElem? hg
      have hgk' := TK.tm (.of st) hgk
      obtain ⟨gb, rfl, hgb⟩ := hgk'.key
      refine ⟨_, rfl, _, rfl, dl, _, rfl, DGet.t hk hgb, _, rfl, ?_⟩
      rw [dks_isSome ek]
      have ftake : ∀ (few' : List (List Nat)), (∀ x ∈ few', IsP n x) → (∀ x ∈ few, x ∈ few') → Mk few' n g → ∀ g ∈ ms.take (i + 1), Mk few' n g := fun few' h1 h2 h3 g' hg' => by
        rw [List.take_add_one, hg] at hg'
        rcases List.mem_append.mp hg' with z | z
        · exact (ftk g' z).mono h1 fun y hy => .one h1 (h2 y hy)
        · rw [List.mem_singleton.mp z]
          exact h3
      have fP : ∀ x ∈ few, IsP n x := fun x hx => hms x (fms x hx)
      by_cases hin : g ∈ ks
      · rw [decide_eq_true hin]
        exact iteF ⟨_, _, _, few, ks, ts, rfl, st, ⟨fx, hfx, pf⟩, ⟨kvs, hk, ek⟩, lts, fnd, fms, ftake few fP (fun _ h => h) ((hks g).mp hin), hks, tnd, hts, asc⟩
      · rw [decide_eq_false hin]
        refine iteT ?_
        have flen : few.length ≤ 63 := hf.le fnd fun t h => .one hms (fms t h)
        refine ⟨_, rfl, .inl ⟨rfl, _, SqL.of hfx⟩, _, rfl, fl, fx, .ref gb, rfl, rfl, hfx, by rw [sizeLine_eq, Paired.length pf]; omega, ?_⟩
        have tA := Tm.lst (o := .lst (fx ++ [V.ref gb])) hfx
        have stA : Same H (upd H' fl (.lst (fx ++ [V.ref gb]))) := same_mut st hfl
        have ltA : LT (upd H' fl (.lst (fx ++ [V.ref gb]))) fl (few ++ [g]) := ⟨_, upd_same, Paired.app (TNs.tm tA pf) (Paired.one (TK.tn (TK.tm tA hgk')))⟩
        have fms' : ∀ y ∈ few ++ [g], y ∈ ms := fun y hy => (List.mem_append.mp hy).elim (fms y) fun z => by rw [List.mem_singleton.mp z]; exact gms
        have fP' : ∀ y ∈ few ++ [g], IsP n y := fun y hy => hms y (fms' y hy)
        have sub : ∀ t, Mk (few ++ [g]) n t → Mk ms n t := fun t h => h.mono hms fun y hy => .one hms (fms' y hy)
        refine ⟨_, rfl, _, rfl, fl, few ++ [g], n, rfl, ltA, fP', by omega, by rw [List.length_append]; show few.length + 1 ≤ 1000; omega, fun d2 H2 L s5 hd2 dw hW => ?_⟩
        obtain ⟨aa, eL, eLl, l63⟩ := (hf.sub sub).wd (by omega) hW
        have hP2 := wd_isP fP' hW
        obtain ⟨kv2, hk2, pk2⟩ := dw
        refine ⟨_, rfl, d2, kv2, numL L, rfl, .inl hk2, keysI pk2, by rw [List.length_map]; omega, fun k hk => ?_, fun bs ks' p pmm so pr hp => ?_⟩
        · obtain ⟨y, hy, rfl⟩ := List.mem_map.mp hk
          exact ⟨by rw [List.length_map, (hP2 y hy).len], bd_iN (hP2 y hy) hn9⟩
        · obtain ⟨ts2, rfl⟩ := turns_back (L := L) fun k hk => pmm.mem_iff.mp hk
          have pm2 : ts2.Perm (L.map (·.1)) := perm_iN (by
            rw [List.map_map]
            exact pmm)
          have s6 := same_new (o := .lst (bs.map V.ref)) hp
          have full : ∀ t, t ∈ L.map (·.1) ↔ Mk (few ++ [g]) n t := fun t => by
            rw [eL]
            exact qq_full (Nat.le_of_eq (by rw [← eL]; exact eLl)) t
          have hgn : g ∉ few := fun z => hin ((hks g).mpr (.one fP z))
          exact ⟨_, d2, p, few ++ [g], L.map (·.1), ts2, rfl, (stA.trans s5).trans s6, LT.same (s5.trans s6) ltA, (DW.same ⟨kv2, hk2, pk2⟩ s6).dks, ⟨_, upd_same, TKs.tm (.of s6) (tns_of pr)⟩, nodup_snoc fnd hgn, fms',
            ftake (few ++ [g]) fP' (fun y hy => List.mem_append.mpr (.inl hy)) (.one fP' (List.mem_append.mpr (.inr List.mem_cons_self))), full, (List.Perm.nodup_iff pm2).mpr (by rw [eL]; exact qq_nd _ n aa), fun t => (pm2.mem_iff).trans (full t), (List.pairwise_map (f := iN) (R := fun x y => TS.code 9 x ≤ TS.code 9 y)).mp so⟩
    · rintro σ H' ⟨x5, dl, tl, few, ks, ts, rfl, st, ltf, _, ⟨tx, htx, ptx⟩, fnd, fms, ftk, hks, tnd, hts, asc⟩
      rw [Paired.length pm, List.take_length] at ftk
      have fP : ∀ x ∈ few, IsP n x := fun x hx => hms x (fms x hx)
      have eq : ∀ t, Mk few n t ↔ Mk ms n t := fun t => ⟨fun h => h.mono hms fun y hy => .one hms (fms y hy), fun h => h.mono fP ftk⟩
      refine ⟨_, rfl, _, rfl, .inl ⟨tl, tx, rfl, SqL.of htx, fun tp htp => ?_⟩⟩
      have s7 := same_new (o := .tup tx) htp
      refine ⟨Nat.le_of_ble_eq_true rfl, fun p hp => ?_⟩
      have s8 := same_new (o := .tup [V.ref fl, V.ref tp]) hp
      exact q p fl (.ref tp) few ts _ ((st.trans s7).trans s8) upd_same fl0 (LT.same (s7.trans s8) ltf) ⟨tp, tx, rfl, s8 _ _ upd_same, TKs.tm (.of (s7.trans s8)) ptx⟩ fms (hf.le fnd fun t h => .one hms (fms t h)) eq tnd (fun t => (hts t).trans (eq t)) asc
end
end Lt

set_option Elab.async false
set_option linter.all false
set_option maxRecDepth 100000
set_option maxHeartbeats 2000000
namespace Lt
open PySem PySem.Spec PyProof.Rows L2
/-- the commutators of the turns ts with the makers ms, in the order of the program -/
def brk (ts ms : List (List Nat)) : List (List Nat) := ts.flatMap fun t => ms.map (cm t)
theorem brk_next {ts ms : List (List Nat)} {i : Nat} {t : List Nat} (h : ts[i]? = some t) : brk (ts.take (i + 1)) ms = brk (ts.take i) ms ++ ms.map (cm t) := by
  unfold brk
  rw [List.take_add_one, h, List.flatMap_append]
  simp
theorem brk_mem {ts ms : List (List Nat)} {b : List Nat} : b ∈ brk ts ms ↔ ∃ t ∈ ts, ∃ g ∈ ms, b = cm t g := by
  unfold brk
  rw [List.mem_flatMap]
  exact ⟨fun ⟨t, h1, h2⟩ => ⟨t, h1, by obtain ⟨g, h3, h4⟩ := List.mem_map.mp h2; exact ⟨g, h3, h4.symm⟩⟩, fun ⟨t, h1, g, h2, e⟩ => ⟨t, h1, List.mem_map.mpr ⟨g, h2, e.symm⟩⟩⟩
theorem brk_len (ts ms : List (List Nat)) : (brk ts ms).length = ts.length * ms.length := by
  induction ts with
  | nil => simp [brk]
  | cons t ts ih =>
    have e : brk (t :: ts) ms = ms.map (cm t) ++ brk ts ms := by unfold brk; rw [List.flatMap_cons]
    rw [e, List.length_append, List.length_map, ih, List.length_cons, Nat.succ_mul, Nat.add_comm]
section
variable {P : Program} {w : World} {K : PySem.W.Frag} {mg : Str → Option Value} {base : Heap}
def spBracketsT : Sp := fun vs H Q _ => ∃ (tv mv : V) (ts ms : List (List Nat)) (n : Nat), vs = [tv, mv] ∧ TT H tv ts ∧ TT H mv ms ∧ (∀ g ∈ ts, IsP n g) ∧ (∀ g ∈ ms, IsP n g) ∧ 1 ≤ ts.length ∧ ts.length ≤ 63 ∧ ms.length ≤ 63 ∧ 1 ≤ n ∧ n ≤ 9 ∧ Few (brk ts ms) n 63 ∧
  ∀ p fl tv few us H', Same H H' → H' p = some (.tup [.ref fl, tv]) → H fl = none → LT H' fl few → TT H' tv us → (∀ g ∈ few, g ∈ brk ts ms) → few.length ≤ 63 → (∀ t, Mk few n t ↔ Mk (brk ts ms) n t) → us.Nodup → (∀ t, t ∈ us ↔ Mk (brk ts ms) n t) → Asc us → Q (.ref p) H'
theorem sc_brackets_made : FnScope ["term", "makers", "brackets", "turn", "maker"] ["term", "makers"] (defScope s_brackets_made) := ⟨rfl, rfl, rfl, by decide +kernel, rfl, by decide +kernel, by decide +kernel⟩
end
end Lt

set_option Elab.async false
set_option linter.all false
set_option maxRecDepth 100000
set_option maxHeartbeats 2000000
/-! the same, the turns as keys -/
namespace Lt
open PySem PySem.Spec PyProof.Rows L2
section
variable {P : Program} {w : World} {K : PySem.W.Frag} {mg : Str → Option Value} {base : Heap}
def spBracketsTK : Sp := fun vs H Q _ => ∃ (tv mv : V) (ts ms : List (List Nat)) (n : Nat), vs = [tv, mv] ∧ TT H tv ts ∧ TT H mv ms ∧ (∀ g ∈ ts, IsP n g) ∧ (∀ g ∈ ms, IsP n g) ∧ 1 ≤ ts.length ∧ ts.length ≤ 63 ∧ ms.length ≤ 63 ∧ 1 ≤ n ∧ n ≤ 9 ∧ Few (brk ts ms) n 63 ∧
  ∀ p fl tv few us H', Same H H' → H' p = some (.tup [.ref fl, tv]) → H fl = none → LT H' fl few → TTK H' tv us → (∀ g ∈ few, g ∈ brk ts ms) → few.length ≤ 63 → (∀ t, Mk few n t ↔ Mk (brk ts ms) n t) → us.Nodup → (∀ t, t ∈ us ↔ Mk (brk ts ms) n t) → Asc us → Q (.ref p) H'
end
end Lt

set_option Elab.async false
set_option linter.all false
set_option maxRecDepth 100000
set_option maxHeartbeats 2000000
namespace Lt
open PySem PySem.Spec PyProof.Rows L2
section
variable {P : Program} {w : World} {K : PySem.W.Frag} {mg : Str → Option Value} {base : Heap}
def spBracketsL : Sp := fun vs H Q _ => ∃ (tv : V) (ma : Addr) (ts ms : List (List Nat)) (n : Nat), vs = [tv, .ref ma] ∧ TT H tv ts ∧ LT H ma ms ∧ (∀ g ∈ ts, IsP n g) ∧ (∀ g ∈ ms, IsP n g) ∧ 1 ≤ ts.length ∧ ts.length ≤ 63 ∧ ms.length ≤ 63 ∧ 1 ≤ n ∧ n ≤ 9 ∧ Few (brk ts ms) n 63 ∧
  ∀ p fl tv few us H', Same H H' → H' p = some (.tup [.ref fl, tv]) → H fl = none → LT H' fl few → TT H' tv us → (∀ g ∈ few, g ∈ brk ts ms) → few.length ≤ 63 → (∀ t, Mk few n t ↔ Mk (brk ts ms) n t) → us.Nodup → (∀ t, t ∈ us ↔ Mk (brk ts ms) n t) → Asc us → Q (.ref p) H'
end
end Lt

set_option Elab.async false
set_option linter.all false
set_option maxRecDepth 100000
set_option maxHeartbeats 2000000
/-! the same, the turns as keys -/
namespace Lt
open PySem PySem.Spec PyProof.Rows L2
section
variable {P : Program} {w : World} {K : PySem.W.Frag} {mg : Str → Option Value} {base : Heap}
def spBracketsLK : Sp := fun vs H Q _ => ∃ (tv : V) (ma : Addr) (ts ms : List (List Nat)) (n : Nat), vs = [tv, .ref ma] ∧ TT H tv ts ∧ LT H ma ms ∧ (∀ g ∈ ts, IsP n g) ∧ (∀ g ∈ ms, IsP n g) ∧ 1 ≤ ts.length ∧ ts.length ≤ 63 ∧ ms.length ≤ 63 ∧ 1 ≤ n ∧ n ≤ 9 ∧ Few (brk ts ms) n 63 ∧
  ∀ p fl tv few us H', Same H H' → H' p = some (.tup [.ref fl, tv]) → H fl = none → LT H' fl few → TTK H' tv us → (∀ g ∈ few, g ∈ brk ts ms) → few.length ≤ 63 → (∀ t, Mk few n t ↔ Mk (brk ts ms) n t) → us.Nodup → (∀ t, t ∈ us ↔ Mk (brk ts ms) n t) → Asc us → Q (.ref p) H'
end
end Lt

set_option Elab.async false
set_option linter.all false
set_option maxRecDepth 100000
set_option maxHeartbeats 2000000
namespace Lt
open PySem PySem.Spec PyProof.Rows L2
section
variable {P : Program} {w : World} {K : PySem.W.Frag} {mg : Str → Option Value} {base : Heap}
def spBrackets : Sp := fun vs H Q E => spBracketsT vs H Q E ∨ spBracketsL vs H Q E
end
end Lt

set_option Elab.async false
set_option linter.all false
set_option maxRecDepth 100000
set_option maxHeartbeats 2000000
/-! the same, the turns as keys -/
namespace Lt
open PySem PySem.Spec PyProof.Rows L2
section
variable {P : Program} {w : World} {K : PySem.W.Frag} {mg : Str → Option Value} {base : Heap}
def spBracketsK : Sp := fun vs H Q E => spBracketsTK vs H Q E ∨ spBracketsLK vs H Q E
theorem has_brackets_madeK (T : Top K mg "brackets_made" s_brackets_made ["term", "makers"]) (B : Bi mg) (hB : Has P w K mg base CX0 2 "bracket_of" ["one", "other"] spBracket) (hG : Has P w K mg base CX0 3 "group_of" ["makers", "size"] spGroupK) : Has P w K mg base CX0 4 "brackets_made" ["term", "makers"] spBracketsK := by
  refine T.ok sc_brackets_made (fun vs H Q E h => ?_) (fun f cdv A outer s H vs Q E hr h => ?_)
  · rcases h with h | h
    · obtain ⟨tv, mv, ts, ms, n, rfl, _⟩ := h
      rfl
    · obtain ⟨tv, ma, ts, ms, n, rfl, _⟩ := h
      rfl
  rcases h with h | h
  · obtain ⟨tv, mv, ts, ms, n, rfl, ⟨ta, tx, rfl, hta, pt⟩, ⟨ma, mx, rfl, hma, pm⟩, hts, hms, ht1, ht2, hm2, hn1, hn9, hf, q⟩ := h
    have hr2 : Room 2 _ := hr.mono (by decide)
    refine ⟨_, pss_cons (ps_setLc2 (i := 2) (own := [("turn", 3), ("maker", 4)]) (vs1 := [4]) (wi1 := iTup K (tVar 1)) (g := gName 3) (g1 := gName 4) (te := tCall spBracket [] E0 (tCons (tVar 3) (tCons (tVar 4) tNil))) (by rfl) sc_brackets_made.nd rfl rfl (sw_true rfl rfl rfl (by decide +kernel)) (pi_tup (pv 0))
        (blkOk_by (own := [("turn", 3), ("maker", 4)]) (N := ["term", "makers", "brackets", "turn", "maker"]) (sc := defScope s_brackets_made) (by decide +kernel)) (by decide)
        (fun _ _ _ _ _ => pg_name (i := 3) sc_brackets_made.nd rfl (Or.inl rfl)) (fun _ _ _ _ _ => pts_nil) (fun _ _ _ _ _ => by exact (pi_tup (pv 1))) (fun _ _ _ _ _ => pg_name (i := 4) sc_brackets_made.nd rfl (Or.inl rfl)) (fun _ _ _ _ _ => pts_nil)
        (fun _ _ _ _ _ => pe_has hB hr2 (by rfl) (pa_cons (pv 3) (pa_cons (pv 4) pa_nil))))
      (pss_one (ps_ret (pe_has hG hr (by rfl) (pa_cons (pv 2) (pa_cons (pe_callB call_len_seq (by rfl) B.len PySem.boot_len (pa_cons (pe_ix ix_tup (pv 0) pe_int (fun _ _ => rfl)) pa_nil)) pa_nil))))), ?_⟩
    refine ⟨_, rfl, ta, rfl, ⟨_, SqT.of hta⟩, fun D hD => ?_⟩
    have Dr : H D = none := hD
    let Pv : Nat → Hp → Prop := fun i H' => Same H H' ∧ ∃ zs, H' D = some (.lst zs) ∧ Paired (TK H') zs (brk (ts.take i) ms)
    have htl : tx.length = ts.length := Paired.length pt
    have hml : mx.length = ms.length := Paired.length pm
    refine ⟨fun i m H' => m = tx.length - i ∧ i ≤ tx.length ∧ Pv i H', ⟨tx.length, rfl, Nat.zero_le _, same_new hD, [], upd_same, .nil⟩, ?_⟩
    rintro i m H1 ⟨rfl, hi, st, zs, hz, pz⟩
    by_cases hlt : i < tx.length
    · refine .inr ⟨⟨tx, tx[i], SqT.of (st _ _ hta), by simp [hlt]⟩, Pv (i + 1), fun H' p' => ⟨tx.length - (i + 1), by omega, rfl, hlt, p'⟩, fun x H' y => ?_⟩
      obtain ⟨e, y⟩ := y
      subst e
      have hx := y tx (SqT.of (st _ _ hta))
      obtain ⟨t, ht, htn⟩ := Paired.getL pt hx
      have tP := hts t (List.mem_of_getElem? ht)
      refine ⟨rfl, iteT (B := Pv (i + 1) H') ?_⟩
      let Pw : Nat → Hp → Prop := fun j H' => Same H H' ∧ ∃ zs, H' D = some (.lst zs) ∧ Paired (TK H') zs (brk (ts.take i) ms ++ (ms.take j).map (cm t))
      refine ⟨_, rfl, ma, rfl, ⟨_, SqT.of (st _ _ hma)⟩, fun j k H' => k = mx.length - j ∧ j ≤ mx.length ∧ Pw j H', ⟨mx.length, rfl, Nat.zero_le _, st, zs, hz, by rw [List.take_zero, List.map_nil, List.append_nil]; exact pz⟩, ?_⟩
      rintro j k H2 ⟨rfl, hj, st2, zs2, hz2, pz2⟩
      by_cases hlj : j < mx.length
      · refine .inr ⟨⟨mx, mx[j], SqT.of (st2 _ _ hma), by simp [hlj]⟩, Pw (j + 1), fun H' p' => ⟨mx.length - (j + 1), by omega, rfl, hlj, p'⟩, fun x2 H'' y2 => ?_⟩
        obtain ⟨e, y2⟩ := y2
        subst e
        have hx2 := y2 mx (SqT.of (st2 _ _ hma))
        obtain ⟨g, hg, hgn⟩ := Paired.getL pm hx2
        have gP := hms g (List.mem_of_getElem? hg)
        refine ⟨rfl, iteT (B := Pw (j + 1) H'') ?_⟩
        refine ⟨_, rfl, _, rfl, x, x2, t, g, n, rfl, htn.tm (.of st2), hgn.tm (.of st2), tP, gP, by omega, fun v H3 s3 hv => ?_⟩
        have h3 := s3 _ _ hz2
        have t3 : Tm H3 (upd H3 D (.lst (zs2 ++ [v]))) := Tm.lst h3
        have lz : zs2.length ≤ 8000 := by
          have l1 := Paired.length pz2
          rw [List.length_append, List.length_map, brk_len, List.length_take, List.length_take] at l1
          have l2 : min i ts.length * ms.length ≤ 63 * 63 := Nat.mul_le_mul (by omega) hm2
          omega
        refine ⟨zs2, h3, by rw [sizeLine_eq]; omega, same_mut (st2.trans s3) Dr, zs2 ++ [v], upd_same, ?_⟩
        rw [List.take_add_one, hg, List.map_append, ← List.append_assoc]
        exact Paired.app (TKs.tm ((Tm.of s3).trans t3) pz2) (Paired.one (TK.tm t3 hv))
      · have e : j = mx.length := by omega
        subst e
        rw [hml, List.take_length] at pz2
        refine .inl ⟨⟨mx, SqT.of (st2 _ _ hma), Nat.le_refl _⟩, st2, zs2, hz2, ?_⟩
        rw [brk_next ht]
        exact pz2
    · have e : i = tx.length := by omega
      subst e
      rw [htl, List.take_length] at pz
      obtain ⟨t0, tb, b, ht0, hb0, rfl, hbt⟩ : ∃ t0 tb b, ts[0]? = some t0 ∧ tx[0]? = some tb ∧ tb = .ref b ∧ RT H b (nIs t0) := by
        obtain ⟨tb, h1, h2⟩ := Paired.getR pt (List.getElem?_eq_getElem (by omega : 0 < ts.length))
        obtain ⟨b, rfl, hb⟩ := h2
        exact ⟨_, _, b, List.getElem?_eq_getElem (by omega), h1, rfl, hb⟩
      have t0P := hts t0 (List.mem_of_getElem? ht0)
      refine .inl ⟨⟨tx, SqT.of (st _ _ hta), Nat.le_refl _⟩, ?_⟩
      refine ⟨_, rfl, _, rfl, ta, tx, 0, .ref b, rfl, rfl, SqT.of (st _ _ hta), by exact atI_nat (j := 0) hb0, b, nIs t0, rfl, .inr (hbt.sm st).sq, D, brk ts ms, n, by rw [nIs_len, t0P.len]; rfl, ⟨zs, hz, pz⟩, fun g hg => ?_, hn1, hn9, hf, fun p fl tv few us H' s6 hp hfn => q p fl tv few us H' (st.trans s6) hp (st.free hfn)⟩
      obtain ⟨t, h1, g', h2, rfl⟩ := brk_mem.mp hg
      exact (hts t h1).cm (hms g' h2)
  · obtain ⟨tv, ma, ts, ms, n, rfl, ⟨ta, tx, rfl, hta, pt⟩, ⟨mx, hma, pm⟩, hts, hms, ht1, ht2, hm2, hn1, hn9, hf, q⟩ := h
    have hr2 : Room 2 _ := hr.mono (by decide)
    refine ⟨_, pss_cons (ps_setLc2 (i := 2) (own := [("turn", 3), ("maker", 4)]) (vs1 := [4]) (wi1 := iList K (tVar 1)) (g := gName 3) (g1 := gName 4) (te := tCall spBracket [] E0 (tCons (tVar 3) (tCons (tVar 4) tNil))) (by rfl) sc_brackets_made.nd rfl rfl (sw_true rfl rfl rfl (by decide +kernel)) (pi_tup (pv 0))
        (blkOk_by (own := [("turn", 3), ("maker", 4)]) (N := ["term", "makers", "brackets", "turn", "maker"]) (sc := defScope s_brackets_made) (by decide +kernel)) (by decide)
        (fun _ _ _ _ _ => pg_name (i := 3) sc_brackets_made.nd rfl (Or.inl rfl)) (fun _ _ _ _ _ => pts_nil) (fun _ _ _ _ _ => by exact (pi_list (pv 1))) (fun _ _ _ _ _ => pg_name (i := 4) sc_brackets_made.nd rfl (Or.inl rfl)) (fun _ _ _ _ _ => pts_nil)
        (fun _ _ _ _ _ => pe_has hB hr2 (by rfl) (pa_cons (pv 3) (pa_cons (pv 4) pa_nil))))
      (pss_one (ps_ret (pe_has hG hr (by rfl) (pa_cons (pv 2) (pa_cons (pe_callB call_len_seq (by rfl) B.len PySem.boot_len (pa_cons (pe_ix ix_tup (pv 0) pe_int (fun _ _ => rfl)) pa_nil)) pa_nil))))), ?_⟩
    refine ⟨_, rfl, ta, rfl, ⟨_, SqT.of hta⟩, fun D hD => ?_⟩
    have Dr : H D = none := hD
    let Pv : Nat → Hp → Prop := fun i H' => Same H H' ∧ ∃ zs, H' D = some (.lst zs) ∧ Paired (TK H') zs (brk (ts.take i) ms)
    have htl : tx.length = ts.length := Paired.length pt
    have hml : mx.length = ms.length := Paired.length pm
    refine ⟨fun i m H' => m = tx.length - i ∧ i ≤ tx.length ∧ Pv i H', ⟨tx.length, rfl, Nat.zero_le _, same_new hD, [], upd_same, .nil⟩, ?_⟩
    rintro i m H1 ⟨rfl, hi, st, zs, hz, pz⟩
    by_cases hlt : i < tx.length
    · refine .inr ⟨⟨tx, tx[i], SqT.of (st _ _ hta), by simp [hlt]⟩, Pv (i + 1), fun H' p' => ⟨tx.length - (i + 1), by omega, rfl, hlt, p'⟩, fun x H' y => ?_⟩
      obtain ⟨e, y⟩ := y
      subst e
      have hx := y tx (SqT.of (st _ _ hta))
      obtain ⟨t, ht, htn⟩ := Paired.getL pt hx
      have tP := hts t (List.mem_of_getElem? ht)
      refine ⟨rfl, iteT (B := Pv (i + 1) H') ?_⟩
      let Pw : Nat → Hp → Prop := fun j H' => Same H H' ∧ ∃ zs, H' D = some (.lst zs) ∧ Paired (TK H') zs (brk (ts.take i) ms ++ (ms.take j).map (cm t))
      refine ⟨_, rfl, ma, rfl, ⟨_, SqL.of (st _ _ hma)⟩, fun j k H' => k = mx.length - j ∧ j ≤ mx.length ∧ Pw j H', ⟨mx.length, rfl, Nat.zero_le _, st, zs, hz, by rw [List.take_zero, List.map_nil, List.append_nil]; exact pz⟩, ?_⟩
      rintro j k H2 ⟨rfl, hj, st2, zs2, hz2, pz2⟩
      by_cases hlj : j < mx.length
      · refine .inr ⟨⟨mx, mx[j], SqL.of (st2 _ _ hma), by simp [hlj]⟩, Pw (j + 1), fun H' p' => ⟨mx.length - (j + 1), by omega, rfl, hlj, p'⟩, fun x2 H'' y2 => ?_⟩
        obtain ⟨e, y2⟩ := y2
        subst e
        have hx2 := y2 mx (SqL.of (st2 _ _ hma))
        obtain ⟨g, hg, hgn⟩ := Paired.getL pm hx2
        have gP := hms g (List.mem_of_getElem? hg)
        refine ⟨rfl, iteT (B := Pw (j + 1) H'') ?_⟩
        refine ⟨_, rfl, _, rfl, x, x2, t, g, n, rfl, htn.tm (.of st2), hgn.tm (.of st2), tP, gP, by omega, fun v H3 s3 hv => ?_⟩
        have h3 := s3 _ _ hz2
        have t3 : Tm H3 (upd H3 D (.lst (zs2 ++ [v]))) := Tm.lst h3
        have lz : zs2.length ≤ 8000 := by
          have l1 := Paired.length pz2
          rw [List.length_append, List.length_map, brk_len, List.length_take, List.length_take] at l1
          have l2 : min i ts.length * ms.length ≤ 63 * 63 := Nat.mul_le_mul (by omega) hm2
          omega
        refine ⟨zs2, h3, by rw [sizeLine_eq]; omega, same_mut (st2.trans s3) Dr, zs2 ++ [v], upd_same, ?_⟩
        rw [List.take_add_one, hg, List.map_append, ← List.append_assoc]
        exact Paired.app (TKs.tm ((Tm.of s3).trans t3) pz2) (Paired.one (TK.tm t3 hv))
      · have e : j = mx.length := by omega
        subst e
        rw [hml, List.take_length] at pz2
        refine .inl ⟨⟨mx, SqL.of (st2 _ _ hma), Nat.le_refl _⟩, st2, zs2, hz2, ?_⟩
        rw [brk_next ht]
        exact pz2
    · have e : i = tx.length := by omega
      subst e
      rw [htl, List.take_length] at pz
      obtain ⟨t0, tb, b, ht0, hb0, rfl, hbt⟩ : ∃ t0 tb b, ts[0]? = some t0 ∧ tx[0]? = some tb ∧ tb = .ref b ∧ RT H b (nIs t0) := by
        obtain ⟨tb, h1, h2⟩ := Paired.getR pt (List.getElem?_eq_getElem (by omega : 0 < ts.length))
        obtain ⟨b, rfl, hb⟩ := h2
        exact ⟨_, _, b, List.getElem?_eq_getElem (by omega), h1, rfl, hb⟩
      have t0P := hts t0 (List.mem_of_getElem? ht0)
      refine .inl ⟨⟨tx, SqT.of (st _ _ hta), Nat.le_refl _⟩, ?_⟩
      refine ⟨_, rfl, _, rfl, ta, tx, 0, .ref b, rfl, rfl, SqT.of (st _ _ hta), by exact atI_nat (j := 0) hb0, b, nIs t0, rfl, .inr (hbt.sm st).sq, D, brk ts ms, n, by rw [nIs_len, t0P.len]; rfl, ⟨zs, hz, pz⟩, fun g hg => ?_, hn1, hn9, hf, fun p fl tv few us H' s6 hp hfn => q p fl tv few us H' (st.trans s6) hp (st.free hfn)⟩
      obtain ⟨t, h1, g', h2, rfl⟩ := brk_mem.mp hg
      exact (hts t h1).cm (hms g' h2)
end
end Lt

set_option Elab.async false
set_option linter.all false
set_option maxRecDepth 100000
set_option maxHeartbeats 2000000
namespace Lt
open PySem PySem.Spec PyProof.Rows L2
/-- the next term: all that the commutators make, ascending -/
structure Nx (ms : List (List Nat)) (n : Nat) (A B : List (List Nat)) : Prop where
  nd : B.Nodup
  asc : Asc B
  mem : ∀ t, t ∈ B ↔ Mk (brk A ms) n t
/-- a term: closed, and closed under commutators with ms -/
structure Tm1 (ls ms : List (List Nat)) (n : Nat) (A : List (List Nat)) : Prop where
  sub : ∀ t ∈ A, Mk ls n t
  still : List.range n ∈ A
  pr : ∀ a ∈ A, ∀ b ∈ A, prod a b ∈ A
  cm : ∀ t ∈ A, ∀ g ∈ ms, cm t g ∈ A
theorem Tm1.next {ls ms : List (List Nat)} {n : Nat} {A B : List (List Nat)} (hls : ∀ g ∈ ls, IsP n g) (hms : ∀ g ∈ ms, IsP n g) (h : Tm1 ls ms n A) (hx : Nx ms n A B) : Tm1 ls ms n B ∧ ∀ t ∈ B, t ∈ A := by
  have hA : ∀ t ∈ A, IsP n t := fun t ht => (h.sub t ht).isP hls
  have hb : ∀ b ∈ brk A ms, b ∈ A := fun b hb => by
    obtain ⟨t, h1, g, h2, rfl⟩ := brk_mem.mp hb
    exact h.cm t h1 g h2
  have hbP : ∀ b ∈ brk A ms, IsP n b := fun b hb' => hA b (hb b hb')
  have sub : ∀ t, Mk (brk A ms) n t → t ∈ A := fun t ht => by
    induction ht with
    | still => exact h.still
    | step _ hg ih => exact h.pr _ ih _ (hb _ hg)
  refine ⟨⟨fun t ht => h.sub t (sub t ((hx.mem t).mp ht)), (hx.mem _).mpr .still, fun a ha b hb' => (hx.mem _).mpr (((hx.mem a).mp ha).prod hbP ((hx.mem b).mp hb')), fun t ht g hg => ?_⟩, fun t ht => sub t ((hx.mem t).mp ht)⟩
  exact (hx.mem _).mpr (.one hbP (brk_mem.mpr ⟨t, sub t ((hx.mem t).mp ht), g, hg, rfl⟩))
theorem Tm1.whole {ls : List (List Nat)} {n m : Nat} {T0 : List (List Nat)} (hls : ∀ g ∈ ls, IsP n g) (hf : Few ls n m) (hT : ∀ t, t ∈ T0 ↔ Mk ls n t) : Tm1 ls ls n T0 := by
  refine ⟨fun t ht => (hT t).mp ht, (hT _).mpr .still, fun a ha b hb => (hT _).mpr (((hT a).mp ha).prod hls ((hT b).mp hb)), fun t ht g hg => (hT _).mpr ?_⟩
  have h1 := (hT t).mp ht
  have h2 := Mk.one hls hg
  exact (h1.prod hls h2).prod hls ((h2.prod hls h1).inv hls hf)
theorem TTs.tm {H H' : Hp} (e : Tm H H') {xs : List V} {Ts : List (List (List Nat))} (p : Paired (TT H) xs Ts) : Paired (TT H') xs Ts := paired_mono (fun _ _ r => TT.tm e r) p
section
variable {P : Program} {w : World} {K : PySem.W.Frag} {mg : Str → Option Value} {base : Heap} {CL CM : Addr}
end
end Lt

set_option Elab.async false
set_option linter.all false
set_option maxRecDepth 100000
set_option maxHeartbeats 2000000
namespace Lt
open PySem PySem.Spec PyProof.Rows L2
structure SerD (n : Nat) (T0 : List (List Nat)) (Ts : List (List (List Nat))) : Prop where
  head : Ts[0]? = some T0
  step : ∀ i A B, Ts[i]? = some A → Ts[i + 1]? = some B → Nx A n A B ∧ B.length ≠ A.length
  stop : ∀ i A, Ts[i]? = some A → Ts[i + 1]? = none → ∃ B, Nx A n A B ∧ B.length = A.length
theorem Tm1.self {ls : List (List Nat)} {n m : Nat} {T0 : List (List Nat)} (h : Tm1 ls ls n T0) (hls : ∀ g ∈ ls, IsP n g) (hf : Few ls n m) (hT : ∀ t, t ∈ T0 ↔ Mk ls n t) : Tm1 ls T0 n T0 :=
  ⟨h.sub, h.still, h.pr, fun t ht g hg => (hT _).mpr ((((hT t).mp ht).prod hls ((hT g).mp hg)).prod hls ((((hT g).mp hg).prod hls ((hT t).mp ht)).inv hls hf))⟩
end Lt

set_option Elab.async false
set_option linter.all false
set_option maxRecDepth 100000
set_option maxHeartbeats 2000000
namespace Lt
open PySem PySem.Spec PyProof.Rows L2
/-- the makers: the lock, or a list apart from the terms' -/
def MkAt (H : Hp) (tl : Addr) (mv : V) (ms : List (List Nat)) : Prop := TT H mv ms ∨ ∃ fl, mv = .ref fl ∧ fl ≠ tl ∧ LT H fl ms
theorem MkAt.brk {H : Hp} {tl : Addr} {tv mv : V} {ts ms : List (List Nat)} {n : Nat} {Q : VK} {E : XK} (h : MkAt H tl mv ms) (ht : TT H tv ts) (h1 : ∀ g ∈ ts, IsP n g) (h2 : ∀ g ∈ ms, IsP n g) (h3 : 1 ≤ ts.length) (h4 : ts.length ≤ 63) (h5 : ms.length ≤ 63) (h6 : 1 ≤ n) (h7 : n ≤ 9) (hf : Few (Lt.brk ts ms) n 63)
    (q : ∀ p fl tv few us H', Same H H' → H' p = some (.tup [.ref fl, tv]) → H fl = none → LT H' fl few → TT H' tv us → (∀ g ∈ few, g ∈ Lt.brk ts ms) → few.length ≤ 63 → (∀ t, Mk few n t ↔ Mk (Lt.brk ts ms) n t) → us.Nodup → (∀ t, t ∈ us ↔ Mk (Lt.brk ts ms) n t) → Asc us → Q (.ref p) H') : spBrackets ([tv, mv] ++ []) H Q E := by
  rcases h with h | ⟨fl, rfl, _, h⟩
  · exact .inl ⟨tv, mv, ts, ms, n, rfl, ht, h, h1, h2, h3, h4, h5, h6, h7, hf, q⟩
  · exact .inr ⟨tv, fl, ts, ms, n, rfl, ht, h, h1, h2, h3, h4, h5, h6, h7, hf, q⟩
section
variable {P : Program} {w : World} {K : PySem.W.Frag} {mg : Str → Option Value} {base : Heap} {CL CM : Addr}
theorem sc_derived : FnScope ["lock", "terms", "makers", "term"] ["lock"] (defScope s_derived) := ⟨rfl, rfl, rfl, by decide +kernel, rfl, by decide +kernel, by decide +kernel⟩
end
end Lt

set_option Elab.async false
set_option linter.all false
set_option maxRecDepth 100000
set_option maxHeartbeats 2000000
/-! the same, the turns as keys -/
namespace Lt
open PySem PySem.Spec PyProof.Rows L2
def TTTK (H : Hp) (v : V) (Ts : List (List (List Nat))) : Prop := ∃ a xs, v = .ref a ∧ H a = some (.tup xs) ∧ Paired (TTK H) xs Ts
theorem TTK.tm2 {H H' : Hp} {v : V} {ts : List (List Nat)} (e : Tm H H') (h : TTK H v ts) : TTK H' v ts := let ⟨a, xs, ev, ha, p⟩ := h; ⟨a, xs, ev, e.1 _ _ ha, TKs.tm e p⟩
theorem TTKs.tm {H H' : Hp} (e : Tm H H') {xs : List V} {Ts : List (List (List Nat))} (p : Paired (TTK H) xs Ts) : Paired (TTK H') xs Ts := paired_mono (fun _ _ r => TTK.tm2 e r) p
theorem MkAt.brkK {H : Hp} {tl : Addr} {tv mv : V} {ts ms : List (List Nat)} {n : Nat} {Q : VK} {E : XK} (h : MkAt H tl mv ms) (ht : TT H tv ts) (h1 : ∀ g ∈ ts, IsP n g) (h2 : ∀ g ∈ ms, IsP n g) (h3 : 1 ≤ ts.length) (h4 : ts.length ≤ 63) (h5 : ms.length ≤ 63) (h6 : 1 ≤ n) (h7 : n ≤ 9) (hf : Few (Lt.brk ts ms) n 63)
    (q : ∀ p fl tv few us H', Same H H' → H' p = some (.tup [.ref fl, tv]) → H fl = none → LT H' fl few → TTK H' tv us → (∀ g ∈ few, g ∈ Lt.brk ts ms) → few.length ≤ 63 → (∀ t, Mk few n t ↔ Mk (Lt.brk ts ms) n t) → us.Nodup → (∀ t, t ∈ us ↔ Mk (Lt.brk ts ms) n t) → Asc us → Q (.ref p) H') : spBracketsK ([tv, mv] ++ []) H Q E := by
  rcases h with h | ⟨fl, rfl, _, h⟩
  · exact .inl ⟨tv, mv, ts, ms, n, rfl, ht, h, h1, h2, h3, h4, h5, h6, h7, hf, q⟩
  · exact .inr ⟨tv, fl, ts, ms, n, rfl, ht, h, h1, h2, h3, h4, h5, h6, h7, hf, q⟩
section
variable {P : Program} {w : World} {K : PySem.W.Frag} {mg : Str → Option Value} {base : Heap} {CL CM : Addr}
def spDerivedK : Sp := fun vs H Q _ => ∃ (v : V) (ls : List (List Nat)) (n : Nat), vs = [v] ∧ Good H v ls n ∧ ∀ r H' T0 Ts, Same H H' → TTTK H' r Ts → T0.Nodup → Asc T0 → (∀ t, t ∈ T0 ↔ Mk ls n t) → SerD n T0 Ts → Q r H'
theorem has_derivedK (T : Top K mg "derived" s_derived ["lock"]) (B : Bi mg) (hA : Has P w K mg base (L2.CX P w) 6 "all_turns" ["lock"] (spAllK CL CM)) (hM : Has P w K mg base CX0 4 "brackets_made" ["term", "makers"] spBracketsK) : Has P w K mg base CX0 7 "derived" ["lock"] spDerivedK := by
  refine T.ok sc_derived (fun vs H Q E h => ?_) (fun f cdv A outer s H vs Q E hr h => ?_)
  · obtain ⟨v, ls, n, rfl, _⟩ := h
    rfl
  · obtain ⟨v, ls, n, rfl, g, q⟩ := h
    have hr4 : Room 4 _ := hr.mono (by decide)
    have hls := g.gl.2.2.2.2
    have n9 := g.gl.2.2.2.1
    have n2 := g.gl.2.2.1
    have l4 := g.gl.2.1
    refine ⟨_, pss_cons (ps_set (i := 1) sc_derived.nd rfl (Or.inl rfl) (pe_lst (pa_cons (pe_hasL hA hr (by rfl) (pa_cons (pv 0) pa_nil)) pa_nil)))
      (pss_cons (ps_set (i := 2) sc_derived.nd rfl (Or.inl rfl) (pv 0))
      (pss_one (ps_while PassesOwn.never (pt_val pe_bl)
        (pss_cons (ps_asg (pe_has hM hr4 (by rfl) (pa_cons (pe_ix ix_list (pv 1) (pe_un un_neg pe_int) (fun _ _ => rfl)) (pa_cons (pv 2) pa_nil))) (pg_tup (by rfl) (pgs_cons (pg_name (i := 2) sc_derived.nd rfl (Or.inl rfl)) (pgs_cons (pg_name (i := 3) sc_derived.nd rfl (Or.inl rfl)) pgs_nil))))
        (pss_cons (ps_if (pt_cmpR op_eq (pe_callB call_len_seq (by rfl) B.len PySem.boot_len (pa_cons (pv 3) pa_nil)) (pe_callB call_len_seq (by rfl) B.len PySem.boot_len (pa_cons (pe_ix ix_list (pv 1) (pe_un un_neg pe_int) (fun _ _ => rfl)) pa_nil)) (nomark _))
          (pss_one (ps_ret (pe_tupleOf (by rfl) B.tuple (pv 1)))) pss_nil)
        (pss_one (ps_expr (pe_bm PySem.F.plainAttrs_list PySem.F.slot_list_append PySem.F.type_list_append mt_append (pv 1) (pa_cons (pv 3) pa_nil))))))))), ?_⟩
    refine ⟨_, rfl, v, rfl, lockIn_good g.tt g.gl g.few (by omega) fun L hL h240 => ⟨?_, fun r0 H1 T0 s1 htt hperm hasc => ?_⟩⟩
    · obtain ⟨_, _, _, z⟩ := g.few.wd (by omega) hL
      omega
    have eL := g.wd hL
    subst eL
    have hnd : T0.Nodup := (List.Perm.nodup_iff hperm).mpr (by rw [LL_eq]; exact qq_nd ls n 300)
    have hmem : ∀ t, t ∈ T0 ↔ Mk ls n t := fun t => (hperm.mem_iff).trans (g.mem t)
    have w0 := (Tm1.whole hls g.few hmem).self hls g.few hmem
    refine ⟨Nat.le_of_ble_eq_true rfl, fun tl htl => ?_⟩
    have s2 := same_new (o := .lst [r0]) htl
    have tl0 : H tl = none := s1.free htl
    refine ⟨_, rfl, fun m σ H' => ∃ mv ms x3 pre A, σ = [some v, some (.ref tl), some mv, x3] ∧ Same H H' ∧ MkAt H' tl mv ms ∧ ms.length ≤ 63 ∧ (∀ g ∈ ms, IsP n g) ∧ (∀ t, Mk ms n t ↔ t ∈ A) ∧ (∃ xs a, H' tl = some (.lst (xs ++ [a])) ∧ Paired (TTK H') xs pre ∧ TTK H' a A) ∧ m = A.length ∧ A.Nodup ∧ Tm1 ls A n A ∧ (pre ++ [A])[0]? = some T0 ∧ pre.length + A.length ≤ 64 ∧
      (∀ i X Y, (pre ++ [A])[i]? = some X → (pre ++ [A])[i + 1]? = some Y → Nx X n X Y ∧ Y.length ≠ X.length),
      ⟨T0.length, v, ls, none, [], T0, rfl, s1.trans s2, .inl (g.tt.tm (.of (s1.trans s2))), by omega, hls, fun t => (hmem t).symm, ⟨[], r0, upd_same, .nil, TTK.tm2 (.of s2) htt⟩, rfl, hnd, w0, rfl, ?_, fun i X Y h1 h2 => ?_⟩, ?_⟩
    · have := g.few.le hnd fun t h => (hmem t).mp h
      show 0 + T0.length ≤ 64
      omega
    · have := (List.getElem?_eq_some_iff.mp h2).1
      simp at this
    rintro m σ H' ⟨mv, ms, x3, pre, A, rfl, st, hmv, hm63, hmsP, hmsA, ⟨xs, a, htl', pxs, ha⟩, rfl, And, At, hd, hsz, hst⟩
    have hAl : 1 ≤ A.length := List.length_pos_of_mem At.still
    have hA63 : A.length ≤ 63 := g.few.le And At.sub
    have hAP : ∀ t ∈ A, IsP n t := fun t ht => (At.sub t ht).isP hls
    have hmsIn : ∀ g ∈ ms, g ∈ A := fun g hg => (hmsA g).mp (.one hmsP hg)
    have hbA : ∀ b ∈ brk A ms, b ∈ A := fun b hb => by
      obtain ⟨x, h1, y, h2, rfl⟩ := brk_mem.mp hb
      exact At.cm x h1 y (hmsIn y h2)
    have hbAP : ∀ b ∈ brk A ms, IsP n b := fun b hb => hAP b (hbA b hb)
    have hbk : ∀ t, Mk (brk A ms) n t → Mk ls n t := fun t ht => ht.mono hls fun b hb => At.sub _ (hbA b hb)
    have hfb : Few (brk A ms) n 63 := g.few.sub hbk
    have hbb : ∀ t, Mk (brk A ms) n t ↔ Mk (brk A A) n t := fun t => by
      have hAAP : ∀ b ∈ brk A A, IsP n b := fun b hb => by
        obtain ⟨x, h1, y, h2, rfl⟩ := brk_mem.mp hb
        exact (hAP x h1).cm (hAP y h2)
      refine ⟨fun h => h.mono hAAP fun b hb => ?_, fun h => h.mono hbAP fun b hb => ?_⟩
      · obtain ⟨x, h1, y, h2, rfl⟩ := brk_mem.mp hb
        exact .one hAAP (brk_mem.mpr ⟨x, h1, y, hmsIn y h2, rfl⟩)
      · obtain ⟨x, h1, y, h2, rfl⟩ := brk_mem.mp hb
        exact cm_all (N := fun t => t ∈ A) (gs := ms) (fun t ht => hAP t ht) hmsP hbAP hfb (fun t g ht hg => At.cm t ht g (hmsIn g hg)) (fun t g ht hg => brk_mem.mpr ⟨t, ht, g, hg, rfl⟩) ((hmsA y).mpr h2) x h1
    refine ⟨true, rfl, iteT ⟨fun σ2 H2 => ∃ mv ms x3 B b, σ2 = [some v, some (.ref tl), some mv, x3] ∧ Same H H2 ∧ MkAt H2 tl mv ms ∧ ms.length ≤ 63 ∧ (∀ g ∈ ms, IsP n g) ∧ (∀ t, Mk ms n t ↔ t ∈ B) ∧ H2 tl = some (.lst ((xs ++ [a]) ++ [b])) ∧ Paired (TTK H2) (xs ++ [a]) (pre ++ [A]) ∧ TTK H2 b B ∧ Nx A n A B ∧ B.length ≠ A.length, fun σ2 H2 ⟨mv, ms, x3, B, b, e1, e2, d1, d2, d3, d4, e3, e4, e5, e6, e7⟩ => ?_, ?_⟩⟩
    · obtain ⟨Bt0, Bs⟩ := At.next hls hAP e6
      have Bt : Tm1 ls B n B := ⟨Bt0.sub, Bt0.still, Bt0.pr, fun t ht x hx => Bt0.cm t ht x (Bs x hx)⟩
      have hBl : B.length ≤ A.length := nodup_len B A e6.nd Bs
      refine ⟨B.length, by omega, mv, ms, x3, pre ++ [A], B, e1, e2, d1, d2, d3, d4, ⟨xs ++ [a], b, e3, e4, e5⟩, rfl, e6.nd, Bt, ?_, by rw [List.length_append]; show pre.length + 1 + B.length ≤ 64; omega, fun i X Y h1 h2 => ?_⟩
      · rw [List.getElem?_append_left (by rw [List.length_append]; show 0 < pre.length + 1; omega)]
        exact hd
      · by_cases hi : i + 1 < (pre ++ [A]).length
        · rw [List.getElem?_append_left hi] at h2
          rw [List.getElem?_append_left (by omega)] at h1
          exact hst i X Y h1 h2
        · have l2 := (List.getElem?_eq_some_iff.mp h2).1
          rw [List.length_append] at l2
          have ei : i + 1 = (pre ++ [A]).length := by
            have : ([B] : List (List (List Nat))).length = 1 := rfl
            omega
          have ei2 : i = pre.length := by
            rw [List.length_append] at ei
            have : ([A] : List (List (List Nat))).length = 1 := rfl
            omega
          rw [ei, List.getElem?_concat_length] at h2
          rw [List.getElem?_append_left (by omega), ei2, List.getElem?_concat_length] at h1
          rw [← Option.some.inj h1, ← Option.some.inj h2]
          exact ⟨e6, e7⟩
    · refine ⟨_, rfl, 1, rfl, tl, xs ++ [a], -1, a, rfl, rfl, SqL.of htl', atI_last xs a, _, rfl, hmv.brkK (TTK.tt ha) hAP hmsP hAl hA63 hm63 (by omega) n9 hfb fun p fl tv few us H2 s5 hp hfn hltf httv hfi hf63 hfk und umem uasc => ?_⟩
      refine ⟨p, _, rfl, SqT.of hp, rfl, .ref fl, _, rfl, tv, _, rfl, rfl, ?_⟩
      obtain ⟨ua, ux, rfl, hua, pu⟩ := httv
      obtain ⟨aa, ax, rfl, haa, pax⟩ := ha
      have htl2 := s5 _ _ htl'
      have nxu : Nx A n A us := ⟨und, uasc, fun t => (umem t).trans (hbb t)⟩
      have hftl : fl ≠ tl := (ne_of_none htl' hfn).symm
      have ltT : Paired (TTK H2) xs pre := TTKs.tm (.of s5) pxs
      have aT : TTK H2 (.ref aa) A := ⟨aa, ax, rfl, s5 _ _ haa, TKs.tm (.of s5) pax⟩
      refine ⟨_, rfl, ua, ux, rfl, .inr (SqT.of hua), _, rfl, 1, rfl, tl, xs ++ [.ref aa], -1, .ref aa, rfl, rfl, SqL.of htl2, atI_last xs (.ref aa), aa, ax, rfl, .inr (SqT.of (s5 _ _ haa)), rfl, _, rfl, ite2 (fun hq => ?_) (fun hq => ?_)⟩
      · have hq : V.int (ux.length : Int) = V.int (ax.length : Int) := of_decide_eq_true hq
        injection hq with hq
        have hl : us.length = A.length := by rw [← Paired.length pu, ← Paired.length pax]; omega
        refine ⟨_, rfl, .inl ⟨tl, xs ++ [.ref aa], rfl, SqL.of htl2, fun r hr' => ?_⟩⟩
        have s6 := same_new (o := .tup (xs ++ [V.ref aa])) hr'
        refine q (.ref r) _ T0 (pre ++ [A]) ((st.trans s5).trans s6) ⟨r, _, rfl, upd_same, TTKs.tm (.of s6) (Paired.app ltT (Paired.one aT))⟩ hnd hasc hmem ⟨hd, hst, fun i X h1 h2 => ?_⟩
        have l1 := (List.getElem?_eq_some_iff.mp h1).1
        have l2 := List.getElem?_eq_none_iff.mp h2
        have e0 : ([A] : List (List (List Nat))).length = 1 := rfl
        rw [List.length_append] at l1 l2
        have ei : i = pre.length := by omega
        rw [ei, List.getElem?_concat_length] at h1
        rw [← Option.some.inj h1]
        exact ⟨us, nxu, hl⟩
      · have hne : us.length ≠ A.length := fun z => hq (decide_eq_true (by rw [Paired.length pu, Paired.length pax, z]))
        refine ⟨_, rfl, .inl ⟨rfl, _, SqL.of htl2⟩, _, rfl, tl, _, .ref ua, rfl, rfl, htl2, ?_, ?_⟩
        · rw [sizeLine_eq, List.length_append, Paired.length pxs]
          show pre.length + 1 < 16777216
          omega
        have t7 := Tm.lst (o := .lst ((xs ++ [V.ref aa]) ++ [V.ref ua])) htl2
        exact ⟨.ref fl, few, _, us, .ref ua, rfl, same_mut (st.trans s5) tl0, .inr ⟨fl, rfl, hftl, LT.tm hltf t7 (upd_ne hftl)⟩, hf63, fun g hg => hbAP g (hfi g hg), fun t => (hfk t).trans (umem t).symm, upd_same, TTKs.tm t7 (Paired.app ltT (Paired.one aT)), TTK.tm2 t7 ⟨ua, ux, rfl, hua, pu⟩, nxu, hne⟩
end
end Lt

set_option Elab.async false
set_option linter.all false
set_option maxRecDepth 100000
set_option maxHeartbeats 1000000
namespace Lt
open PySem PySem.Spec PyProof.Rows L2
section
variable {P : Program} {w : World} {K : PySem.W.Frag} {mg : Str → Option Value} {base : Heap} {CL CM CT : Addr}
/-! ### rounds -/
def spRoundsOf : Sp := fun vs H Q _ => ∃ (u : V) (n N : Nat) (t : List Nat), vs = [u] ∧ TN H u t ∧ IsP n t ∧ n ≤ 1000 ∧ 1 ≤ N ∧ pw n t N = List.range n ∧ (∀ j, 1 ≤ j → j < N → pw n t j ≠ List.range n) ∧ ∀ H', Same H H' → Q (nI N) H'
theorem sc_rounds_of : FnScope ["turn", "still", "reached", "many"] ["turn"] (defScope s_rounds_of) := ⟨rfl, rfl, rfl, by decide +kernel, rfl, by decide +kernel, by decide +kernel⟩
theorem has_rounds_of (T : Top K mg "rounds_of" s_rounds_of ["turn"]) (B : Bi mg)
    (hS : Has P w K mg base CX0 1 "still_of" ["size"] spStill) (hP : Has P w K mg base CX0 1 "product_of" ["one", "other"] spProd) : Has P w K mg base CX0 2 "rounds_of" ["turn"] spRoundsOf := by
  refine T.ok sc_rounds_of (fun vs H Q E h => ?_) (fun f cdv A outer s H vs Q E hr h => ?_)
  · obtain ⟨u, n, N, t, rfl, _⟩ := h
    rfl
  · obtain ⟨u, n, N, t, rfl, ht, hP', hn, hN1, hN3, hN4, q⟩ := h
    have hr1 : Room 1 _ := hr.mono (by decide)
    refine ⟨_, pss_cons (ps_set (i := 1) sc_rounds_of.nd rfl (Or.inl rfl) (pe_has hS hr1 (by rfl) (pa_cons (pe_callB call_len_seq (by rfl) B.len PySem.boot_len (pa_cons (pv 0) pa_nil)) pa_nil)))
      (pss_cons (ps_set (i := 2) sc_rounds_of.nd rfl (Or.inl rfl) (pv 0))
      (pss_cons (ps_set (i := 3) sc_rounds_of.nd rfl (Or.inl rfl) pe_int)
      (pss_cons (ps_while PassesOwn.never (pt_cmpR (op_neD hr.units) (pv 2) (pv 1) (nomark _))
        (pss_cons (ps_set (i := 2) sc_rounds_of.nd rfl (Or.inl rfl) (pe_has hP hr1 (by rfl) (pa_cons (pv 2) (pa_cons (pv 0) pa_nil))))
        (pss_one (ps_aug (i := 3) sc_rounds_of.nd rfl (Or.inl rfl) pe_int ip_add))))
      (pss_one (ps_ret (pv 3)))))), ?_⟩
    obtain ⟨a, rfl, ha⟩ := ht
    refine ⟨_, rfl, a, _, rfl, .inr ha.sq, n, by rw [nIs_len, hP'.len]; rfl, by omega, fun st H3 s3 hst => ⟨_, rfl, ?_⟩⟩
    refine ⟨fun m σ H' => ∃ r k, σ = [some (.ref a), some st, some r, some (nI k)] ∧ Same H3 H' ∧ TN H' r (pw n t k) ∧ 1 ≤ k ∧ k ≤ N ∧ m = N - k, ⟨N - 1, .ref a, 1, rfl, Same.refl _, by rw [pw_one hP']; exact ⟨a, rfl, ha.sm s3⟩, Nat.le_refl 1, hN1, rfl⟩, ?_⟩
    rintro m σ H' ⟨r, k, rfl, sm, hr', hk1, hk2, rfl⟩
    refine ⟨_, rfl, _, rfl, dT (pw n t k), dT (List.range n), hr'.dp, (hst.tn.tm (.of sm)).dp, sh_T _, sh_T _, _, rfl, ?_⟩
    rw [eqv_dT]
    by_cases he : pw n t k = List.range n
    · rw [decide_eq_true he]
      have hk : k = N := by
        by_cases hlt : k < N
        · exact absurd he (hN4 k hk1 hlt)
        · omega
      subst hk
      exact iteF ⟨_, rfl, q _ (s3.trans sm)⟩
    · rw [decide_eq_false he]
      have hlt : k < N := by
        by_cases z : k = N
        · rw [z] at he; exact absurd hN3 he
        · omega
      refine iteT ⟨fun σ2 H2' => ∃ r, σ2 = [some (.ref a), some st, some r, some (nI (k + 1))] ∧ Same H3 H2' ∧ TN H2' r (pw n t (k + 1)), fun σ2 H2' ⟨r2, e1, e2, e3⟩ => ⟨N - (k + 1), by omega, r2, k + 1, e1, e2, e3, by omega, by omega, rfl⟩, ?_⟩
      refine ⟨_, rfl, _, rfl, pr_call hr' ⟨a, rfl, (ha.sm s3).sm sm⟩ (pw_isP hP' k) hP' (by omega) fun r2 H5 s5 hr2 => ?_⟩
      exact ⟨_, rfl, _, _, rfl, rfl, r2, rfl, sm.trans s5, hr2.tn⟩
end
end Lt

set_option Elab.async false
set_option linter.all false
set_option maxRecDepth 100000
set_option maxHeartbeats 2000000
/-! k10: bracket_pairs -/
namespace Lt
open PySem PySem.Spec PyProof.Rows L2
/-- how often a turn leads to the still one -/
def Rds (n : Nat) (t : List Nat) (N : Nat) : Prop := 1 ≤ N ∧ pw n t N = List.range n ∧ ∀ j, 1 ≤ j → j < N → pw n t j ≠ List.range n
theorem filter_rng (ts : List (List Nat)) (od : List Nat → Bool) : ((List.range ts.length).filter fun i => od (ts.getD i [])).map (fun i => ts.getD i []) = ts.filter od := by
  conv => rhs; rw [← getDd_rng ([] : List Nat) ts]
  rw [List.filter_map]
  rfl
/-- what stands in the dict of pairs -/
def PrIn (H : Hp) (O : List (List Nat)) (kvs : List (List Key × V)) : Prop := ∀ t v, valV kvs (keyN t) = some v → ∃ a b q x y, v = .ref q ∧ H q = some (.tup [x, y]) ∧ TK H x a ∧ TK H y b ∧ a ∈ O ∧ b ∈ O ∧ bkt a b = t
theorem PrIn.tm {H H' : Hp} {O : List (List Nat)} {kvs : List (List Key × V)} (e : Tm H H') (h : PrIn H O kvs) : PrIn H' O kvs := fun t v hv => let ⟨a, b, q, x, y, h1, h2, h3, h4, h5⟩ := h t v hv; ⟨a, b, q, x, y, h1, e.1 _ _ h2, TK.tm e h3, TK.tm e h4, h5⟩
theorem PrIn.put {H : Hp} {O : List (List Nat)} {kvs : List (List Key × V)} (h : PrIn H O kvs) {a b : List Nat} {q : Addr} {x y : V} (hq : H q = some (.tup [x, y])) (hx : TK H x a) (hy : TK H y b) (ha : a ∈ O) (hb : b ∈ O) : PrIn H O (putK kvs (keyN (bkt a b)) (.ref q)) := fun t v hv => by
  rw [valV_put] at hv
  by_cases e : keyN t = keyN (bkt a b)
  · rw [if_pos e] at hv
    exact ⟨a, b, q, x, y, (Option.some.inj hv).symm, hq, hx, hy, ha, hb, (keyN_inj e).symm⟩
  · rw [if_neg e] at hv
    exact h t v hv
theorem nodup_at {l : List (List Nat)} (h : l.Nodup) : ∀ {i j : Nat} (hi : i < l.length) (hj : j < l.length), l[i] = l[j] → i = j := by
  intro i j hi hj e
  rcases Nat.lt_trichotomy i j with z | z | z
  · exact absurd e (List.pairwise_iff_getElem.mp h i j hi hj z)
  · exact z
  · exact absurd e.symm (List.pairwise_iff_getElem.mp h j i hj hi z)
theorem valV_mapO {O : List (List Nat)} {vl : List Nat → V} {t : List Nat} (h : t ∈ O) : valV (O.map fun t => (keyN t, vl t)) (keyN t) = some (vl t) := by
  induction O with
  | nil => cases h
  | cons a l ih =>
    rw [List.map_cons]
    by_cases e : a = t
    · subst e
      exact valV_pos rfl
    · rw [valV_neg (fun z => e (keyN_inj z))]
      exact ih ((List.mem_cons.mp h).resolve_left fun z => e z.symm)
section
variable {P : Program} {w : World} {K : PySem.W.Frag} {mg : Str → Option Value} {base : Heap}
def spPairs : Sp := fun vs H Q _ => ∃ (v : V) (ts : List (List Nat)) (n : Nat) (od : List Nat → Bool), vs = [v] ∧ TTK H v ts ∧ (∀ t ∈ ts, IsP n t) ∧ ts.Nodup ∧ ts.length ≤ 63 ∧ n ≤ 9 ∧ (∀ t ∈ ts, ∃ N, Rds n t N ∧ od t = (decide (1 < N) && decide (N % 2 = 1))) ∧
  (∀ t ∈ ts.filter od, ∃ a ∈ ts.filter od, ∃ b ∈ ts.filter od, bkt a b = t) ∧
  ∀ (d : Addr) (H' : Hp) (pr : PrF) (kvs : List (List Key × V)), Same H H' → H' d = some (.dT kvs) → kvs.map (·.1) = (ts.filter od).map keyN → (∀ t ∈ ts.filter od, ∃ q x y, valV kvs (keyN t) = some (.ref q) ∧ H' q = some (.tup [x, y]) ∧ TK H' x (pr t).1 ∧ TK H' y (pr t).2 ∧ (pr t).1 ∈ ts.filter od ∧ (pr t).2 ∈ ts.filter od ∧ bkt (pr t).1 (pr t).2 = t) → Q (.ref d) H'
abbrev bpN : List Str := ["lasting", "odd", "pairs", "one", "other", "turn"]
theorem sc_bracket_pairs : FnScope bpN ["lasting"] (defScope s_bracket_pairs) := ⟨rfl, rfl, rfl, by decide +kernel, rfl, by decide +kernel, by decide +kernel⟩
abbrev rB1 : R2 := fun x y H Q => ∃ (i : Int) (k : Nat), x = .int i ∧ y = .int (2 ^ k - 1) ∧ Q (.int (i % 2 ^ k)) H
def tOd : L2.TT := tAnd (tTest (tOp (rI0 fun i j => .bl (decide (j < i))) (tCall spRoundsOf [] E0 (tCons (tVar 5) tNil)) (tC (.int 1)))) (tTest (tOp rEq (tOp rB1 (tCall spRoundsOf [] E0 (tCons (tVar 5) tNil)) (tC (.int 1))) (tC (.int 1))))
theorem has_bracket_pairs (T : Top K mg "bracket_pairs" s_bracket_pairs ["lasting"]) (hR : Has P w K mg base CX0 2 "rounds_of" ["turn"] spRoundsOf) (hB : Has P w K mg base CX0 2 "bracket_of" ["one", "other"] spBracket) : Has P w K mg base CX0 3 "bracket_pairs" ["lasting"] spPairs := by
  refine T.ok sc_bracket_pairs (fun vs H Q E h => ?_) (fun f cdv A outer s H vs Q E hr h => ?_)
  · obtain ⟨v, ts, n, od, rfl, _⟩ := h
    rfl
  · obtain ⟨v, ts, n, od, rfl, ⟨a, xs, rfl, ha, px⟩, hP, hnd, h63, n9, hod, hpr, q⟩ := h
    have hu1 := hu_of hr
    refine ⟨_, pss_cons (ps_setLc (i := 1) (own := [("turn", 5)]) (g := gName 5) (te := tVar 5) (tt := tOd) (by rfl) sc_bracket_pairs.nd rfl rfl (sw_true rfl rfl rfl (by decide +kernel)) (pi_tup (pv 0)) (blkOk_by (own := [("turn", 5)]) (N := bpN) (sc := defScope s_bracket_pairs) (by decide +kernel))
        (fun _ _ _ _ _ => pg_name (i := 5) sc_bracket_pairs.nd rfl (Or.inl rfl)) (fun _ _ _ _ _ => by exact (pts_one (PW.pt (pw_and (pt_cmpR op_gt (pe_has hR hr (by rfl) (pa_cons (pv 5) pa_nil)) pe_int (nomark _)) (pw_and1 (pt_cmpR op_eq (pe_op op_andM (pe_has hR hr (by rfl) (pa_cons (pv 5) pa_nil)) pe_int) pe_int (nomark _))))))) (fun _ _ _ _ _ => pv 5))
      (pss_cons (ps_set (i := 2) sc_bracket_pairs.nd rfl (Or.inr rfl) pe_dnewT)
      (pss_cons (ps_for PassesOwn.never rfl (pi_list (pv 1)) (pg_name (i := 3) sc_bracket_pairs.nd rfl (Or.inl rfl))
        (pss_one (ps_for PassesOwn.never rfl (pi_list (pv 1)) (pg_name (i := 4) sc_bracket_pairs.nd rfl (Or.inl rfl))
          (pss_one (ps_dput hu1 (pv 2) (pe_has hB hr (by rfl) (pa_cons (pv 3) (pa_cons (pv 4) pa_nil))) (pe_tup (pa_cons (pv 3) (pa_cons (pv 4) pa_nil))) rfl)))))
      (pss_one (ps_ret (pe_dcT (own := [("turn", 5)]) (g := gName 5) (tk := tVar 5) (tv := tDGet (tVar 2) (tVar 5)) hu1 (by rfl) sc_bracket_pairs.nd (pi_list (pv 1)) (blkOk_by (own := [("turn", 5)]) (N := bpN) (sc := defScope s_bracket_pairs) (by decide +kernel))
        (fun _ _ _ _ _ => pg_name (i := 5) sc_bracket_pairs.nd rfl (Or.inl rfl)) (fun _ _ _ _ _ => pts_nil) (fun _ _ _ _ _ => pv 5) (fun _ _ _ _ _ => pe_dget (by exact hu1) (pv 2) (pv 5) (fun _ _ => rfl))))))), ?_⟩
    have lx := Paired.length px
    refine ⟨_, rfl, a, rfl, ⟨_, SqT.of ha⟩, fun D hD => lc_genF (J := Itt K a) (n := xs.length) TK (fun i => od (ts.getD i [])) (fun i => ts.getD i []) (fun _ _ _ _ e r => TK.tm e r) (by omega) hD (fun i H3 hi s3 => ⟨xs, _, SqT.of (s3 _ _ ha), List.getElem?_eq_getElem hi⟩) (fun H3 s3 => ⟨xs, SqT.of (s3 _ _ ha), Nat.le_refl _⟩) (fun i H3 x' H4 hi s3 y => ?_) (fun H3 zs s3 hz pr => ?_)⟩
    · obtain ⟨rfl, hx'⟩ := y
      have hx' := hx' _ (SqT.of (s3 _ _ ha))
      obtain ⟨t, ht, kt⟩ := Lt.Paired.getL px hx'
      have htm := List.mem_of_getElem? ht
      have et : ts.getD i [] = t := by rw [List.getD_eq_getElem?_getD, ht]; rfl
      rw [et]
      obtain ⟨N, ⟨N1, N2, N3⟩, eo⟩ := hod t htm
      have k4 := kt.tm (.of s3)
      have k4n := k4.tn
      refine ⟨Same.refl _, _, fun Kk q => q, rfl, fun Q2 q2 => ?_, fun hp H5 s5 Q2 q2 => ⟨_, rfl, q2 _ H5 (Same.refl _) (k4.tm (.of s5))⟩⟩
      refine ⟨_, rfl, x', n, N, t, rfl, k4n, hP t htm, by omega, N1, N2, N3, fun H5 s5 => ⟨(N : Int), 1, rfl, rfl, decide (1 < N), congrArg V.bl (decide_eq_decide.mpr (by omega)), ?_⟩⟩
      by_cases h1 : 1 < N
      · rw [decide_eq_true h1]
        rw [decide_eq_true h1, Bool.true_and] at eo
        refine iteT ⟨_, rfl, x', n, N, t, rfl, k4n.tm (.of s5), hP t htm, by omega, N1, N2, N3, fun H6 s6 => ⟨(N : Int), 1, rfl, rfl, rfl, decide (N % 2 = 1), ?_, ?_⟩⟩
        · exact congrArg V.bl (decide_eq_decide.mpr ⟨fun h => by injection h with h; omega, fun h => by congr 1; omega⟩)
        · rw [← eo]
          exact q2 _ (s5.trans s6)
      · rw [decide_eq_false h1]
        rw [decide_eq_false h1, Bool.false_and] at eo
        refine iteF ?_
        have z := q2 _ s5
        rw [eo] at z
        exact z
    rw [lx, filter_rng] at pr
    have lO : (ts.filter od).length ≤ 63 := Nat.le_trans (List.length_filter_le ..) h63
    have hPO : ∀ t ∈ ts.filter od, IsP n t := fun t ht => hP t (List.mem_filter.mp ht).1
    have ndO : (ts.filter od).Nodup := hnd.filter _
    generalize ts.filter od = O at *
    have lz := Paired.length pr
    have D0 : H D = none := hD
    refine fun d hd => ?_
    have s4 := same_new (o := .dT []) hd
    have k4 : (upd H3 d (.dT [])) d = some (.dT ([] : List (List Key × V))) := upd_same
    have hz4 := s4 _ _ hz
    have pr4 := paired_mono (fun _ _ r => TK.tm (.of s4) r) pr
    have d0 : H3 d = none := hd
    have nDd : D ≠ d := ne_of_none hz hd
    generalize upd H3 d (.dT []) = H4 at *
    -- all pairs
    refine ⟨_, rfl, D, rfl, ⟨_, SqL.of hz4⟩, for_list (K := K) (a := D) (xs := zs) (fun i σ H' => ∃ y3 y4 kvs, σ = [some (.ref a), some (.ref D), some (.ref d), y3, y4, none] ∧ Same H3 H' ∧ H' d = some (.dT kvs) ∧ kvs.length ≤ i * 63 ∧ PrIn H' O kvs ∧ (∀ i' j', i' < i → j' < O.length → (valV kvs (keyN (bkt (O.getD i' []) (O.getD j' [])))).isSome = true))
      ⟨none, none, [], rfl, s4, k4, Nat.zero_le _, (fun t v hv => by cases hv), fun i' j' h => by omega⟩ (fun i σ H' _ ⟨_, _, _, _, s, _⟩ => SqL.of (s _ _ hz)) ?_ ?_⟩
    · rintro i xv σ H' hi ⟨y3, y4, kvs, rfl, s', hk', hlen, hin, hcov⟩
      obtain ⟨t1, ht1, kt1⟩ := Lt.Paired.getL pr hi
      have m1 := List.mem_of_getElem? ht1
      have i63 : i < O.length := (List.getElem?_eq_some_iff.mp ht1).1
      have e1 : O.getD i [] = t1 := by rw [List.getD_eq_getElem?_getD, ht1]; rfl
      refine ⟨_, rfl, D, rfl, ⟨_, SqL.of (s' _ _ hz)⟩, for_list (K := K) (a := D) (xs := zs) (fun j σ H' => ∃ y4 kvs, σ = [some (.ref a), some (.ref D), some (.ref d), some xv, y4, none] ∧ Same H3 H' ∧ H' d = some (.dT kvs) ∧ kvs.length ≤ i * 63 + j ∧ PrIn H' O kvs ∧ (∀ i' j', i' < i → j' < O.length → (valV kvs (keyN (bkt (O.getD i' []) (O.getD j' [])))).isSome = true) ∧ (∀ j', j' < j → (valV kvs (keyN (bkt t1 (O.getD j' [])))).isSome = true))
        ⟨y4, kvs, rfl, s', hk', by omega, hin, hcov, fun j' h => by omega⟩ (fun j σ H' _ ⟨_, _, _, s, _⟩ => SqL.of (s _ _ hz)) ?_ ?_⟩
      · rintro j xw σ H2 hj ⟨y4, kvs, rfl, s2, hk2, hlen, hin, hcov, hc2⟩
        obtain ⟨t2, ht2, kt2⟩ := Lt.Paired.getL pr hj
        have m2 := List.mem_of_getElem? ht2
        have j63 : j < O.length := (List.getElem?_eq_some_iff.mp ht2).1
        have e2 : O.getD j [] = t2 := by rw [List.getD_eq_getElem?_getD, ht2]; rfl
        refine ⟨_, rfl, _, rfl, Nat.le_of_ble_eq_true rfl, fun tq htq => ⟨_, rfl, _, rfl, _, rfl, ?_⟩⟩
        have s5 := same_new (o := .tup [xv, xw]) htq
        have k5 : (upd H2 tq (.tup [xv, xw])) tq = some (.tup [xv, xw]) := upd_same
        generalize upd H2 tq (.tup [xv, xw]) = H5 at *
        have s25 := s2.trans s5
        refine ⟨xv, xw, t1, t2, n, rfl, (kt1.tm (.of s25)).tn, (kt2.tm (.of s25)).tn, hPO t1 m1, hPO t2 m2, by omega, fun kv H6 s6 k6 => ?_⟩
        have k6 : TK H6 kv (bkt t1 t2) := k6
        obtain ⟨b6, rfl, hb6⟩ := k6.key
        have s56 := s5.trans s6
        have hk6 := s56 _ _ hk2
        have tmd : Tm H6 (upd H6 d (.dT (putK kvs (keyN (bkt t1 t2)) (.ref tq)))) := Tm.dT hk6
        refine ⟨d, _, rfl, DPut.t hk6 hb6 (by rw [sizeLine_eq]; have : i * 63 ≤ 63 * 63 := Nat.mul_le_mul (by omega) (Nat.le_refl _); omega), ?_⟩
        have s26 := s2.trans s56
        refine ⟨_, putK kvs (keyN (bkt t1 t2)) (.ref tq), rfl, same_mut s26 d0, upd_same, ?_, ?_, fun i' j' h1 h2 => ?_, fun j' h1 => ?_⟩
        · have := length_putK kvs (keyN (bkt t1 t2)) (V.ref tq)
          omega
        · exact ((hin.tm (.of s56)).put (s6 _ _ k5) (kt1.tm (.of s26)) (kt2.tm (.of s26)) m1 m2).tm tmd
        · rw [valV_put]
          split
          · rfl
          · exact hcov i' j' h1 h2
        · rw [valV_put]
          split
          · rfl
          · rename_i hne
            have : j' ≠ j := fun z => hne (by rw [z, e2])
            exact hc2 j' (by omega)
      · rintro σ H2 ⟨y4, kvs, rfl, s2, hk2, hlen, hin, hcov, hc2⟩
        refine ⟨_, _, kvs, rfl, s2, hk2, by rw [Nat.succ_mul]; omega, hin, fun i' j' h1 h2 => ?_⟩
        by_cases e : i' = i
        · rw [e, e1]
          exact hc2 j' (by omega)
        · exact hcov i' j' (by omega) h2
    · rintro σ H' ⟨y3, y4, kvs, rfl, s', hk', hlen, hin, hcov⟩
      have hz' := s' _ _ hz
      have has : ∀ t ∈ O, ∃ v, valV kvs (keyN t) = some v := fun t ht => by
        obtain ⟨a1, h1, b1, h2, rfl⟩ := hpr t ht
        obtain ⟨i1, hi1, e1⟩ := List.mem_iff_getElem.mp h1
        obtain ⟨j1, hj1, e2⟩ := List.mem_iff_getElem.mp h2
        have h := hcov i1 j1 (by omega) hj1
        rw [List.getD_eq_getElem?_getD, List.getD_eq_getElem?_getD, List.getElem?_eq_getElem hi1, List.getElem?_eq_getElem hj1] at h
        rw [← e1, ← e2]
        exact Option.isSome_iff_exists.mp h
      let vl : List Nat → V := fun t => (valV kvs (keyN t)).getD .non
      have hvl : ∀ t ∈ O, valV kvs (keyN t) = some (vl t) := fun t ht => by
        obtain ⟨v, hv⟩ := has t ht
        show valV kvs (keyN t) = some ((valV kvs (keyN t)).getD .non)
        rw [hv]
        rfl
      refine ⟨_, rfl, D, rfl, ⟨_, SqL.of hz'⟩, fun d2 hd2 => dcT_gen (J := Itl K D) (n := O.length) (fun i => keyN (O.getD i [])) (fun i => vl (O.getD i [])) (fun i j hi hj e => ?_) (by omega) hd2 (fun i H5 hi s5 => ⟨zs, _, SqL.of (s5 _ _ hz'), List.getElem?_eq_getElem (by omega)⟩) (fun H5 s5 => ⟨zs, SqL.of (s5 _ _ hz'), by omega⟩) (fun i H5 x' H6 hi s5 y => ?_) (fun H5 s5 h5 => ?_)⟩
      · have e := keyN_inj e
        rw [List.getD_eq_getElem?_getD, List.getD_eq_getElem?_getD, List.getElem?_eq_getElem hi, List.getElem?_eq_getElem hj] at e
        exact nodup_at ndO hi hj (Option.some.inj (congrArg some e))
      · obtain ⟨rfl, hx'⟩ := y
        have hx' := hx' _ (SqL.of (s5 _ _ hz'))
        obtain ⟨t, ht, kt⟩ := Lt.Paired.getL pr hx'
        have et : O.getD i [] = t := by rw [List.getD_eq_getElem?_getD, ht]; rfl
        rw [et]
        have kt5 := kt.tm (.of (s'.trans s5))
        obtain ⟨b, rfl, hb⟩ := kt5.key
        refine ⟨Same.refl _, _, fun Kk q => q, rfl, fun H7 s7 Q2 q2 => ⟨_, rfl, q2 b H7 (Same.refl _) (s7 _ _ hb)⟩, fun H7 s7 Q2 q2 => ⟨_, rfl, _, rfl, d, vl t, rfl, ?_, q2 H7 (Same.refl _)⟩⟩
        rw [← hvl t (List.mem_of_getElem? ht)]
        exact DGet.t ((s5.trans s7) _ _ hk') (s7 _ _ hb)
      · have sF := s3.trans (s'.trans s5)
        have ek : ((List.range O.length).map fun i => (keyN (O.getD i []), vl (O.getD i []))) = O.map fun t => (keyN t, vl t) := by
          conv => rhs; rw [← getDd_rng ([] : List Nat) O, List.map_map]
          rfl
        rw [ek] at h5
        have hin5 := hin.tm (.of s5)
        have key : ∀ t, ∃ p : List Nat × List Nat, t ∈ O → ∃ qq x y, vl t = .ref qq ∧ H5 qq = some (.tup [x, y]) ∧ TK H5 x p.1 ∧ TK H5 y p.2 ∧ p.1 ∈ O ∧ p.2 ∈ O ∧ bkt p.1 p.2 = t := fun t => by
          by_cases ht : t ∈ O
          · obtain ⟨a1, b1, qq, x, y, g1, g2, g3, g4, g5, g6, g7⟩ := hin5 t _ (hvl t ht)
            exact ⟨(a1, b1), fun _ => ⟨qq, x, y, g1, g2, g3, g4, g5, g6, g7⟩⟩
          · exact ⟨([], []), fun z => absurd z ht⟩
        refine q d2 H5 (fun t => (key t).choose) _ sF h5 (by rw [List.map_map]; rfl) fun t ht => ?_
        obtain ⟨qq, x, y, g1, g2, g3, g4, g5, g6, g7⟩ := (key t).choose_spec ht
        refine ⟨qq, x, y, ?_, g2, g3, g4, g5, g6, g7⟩
        rw [← g1]
        exact valV_mapO ht
end
end Lt

set_option Elab.async false
set_option linter.all false
set_option maxRecDepth 100000
set_option maxHeartbeats 1000000
namespace Lt
open PySem PySem.Spec PyProof.Rows L2
theorem Paired.perm {α β : Type} {R : α → β → Prop} {ys xs : List α} (p : ys.Perm xs) : ∀ {ts : List β}, Paired R xs ts → ∃ us, Paired R ys us ∧ us.Perm ts := by
  induction p with
  | nil => intro ts h; cases h; exact ⟨[], .nil, List.Perm.refl _⟩
  | cons x _ ih =>
    intro ts h
    cases h with
    | cons r t =>
      obtain ⟨us, h1, h2⟩ := ih t
      exact ⟨_ :: us, .cons r h1, h2.cons _⟩
  | swap x y l =>
    intro ts h
    cases h with
    | cons r t =>
      cases t with
      | cons r2 t => exact ⟨_, .cons r2 (.cons r t), List.Perm.swap _ _ _⟩
  | trans _ _ ih1 ih2 =>
    intro ts h
    obtain ⟨us, h1, h2⟩ := ih2 h
    obtain ⟨ws, h3, h4⟩ := ih1 h1
    exact ⟨ws, h3, h4.trans h2⟩
theorem Paired.pairwise {α β : Type} {R : α → β → Prop} {S : α → α → Prop} {S' : β → β → Prop} (h : ∀ x y s t, R x s → R y t → S x y → S' s t) : ∀ {xs : List α} {ts : List β}, Paired R xs ts → xs.Pairwise S → ts.Pairwise S'
  | _, _, .nil, _ => .nil
  | _, _, .cons r t, .cons a b => .cons (fun s hs => by
      obtain ⟨i, hi, e⟩ := List.getElem_of_mem hs
      obtain ⟨x, hx, rx⟩ := Paired.getR t (show _[i]? = some s by rw [List.getElem?_eq_getElem hi, e])
      exact h _ _ _ _ r rx (a x (List.mem_of_getElem? hx))) (Paired.pairwise h t b)
theorem Paired.memL {α β : Type} {R : α → β → Prop} {xs : List α} {ts : List β} (p : Paired R xs ts) {x : α} (h : x ∈ xs) : ∃ t ∈ ts, R x t := by
  obtain ⟨i, hi, e⟩ := List.getElem_of_mem h
  obtain ⟨t, ht, r⟩ := Paired.getL p (show xs[i]? = some x by rw [List.getElem?_eq_getElem hi, e])
  exact ⟨t, List.mem_of_getElem? ht, r⟩
/-- a list of turns whose objects are known -/
def LF (H : Hp) (a : Addr) (ts : List (List Nat)) : Prop := ∃ xs, H a = some (.lst xs) ∧ Paired (TF H) xs ts
theorem TFs.tm {H H' : Hp} (e : Tm H H') {xs : List V} {ts : List (List Nat)} (p : Paired (TF H) xs ts) : Paired (TF H') xs ts := paired_mono (fun _ _ r => TF.tm e r) p
theorem LF.same {H H' : Hp} {a : Addr} {ts : List (List Nat)} (h : LF H a ts) (e : Same H H') : LF H' a ts := let ⟨xs, h1, h2⟩ := h; ⟨xs, e _ _ h1, TFs.tm (.of e) h2⟩
theorem LF.step {K : PySem.W.Frag} {r sc : Addr} {ns : List Int} {H H' : Hp} {a : Addr} {ts : List (List Nat)} (h : LF H a ts) (ra : RowAt K H r sc ns) (hr : a ≠ r) (e : StepR r H H') : LF H' a ts := let ⟨xs, h1, h2⟩ := h; ⟨xs, e _ _ hr h1, TFs.tm (e.tm ra) h2⟩
theorem LF.lt {H : Hp} {a : Addr} {ts : List (List Nat)} (h : LF H a ts) : LT H a ts := let ⟨xs, h1, h2⟩ := h; ⟨xs, h1, paired_mono (fun _ _ r => TF.tn r) h2⟩
/-- the addresses and numbers -/
theorem ks_of {H : Hp} : ∀ {xs : List V} {ts : List (List Nat)}, Paired (TF H) xs ts → ∃ ks : List (Addr × List Int), xs = ks.map (fun p => V.ref p.1) ∧ ks.map (·.2) = ts.map iN ∧ ∀ p ∈ ks, ∃ t ∈ ts, p.2 = iN t ∧ TF H (.ref p.1) t
  | _, _, .nil => ⟨[], rfl, rfl, fun p h => by cases h⟩
  | _, _, .cons (a := x) (b := t) r s => by
    obtain ⟨ks, h1, h2, h3⟩ := ks_of s
    obtain ⟨a, o, e, ho, hd⟩ := id r
    refine ⟨(a, iN t) :: ks, by rw [e, h1]; rfl, by rw [List.map_cons, h2]; rfl, fun p hp => ?_⟩
    rcases List.mem_cons.mp hp with z | hp
    · rw [z]
      exact ⟨t, List.mem_cons_self, rfl, a, o, rfl, ho, hd⟩
    · obtain ⟨t', ht, z⟩ := h3 p hp
      exact ⟨t', List.mem_cons_of_mem _ ht, z⟩
theorem cut_one (xs : List V) (j : Nat) : cutV xs (some (j : Int)) (some ((j : Int) + 1)) = (xs.drop j).take 1 := by
  unfold cutV
  have e : ((j : Int) + 1) = ((j + 1 : Nat) : Int) := by omega
  rw [e, HT.sIx_nat, HT.sIx_nat]
  by_cases h : j < xs.length
  · rw [Nat.min_eq_left (Nat.le_of_lt h), Nat.min_eq_left h]
    congr 1
    omega
  · rw [Nat.min_eq_right (by omega), Nat.min_eq_right (by omega), List.drop_of_length_le (Nat.le_refl _), List.drop_of_length_le (by omega), List.take_nil, List.take_nil]
/-! ### the mirror -/
structure SpI (gs : List (List Nat)) (n j : Nat) (F : List (List Nat)) : Prop where
  nd : F.Nodup
  made : ∀ t ∈ F, Mk gs n t
  st : List.range n ∈ F
  cl : ∀ (i : Nat) (t : List Nat), i < j → F[i]? = some t → ∀ g ∈ gs, prod t g ∈ F
theorem SpI.skip {gs : List (List Nat)} {n j : Nat} {F : List (List Nat)} (h : SpI gs n j F) (hj : F.length ≤ j) : SpI gs n (j + 1) F :=
  ⟨h.nd, h.made, h.st, fun i t hi e => by
    have := (List.getElem?_eq_some_iff.mp e).1
    exact h.cl i t (by omega) e⟩
theorem SpI.next {gs : List (List Nat)} {n j : Nat} {F M : List (List Nat)} {one : List Nat} (h : SpI gs n j F) (h1 : F[j]? = some one) (hM : M.Nodup) (hM1 : ∀ t ∈ M, ∃ g ∈ gs, t = prod one g) (hM2 : ∀ g ∈ gs, prod one g ∈ M) :
    SpI gs n (j + 1) (F ++ M.filter fun t => decide (t ∉ F)) := by
  have hjl := (List.getElem?_eq_some_iff.mp h1).1
  have hone := h.made one (List.mem_of_getElem? h1)
  refine ⟨List.nodup_append.mpr ⟨h.nd, hM.filter _, fun a ha b hb e => ?_⟩, fun t ht => ?_, List.mem_append.mpr (.inl h.st), fun i t hi e g hg => ?_⟩
  · subst e
    have := (List.mem_filter.mp hb).2
    exact (of_decide_eq_true this) ha
  · rcases List.mem_append.mp ht with z | z
    · exact h.made t z
    · obtain ⟨g, hg, e⟩ := hM1 t (List.mem_filter.mp z).1
      rw [e]
      exact .step hone hg
  · rw [List.getElem?_append_left (by omega)] at e
    by_cases hij : i < j
    · exact List.mem_append.mpr (.inl (h.cl i t hij e g hg))
    · have : i = j := by omega
      subst this
      rw [h1] at e
      have e := Option.some.inj e
      subst e
      by_cases hin : prod one g ∈ F
      · exact List.mem_append.mpr (.inl hin)
      · exact List.mem_append.mpr (.inr (List.mem_filter.mpr ⟨hM2 g hg, decide_eq_true hin⟩))
theorem SpI.all {gs : List (List Nat)} {n j : Nat} {F : List (List Nat)} (h : SpI gs n j F) (hj : F.length ≤ j) : ∀ t, t ∈ F ↔ Mk gs n t := fun t => by
  refine ⟨h.made t, fun m => ?_⟩
  induction m with
  | still => exact h.st
  | @step t g _ hg ih =>
    obtain ⟨i, hi, e⟩ := List.getElem_of_mem ih
    exact h.cl i t (by omega) (by rw [List.getElem?_eq_getElem hi, e]) g hg
/-! ### a tuple or a list of turns -/
def GS (H : Hp) (v : V) (ts : List (List Nat)) : Prop := TT H v ts ∨ ∃ a, v = .ref a ∧ LT H a ts
theorem GS.same {H H' : Hp} {v : V} {ts : List (List Nat)} (h : GS H v ts) (e : Same H H') : GS H' v ts := by
  rcases h with h | ⟨a, rfl, h⟩
  · exact .inl (h.tm (.of e))
  · exact .inr ⟨a, rfl, h.same e⟩
def iSq (K : PySem.W.Frag) (i : Nat) : TI := fun σ H R => iTup K (tVar i) σ H R ∨ iList K (tVar i) σ H R
theorem pi_sq {X : Cx} {tg : Expr} {l : Expr} {i : Nat} (h : PE X l (tVar i)) : PI X tg l (iSq X.K i) :=
  ⟨fun pins s σ H R I q => q.elim ((pi_tup h).run pins s σ H R I) ((pi_list h).run pins s σ H R I)⟩
theorem sq_lc {K : PySem.W.Frag} {te : TE} {vs : List Nat} {σ : L2.St} {H1 : Hp} {β : Type} {i j : Nat} {gv : V} {gs : List (List Nat)} {Q : VK} (R : Hp → V → β → Prop) (ys : List β) (mono : ∀ H H' v b, Tm H H' → R H v b → R H' v b) (hgs : GS H1 gv gs) (hσ : σ[i]? = some (some gv)) (hz : gs.length ≤ 100000) (hy : ys.length = gs.length)
    (hw : ∀ x, wipe ((wipe σ vs).set j (some x)) vs = wipe σ vs)
    (he : ∀ (k : Nat) (x : V) (b : β) (g : List Nat), gs[k]? = some g → ys[k]? = some b → TN H1 x g → ∀ H, Same H1 H → ∀ Q : VK, (∀ v H', Same H H' → R H' v b → Q v H') → te ((wipe σ vs).set j (some x)) H Q)
    (hd : ∀ D H zs, H1 D = none → Same H1 H → H D = some (.lst zs) → Paired (R H) zs ys → Q (.ref D) H) : tLc (iSq K i) (gName j) tYes te vs σ H1 Q := by
  rcases hgs with ⟨a, xs, rfl, ha, p⟩ | ⟨a, rfl, xs, ha, p⟩
  · refine .inl ⟨_, hσ, a, rfl, ⟨_, SqT.of ha⟩, fun D hD => lc_tupM R ys mono (SqT.of ha) (fun H s => SqT.of (s _ _ ha)) (by rw [Paired.length p]; exact hz) (by rw [Paired.length p]; exact hy) hD hw (fun k x b hx hb => ?_) (fun H zs => hd D H zs hD)⟩
    obtain ⟨g, hg, r⟩ := Paired.getL p hx
    exact he k x b g hg hb r
  · refine .inr ⟨_, hσ, a, rfl, ⟨_, SqL.of ha⟩, fun D hD => lc_listM R ys mono (fun H s => SqL.of (s _ _ ha)) (by rw [Paired.length p]; exact hz) (by rw [Paired.length p]; exact hy) hD hw (fun k x b hx hb => ?_) (fun H zs => hd D H zs hD)⟩
    obtain ⟨g, hg, r⟩ := Paired.getL p hx
    exact he k x b g hg hb r
section
variable {P : Program} {w : World} {K : PySem.W.Frag} {mg : Str → Option Value} {base : Heap}
def spSpan : Sp := fun vs H Q _ => ∃ (gv : V) (gs : List (List Nat)) (n : Nat), vs = [nI n, gv] ∧ GS H gv gs ∧ (∀ g ∈ gs, IsP n g) ∧ 1 ≤ n ∧ n ≤ 9 ∧ gs.length ≤ 60 ∧ Few gs n 63 ∧
  ∀ p H' ts, Same H H' → H p = none → LF H' p ts → ts.Nodup → (∀ t, t ∈ ts ↔ Mk gs n t) → Asc ts → Q (.ref p) H'
theorem sc_law_span : FnScope ["places", "given", "found", "turn", "one", "later", "other"] ["places", "given"] (defScope s_law_span) := ⟨rfl, rfl, rfl, by decide +kernel, rfl, by decide +kernel, by decide +kernel⟩
theorem has_law_span (T : Top K mg "_law_span" s_law_span ["places", "given"]) (B : Bi mg) (hP : Has P w K mg base CX0 1 "_law_behind" ["one", "other"] spProdF) : Has P w K mg base CX0 2 "_law_span" ["places", "given"] spSpan := by
  refine T.ok sc_law_span (fun vs H Q E h => ?_) (fun f cdv A outer s H vs Q E hr h => ?_)
  · obtain ⟨gv, gs, n, rfl, _⟩ := h
    rfl
  · obtain ⟨gv, gs, n, rfl, hgv, hg, hn1, hn9, hgl, hf, q⟩ := h
    have hu64 := hr.units
    have hu65 : A.units + 3 + 65 < cLine := by have := hr.un; show A.units + 3 + 65 < cLine; have e : (A.deeper (envOfC "_law_span" (defScope s_law_span) s.heap.objs.size f cdv)).units = A.units + 3 := rfl; omega
    refine ⟨_, pss_cons (ps_set (i := 2) sc_law_span.nd rfl (Or.inr rfl) (pe_lst (pa_cons (pe_tupRgF (by rfl) (by rfl) B.tuple (prg_1 (by rfl) B.range (pv 0))) pa_nil)))
      (pss_cons (ps_for PassesOwn.never rfl (pi_range1 (by rfl) B.range (pa_cons pe_int pa_nil)) (pg_name (i := 3) sc_law_span.nd rfl (Or.inl rfl))
        (pss_one (ps_for PassesOwn.never rfl (pi_list (pe_slice sl_list (pv 2) (po_some (pv 3)) (po_some (pe_op op_add (pv 3) pe_int)))) (pg_name (i := 4) sc_law_span.nd rfl (Or.inr rfl))
          (pss_cons (ps_setLc (i := 5) (own := [("other", 6)]) (g := gName 6) (te := tCall spProdF [] E0 (tCons (tVar 4) (tCons (tVar 6) tNil))) (by rfl) sc_law_span.nd rfl rfl (sw_true rfl rfl rfl (by decide +kernel)) (pi_sq (pv 1)) (blkOk_by (own := [("other", 6)]) (N := ["places", "given", "found", "turn", "one", "later", "other"]) (sc := defScope s_law_span) (by decide +kernel))
            (fun _ _ _ _ _ => pg_name (i := 6) sc_law_span.nd rfl (Or.inl rfl)) (fun _ _ _ _ _ => pts_nil) (fun _ _ _ _ _ => pe_has hP hr (by rfl) (pa_cons (pv 4) (pa_cons (pv 6) pa_nil))))
          (pss_one (ps_set (i := 2) sc_law_span.nd rfl (Or.inr rfl) (pe_op op_cat (pv 2) (pe_lc (own := [("other", 6)]) (g := gName 6) (tt := tTest (tOp (rNotInD K) (tVar 6) (tVar 2))) (te := tVar 6) (by rfl) sc_law_span.nd
            (pi_list (pe_callB (cr_sortedT (by rfl)) (by rfl) B.sorted PyProof.Rows.boot_sorted (pa_cons (pe_callTy (cr_setOfT (by rfl) hu64) (by rfl) B.set PyProof.Rows.boot_set (pa_cons (pv 5) pa_nil)) pa_nil)))
            (blkOk_by (own := [("other", 6)]) (N := ["places", "given", "found", "turn", "one", "later", "other"]) (sc := defScope s_law_span) (by decide +kernel))
            (fun _ _ _ _ _ => pg_name (i := 6) sc_law_span.nd rfl (Or.inl rfl)) (fun _ _ _ _ _ => pts_one (pt_cmpR (op_notInD hu65) (pv 6) (pv 2) (by rfl))) (fun _ _ _ _ _ => pv 6)))))))))
      (pss_one (ps_ret (pe_callB (cr_sortT (d := n) (B := 9) hn1) (by rfl) B.sorted PyProof.Rows.boot_sorted (pa_cons (pv 2) pa_nil))))), ?_⟩
    refine ⟨_, rfl, n, rfl, .of_le (by omega) (by omega) (by omega) (by omega), fun q0 o ho hq0 => ⟨by show 1 ≤ sizeLine; decide, fun fl hfl => ?_⟩⟩
    have s1 := same_new (o := .frz o (.tup (rgV 0 n))) hq0
    have s2 := s1.trans (same_new (o := .lst [.ref q0]) hfl)
    have hq0l : q0 ≠ fl := fun z => by rw [← z, upd_same] at hfl; cases hfl
    refine ⟨300, rfl, by decide, by decide, for_range (lo := 0) (n := 300) (fun j σ H' => ∃ fl F x3 x4 x5 x6, σ = [some (nI n), some gv, some (.ref fl), x3, x4, x5, x6] ∧ Same H H' ∧ LF H' fl F ∧ SpI gs n j F)
      ⟨fl, [List.range n], none, none, none, none, rfl, s2, ⟨[.ref q0], upd_same, .cons ⟨q0, o, rfl, by rw [upd_ne hq0l, upd_same, rgV_nat], ho⟩ .nil⟩, ⟨List.pairwise_singleton _ _, fun t ht => by rw [List.mem_singleton.mp ht]; exact .still, List.mem_singleton.mpr rfl, fun i t hi => absurd hi (Nat.not_lt_zero i)⟩⟩ ?_ ?_⟩
    · rintro j σ H' hj ⟨fl, F, x3, x4, x5, x6, rfl, sm, ⟨xs, hxs, hp⟩, sp⟩
      simp only [Int.zero_add]
      have hFl : F.length ≤ 63 := hf.le sp.nd sp.made
      have hxl : xs.length = F.length := Paired.length hp
      refine ⟨_, rfl, _, rfl, (j : Int), rfl, _, rfl, (j : Int), 1, rfl, rfl, (j : Int) + 1, rfl, fl, xs, rfl, SqL.of hxs, fun sl hsl => ?_⟩
      have ssl := same_new (o := .lst (cutV xs (some (j : Int)) (some ((j : Int) + 1)))) hsl
      refine ⟨sl, rfl, ⟨_, SqL.of upd_same⟩, for_list (K := K) (a := sl) (xs := cutV xs (some (j : Int)) (some ((j : Int) + 1)))
        (fun i σ H2 => ∃ fl' F' x4 x5 x6, σ = [some (nI n), some gv, some (.ref fl'), some (nI j), x4, x5, x6] ∧ Same H' H2 ∧ LF H2 fl' F' ∧ (i = 0 → F' = F) ∧ (1 ≤ i → SpI gs n (j + 1) F') ∧ H2 sl = some (.lst (cutV xs (some (j : Int)) (some ((j : Int) + 1)))))
        ⟨fl, F, x4, x5, x6, rfl, ssl, LF.same ⟨xs, hxs, hp⟩ ssl, fun _ => rfl, fun h => absurd h (by omega), upd_same⟩ (fun i σ H2 _ ⟨_, _, _, _, _, _, _, _, _, _, h⟩ => SqL.of h) ?_ ?_⟩
      · rintro i x σ H2 hi ⟨fl', F', x4, x5, x6, rfl, sm1, ⟨xs2, hxs2, hp2⟩, h0, _, hsl2⟩
        have sm2 := sm.trans sm1
        rw [cut_one] at hi
        have hi0 : i = 0 := by
          have := (List.getElem?_eq_some_iff.mp hi).1
          rw [List.length_take] at this
          omega
        subst hi0
        have eF := h0 rfl
        subst eF
        rw [List.getElem?_take_of_lt (by omega), List.getElem?_drop, Nat.add_zero] at hi
        obtain ⟨one, hone, htf0⟩ := Paired.getL hp hi
        have hi := hone
        have htf : TF H2 x one := htf0.tm (.of sm1)
        have honeP := (sp.made one (List.mem_of_getElem? hone)).isP hg
        -- later
        dsimp only [gName, tSeq, tAsg, List.set]
        refine sq_lc TF (gs.map (prod one)) (fun _ _ _ _ e r => TF.tm e r) (hgv.same sm2) (by rfl) (by omega) (by rw [List.length_map]) (by intro _; rfl) (fun k y b g hgk hb hyg H3 s3 Q' q' => ?_) (fun D H3 zs hD s3 hz pz => ?_)
        · rw [List.getElem?_map, hgk] at hb
          have hb := Option.some.inj hb
          subst hb
          have hgP := hg g (List.mem_of_getElem? hgk)
          exact ⟨_, rfl, _, rfl, x, y, one, g, rfl, htf.tn.tm (.of s3), hyg.tm (.of s3), fun i hi => by rw [hgP.len]; exact honeP.lt i hi, by rw [honeP.len]; omega, q'⟩
        · -- found = found + [..]
          obtain ⟨ks, ek1, ek2, ek3⟩ := ks_of pz
          have hksl : ks.length < 64 := by
            have e := congrArg List.length ek2
            rw [List.length_map, List.length_map, List.length_map] at e
            omega
          have hks : ∀ p ∈ ks, SqT K H3 p.1 (p.2.map V.int) := fun p hp => by
            obtain ⟨t, _, e, a, o, ea, hao, _⟩ := ek3 p hp
            cases ea
            rw [e, show (iN t).map V.int = nIs t from (nIs_int t).symm]
            exact RT.sq (.inr ⟨o, hao⟩)
          have hz' : H3 D = some (.lst (ks.map fun p => V.ref p.1)) := by rw [hz, ek1]
          refine ⟨_, rfl, _, rfl, D, ks, rfl, SqL.of hz', hks, hksl, fun aS L haS hL1 hL2 => ?_⟩
          have s4 := same_new (o := SetTO P w aS L) haS
          have hLP : ∀ p ∈ L, ∃ t ∈ gs.map (prod one), p.2 = iN t ∧ TF H3 (.ref p.1) t := fun p hp => ek3 p (hL1 p hp)
          have hmulP : ∀ t ∈ gs.map (prod one), IsP n t := fun t ht => by
            obtain ⟨g, hgm, e⟩ := List.mem_map.mp ht
            rw [← e]
            exact honeP.prod (hg g hgm)
          refine ⟨aS, L, n, 9, rfl, upd_same, fun p hp => ?_, hn1, fun p hp => ?_, fun L' sp' pm nd h64 pw hsp' => ?_⟩
          · rcases hks p (hL1 p hp) with (z | ⟨o, z⟩) | z
            · exact .inl (.inl (s4 _ _ z))
            · exact .inl (.inr ⟨o, s4 _ _ z⟩)
            · exact .inr z
          · obtain ⟨t, ht, e, _⟩ := hLP p hp
            rw [e]
            exact ⟨by rw [iN_len, (hmulP t ht).len], bd_iN (hmulP t ht) hn9⟩
          have s5 := same_new (o := .lst (L'.map fun q : Addr × List Int => V.ref q.1)) hsp'
          have s45 := s4.trans s5
          refine ⟨sp', rfl, ⟨_, SqL.of upd_same⟩, fun D2 hD2 => ?_⟩
          have hL' : ∀ q ∈ L', q.2 = iN (q.2.map Int.toNat) ∧ q.2.map Int.toNat ∈ gs.map (prod one) ∧ TF H3 (.ref q.1) (q.2.map Int.toNat) := fun q hq => by
            obtain ⟨t, ht, e, tf⟩ := hLP q (pm.mem_iff.mp hq)
            have et : q.2.map Int.toNat = t := by
              rw [e]
              show (t.map Int.ofNat).map Int.toNat = t
              rw [List.map_map]
              exact (List.map_congr_left (g := id) fun _ _ => rfl).trans (List.map_id t)
            rw [et]
            exact ⟨e, ht, tf⟩
          have hM : (L'.map fun q : Addr × List Int => q.2.map Int.toNat).Nodup := by
            have e : (L'.map fun q : Addr × List Int => q.2.map Int.toNat).map iN = L'.map (·.2) := by
              rw [List.map_map]
              exact List.map_congr_left fun q hq => (hL' q hq).1.symm
            rw [← e] at nd
            exact nodup_of_map nd
          have hM1 : ∀ t ∈ (L'.map fun q : Addr × List Int => q.2.map Int.toNat), ∃ g ∈ gs, t = prod one g := fun t ht => by
            obtain ⟨q, hq, e⟩ := List.mem_map.mp ht
            obtain ⟨g, hgm, e2⟩ := List.mem_map.mp (hL' q hq).2.1
            exact ⟨g, hgm, by rw [← e, ← e2]⟩
          have hM2 : ∀ g ∈ gs, prod one g ∈ (L'.map fun q : Addr × List Int => q.2.map Int.toNat) := fun g hgm => by
            have h1 : iN (prod one g) ∈ ks.map (·.2) := by
              rw [ek2]
              exact List.mem_map.mpr ⟨_, List.mem_map.mpr ⟨g, hgm, rfl⟩, rfl⟩
            obtain ⟨p, hp, e⟩ := List.mem_map.mp h1
            obtain ⟨q, hq, e2⟩ := List.mem_map.mp (hL2 p hp)
            have hq' := pm.mem_iff.mpr hq
            refine List.mem_map.mpr ⟨q, hq', iN_inj ?_⟩
            rw [← (hL' q hq').1]
            exact e2.trans e
          have hlfl : L'.length ≤ 64 := Nat.le_of_lt h64
          have sB := s3.trans s45
          have hp2B := TFs.tm (.of sB) hp2
          have hxs2B := sB _ _ hxs2
          refine lc_list (xs := L'.map fun q : Addr × List Int => V.ref q.1) (fun i H4 => Same (upd (upd H3 aS (SetTO P w aS L)) sp' (.lst (L'.map fun q : Addr × List Int => V.ref q.1))) H4 ∧ ∃ zs, H4 D2 = some (.lst zs) ∧ Paired (TF H4) zs (((L'.map fun q : Addr × List Int => q.2.map Int.toNat).take i).filter fun t => decide (t ∉ F')) ∧ zs.length ≤ i)
            ⟨same_new hD2, [], upd_same, .nil, Nat.le_refl 0⟩ (fun i H4 _ h => SqL.of (h.1 _ _ upd_same)) ?_ ?_
          · rintro i x' H4 hi' ⟨sD, zs, hz4, pz4, hzl⟩
            rw [List.getElem?_map] at hi'
            obtain ⟨qe, hqe, rfl⟩ := Option.map_eq_some_iff.mp hi'
            have hqm := List.mem_of_getElem? hqe
            obtain ⟨_, ht1, ht2⟩ := hL' qe hqm
            have hil : i < 64 := by have := (List.getElem?_eq_some_iff.mp hqe).1; omega
            have tf4 : TF H4 (.ref qe.1) (qe.2.map Int.toNat) := ht2.tm (.of (s45.trans sD))
            have etake : (L'.map fun q : Addr × List Int => q.2.map Int.toNat).take (i + 1) = (L'.map fun q : Addr × List Int => q.2.map Int.toNat).take i ++ [qe.2.map Int.toNat] := by
              rw [List.take_add_one, List.getElem?_map, hqe]
              rfl
            refine ⟨rfl, _, rfl, _, rfl, dT (qe.2.map Int.toNat), F'.map dT, tf4.tn.dp, .lst (SqL.of (sD _ _ hxs2B)) (TNs.dp (paired_mono (fun _ _ r => TF.tn r) (TFs.tm (.of sD) hp2B))), sh_T _, sh_LT _, _, rfl, ?_⟩
            rw [any_dT]
            by_cases hin : qe.2.map Int.toNat ∈ F'
            · rw [decide_eq_true hin]
              refine iteF ⟨sD, zs, hz4, ?_, by omega⟩
              rw [etake, List.filter_append, List.filter_cons, if_neg (by simpa using hin), List.filter_nil, List.append_nil]
              exact pz4
            · rw [decide_eq_false hin]
              have t4 := Tm.lst (o := .lst (zs ++ [V.ref qe.1])) hz4
              refine iteT ⟨_, rfl, zs, hz4, by rw [sizeLine_eq]; omega, same_mut sD hD2, zs ++ [V.ref qe.1], upd_same, ?_, by rw [List.length_append]; show zs.length + 1 ≤ i + 1; omega⟩
              rw [etake, List.filter_append, List.filter_cons, if_pos (by simpa using hin), List.filter_nil]
              exact Paired.app (TFs.tm t4 pz4) (Paired.one (tf4.tm t4))
          · rintro H4 ⟨sD, zs, hz4, pz4, hzl⟩
            rw [List.length_map, show L'.length = (L'.map fun q : Addr × List Int => q.2.map Int.toNat).length from (List.length_map ..).symm, List.take_length] at pz4
            rw [List.length_map] at hzl
            have hxs4 := sD _ _ hxs2B
            have hx2l : xs2.length ≤ 63 := by rw [Paired.length hp2]; exact hFl
            refine ⟨fl', D2, xs2, zs, rfl, rfl, hxs4, hz4, by rw [sizeLine_eq]; omega, fun np hnp => ?_⟩
            have s6 := same_new (o := .lst (xs2 ++ zs)) hnp
            have sE := (sB.trans sD).trans s6
            refine ⟨np, _, _, _, _, rfl, sm1.trans sE, ⟨xs2 ++ zs, upd_same, Paired.app (TFs.tm (.of (sD.trans s6)) hp2B) (TFs.tm (.of s6) pz4)⟩, fun h => absurd h (by omega), fun _ => sp.next hi hM hM1 hM2, sE _ _ hsl2⟩
      · rintro σ H2 ⟨fl', F', x4, x5, x6, rfl, sm1, lf2, h0, h1, _⟩
        refine ⟨fl', F', _, _, _, _, rfl, sm.trans sm1, lf2, ?_⟩
        rw [cut_one, List.length_take, List.length_drop] at h0 h1
        by_cases hlt : j < xs.length
        · exact h1 (by omega)
        · rw [h0 (by omega)]
          exact sp.skip (by omega)
    · rintro σ H' ⟨fl, F, x3, x4, x5, x6, rfl, sm, ⟨xs, hxs, hp⟩, sp⟩
      have hFl : F.length ≤ 63 := hf.le sp.nd sp.made
      have hxl : xs.length = F.length := Paired.length hp
      refine ⟨_, rfl, fl, xs, rfl, SqL.of hxs, by omega, fun x hx => ?_, fun ys p pm pw hp2 => ?_⟩
      · obtain ⟨t, ht, a, o, rfl, hao, _⟩ := Paired.memL hp hx
        have htP := (sp.made t ht).isP hg
        exact ⟨iN t, ⟨a, rfl, by rw [show (iN t).map V.int = nIs t from (nIs_int t).symm]; exact RT.sq (.inr ⟨o, hao⟩)⟩, by rw [iN_len, htP.len], bd_iN htP hn9⟩
      · obtain ⟨ts, h1, h2⟩ := Paired.perm pm hp
        have s2 := same_new (o := .lst ys) hp2
        refine q p _ ts (sm.trans s2) (sm.free hp2) ⟨ys, upd_same, TFs.tm (.of s2) h1⟩ (h2.nodup_iff.mpr sp.nd) (fun t => h2.mem_iff.trans (sp.all (by omega) t)) ?_
        refine Paired.pairwise (R := TF H') (fun x y s t rx ry hxy => ?_) h1 pw
        obtain ⟨a, o, rfl, hao, _⟩ := rx
        obtain ⟨a', o', rfl, hao', _⟩ := ry
        exact hxy (iN s) (iN t) ⟨a, rfl, by rw [show (iN s).map V.int = nIs s from (nIs_int s).symm]; exact RT.sq (.inr ⟨o, hao⟩)⟩ ⟨a', rfl, by rw [show (iN t).map V.int = nIs t from (nIs_int t).symm]; exact RT.sq (.inr ⟨o', hao'⟩)⟩
end
end Lt

set_option linter.all false
set_option Elab.async false
set_option maxRecDepth 100000
/-! locks whose places are called otherwise; small locks -/
namespace Lt
def cj (s t : List Nat) : List Nat := prod (prod (inv s) t) s
theorem cj_isP {n : Nat} {s t : List Nat} (hs : IsP n s) (ht : IsP n t) : IsP n (cj s t) := (hs.inv.prod ht).prod hs
theorem cj_still {n : Nat} {s : List Nat} (hs : IsP n s) : cj s (List.range n) = List.range n := by
  unfold cj
  rw [prod_still_r hs.inv.lt, prod_inv_l hs]
theorem bd {n : Nat} {x y : List Nat} (hx : IsP n x) (hy : IsP n y) : ∀ i ∈ x, i < y.length := fun i hi => by rw [hy.len]; exact hx.lt i hi
theorem cj_prod {n : Nat} {s a b : List Nat} (hs : IsP n s) (ha : IsP n a) (hb : IsP n b) : cj s (prod a b) = prod (cj s a) (cj s b) := by
  unfold cj
  have h1 : prod (prod (prod (inv s) a) s) (prod (prod (inv s) b) s) = prod (prod (inv s) a) (prod s (prod (prod (inv s) b) s)) := prod_assoc (bd (hs.inv.prod ha) hs)
  have h2 : prod s (prod (prod (inv s) b) s) = prod b s := by
    rw [← prod_assoc (bd hs (hs.inv.prod hb)), ← prod_assoc (bd hs hs.inv), prod_inv_r hs, prod_still_l hb.len]
  rw [h1, h2, ← prod_assoc (bd hs.inv ha), prod_assoc (bd (hs.inv.prod ha) hb)]
theorem Mk.cj {gs : List (List Nat)} {n : Nat} {s : List Nat} (hg : ∀ g ∈ gs, IsP n g) (hs : IsP n s) {u : List Nat} (h : Mk (gs.map (Lt.cj s)) n u) : ∃ t, Mk gs n t ∧ u = Lt.cj s t := by
  induction h with
  | still => exact ⟨_, .still, (cj_still hs).symm⟩
  | @step a g _ hm ih =>
    obtain ⟨t, ht, e⟩ := ih
    obtain ⟨g', hg', e'⟩ := List.mem_map.mp hm
    exact ⟨_, .step ht hg', by rw [cj_prod hs (ht.isP hg) (hg g' hg'), e, e']⟩
theorem Few.cj {gs : List (List Nat)} {n m : Nat} {s : List Nat} (hg : ∀ g ∈ gs, IsP n g) (hs : IsP n s) (h : Few gs n m) : Few (gs.map (Lt.cj s)) n m := by
  obtain ⟨D, h1, h2⟩ := h
  refine ⟨D.map (Lt.cj s), by rw [List.length_map]; exact h1, fun u hu => ?_⟩
  obtain ⟨t, ht, e⟩ := hu.cj hg hs
  rw [e]
  exact List.mem_map.mpr ⟨t, h2 t ht, rfl⟩
theorem few_of {gs : List (List Nat)} {n k : Nat} (h : (qq gs n k).length ≤ k) : Few gs n k :=
  ⟨(qq gs n k).map (·.1), by rw [List.length_map]; exact h, fun t ht => (qq_full h t).mpr ht⟩
theorem Few.mono {gs : List (List Nat)} {n m m' : Nat} (h : Few gs n m) (l : m ≤ m') : Few gs n m' := let ⟨D, h1, h2⟩ := h; ⟨D, Nat.le_trans h1 l, h2⟩
/-- what is led where -/
theorem cj_at {n : Nat} {s t u : List Nat} (hs : IsP n s) (ht : IsP n t) (hl : u.length = n) (h : ∀ (i si ti : Nat), s[i]? = some si → t[i]? = some ti → u[si]? = s[ti]?) : u = cj s t := by
  apply List.ext_getElem?
  intro p
  by_cases hp : p < n
  · have hm : p ∈ s := hs.mem.mpr hp
    have hj := List.idxOf_lt_length_of_mem hm
    have hjn : s.idxOf p < n := by rw [← hs.len]; exact hj
    have e1 : s[s.idxOf p]? = some p := by rw [List.getElem?_eq_getElem hj, List.getElem_idxOf]
    have e2 : t[s.idxOf p]? = some (t[s.idxOf p]'(by rw [ht.len]; exact hjn)) := List.getElem?_eq_getElem _
    have htl : t[s.idxOf p]'(by rw [ht.len]; exact hjn) < s.length := by rw [hs.len]; exact ht.lt _ (List.getElem_mem _)
    rw [h _ _ _ e1 e2]
    unfold cj prod inv
    rw [List.getElem?_map, List.getElem?_map, List.getElem?_map, hs.len, List.getElem?_range hp]
    simp only [Option.map_some]
    rw [List.getD_eq_getElem?_getD (l := t), e2, Option.getD_some, List.getD_eq_getElem?_getD, List.getElem?_eq_getElem htl, Option.getD_some]
  · rw [List.getElem?_eq_none (by omega), List.getElem?_eq_none (by rw [(cj_isP hs ht).len]; omega)]
/-! ### all permutations of few places -/
def lists (n : Nat) : Nat → List (List Nat)
  | 0 => [[]]
  | k + 1 => (List.range n).flatMap fun a => (lists n k).map (a :: ·)
theorem mem_lists {n : Nat} : ∀ (t : List Nat), (∀ i ∈ t, i < n) → t ∈ lists n t.length
  | [], _ => List.mem_singleton.mpr rfl
  | a :: t, h => List.mem_flatMap.mpr ⟨a, List.mem_range.mpr (h a List.mem_cons_self), List.mem_map.mpr ⟨t, mem_lists t fun i hi => h i (List.mem_cons_of_mem _ hi), rfl⟩⟩
theorem few_all {gs : List (List Nat)} {n m : Nat} (hg : ∀ g ∈ gs, IsP n g) (h : ((lists n n).filter fun t => decide (IsP n t)).length ≤ m) : Few gs n m :=
  ⟨_, h, fun t ht => by
    have hp := ht.isP hg
    have z := mem_lists t hp.lt
    rw [hp.len] at z
    exact List.mem_filter.mpr ⟨z, decide_eq_true hp⟩⟩
theorem all4 : ((lists 4 4).filter fun t => decide (IsP 4 t)).length ≤ 60 := by decide +kernel
theorem all3 : ((lists 3 3).filter fun t => decide (IsP 3 t)).length ≤ 60 := by decide +kernel
theorem all2 : ((lists 2 2).filter fun t => decide (IsP 2 t)).length ≤ 60 := by decide +kernel
/-! ### the known locks -/
def known : List (List (List Nat)) := [[[1, 2, 3, 0]], [[1, 0, 3, 2], [2, 3, 0, 1]], [[1, 2, 3, 0], [3, 2, 1, 0]], [[1, 0, 2, 3, 4, 5], [0, 1, 3, 2, 4, 5], [0, 1, 2, 3, 5, 4]],
  [[1, 2, 3, 4, 5, 6, 7, 0]], [[1, 2, 3, 4, 5, 6, 7, 8, 0]], [[1, 2, 3, 0, 5, 6, 7, 4], [4, 7, 6, 5, 2, 1, 0, 3]], [[1, 2, 0, 3, 4, 5], [0, 1, 2, 4, 5, 3]], [[1, 2, 0], [1, 0, 2]],
  [[1, 2, 0, 3], [1, 0, 3, 2]], [[1, 2, 0, 3, 4], [0, 1, 2, 4, 3]], [[3, 4, 5, 6, 7, 8, 0, 1, 2], [0, 1, 2, 4, 5, 3, 8, 6, 7]], [[1, 2, 3, 4, 0], [1, 2, 0, 3, 4]], [[1, 2, 3, 0], [1, 0, 2, 3]],
  [[1, 2, 3, 4, 0], [0, 4, 3, 2, 1]]]
def fine (gs : List (List Nat)) : Bool := match gs with
  | [] => false
  | g :: _ => decide (gs.length ≤ 4) && decide (2 ≤ g.length) && decide (g.length ≤ 9) && gs.all (fun t => decide (IsP g.length t)) && decide ((qq gs g.length 60).length ≤ 60)
theorem known_fine : known.all fine = true := by decide +kernel
theorem fine_of {gs : List (List Nat)} (h : gs ∈ known) : ∃ n, 1 ≤ gs.length ∧ gs.length ≤ 4 ∧ 2 ≤ n ∧ n ≤ 9 ∧ (∀ g ∈ gs, IsP n g) ∧ Few gs n 60 := by
  have z := List.all_eq_true.mp known_fine gs h
  cases gs with
  | nil => cases z
  | cons g gs =>
    have z : (decide ((g :: gs).length ≤ 4) && decide (2 ≤ g.length) && decide (g.length ≤ 9) && (g :: gs).all (fun t => decide (IsP g.length t)) && decide ((qq (g :: gs) g.length 60).length ≤ 60)) = true := z
    simp only [Bool.and_eq_true, decide_eq_true_eq, List.all_eq_true] at z
    obtain ⟨⟨⟨⟨z1, z2⟩, z3⟩, z4⟩, z5⟩ := z
    exact ⟨g.length, by show 1 ≤ gs.length + 1; omega, z1, z2, z3, z4, few_of z5⟩
end Lt

set_option Elab.async false
set_option linter.all false
set_option maxRecDepth 100000
set_option maxHeartbeats 1000000
namespace Lt
open PySem PySem.Spec PyProof.Rows L2
/-! ### a written table of locks -/
def isInts : List Expr → List Nat → Bool
  | [], [] => true
  | .Constant (.int i) _ _ :: es, n :: t => decide (i = Int.ofNat n) && isInts es t
  | _, _ => false
def isTurns : List Expr → List (List Nat) → Bool
  | [], [] => true
  | .Tuple es _ _ :: r, t :: ts => isInts es t && isTurns r ts
  | _, _ => false
def isTab : List (Option Expr) → List Expr → List (Str × List (List Nat)) → Bool
  | [], [], [] => true
  | some (.Constant (.str x) _ _) :: ks, .Tuple es _ _ :: vs, (y, ts) :: tab => decide (x = y) && isTurns es ts && isTab ks vs tab
  | _, _, _ => false
theorem PA.imp {X : Cx} {es : List Expr} {t t' : TA} (h : PA X es t) (i : ∀ σ H Q, t' σ H Q → t σ H Q) : PA X es t' := ⟨fun pos pins s σ H Q I q => h.run pos pins s σ H Q I (i σ H Q q)⟩
theorem PE.imp {X : Cx} {e : Expr} {t t' : TE} (h : PE X e t) (i : ∀ σ H Q, t' σ H Q → t σ H Q) : PE X e t' := ⟨fun pins s σ H Q I q => h.run pins s σ H Q I (i σ H Q q)⟩
section
variable {X : Cx}
theorem pa_ints : ∀ {es : List Expr} {t : List Nat}, isInts es t = true → PA X es (fun _ H Q => Q (nIs t) H)
  | [], [], _ => pa_nil
  | [], _ :: _, h => by cases h
  | e :: es, [], h => by
    cases e with
    | Constant c j p => cases c <;> cases h
    | _ => cases h
  | e :: es, n :: t, h => by
    cases e with
    | Constant c j p =>
      cases c with
      | int i =>
        have h : (decide (i = Int.ofNat n) && isInts es t) = true := h
        rw [Bool.and_eq_true, decide_eq_true_eq] at h
        obtain ⟨rfl, h2⟩ := h
        exact PA.imp (pa_cons pe_int (pa_ints h2)) fun σ H Q q => q
      | _ => cases h
    | _ => cases h
theorem pe_turn {es : List Expr} {k : Nat} {pos : Pos} {t : List Nat} (h : isInts es t = true) (hl : t.length ≤ 1000) : PE X (.Tuple es k pos) (fun _ H Q => ∀ v H', Same H H' → TK H' v t → Q v H') :=
  PE.imp (pe_tup (pa_ints h)) fun σ H Q q => ⟨by rw [nIs_len, sizeLine_eq]; omega, fun p hp => q _ _ (same_new hp) ⟨p, rfl, upd_same⟩⟩
theorem pa_turns : ∀ {es : List Expr} {ts : List (List Nat)}, isTurns es ts = true → (∀ t ∈ ts, t.length ≤ 1000) → PA X es (fun _ H Q => ∀ vs H', Same H H' → Paired (TN H') vs ts → Q vs H')
  | [], [], _, _ => PA.imp pa_nil fun σ H Q q => q _ _ (Same.refl _) .nil
  | [], _ :: _, h, _ => by cases h
  | e :: es, [], h, _ => by cases e <;> cases h
  | e :: es, t :: ts, h, hl => by
    cases e with
    | Tuple es2 k pos =>
      have h : (isInts es2 t && isTurns es ts) = true := h
      rw [Bool.and_eq_true] at h
      refine PA.imp (pa_cons (pe_turn h.1 (hl t List.mem_cons_self)) (pa_turns h.2 fun x hx => hl x (List.mem_cons_of_mem _ hx))) fun σ H Q q => ?_
      exact fun v H1 s1 hv vs H2 s2 hvs => q _ _ (s1.trans s2) (.cons (hv.tn.tm (.of s2)) hvs)
    | _ => cases h
def Tb (H : Hp) (p : V × V) (x : Str × List (List Nat)) : Prop := p.1 = .str x.1 ∧ TT H p.2 x.2
theorem pps_tab {pos : Pos} : ∀ {ks : List (Option Expr)} {vs : List Expr} {tab : List (Str × List (List Nat))}, isTab ks vs tab = true → (∀ x ∈ tab, x.2.length ≤ 1000 ∧ ∀ t ∈ x.2, t.length ≤ 1000) →
    ∃ trs, PPs X pos ks vs trs ∧ ∀ σ H Q, (∀ ps H', Same H H' → Paired (Tb H') ps tab → Q ps H') → tPairs trs σ H Q
  | [], [], [], _, _ => ⟨[], pps_nil, fun σ H Q q => q _ _ (Same.refl _) .nil⟩
  | [], [], _ :: _, h, _ => by cases h
  | [], _ :: _, _, h, _ => by cases h
  | k :: ks, [], tab, h, _ => by
    cases k with
    | none => cases h
    | some e => cases e with
      | Constant c j p => cases c <;> cases h
      | _ => cases h
  | k :: ks, v :: vs, [], h, _ => by
    cases k with
    | none => cases h
    | some e => cases e with
      | Constant c j p => cases c <;> cases v <;> cases h
      | _ => cases h
  | k :: ks, v :: vs, (y, ts) :: tab, h, hl => by
    cases k with
    | none => cases h
    | some e => cases e with
      | Constant c j p => cases c with
        | str x => cases v with
          | Tuple es k2 pos2 =>
            have h : (decide (x = y) && isTurns es ts && isTab ks vs tab) = true := h
            rw [Bool.and_eq_true, Bool.and_eq_true, decide_eq_true_eq] at h
            obtain ⟨⟨rfl, h1⟩, h2⟩ := h
            obtain ⟨hl1, hl2⟩ := hl (x, ts) List.mem_cons_self
            obtain ⟨trs, p, r⟩ := pps_tab h2 fun z hz => hl z (List.mem_cons_of_mem _ hz)
            refine ⟨_, pps_cons pe_str (pe_tup (pa_turns h1 hl2)) p, fun σ H Q q => ?_⟩
            refine fun us H1 s1 hus => ⟨by rw [Paired.length hus, sizeLine_eq]; exact Nat.le_trans hl1 (by decide), fun pt hpt => ?_⟩
            have s2 := same_new (o := .tup us) hpt
            refine r σ _ _ fun ps H3 s3 hps => q _ _ ((s1.trans s2).trans s3) (.cons ⟨rfl, TT.tm (.of s3) ⟨pt, us, rfl, upd_same, TNs.tm (.of s2) hus⟩⟩ hps)
          | _ => cases h
        | _ => cases h
      | _ => cases h
/-- what a dict of names and locks holds -/
def DB (H : Hp) (kv : Key × V) (x : Str × List (List Nat)) : Prop := kv.1 = Sum.inr x.1 ∧ TT H kv.2 x.2
theorem tb_kvs {H : Hp} : ∀ {ps : List (V × V)} {tab : List (Str × List (List Nat))}, Paired (Tb H) ps tab → ∃ kvs : List (Key × V), ps = kvs.map (fun kv => (kV kv.1, kv.2)) ∧ Paired (DB H) kvs tab
  | _, _, .nil => ⟨[], rfl, .nil⟩
  | p :: _, x :: _, .cons r t => by
    obtain ⟨kvs, h1, h2⟩ := tb_kvs t
    refine ⟨(Sum.inr x.1, p.2) :: kvs, ?_, .cons ⟨rfl, r.2⟩ h2⟩
    rw [h1]
    have e : p = (V.str x.1, p.2) := Prod.ext r.1 rfl
    rw [e]
    rfl
theorem db_val {H : Hp} {x : Str} {ts : List (List Nat)} : ∀ {kvs : List (Key × V)} {tab : List (Str × List (List Nat))}, Paired (DB H) kvs tab → (tab.map (·.1)).Nodup → (x, ts) ∈ tab → ∃ v, valV kvs (Sum.inr x) = some v ∧ TT H v ts
  | _, _, .nil, _, h => by cases h
  | p :: ps, q :: qs, .cons r s, hn, h => by
    rw [List.map_cons] at hn
    obtain ⟨h1, h2⟩ := List.nodup_cons.mp hn
    rcases List.mem_cons.mp h with e | h
    · subst e
      exact ⟨p.2, valV_pos r.1, r.2⟩
    · have hne : ¬ p.1 = Sum.inr x := fun e => h1 (by
        rw [r.1] at e
        injection e with e
        rw [e]
        exact List.mem_map.mpr ⟨_, h, rfl⟩)
      rw [valV_neg hne]
      exact db_val s h2 h
theorem mergeK_nil {H : Hp} : ∀ {kvs : List (Key × V)} {tab : List (Str × List (List Nat))} {acc : List (Key × V)} {at_ : List (Str × List (List Nat))}, Paired (DB H) kvs tab → Paired (DB H) acc at_ → ((at_ ++ tab).map (·.1)).Nodup → mergeK acc kvs = acc ++ kvs
  | _, _, acc, _, .nil, _, _ => by
    show acc = acc ++ []
    rw [List.append_nil]
  | p :: ps, q :: qs, acc, at_, .cons r s, ha, hn => by
    have hnone : valV acc p.1 = none := by
      cases e : valV acc p.1 with
      | none => rfl
      | some v =>
        exfalso
        have m := valV_in e
        obtain ⟨kv, hkv, ekv⟩ := List.mem_map.mp m
        obtain ⟨y, hy, ry⟩ := Paired.memL ha hkv
        have e1 : y.1 = q.1 := by
          have z : (Sum.inr y.1 : Key) = Sum.inr q.1 := ry.1.symm.trans (ekv.trans r.1)
          injection z
        rw [List.map_append, List.map_cons] at hn
        exact (List.nodup_append.mp hn).2.2 y.1 (List.mem_map.mpr ⟨y, hy, rfl⟩) q.1 List.mem_cons_self e1
    show mergeK (putK acc p.1 p.2) ps = acc ++ p :: ps
    rw [putK_new p.2 hnone, mergeK_nil (acc := acc ++ [(p.1, p.2)]) (at_ := at_ ++ [q]) s (Paired.app ha (Paired.one r)) (by rw [List.append_assoc]; exact hn), List.append_assoc]
    rfl
/-- {'a': ((..), ..), ..} -/
def tTab (tab : List (Str × List (List Nat))) : TE := fun _ H Q => ∀ p H' kvs, Same H H' → H p = none → H' p = some (.dK kvs) → Paired (DB H') kvs tab → Q (.ref p) H'
theorem pe_tab {ks : List (Option Expr)} {vs : List Expr} {pos : Pos} {tab : List (Str × List (List Nat))} (h : isTab ks vs tab = true) (hl : ∀ x ∈ tab, x.2.length ≤ 1000 ∧ ∀ t ∈ x.2, t.length ≤ 1000) (hn : (tab.map (·.1)).Nodup) (h15 : tab.length ≤ 15)
    (hall : ks.all (·.isSome) = true) (hlen : ks.length = vs.length) (h0 : ks ≠ []) (hk15 : ks.length ≤ 15) : PE X (.Dict ks vs pos) (tTab tab) := by
  obtain ⟨trs, p, r⟩ := pps_tab (X := X) (pos := pos) h hl
  refine PE.imp (pe_disp p hall hlen h0 hk15) fun σ H Q q => ?_
  refine fun d hd => r σ _ _ fun ps H2 s2 hps => ⟨s2 _ _ upd_same, ?_⟩
  obtain ⟨kvs, e, hb⟩ := tb_kvs hps
  refine ⟨kvs, e, by rw [Paired.length hb]; exact h15, ?_⟩
  have em : mergeK [] kvs = kvs := mergeK_nil (acc := []) (at_ := []) hb .nil hn
  rw [em]
  have hd2 : H2 d = some (.dK []) := s2 _ _ upd_same
  have tm : Tm H2 (upd H2 d (.dK kvs)) := .mut hd2 (fun _ z => nomatch z) fun _ _ z => nomatch z
  have sH : Same H (upd H2 d (.dK kvs)) := same_mut ((same_new hd).trans s2) hd
  exact q d _ kvs sH hd upd_same (paired_mono (fun a b z => ⟨z.1, z.2.tm tm⟩) hb)
end
def names : List Str := ["four", "klein", "square", "cube", "eight", "nine", "quaternions", "threes", "three", "tetra", "six", "heis", "five", "whole", "ten"]
def table : List (Str × List (List Nat)) := names.zip known
theorem table_nd : (table.map (·.1)).Nodup := by decide +kernel
theorem table_len : ∀ x ∈ table, x.2.length ≤ 1000 ∧ ∀ t ∈ x.2, t.length ≤ 1000 := by decide +kernel
theorem table_known {x : Str × List (List Nat)} (h : x ∈ table) : x.2 ∈ known := by
  unfold table at h
  exact (List.of_mem_zip (a := x.1) (b := x.2) h).2
end Lt

set_option Elab.async false
set_option linter.all false
set_option maxRecDepth 100000
set_option maxHeartbeats 1000000
namespace Lt
open PySem PySem.Spec PyProof.Rows L2
theorem names_in : ∀ nm ∈ names, ∃ ts, (nm, ts) ∈ table := fun nm h => by
  have z : (names.all fun nm => table.any fun x => decide (x.1 = nm)) = true := by decide +kernel
  obtain ⟨x, hx, e⟩ := List.any_eq_true.mp (List.all_eq_true.mp z nm h)
  have e := of_decide_eq_true e
  exact ⟨x.2, by rw [← e]; exact hx⟩
theorem three_of {nm : Str} {ts : List (List Nat)} (h : (nm, ts) ∈ table) : ts.length ≤ 3 := by
  have z : (table.all fun x => decide (x.2.length ≤ 3)) = true := by decide +kernel
  exact of_decide_eq_true (List.all_eq_true.mp z _ h)
section
variable {P : Program} {w : World} {K : PySem.W.Frag} {mg : Str → Option Value} {base : Heap}
theorem sc_law_known : FnScope ["row", "kinds", "locks", "lock", "order", "found", "turn", "named", "place", "comes"] ["row", "kinds"] (defScope s_law_known) := ⟨rfl, rfl, rfl, by decide +kernel, rfl, by decide +kernel, by decide +kernel⟩
/-! ### _law_lock -/
theorem sc_law_lock : FnScope ["row", "kinds", "places", "turn"] ["row", "kinds"] (defScope s_law_lock) := ⟨rfl, rfl, rfl, by decide +kernel, rfl, by decide +kernel, by decide +kernel⟩
theorem few4 {ls : List (List Nat)} {n : Nat} (h1 : 2 ≤ n) (h2 : n ≤ 4) (hg : ∀ g ∈ ls, IsP n g) : Few ls n 60 := by
  have : n = 2 ∨ n = 3 ∨ n = 4 := by omega
  rcases this with e | e | e
  · subst e; exact (few_all hg all2).mono (by omega)
  · subst e; exact (few_all hg all3).mono (by omega)
  · subst e; exact (few_all hg all4).mono (by omega)
end
end Lt

set_option Elab.async false
set_option linter.all false
set_option maxRecDepth 100000
set_option maxHeartbeats 1000000
/-! the drawn lock, and of what kind it is -/
namespace Lt
open PySem PySem.Spec PyProof.Rows L2
/-- of these kinds, its places called otherwise -/
def LkD (kn : List Str) (ls : List (List Nat)) (n : Nat) : Prop := ∃ nm gs s, nm ∈ kn ∧ (nm, gs) ∈ table ∧ IsP n s ∧ ls = gs.map (cj s) ∧ ∀ g ∈ gs, IsP n g
section
variable {P : Program} {w : World} {K : PySem.W.Frag} {mg : Str → Option Value} {base : Heap}
def spKnownD (K : PySem.W.Frag) : Sp := fun vs H Q _ => ∃ (r kl sc : Addr) (ns : List Int) (kn : List Str), vs = [.ref r, .ref kl] ∧ RowAt K H r sc ns ∧ H kl = some (.lst (kn.map V.str)) ∧ kl ≠ r ∧ 1 ≤ kn.length ∧ kn.length ≤ 100 ∧ (∀ x ∈ kn, x ∈ names) ∧
  ∀ v H' ls n, LkD kn ls n → ls.length ≤ 3 → GL ls n → Few ls n 60 → StepR r H H' → RowAt K H' r sc ns → TT H' v ls → Q v H'
theorem has_law_knownD (T : Top K mg "_law_known" s_law_known ["row", "kinds"]) (B : Bi mg) (hK : Has P w K mg base CX0 2 "_law_pick" ["row", "things"] (spPick K)) (hM : Has P w K mg base CX0 2 "_law_permutation" ["row", "places"] (spLawPerm K)) : Has P w K mg base CX0 3 "_law_known" ["row", "kinds"] (spKnownD K) := by
  refine T.ok sc_law_known (fun vs H Q E h => ?_) (fun f cdv A outer s H vs Q E hr h => ?_)
  · obtain ⟨r, kl, sc, ns, kn, rfl, _⟩ := h
    rfl
  · obtain ⟨r, kl, sc, ns, kn, rfl, ra, hkl, hne, hk1, hk2, hkn, q⟩ := h
    have hu := hu_of hr
    refine ⟨_, pss_cons (ps_set (i := 2) sc_law_known.nd rfl (Or.inl rfl) (pe_tab (tab := table) (by decide +kernel) table_len table_nd (by decide) (by rfl) (by rfl) (fun z => by cases z) (by decide)))
      (pss_cons (ps_set (i := 3) sc_law_known.nd rfl (Or.inl rfl) (pe_dget hu (pv 2) (pe_has hK hr (by rfl) (pa_cons (pv 0) (pa_cons (pv 1) pa_nil))) (fun _ _ => rfl)))
      (pss_cons (ps_set (i := 4) sc_law_known.nd rfl (Or.inl rfl) (pe_has hM hr (by rfl) (pa_cons (pv 0) (pa_cons (pe_callB call_len_seq (by rfl) B.len PySem.boot_len (pa_cons (pe_ix ix_tup (pv 3) pe_int (fun _ _ => rfl)) pa_nil)) pa_nil))))
      (pss_cons (ps_set (i := 5) sc_law_known.nd rfl (Or.inl rfl) (pe_lst pa_nil))
      (pss_cons (ps_for PassesOwn.never rfl (pi_tup (pv 3)) (pg_name (i := 6) sc_law_known.nd rfl (Or.inl rfl))
        (pss_cons (ps_set (i := 7) sc_law_known.nd rfl (Or.inl rfl) (pe_op op_rep (pe_lst (pa_cons pe_int pa_nil)) (pe_callB call_len_seq (by rfl) B.len PySem.boot_len (pa_cons (pv 6) pa_nil))))
        (pss_cons (ps_for PassesOwn.never rfl (pi_enumT (by rfl) B.enumerate (pa_cons (pv 6) pa_nil)) (pg_tup rfl (pgs_cons (pg_name (i := 8) sc_law_known.nd rfl (Or.inl rfl)) (pgs_cons (pg_name (i := 9) sc_law_known.nd rfl (Or.inl rfl)) pgs_nil)))
          (pss_one (ps_asg (pe_ix ix_tup (pv 4) (pv 9) (fun _ _ => rfl)) (pg_sub (pv 7) (pe_ix ix_tup (pv 4) (pv 8) (fun _ _ => rfl)) set_list))))
        (pss_one (ps_expr (pe_bm PySem.F.plainAttrs_list PySem.F.slot_list_append PySem.F.type_list_append mt_append (pv 5) (pa_cons (pe_tupleOf (by rfl) B.tuple (pv 7)) pa_nil)))))))
      (pss_one (ps_ret (pe_tupleOf (by rfl) B.tuple (pv 5)))))))), ?_⟩
    refine fun d H1 kvs s1 hd hd1 hDB => ?_
    refine ⟨_, rfl, _, rfl, _, rfl, r, kl, sc, ns, kn.map V.str, rfl, ra.step s1, s1 _ _ hkl, hne, by rw [List.length_map]; exact hk1, by rw [List.length_map]; omega, fun x H2 hx st2 ra2 => ?_⟩
    obtain ⟨nm, hnm, rfl⟩ := List.mem_map.mp hx
    obtain ⟨ts, hts⟩ := names_in nm (hkn nm hnm)
    obtain ⟨n, hf1, hf2, hf3, hf4, hf5, hf6⟩ := fine_of (table_known hts)
    obtain ⟨lv, hlv, htt1⟩ := db_val hDB table_nd hts
    have hdr : d ≠ r := (ra.ne hd).symm
    have hd2 := st2 _ _ hdr hd1
    have htt2 := htt1.tm (st2.tm (ra.step s1))
    refine ⟨d, lv, rfl, by rw [← hlv]; exact DGet.k (k := Sum.inr nm) hd2, ?_⟩
    have gl : GL ts n := ⟨hf1, hf2, hf3, hf4, hf5⟩
    obtain ⟨a, xs, b, rfl, ha, hp, h0, t0, hbt, htl⟩ := htt2.head gl
    refine ⟨_, rfl, _, rfl, a, xs, 0, .ref b, rfl, rfl, SqT.of ha, h0, b, _, rfl, .inr hbt.sq, r, sc, ns, n, by rw [nIs_len, htl]; rfl, ra2, by omega, fun o H3 s hs st3 ra3 ho => ?_⟩
    have ha3 : H3 a = some (.tup xs) := (st3.tm ra2).1 _ _ ha
    have hp3 : Paired (TN H3) xs ts := TNs.tm (st3.tm ra2) hp
    obtain ⟨po, rfl, hpo⟩ := ho
    have st13 : StepR r H H3 := ((StepR.of s1).trans st2).trans st3
    refine ⟨Nat.zero_le _, fun fl hfl => ?_⟩
    have sl := same_new (o := .lst []) hfl
    refine ⟨_, rfl, a, rfl, ⟨_, SqT.of (sl _ _ ha3)⟩, for_tup (K := K) (a := a) (xs := xs) (fun i σ H' => ∃ x6 x7 x8 x9 us, σ = [some (.ref r), some (.ref kl), some (.ref d), some (.ref a), some (.ref po), some (.ref fl), x6, x7, x8, x9] ∧ Same H3 H' ∧ H' fl = some (.lst us) ∧ Paired (TN H') us ((ts.take i).map (cj s)))
      ⟨none, none, none, none, [], rfl, sl, upd_same, .nil⟩ (fun i σ H' _ ⟨_, _, _, _, _, _, s, _⟩ => SqT.of (s _ _ ha3)) ?_ ?_⟩
    · rintro i x σ H' hi ⟨x6, x7, x8, x9, us, rfl, sm, hus, pus⟩
      obtain ⟨t, ht, htn0⟩ := Paired.getL hp3 hi
      have htP := hf5 t (List.mem_of_getElem? ht)
      obtain ⟨pt, rfl, hpt⟩ := htn0.tm (.of sm)
      have hil : i < 4 := Nat.lt_of_lt_of_le (List.getElem?_eq_some_iff.mp ht).1 hf2
      refine ⟨by show 1 ≤ sizeLine; decide, fun l hl => ?_⟩
      have s5 := same_new (o := .lst [V.int 0]) hl
      refine ⟨_, rfl, pt, _, rfl, .inr (hpt.sm s5).sq, l, (t.length : Int), [V.int 0], rfl, by rw [nIs_len], upd_same, by omega, by rw [htP.len]; omega, ?_, fun nm hnm => ?_⟩
      · show 1 * (t.length : Int).toNat ≤ sizeLine
        rw [htP.len, sizeLine_eq]
        omega
      have s6 := s5.trans (same_new (o := .lst (List.replicate (t.length : Int).toNat [V.int 0]).flatten) hnm)
      have hnm0 : H' nm = none := s5.free hnm
      refine ⟨_, rfl, pt, _, rfl, (hpt.sm s6).sq, for_enumT (K := K) (xs := nIs t) (fun k σ2 H2' => ∃ (acc : List Nat) (y z : Option V), σ2 = [some (.ref r), some (.ref kl), some (.ref d), some (.ref a), some (.ref po), some (.ref fl), some (.ref pt), some (.ref nm), y, z] ∧ Same H' H2' ∧ H2' nm = some (.lst (nIs acc)) ∧ acc.length = n ∧ ∀ (i si ti : Nat), i < k → s[i]? = some si → t[i]? = some ti → acc[si]? = s[ti]?)
        ⟨List.replicate n 0, x8, x9, rfl, s6, by rw [upd_same, ← rep_zero, htP.len]; rfl, List.length_replicate .., fun i si ti h => absurd h (Nat.not_lt_zero i)⟩ (fun k σ2 H2' _ ⟨_, _, _, _, s, _⟩ => (hpt.sm s).sq) ?_ ?_⟩
      · rintro k y σ2 H2' T' hk ⟨acc, y8, y9, rfl, sm2, hnm2, hacc, hj⟩ hT'
        rw [nIs_get] at hk
        obtain ⟨m, hm, rfl⟩ := Option.map_eq_some_iff.mp hk
        have hmn : m < n := htP.lt m (List.mem_of_getElem? hm)
        have hkn' : k < n := by have := (List.getElem?_eq_some_iff.mp hm).1; rw [htP.len] at this; exact this
        have sT := same_new (o := .tup [nI k, nI m]) hT'
        have hnT : nm ≠ T' := ne_of_none hnm2 hT'
        have hsk : s[k]? = some (s[k]'(by rw [hs.len]; exact hkn')) := List.getElem?_eq_getElem _
        have hsm : s[m]? = some (s[m]'(by rw [hs.len]; exact hmn)) := List.getElem?_eq_getElem _
        generalize (s[k]'(by rw [hs.len]; exact hkn')) = sk at hsk
        generalize (s[m]'(by rw [hs.len]; exact hmn)) = smv at hsm
        have hskn : sk < n := hs.lt sk (List.mem_of_getElem? hsk)
        have hpo2 : (upd H2' T' (.tup [nI k, nI m])) po = some (.tup (nIs s)) := sT _ _ (sm2 _ _ (sm _ _ hpo))
        refine ⟨T', _, rfl, SqT.of upd_same, rfl, nI k, _, rfl, nI m, _, rfl, rfl, ?_⟩
        refine ⟨_, rfl, _, rfl, po, _, (m : Int), nI smv, rfl, rfl, SqT.of hpo2, atI_nat (by rw [nIs_get, hsm]; rfl), _, rfl, _, rfl, _, rfl, po, _, (k : Int), nI sk, rfl, rfl, SqT.of hpo2, atI_nat (by rw [nIs_get, hsk]; rfl), nm, nIs acc, (sk : Int), sk, rfl, rfl, sT _ _ hnm2, Evl.ixN_nat (by rw [nIs_len, hacc]; exact hskn), ?_⟩
        refine ⟨acc.set sk smv, _, _, rfl, same_mut (sm2.trans sT) hnm0, by rw [upd_same, nIs_set], by rw [List.length_set]; exact hacc, fun i si ti hik hsi hti => ?_⟩
        by_cases e : i = k
        · subst e
          rw [hsk] at hsi
          have hsi := Option.some.inj hsi
          subst hsi
          rw [hm] at hti
          have hti := Option.some.inj hti
          subst hti
          rw [List.getElem?_set_self (by omega), hsm]
        · have hne2 : sk ≠ si := fun z => e (nd_ix hs.nd hsi (z ▸ hsk))
          rw [List.getElem?_set_ne hne2]
          exact hj i si ti (by omega) hsi hti
      · rintro σ2 H2' ⟨acc, y8, y9, rfl, sm2, hnm2, hacc, hj⟩
        have ecj : acc = cj s t := cj_at hs htP hacc fun i si ti hsi hti => hj i si ti (by rw [nIs_len]; exact (List.getElem?_eq_some_iff.mp hti).1) hsi hti
        have hus2 := sm2 _ _ hus
        refine ⟨_, rfl, .inl ⟨rfl, _, SqL.of hus2⟩, _, rfl, .inl ⟨nm, nIs acc, rfl, SqL.of hnm2, fun p hp' => ?_⟩⟩
        have s7 := same_new (o := .tup (nIs acc)) hp'
        have hus3 := s7 _ _ hus2
        have husl : us.length ≤ 4 := by rw [Paired.length pus, List.length_map, List.length_take]; omega
        refine ⟨fl, us, _, rfl, rfl, hus3, by rw [sizeLine_eq]; omega, ?_⟩
        have t8 := Tm.lst (o := .lst (us ++ [V.ref p])) hus3
        refine ⟨_, _, _, _, us ++ [.ref p], rfl, same_mut ((sm.trans sm2).trans s7) hfl, upd_same, ?_⟩
        rw [List.take_add_one, ht, List.map_append]
        exact Paired.app (TNs.tm ((Tm.of (sm2.trans s7)).trans t8) pus) (Paired.one (TK.tn (TK.tm t8 ⟨p, rfl, by rw [upd_same, ecj]⟩)))
    · rintro σ H' ⟨x6, x7, x8, x9, us, rfl, sm, hus, pus⟩
      rw [Paired.length hp3, List.take_length] at pus
      refine ⟨_, rfl, .inl ⟨fl, us, rfl, SqL.of hus, fun p hp' => ?_⟩⟩
      have s7 := same_new (o := .tup us) hp'
      refine q _ _ (ts.map (cj s)) n ⟨nm, ts, s, hnm, hts, hs, rfl, hf5⟩ (by rw [List.length_map]; exact three_of hts) ⟨by rw [List.length_map]; exact hf1, by rw [List.length_map]; exact hf2, hf3, hf4, fun g hg => ?_⟩ ((Few.cj hf5 hs hf6).mono (by omega)) (st13.trans (.of (sm.trans s7))) (ra3.step (sm.trans s7)) ⟨p, us, rfl, upd_same, TNs.tm (.of s7) pus⟩
      obtain ⟨t, ht, e⟩ := List.mem_map.mp hg
      rw [← e]
      exact cj_isP hs (hf5 t ht)

def spLockD (K : PySem.W.Frag) : Sp := fun vs H Q _ => ∃ (r kl sc : Addr) (ns : List Int) (kn : List Str), vs = [.ref r, .ref kl] ∧ RowAt K H r sc ns ∧ H kl = some (.lst (kn.map V.str)) ∧ kl ≠ r ∧ 1 ≤ kn.length ∧ kn.length ≤ 100 ∧ (∀ x ∈ kn, x ∈ names) ∧
  ∀ v H' ls n, (LkD kn ls n ∨ n ≤ 4) → ls.length ≤ 3 → GL ls n → Few ls n 60 → StepR r H H' → RowAt K H' r sc ns → TT H' v ls → Q v H'
theorem has_law_lockD (T : Top K mg "_law_lock" s_law_lock ["row", "kinds"]) (B : Bi mg) (hT : Has P w K mg base CX0 1 "_law_taken" ["row", "many"] (spTaken K)) (hK : Has P w K mg base CX0 3 "_law_known" ["row", "kinds"] (spKnownD K)) (hM : Has P w K mg base CX0 2 "_law_permutation" ["row", "places"] (spLawPerm K)) :
    Has P w K mg base CX0 4 "_law_lock" ["row", "kinds"] (spLockD K) := by
  refine T.ok sc_law_lock (fun vs H Q E h => ?_) (fun f cdv A outer s H vs Q E hr h => ?_)
  · obtain ⟨r, kl, sc, ns, kn, rfl, _⟩ := h
    rfl
  · obtain ⟨r, kl, sc, ns, kn, rfl, ra, hkl, hne, hk1, hk2, hkn, q⟩ := h
    have hr1 : Room 1 _ := hr.mono (by decide)
    have hr2 : Room 2 _ := hr.mono (by decide)
    refine ⟨_, pss_cons (ps_if (pt_cmpR op_gt (pe_has hT hr1 (by rfl) (pa_cons (pv 0) (pa_cons pe_int pa_nil))) pe_int (nomark _))
        (pss_one (ps_ret (pe_has hK hr (by rfl) (pa_cons (pv 0) (pa_cons (pv 1) pa_nil))))) pss_nil)
      (pss_cons (ps_set (i := 2) sc_law_lock.nd rfl (Or.inr rfl) (pe_op op_add pe_int (pe_has hT hr1 (by rfl) (pa_cons (pv 0) (pa_cons pe_int pa_nil)))))
      (pss_one (ps_ret (pe_tupleOf (by rfl) B.tuple (pe_lc (own := [("turn", 3)]) (g := gName 3) (te := tCall (spLawPerm K) [] E0 (tCons (tVar 0) (tCons (tVar 2) tNil))) (by rfl) sc_law_lock.nd
        (pi_range1 (by rfl) B.range (pa_cons (pe_op op_add pe_int (pe_has hT hr1 (by rfl) (pa_cons (pv 0) (pa_cons pe_int pa_nil)))) pa_nil)) (blkOk_by (own := [("turn", 3)]) (N := ["row", "kinds", "places", "turn"]) (sc := defScope s_law_lock) (by decide +kernel))
        (fun _ _ _ _ _ => pg_name (i := 3) sc_law_lock.nd rfl (Or.inl rfl)) (fun _ _ _ _ _ => pts_nil) (fun _ _ _ _ _ => pe_has hM hr2 (by rfl) (pa_cons (pv 0) (pa_cons (pv 2) pa_nil)))))))), ?_⟩
    refine ⟨_, rfl, r, sc, ns, 3, rfl, ra, by omega, by omega, fun x H1 hx st1 ra1 => ?_⟩
    refine ⟨(x : Int), 0, rfl, rfl, _, rfl, ite2 (fun h => ?_) (fun h => ?_)⟩
    · exact ⟨_, rfl, _, rfl, r, kl, sc, ns, kn, rfl, ra1, st1 _ _ hne hkl, hne, hk1, hk2, hkn, fun v H2 ls n dd l3 gl fw st2 ra2 tt => q v H2 ls n (.inl dd) l3 gl fw (st1.trans st2) ra2 tt⟩
    · refine ⟨_, rfl, r, sc, ns, 3, rfl, ra1, by omega, by omega, fun y H2 hy st2 ra2 => ?_⟩
      refine ⟨2, (y : Int), rfl, rfl, ?_⟩
      refine ⟨_, rfl, r, sc, ns, 2, rfl, ra2, by omega, by omega, fun z H3 hz st3 ra3 => ?_⟩
      have st03 := (st1.trans st2).trans st3
      refine ⟨1, (z : Int), rfl, rfl, (1 : Int) + (z : Int), rfl, by omega, by omega, fun D hD => ?_⟩
      have hDr : D ≠ r := (ra3.ne hD).symm
      refine lc_range (lo := 0) (n := ((1 : Int) + (z : Int)).toNat) (fun i H' => StepR r H3 H' ∧ RowAt K H' r sc ns ∧ ∃ us ls, H' D = some (.lst us) ∧ Paired (TN H') us ls ∧ ls.length = i ∧ ∀ g ∈ ls, IsP (2 + y) g)
        ⟨.of (same_new hD), ra3.step (same_new hD), [], [], upd_same, .nil, rfl, fun g h => by cases h⟩ ?_ ?_
      · rintro i H' hi ⟨st4, ra4, us, ls, hus, pus, hll, hP⟩
        refine ⟨rfl, iteT (B := StepR r H3 H' ∧ RowAt K H' r sc ns ∧ ∃ us ls, H' D = some (.lst us) ∧ Paired (TN H') us ls ∧ ls.length = i ∧ ∀ g ∈ ls, IsP (2 + y) g) ⟨_, rfl, _, rfl, r, sc, ns, 2 + y, ?_, ra4, by omega, fun v H5 t ht st5 ra5 hv => ?_⟩⟩
        · show [V.ref r, V.int ((2 : Int) + (y : Int))] = [V.ref r, V.int ((2 + y : Nat) : Int)]
          rw [show ((2 + y : Nat) : Int) = (2 : Int) + (y : Int) by omega]
        · have hus5 := st5 _ _ hDr hus
          have t6 := Tm.lst (o := .lst (us ++ [v])) hus5
          refine ⟨us, hus5, by rw [Paired.length pus, hll, sizeLine_eq]; omega, (st4.trans st5).mut hD, RowAt.mut ra3 hD ra5, us ++ [v], ls ++ [t], upd_same, Paired.app (TNs.tm ((st5.tm ra4).trans t6) pus) (Paired.one (TK.tn (TK.tm t6 hv))), by rw [List.length_append, hll]; rfl, fun g hg => ?_⟩
          rcases List.mem_append.mp hg with z | z
          · exact hP g z
          · rw [List.mem_singleton.mp z]
            exact ht
      · rintro H' ⟨st4, ra4, us, ls, hus, pus, hll, hP⟩
        refine .inl ⟨D, us, rfl, SqL.of hus, fun p hp => ?_⟩
        have s7 := same_new (o := .tup us) hp
        exact q _ _ ls (2 + y) (.inr (by omega)) (by omega) ⟨by omega, by omega, by omega, by omega, hP⟩ (few4 (by omega) (by omega) hP) ((st03.trans st4).trans (.of s7)) (ra4.step s7) ⟨p, us, rfl, upd_same, TNs.tm (.of s7) pus⟩
end
end Lt

set_option Elab.async false
set_option linter.all false
set_option maxHeartbeats 1000000
namespace Lt
/-- there is one next term -/
theorem Nx.one {ms A B C : List (List Nat)} {n : Nat} (hn : n ≤ 9) (hP : ∀ b ∈ brk A ms, IsP n b) (h1 : Nx ms n A B) (h2 : Nx ms n A C) : B = C :=
  asc_one hn (fun t ht => ((h1.mem t).mp ht).isP hP) ((List.perm_ext_iff_of_nodup h1.nd h2.nd).mpr fun t => (h1.mem t).trans (h2.mem t).symm) h1.asc h2.asc
/-- the given turns or all turns: the same next term -/
theorem brk_whole {ls A T0 : List (List Nat)} {n m : Nat} (hls : ∀ g ∈ ls, IsP n g) (hf : Few ls n m) (hT : ∀ t, t ∈ T0 ↔ Mk ls n t) (At : Tm1 ls ls n A) (t : List Nat) : Mk (brk A ls) n t ↔ Mk (brk A T0) n t := by
  have hA : ∀ t ∈ A, IsP n t := fun t ht => (At.sub t ht).isP hls
  have hT0 : ∀ t ∈ T0, IsP n t := fun t ht => ((hT t).mp ht).isP hls
  have b1 : ∀ b ∈ brk A ls, IsP n b := fun b hb => by
    obtain ⟨x, h1, y, h2, rfl⟩ := brk_mem.mp hb
    exact (hA x h1).cm (hls y h2)
  have b2 : ∀ b ∈ brk A T0, IsP n b := fun b hb => by
    obtain ⟨x, h1, y, h2, rfl⟩ := brk_mem.mp hb
    exact (hA x h1).cm (hT0 y h2)
  have hfb : Few (brk A ls) n m := hf.sub fun t ht => ht.mono hls fun b hb => by
    obtain ⟨x, h1, y, h2, rfl⟩ := brk_mem.mp hb
    exact At.sub _ (At.cm x h1 y h2)
  refine ⟨fun h => h.mono b2 fun b hb => ?_, fun h => h.mono b1 fun b hb => ?_⟩
  · obtain ⟨x, h1, y, h2, rfl⟩ := brk_mem.mp hb
    exact .one b2 (brk_mem.mpr ⟨x, h1, y, (hT y).mpr (.one hls h2), rfl⟩)
  · obtain ⟨x, h1, y, h2, rfl⟩ := brk_mem.mp hb
    exact cm_all (N := fun t => t ∈ A) (gs := ls) (fun t ht => hA t ht) hls b1 hfb (fun t g ht hg => At.cm t ht g hg) (fun t g ht hg => brk_mem.mpr ⟨t, ht, g, hg, rfl⟩) ((hT y).mp h2) x h1
theorem Nx.whole {ls A B T0 : List (List Nat)} {n m : Nat} (hls : ∀ g ∈ ls, IsP n g) (hf : Few ls n m) (hT : ∀ t, t ∈ T0 ↔ Mk ls n t) (At : Tm1 ls ls n A) : Nx ls n A B ↔ Nx T0 n A B :=
  ⟨fun h => ⟨h.nd, h.asc, fun t => (h.mem t).trans (brk_whole hls hf hT At t)⟩, fun h => ⟨h.nd, h.asc, fun t => (h.mem t).trans (brk_whole hls hf hT At t).symm⟩⟩
/-- a next term that is less is at most half -/
theorem Nx.half {ls ms A B : List (List Nat)} {n m : Nat} (hls : ∀ g ∈ ls, IsP n g) (hms : ∀ g ∈ ms, IsP n g) (hf : Few ls n m) (At : Tm1 ls ms n A) (h : Nx ms n A B) (hne : B.length ≠ A.length) (hA : A.Nodup) : 2 * B.length ≤ A.length := by
  obtain ⟨Bt, Bs⟩ := At.next hls hms h
  have hAP : ∀ t ∈ A, IsP n t := fun t ht => (At.sub t ht).isP hls
  have bP : ∀ b ∈ brk A ms, IsP n b := fun b hb => by
    obtain ⟨x, h1, y, h2, rfl⟩ := brk_mem.mp hb
    exact (hAP x h1).cm (hms y h2)
  have hfb : Few (brk A ms) n m := hf.sub fun t ht => Bt.sub t ((h.mem t).mpr ht)
  obtain ⟨t, ht, hn⟩ : ∃ t ∈ A, t ∉ B := Classical.byContradiction fun z => by
    have l1 := nodup_len A B hA fun t ht => Classical.byContradiction fun y => z ⟨t, ht, y⟩
    have l2 := nodup_len B A h.nd Bs
    omega
  exact Lt.half hAP h.nd Bs At.pr (fun a ha b hb => (h.mem _).mpr ((((h.mem a).mp ha).inv bP hfb).prod bP ((h.mem b).mp hb))) ht hn
end Lt

set_option Elab.async false
set_option linter.all false
set_option maxRecDepth 100000
set_option maxHeartbeats 4000000
/-! set(xs) of a long list of tuples of ints, of which few are unlike -/
namespace L2
open PySem PySem.Spec PyProof.Rows
/-- few unlike ones among the items -/
def FewOf (ks : List (Addr × List Int)) : Prop := ∀ L : List (Addr × List Int), (L.map (·.2)).Nodup → (∀ p ∈ L, p ∈ ks) → L.length ≤ 62
/-- what is held when the first i items have been added -/
def Held (ks : List (Addr × List Int)) (i : Nat) (L : List (Addr × List Int)) : Prop := (∀ p ∈ L, p ∈ ks) ∧ ∀ j p, j < i → ks[j]? = some p → p.2 ∈ L.map (·.2)
theorem Held.zero (ks : List (Addr × List Int)) : Held ks 0 [] := ⟨fun p z => (nomatch z), fun j p z => absurd z (Nat.not_lt_zero j)⟩
theorem Held.add {ks L L' : List (Addr × List Int)} {i : Nat} {p : Addr × List Int} (g : Held ks i L) (h : ks[i]? = some p) (h1 : p.2 ∈ L.map (·.2) → L' = L) (h2 : p.2 ∉ L.map (·.2) → L'.Perm (p :: L)) : Held ks (i + 1) L' := by
  by_cases c : p.2 ∈ L.map (·.2)
  · rw [h1 c]
    refine ⟨g.1, fun j q hj e => ?_⟩
    by_cases ej : j = i
    · subst ej
      rw [h] at e
      rw [← Option.some.inj e]
      exact c
    · exact g.2 j q (by omega) e
  · have pm := h2 c
    refine ⟨fun q hq => ?_, fun j q hj e => ?_⟩
    · rcases List.mem_cons.mp (pm.mem_iff.mp hq) with z | z
      · rw [z]
        exact List.mem_of_getElem? h
      · exact g.1 q z
    · rw [(pm.map (·.2)).mem_iff, List.map_cons]
      by_cases ej : j = i
      · subst ej
        rw [h] at e
        rw [← Option.some.inj e]
        exact List.mem_cons_self
      · exact List.mem_cons_of_mem _ (g.2 j q (by omega) e)
section
variable {P : Program} {w : World} {A : Around} {E : Value → Shared → Prop} {s : Shared}
/-- a void set, just made -/
abbrev voidSet (w : World) : Obj := { cls := .type "set", dict := none, data := .set #[] 0 (.fresh 0 0 (!w.params.followText "set-order")) }
/-- the machine's loop that adds what is walked -/
theorem adds {I S : Addr} {fp wr : List Addr} {G : Array GenState → Array GenState → Prop} {n : Nat} {Pv : Nat → Value → Prop} {St : Nat → Shared → Prop} {R : Result → Shared → Prop} {ks : List (Addr × List Int)} {h0 : Heap}
    (W : WalksS P w A.in1 I fp wr G n Pv St) (out : S ∉ fp) (size : n = ks.length) (few : FewOf ks) (items : ∀ i v, Pv i v → ∃ p, ks[i]? = some p ∧ v = .ref p.1)
    (tups : ∀ p ∈ ks, IsT P w h0 p.2 p.1) (newS : h0.get? S = none) (newW : ∀ b ∈ wr, h0.get? b = none) (room : A.in1.units < cLine)
    (end_ : ∀ (s' : Shared) L es ep t, Moved (S :: wr) G s s' → SetTR P w s'.heap S L es ep t → Held ks n L → (∀ b o, h0.get? b = some o → s'.heap.get? b = some o) → R (.ok (.ret .none)) s') :
    ∀ (left i : Nat) (s1 : Shared), i + left = n → St i s1 → (∀ b o, h0.get? b = some o → s1.heap.get? b = some o) → Moved (S :: wr) G s s1 → (∃ L es ep t, SetTR P w s1.heap S L es ep t ∧ Held ks i L) →
      codeAny (model P w) A (.builtin "set.update.loop" ⟨[.ref S, .ref I], []⟩) R s1 := by
  have Sw : S ∉ wr := fun m => out (W.sub _ m)
  have wider : ∀ {s2 s3 : Shared}, Moved wr G s2 s3 → Moved (S :: wr) G s2 s3 := fun m => m.mono fun b hb => List.mem_cons_of_mem _ hb
  intro left
  induction left with
  | zero =>
    intro i s1 hi hst old mv ⟨L, es, ep, t, hS, g⟩
    obtain rfl : i = n := by omega
    refine codeAny_builtin F.entry_set_update_loop ?_
    rw [Around.under_plainId F.plain_set_update_loop _]
    show wpAny _ A.in1 (pyNext (.ref I) >>= _) _ _ s1
    refine wpAny_bind (W.done s1 _ _ hst fun s2 m => ?_)
    have old2 : ∀ b o, h0.get? b = some o → s2.heap.get? b = some o := fun b o e => m.heap b o (fun z => nomatch (newW b z).symm.trans e) (old b o e)
    show wpAny _ A.in1 (ret Value.none) _ _ s2
    exact wpAny_pure (end_ s2 L es ep t (Moved.trans W.gtrans mv (wider m)) (hS.keep (fun o e => m.heap S o Sw e) fun p hp => isT_keep (tups p (g.1 p hp)) old2) g old2)
  | succ left ih =>
    intro i s1 hi hst old mv ⟨L, es, ep, t, hS, g⟩
    refine codeAny_builtin F.entry_set_update_loop ?_
    rw [Around.under_plainId F.plain_set_update_loop _]
    show wpAny _ A.in1 (pyNext (.ref I) >>= _) _ _ s1
    refine wpAny_bind (W.item i s1 _ _ (by omega) hst fun v s2 hv hst2 m => ?_)
    obtain ⟨p, hp, rfl⟩ := items i v hv
    have old2 : ∀ b o, h0.get? b = some o → s2.heap.get? b = some o := fun b o e => m.heap b o (fun z => nomatch (newW b z).symm.trans e) (old b o e)
    have hS2 : SetTR P w s2.heap S L es ep t := hS.keep (fun o e => m.heap S o Sw e) fun q hq => isT_keep (tups q (g.1 q hq)) old2
    have hx : IsT P w s2.heap p.2 p.1 := isT_keep (tups p (List.mem_of_getElem? hp)) old2
    have short : L.length ≤ 62 := few L hS.nd g.1
    show wpAny _ A.in1 (holding [Value.ref p.1] (setAdd S (.ref p.1)) >>= _) _ _ s2
    refine wpAny_bind (wpAny_holding ?_)
    unfold setAdd
    refine wpAny_holding (wpAny_bind (wpAny_pyHash_tuple room hx ?_))
    refine add_at (s := { s2 with toks := s2.toks + (p.2.length + 1) }) hS2 hx room (by omega) fun b h3 L3 es3 ep3 t3 same hS3 c1 c2 => ?_
    have old3 : ∀ b o, h0.get? b = some o → h3.get? b = some o := fun b o e => (same.2 b (fun z => by subst z; exact nomatch newS.symm.trans e)).trans (old2 b o e)
    refine wpAny_pure ⟨plainId_quiet F.plain_set_update_loop _, ih (i + 1) _ (by omega) (W.frame _ s2 _ _ hst2 (Nat.le_add_right _ _) fun b hb o e => ?_) old3 (Moved.trans W.gtrans mv ((wider m).then_heap (Nat.le_add_right _ _) fun b o hb e => ?_)) ⟨L3, es3, ep3, t3, hS3, g.add hp c1 c2⟩⟩
    · exact (same.2 b (fun z => out (z ▸ hb))).trans e
    · exact (same.2 b (fun z => hb (z ▸ List.mem_cons_self))).trans e

set_option maxHeartbeats 3200000 in
/-- set(xs), xs a list of tuples of ints of which few are unlike -/
theorem made_set {l : Addr} {items : Array Value} {ks : List (Addr × List Int)} {Q : Value → Shared → Prop} (hh : A.handled = none) (hl : s.heap.IsList l items) (hit : items.toList = ks.map fun p => Value.ref p.1)
    (tups : ∀ p ∈ ks, IsT P w s.heap p.2 p.1) (few : FewOf ks) (room : A.units + 3 < cLine)
    (q : ∀ (h1 : Heap) (tk : Nat) L es ep t, SetTR P w h1 s.heap.objs.size L es ep t → Held ks ks.length L → (∀ b o, s.heap.get? b = some o → h1.get? b = some o) → Q (.ref s.heap.objs.size) { s with heap := h1, toks := tk }) :
    wpAny (model P w) A (call (.type "set") [.ref l]) Q E s := by
  have count : items.size = ks.length := by
    rw [← Array.length_toList, hit, List.length_map]
  have old : ∀ {b : Addr}, s.heap.objs.size ≤ b → s.heap.get? b = none := fun {b} hb => by
    cases e : s.heap.get? b with
    | none => rfl
    | some o => exact absurd (Nat.lt_of_lt_of_le (Heap.lt_size e) hb) (Nat.lt_irrefl _)
  obtain ⟨c, tl, hmro⟩ := F.called_set.mro
  have m1 := F.called_set.made
  have m2 := F.called_set.sub
  have m3 := F.called_set.notType
  have m4 := F.called_set.canCreate
  have m5 := F.typeCall_set_1 (.ref l)
  refine wpAny_call (codeAny_of_tree (show wpAny _ _ (callAny (.type "set") _) _ _ _ from wpAny_pure ⟨Code.quiet_builtin _ (by decide +kernel), codeAny_builtin F.entry_type_call ?_⟩))
  rw [Around.under_plain (weight_type_call_type "set" [.ref l] []) rfl]
  repeat any_goals first | assumption | wp_step
  refine codeAny_mono (code_set_led1 (.ref l) (E := E) (Q₁ := fun u s1 => u = .ref s.heap.objs.size ∧ s1 = { s with heap := s.heap.push (voidSet w) }) ⟨rfl, rfl⟩) fun r s1 hr => ?_
  cases r with
  | error e => exact hr
  | ok fl =>
  cases fl with
  | ret u =>
    obtain ⟨rfl, rfl⟩ := hr
    have hS : (s.heap.push (voidSet w)).get? s.heap.objs.size = some (voidSet w) := Heap.get?_push_size _ rfl
    have hT : Shared.TypeIs { s with heap := s.heap.push (voidSet w) } (.ref s.heap.objs.size) "set" := ⟨_, hS, rfl⟩
    have m6 := F.called_set.init.lookup
    have m7 := F.called_set.init.bind (.ref s.heap.objs.size)
    repeat any_goals first | assumption | wp_step
    refine codeAny_mono (codeAny_call_builtin (R := wants (fun r s2 => r = .none ∧ ∃ h1 tk L es ep t, s2 = { s with heap := h1, toks := tk } ∧ SetTR P w h1 s.heap.objs.size L es ep t ∧ Held ks ks.length L ∧ ∀ b o, s.heap.get? b = some o → h1.get? b = some o) E)
      F.called_set.init.plain F.entry_set_init (check_set_init_1 hT ?_)) fun r2 s2 hr2 => ?_
    · have hl1 : (s.heap.push (voidSet w)).IsList l items := hl.push _
      obtain ⟨⟨c1, d1, t1, z1⟩, g1, rfl, n1, rfl⟩ := id hl1
      have k1 := F.sub_list_set
      have k2 := F.sub_list_frozenset
      have k3 : (Value.type "list" == Value.type "dict") = false := by decide
      unfold Builtin.«set.__init__» noKeywords Builtin.Frozenset.updateFrom
      generalize eIt : pyIter = It
      wp_walk
      subst eIt
      refine wpAny_pyIter_list hl1 (wpAny_bind (wpAny_runValue ?_))
      have lS : l ≠ s.heap.objs.size := fun z => by
        obtain ⟨o, ho, _⟩ := hl
        exact absurd (z ▸ Heap.lt_size ho) (Nat.lt_irrefl _)
      have sz : (s.heap.push (voidSet w)).objs.size = s.heap.objs.size + 1 := Heap.size_push ..
      have lI : l ≠ (s.heap.push (voidSet w)).objs.size := fun z => by
        obtain ⟨o, ho, _⟩ := hl
        rw [sz] at z
        exact absurd (Nat.lt_succ_of_lt (z ▸ Heap.lt_size ho)) (Nat.lt_irrefl _)
      refine adds (S := s.heap.objs.size) (h0 := s.heap) ((Walks.list (by simp [hh]) _ l lI items).toS) (fun m => ?_) count few (fun i v hv => ?_) tups (old (Nat.le_refl _)) (fun b hb => old ?_) room (fun s3 L es ep t mv hS3 g keep => ?_) items.size 0 _ (Nat.zero_add _)
        ⟨⟨_, Heap.get?_push_size _ rfl, rfl, rfl⟩, hl1.push _⟩ (fun b o e => Heap.get?_push_of_some _ (Heap.get?_push_of_some _ e)) (Moved.refl fun _ => rfl) ⟨[], #[], 0, _, setTR_fresh (Heap.get?_push_of_some _ hS), Held.zero ks⟩
      · rw [sz] at m
        rcases List.mem_cons.mp m with z | m
        · exact absurd z (Nat.ne_of_lt (Nat.lt_succ_self _))
        · exact lS (List.mem_singleton.mp m).symm
      · have z : items.toList[i]? = some v := by rw [Array.getElem?_toList]; exact hv
        rw [hit, List.getElem?_map] at z
        obtain ⟨p, hp, e⟩ := Option.map_eq_some_iff.mp z
        exact ⟨p, hp, e.symm⟩
      · rw [List.mem_singleton.mp hb, sz]
        exact Nat.le_succ _
      · obtain ⟨h3, g3, d3, k3', o3⟩ := s3
        obtain rfl : g3 = s.gens := mv.gens
        obtain rfl : d3 = s.drawn := mv.drawn
        obtain rfl : o3 = s.os := mv.os
        show wpAny _ _ _ _ _ _
        refine wpAny_pure (show wpAny _ _ (ret Value.none) _ _ _ from wpAny_pure ⟨rfl, h3, k3', L, es, ep, t, rfl, hS3, ?_, keep⟩)
        rw [← count]
        exact g
    · cases r2 with
      | error e => exact hr2
      | ok fl2 =>
      cases fl2 with
      | ret u =>
        obtain ⟨rfl, h1, tk, L, es, ep, t, rfl, hS1, g, keep⟩ := hr2
        repeat any_goals first | assumption | wp_step
        exact q _ _ _ _ _ _ hS1 g keep
      | _ => exact hr2.elim
  | _ => exact hr.elim
end
section
variable {X : Cx}
/-- set(xs), xs a list of tuples of ints, of which few are unlike -/
def rSetFew (K : PySem.W.Frag) (P : Program) (w : World) : List V → Hp → VK → Prop := fun xs H Q => ∃ (l : Addr) (ks : List (Addr × List Int)), xs = [V.ref l] ∧ SqL K H l (ks.map fun p => V.ref p.1) ∧ (∀ p ∈ ks, SqT K H p.1 (p.2.map V.int)) ∧ FewOf ks ∧
  ∀ a L, H a = none → (∀ p ∈ L, p ∈ ks) → (∀ p ∈ ks, p.2 ∈ L.map (·.2)) → Q (.ref a) (upd H a (SetTO P w a L))
theorem cr_setFew (hc : X.calm = true) (hu : X.A.units + 64 < cLine) : CallR X (.type "set") (rSetFew X.K X.prog X.w) := by
  intro pins s σ H xs us Q I r h
  obtain ⟨l, ks, rfl, hl, hk, hf, q⟩ := h
  rw [Vals.ref1 r]
  obtain ⟨its, rv, pl, hz⟩ := I.list hl
  have hn : H s.heap.objs.size = none := I.hok.fresh (Nat.le_refl _)
  refine made_set (P := X.prog) (w := X.w) (ks := ks) (I.ok.hd hc) pl.isList (by simpa using refs_of_vals rv) (fun p hp => I.isT (hk p hp)) hf (by omega) fun h1 tk L es ep t R g k => ⟨.ref s.heap.objs.size, upd H s.heap.objs.size (SetTO X.prog X.w s.heap.objs.size L), ?_, rfl, ?_⟩
  · exact I.laid (t' := tk) k (Nat.le_refl _) (setTO_new R.t0)
  · refine q _ L hn g.1 fun p hp => ?_
    obtain ⟨j, hj, e⟩ := List.getElem_of_mem hp
    exact g.2 j p hj (by rw [List.getElem?_eq_getElem hj, e])
end
end L2

set_option Elab.async false
set_option linter.all false
set_option maxRecDepth 100000
set_option maxHeartbeats 4000000
namespace Lt
open PySem PySem.Spec PyProof.Rows L2
/-- a series of terms, the next one by commutators with M of the last -/
structure SerM (M : List (List Nat) → List (List Nat)) (n : Nat) (T0 : List (List Nat)) (Ts : List (List (List Nat))) : Prop where
  head : Ts[0]? = some T0
  step : ∀ i A B, Ts[i]? = some A → Ts[i + 1]? = some B → Nx (M A) n A B ∧ B.length ≠ A.length
  stop : ∀ i A, Ts[i]? = some A → Ts[i + 1]? = none → ∃ B, Nx (M A) n A B ∧ B.length = A.length
/-- what the terms are built with: all turns, or the term's -/
def Mb (b : Bool) (T0 A : List (List Nat)) : List (List Nat) := if b = true then T0 else A
/-- known turns in a list, known by name -/
def LV (H : Hp) (v : V) (ts : List (List Nat)) : Prop := ∃ a, v = .ref a ∧ LF H a ts
theorem LV.same {H H' : Hp} {v : V} {ts : List (List Nat)} (e : Same H H') (h : LV H v ts) : LV H' v ts := let ⟨a, e1, h1⟩ := h; ⟨a, e1, h1.same e⟩
theorem LVs.same {H H' : Hp} (e : Same H H') {xs : List V} {ts : List (List (List Nat))} (p : Paired (LV H) xs ts) : Paired (LV H') xs ts := paired_mono (fun _ _ r => r.same e) p
theorem tks_of {H : Hp} : ∀ {xs : List V} {ts : List (List Nat)}, Paired (TK H) xs ts → ∃ ks : List (Addr × List Int), xs = ks.map (fun p => V.ref p.1) ∧ ks.map (·.2) = ts.map iN ∧ ∀ p ∈ ks, ∃ t ∈ ts, p.2 = iN t ∧ TK H (.ref p.1) t
  | _, _, .nil => ⟨[], rfl, rfl, fun p h => by cases h⟩
  | _, _, .cons (a := x) (b := t) r s => by
    obtain ⟨ks, h1, h2, h3⟩ := tks_of s
    obtain ⟨a, e, ha⟩ := id r
    refine ⟨(a, iN t) :: ks, by rw [e, h1]; rfl, by rw [List.map_cons, h2]; rfl, fun p hp => ?_⟩
    rcases List.mem_cons.mp hp with z | hp
    · rw [z]
      exact ⟨t, List.mem_cons_self, rfl, a, rfl, ha⟩
    · obtain ⟨t', ht, z⟩ := h3 p hp
      exact ⟨t', List.mem_cons_of_mem _ ht, z⟩
theorem toN_iN (t : List Nat) : (iN t).map Int.toNat = t := by
  show (t.map Int.ofNat).map Int.toNat = t
  rw [List.map_map]
  exact (List.map_congr_left (g := id) fun _ _ => rfl).trans (List.map_id t)
/-- sorted(set(list of turns)) -/
theorem srt_set {P : Program} {w : World} {K : PySem.W.Frag} {H : Hp} {g n : Nat} {ga : Addr} {σ : L2.St} {xs : List V} {ts : List (List Nat)} {Q : List V → Hp → Prop} (hσ : σ[g]? = some (some (.ref ga))) (hga : H ga = some (.lst xs)) (p : Paired (TK H) xs ts) (hts : ∀ t ∈ ts, IsP n t) (h1 : 1 ≤ n) (h9 : n ≤ 9)
    (few : ∀ us : List (List Nat), us.Nodup → (∀ u ∈ us, u ∈ ts) → us.length ≤ 60) (q : ∀ sp H' us, Same H H' → LT H' sp us → us.Nodup → (∀ t, t ∈ us ↔ t ∈ ts) → us.length ≤ 60 → Q [.ref sp] H') :
    tCons (tCB (rSortedT K P w) (tCons (tCB (rSetFew K P w) (tCons (tVar g) tNil)) tNil)) tNil σ H Q := by
  obtain ⟨ks, e1, e2, e3⟩ := tks_of p
  have sq : ∀ p ∈ ks, SqT K H p.1 (p.2.map V.int) := fun p hp => by
    obtain ⟨t, _, e, a, ea, ha⟩ := e3 p hp
    cases ea
    rw [e, show (iN t).map V.int = nIs t from (nIs_int t).symm]
    exact SqT.of ha
  have hmk : ∀ p ∈ ks, p.2 = iN (p.2.map Int.toNat) ∧ p.2.map Int.toNat ∈ ts := fun p hp => by
    obtain ⟨t, ht, e, _⟩ := e3 p hp
    rw [e, toN_iN]
    exact ⟨rfl, ht⟩
  have ndm : ∀ L : List (Addr × List Int), (L.map (·.2)).Nodup → (∀ p ∈ L, p ∈ ks) → (L.map fun q => q.2.map Int.toNat).Nodup := fun L nd hL => by
    have e : (L.map fun q : Addr × List Int => q.2.map Int.toNat).map iN = L.map (·.2) := by
      rw [List.map_map]
      exact List.map_congr_left fun q hq => (hmk q (hL q hq)).1.symm
    rw [← e] at nd
    exact nodup_of_map nd
  refine ⟨_, hσ, ga, ks, rfl, SqL.of (by rw [hga, e1]), sq, fun L nd hL => ?_, fun a L ha hL1 hL2 => ?_⟩
  · have z := few _ (ndm L nd hL) fun u hu => by
      obtain ⟨q, hq, rfl⟩ := List.mem_map.mp hu
      exact (hmk q (hL q hq)).2
    rw [List.length_map] at z
    omega
  have s1 := same_new (o := SetTO P w a L) ha
  refine ⟨a, L, n, 9, rfl, upd_same, fun p hp => ?_, h1, fun p hp => ?_, fun L' sp pm nd h64 pw hsp => ?_⟩
  · rcases sq p (hL1 p hp) with (z | ⟨o, z⟩) | z
    · exact .inl (.inl (s1 _ _ z))
    · exact .inl (.inr ⟨o, s1 _ _ z⟩)
    · exact .inr z
  · obtain ⟨t, ht, e, _⟩ := e3 p (hL1 p hp)
    rw [e]
    exact ⟨by rw [iN_len, (hts t ht).len], bd_iN (hts t ht) h9⟩
  have s2 := same_new (o := .lst (L'.map fun q : Addr × List Int => V.ref q.1)) hsp
  have hL' : ∀ q ∈ L', q ∈ ks := fun q hq => hL1 q (pm.mem_iff.mp hq)
  refine q sp _ (L'.map fun q => q.2.map Int.toNat) (s1.trans s2) ⟨_, upd_same, ?_⟩ (ndm L' nd hL') (fun t => ⟨fun h => ?_, fun h => ?_⟩) ?_
  · refine paired_of_map fun q hq => ?_
    obtain ⟨t, _, e, z⟩ := e3 q (hL' q hq)
    rw [e, toN_iN]
    exact (z.tm (.of (s1.trans s2))).tn
  · obtain ⟨q, hq, rfl⟩ := List.mem_map.mp h
    exact (hmk q (hL' q hq)).2
  · have h1 : iN t ∈ ks.map (·.2) := by
      rw [e2]
      exact List.mem_map.mpr ⟨t, h, rfl⟩
    obtain ⟨p, hp, e⟩ := List.mem_map.mp h1
    obtain ⟨q, hq, e4⟩ := List.mem_map.mp (hL2 p hp)
    refine List.mem_map.mpr ⟨q, pm.mem_iff.mpr hq, ?_⟩
    rw [e4, e, toN_iN]
  · exact few _ (ndm L' nd hL') fun u hu => by
      obtain ⟨q, hq, rfl⟩ := List.mem_map.mp hu
      exact (hmk q (hL' q hq)).2
theorem cm_eq {n : Nat} {x y : List Nat} (hx : IsP n x) (hy : IsP n y) : prod (prod x y) (prod (inv x) (inv y)) = cm x y := by
  unfold cm
  rw [inv_prod hy hx]
end Lt

set_option Elab.async false
set_option linter.all false
set_option maxHeartbeats 1000000
/-! the number of turns of a lock divides that of all permutations; one series -/
namespace Lt
/-- all orders of the first k of l -/
def perms : Nat → List Nat → List (List Nat)
  | 0, _ => [[]]
  | k + 1, l => l.flatMap fun a => (perms k (l.erase a)).map (a :: ·)
theorem perms_mem : ∀ (k : Nat) (l t : List Nat), l.length = k → (t ∈ perms k l ↔ t.Perm l)
  | 0, l, t, h => by
    have e : l = [] := List.length_eq_zero_iff.mp h
    subst e
    show t ∈ [[]] ↔ _
    rw [List.mem_singleton]
    exact List.perm_nil.symm
  | k + 1, l, t, h => by
    show t ∈ l.flatMap _ ↔ _
    rw [List.mem_flatMap]
    constructor
    · rintro ⟨a, ha, ht⟩
      obtain ⟨u, hu, rfl⟩ := List.mem_map.mp ht
      have hu := (perms_mem k (l.erase a) u (by rw [List.length_erase_of_mem ha, h]; rfl)).mp hu
      exact (hu.cons a).trans (List.perm_cons_erase ha).symm
    · intro p
      cases t with
      | nil =>
        have z := p.length_eq
        rw [h] at z
        cases z
      | cons a u =>
        obtain ⟨ha, hu⟩ := List.cons_perm_iff_perm_erase.mp p
        exact ⟨a, ha, List.mem_map.mpr ⟨u, (perms_mem k (l.erase a) u (by rw [List.length_erase_of_mem ha, h]; rfl)).mpr hu, rfl⟩⟩
/-! ### there is one series -/
theorem ser_one {M : List (List Nat) → List (List Nat)} {n : Nat} (hn : n ≤ 9) {T0 : List (List Nat)} {I : List (List Nat) → Prop} (hI : ∀ A, I A → ∀ b ∈ brk A (M A), IsP n b) (h0 : I T0) (hs : ∀ A B, I A → Nx (M A) n A B → I B) {Ts Us : List (List (List Nat))}
    (a : SerM M n T0 Ts) (b : SerM M n T0 Us) : Ts = Us := by
  have key : ∀ i : Nat, Ts[i]? = Us[i]? ∧ ∀ A, Ts[i]? = some A → I A := fun i => by
    induction i with
    | zero =>
      refine ⟨a.head.trans b.head.symm, fun A e => ?_⟩
      rw [a.head] at e
      rw [← Option.some.inj e]
      exact h0
    | succ i ih =>
      obtain ⟨e, hi⟩ := ih
      cases e1 : Ts[i]? with
      | none =>
        have n1 := List.getElem?_eq_none_iff.mp e1
        rw [e1] at e
        have n2 := List.getElem?_eq_none_iff.mp e.symm
        rw [List.getElem?_eq_none (by omega), List.getElem?_eq_none (by omega)]
        exact ⟨rfl, fun A e => by cases e⟩
      | some A =>
        have e2 : Us[i]? = some A := by rw [← e, e1]
        have iA := hi A e1
        have one : ∀ {B C}, Nx (M A) n A B → Nx (M A) n A C → B = C := fun h1 h2 => h1.one hn (hI A iA) h2
        cases t1 : Ts[i + 1]? with
        | none =>
          obtain ⟨B, nB, lB⟩ := a.stop i A e1 t1
          cases t2 : Us[i + 1]? with
          | none => exact ⟨rfl, fun A e => by cases e⟩
          | some C =>
            obtain ⟨nC, lC⟩ := b.step i A C e2 t2
            rw [one nB nC] at lB
            exact absurd lB lC
        | some B =>
          obtain ⟨nB, lB⟩ := a.step i A B e1 t1
          cases t2 : Us[i + 1]? with
          | none =>
            obtain ⟨C, nC, lC⟩ := b.stop i A e2 t2
            rw [one nB nC] at lB
            exact absurd lC lB
          | some C =>
            obtain ⟨nC, lC⟩ := b.step i A C e2 t2
            rw [one nB nC]
            refine ⟨rfl, fun A' e => ?_⟩
            rw [← Option.some.inj e]
            exact hs A C iA nC
  exact List.ext_getElem? fun i => (key i).1
section
variable {ls T0 : List (List Nat)} {n m : Nat} (hls : ∀ g ∈ ls, IsP n g) (hf : Few ls n m) (hT : ∀ t, t ∈ T0 ↔ Mk ls n t)
include hls hf hT
theorem mbP {b : Bool} {A : List (List Nat)} (At : Tm1 ls (Mb b T0 A) n A) : ∀ g ∈ Mb b T0 A, IsP n g := by
  cases b
  · exact fun t ht => (At.sub t ht).isP hls
  · exact fun t ht => ((hT t).mp ht).isP hls
theorem tm_next {b : Bool} {A B : List (List Nat)} (At : Tm1 ls (Mb b T0 A) n A) (h : Nx (Mb b T0 A) n A B) : Tm1 ls (Mb b T0 B) n B := by
  obtain ⟨Bt, Bs⟩ := At.next hls (mbP hls hf hT At) h
  refine ⟨Bt.sub, Bt.still, Bt.pr, fun t ht g hg => Bt.cm t ht g ?_⟩
  cases b
  · exact Bs g hg
  · exact hg
theorem tm_first (b : Bool) : Tm1 ls (Mb b T0 T0) n T0 := by
  cases b
  · exact (Tm1.whole hls hf hT).self hls hf hT
  · exact (Tm1.whole hls hf hT).self hls hf hT
theorem serM_one (hn : n ≤ 9) {b : Bool} {Ts Us : List (List (List Nat))} (h1 : SerM (Mb b T0) n T0 Ts) (h2 : SerM (Mb b T0) n T0 Us) : Ts = Us :=
  ser_one hn (I := fun A => Tm1 ls (Mb b T0 A) n A) (fun A At b hb => by
    obtain ⟨x, hx, y, hy, rfl⟩ := brk_mem.mp hb
    exact ((At.sub x hx).isP hls).cm (mbP hls hf hT At y hy)) (tm_first hls hf hT b) (fun A B At h => tm_next hls hf hT At h) h1 h2
end
theorem serM_derived {n : Nat} {T0 : List (List Nat)} {Ts : List (List (List Nat))} (h : SerD n T0 Ts) : SerM (Mb false T0) n T0 Ts := ⟨h.head, h.step, h.stop⟩
end Lt

set_option Elab.async false
set_option linter.all false
set_option maxRecDepth 100000
set_option maxHeartbeats 2000000
/-! k10: the locks of five places whose last term is all, and those of at most four -/
namespace Lt
open PySem PySem.Spec PyProof.Rows L2
def A5 : List (List Nat) := [[0, 1, 2, 3, 4], [0, 1, 3, 4, 2], [0, 1, 4, 2, 3], [0, 2, 1, 4, 3], [0, 2, 3, 1, 4], [0, 2, 4, 3, 1], [0, 3, 1, 2, 4], [0, 3, 2, 4, 1], [0, 3, 4, 1, 2], [0, 4, 1, 3, 2], [0, 4, 2, 1, 3], [0, 4, 3, 2, 1], [1, 0, 2, 4, 3], [1, 0, 3, 2, 4], [1, 0, 4, 3, 2], [1, 2, 0, 3, 4], [1, 2, 3, 4, 0], [1, 2, 4, 0, 3], [1, 3, 0, 4, 2], [1, 3, 2, 0, 4], [1, 3, 4, 2, 0], [1, 4, 0, 2, 3], [1, 4, 2, 3, 0], [1, 4, 3, 0, 2], [2, 0, 1, 3, 4], [2, 0, 3, 4, 1], [2, 0, 4, 1, 3], [2, 1, 0, 4, 3], [2, 1, 3, 0, 4], [2, 1, 4, 3, 0], [2, 3, 0, 1, 4], [2, 3, 1, 4, 0], [2, 3, 4, 0, 1], [2, 4, 0, 3, 1], [2, 4, 1, 0, 3], [2, 4, 3, 1, 0], [3, 0, 1, 4, 2], [3, 0, 2, 1, 4], [3, 0, 4, 2, 1], [3, 1, 0, 2, 4], [3, 1, 2, 4, 0], [3, 1, 4, 0, 2], [3, 2, 0, 4, 1], [3, 2, 1, 0, 4], [3, 2, 4, 1, 0], [3, 4, 0, 1, 2], [3, 4, 1, 2, 0], [3, 4, 2, 0, 1], [4, 0, 1, 2, 3], [4, 0, 2, 3, 1], [4, 0, 3, 1, 2], [4, 1, 0, 3, 2], [4, 1, 2, 0, 3], [4, 1, 3, 2, 0], [4, 2, 0, 1, 3], [4, 2, 1, 3, 0], [4, 2, 3, 0, 1], [4, 3, 0, 2, 1], [4, 3, 1, 0, 2], [4, 3, 2, 1, 0]]
def W5 : List (List Nat × List Nat × List Nat) := [([0, 1, 3, 4, 2], [0, 2, 3, 1, 4], [4, 1, 2, 0, 3]), ([0, 1, 4, 2, 3], [0, 2, 4, 3, 1], [3, 1, 2, 4, 0]), ([0, 2, 3, 1, 4], [0, 1, 3, 4, 2], [1, 2, 4, 0, 3]), ([0, 2, 4, 3, 1], [0, 1, 4, 2, 3], [1, 2, 3, 4, 0]), ([0, 3, 1, 2, 4], [0, 1, 4, 2, 3], [1, 2, 0, 3, 4]), ([0, 3, 2, 4, 1], [0, 1, 3, 4, 2], [1, 2, 3, 4, 0]), ([0, 4, 1, 3, 2], [0, 1, 3, 4, 2], [1, 2, 0, 3, 4]), ([0, 4, 2, 1, 3], [0, 1, 4, 2, 3], [1, 2, 4, 0, 3]), ([1, 2, 0, 3, 4], [0, 2, 3, 1, 4], [1, 3, 4, 2, 0]), ([1, 2, 3, 4, 0], [0, 1, 3, 4, 2], [2, 4, 3, 1, 0]), ([1, 2, 4, 0, 3], [0, 1, 4, 2, 3], [2, 3, 4, 0, 1]), ([1, 3, 0, 4, 2], [0, 1, 3, 4, 2], [3, 2, 0, 4, 1]), ([1, 3, 2, 0, 4], [0, 3, 1, 2, 4], [1, 2, 3, 4, 0]), ([1, 3, 4, 2, 0], [0, 1, 4, 2, 3], [2, 3, 1, 4, 0]), ([1, 4, 0, 2, 3], [0, 1, 4, 2, 3], [3, 4, 0, 1, 2]), ([1, 4, 2, 3, 0], [0, 4, 1, 3, 2], [1, 2, 4, 0, 3]), ([1, 4, 3, 0, 2], [0, 1, 3, 4, 2], [2, 4, 1, 0, 3]), ([2, 0, 1, 3, 4], [0, 3, 1, 2, 4], [1, 4, 2, 3, 0]), ([2, 0, 3, 4, 1], [0, 1, 3, 4, 2], [2, 3, 4, 0, 1]), ([2, 0, 4, 1, 3], [0, 1, 4, 2, 3], [2, 4, 3, 1, 0]), ([2, 1, 3, 0, 4], [0, 1, 3, 4, 2], [2, 0, 4, 1, 3]), ([2, 1, 4, 3, 0], [0, 1, 4, 2, 3], [2, 0, 3, 4, 1]), ([2, 3, 1, 4, 0], [0, 3, 1, 2, 4], [2, 0, 3, 4, 1]), ([2, 3, 4, 0, 1], [0, 2, 4, 3, 1], [1, 3, 4, 2, 0]), ([2, 4, 1, 0, 3], [0, 4, 1, 3, 2], [2, 0, 4, 1, 3]), ([2, 4, 3, 1, 0], [0, 2, 3, 1, 4], [1, 4, 3, 0, 2]), ([3, 0, 1, 4, 2], [0, 1, 3, 4, 2], [2, 3, 1, 4, 0]), ([3, 0, 2, 1, 4], [0, 2, 3, 1, 4], [1, 4, 2, 3, 0]), ([3, 0, 4, 2, 1], [0, 1, 4, 2, 3], [3, 2, 0, 4, 1]), ([3, 1, 0, 2, 4], [0, 1, 4, 2, 3], [2, 0, 1, 3, 4]), ([3, 1, 2, 4, 0], [0, 1, 3, 4, 2], [2, 0, 3, 4, 1]), ([3, 2, 0, 4, 1], [0, 2, 4, 3, 1], [1, 3, 0, 4, 2]), ([3, 2, 4, 1, 0], [0, 2, 3, 1, 4], [2, 0, 4, 1, 3]), ([3, 4, 0, 1, 2], [0, 4, 1, 3, 2], [1, 4, 0, 2, 3]), ([3, 4, 1, 2, 0], [0, 3, 1, 2, 4], [1, 4, 0, 2, 3]), ([4, 0, 1, 2, 3], [0, 1, 4, 2, 3], [2, 4, 1, 0, 3]), ([4, 0, 2, 3, 1], [0, 2, 4, 3, 1], [1, 3, 2, 0, 4]), ([4, 0, 3, 1, 2], [0, 1, 3, 4, 2], [3, 4, 0, 1, 2]), ([4, 1, 0, 3, 2], [0, 1, 3, 4, 2], [2, 0, 1, 3, 4]), ([4, 1, 2, 0, 3], [0, 1, 4, 2, 3], [2, 0, 4, 1, 3]), ([4, 2, 0, 1, 3], [0, 2, 3, 1, 4], [1, 4, 0, 2, 3]), ([4, 2, 3, 0, 1], [0, 2, 3, 1, 4], [1, 2, 4, 0, 3]), ([4, 3, 0, 2, 1], [0, 3, 1, 2, 4], [1, 3, 0, 4, 2]), ([4, 3, 1, 0, 2], [0, 3, 1, 2, 4], [1, 4, 3, 0, 2])]
def I5 : List (List Nat × List Nat × List Nat) := [([0, 2, 1, 4, 3], [0, 1, 3, 4, 2], [0, 2, 3, 1, 4]), ([0, 3, 4, 1, 2], [0, 1, 3, 4, 2], [0, 3, 2, 4, 1]), ([0, 4, 3, 2, 1], [0, 1, 3, 4, 2], [0, 4, 1, 3, 2]), ([1, 0, 2, 4, 3], [0, 2, 3, 1, 4], [1, 4, 0, 2, 3]), ([1, 0, 3, 2, 4], [0, 2, 3, 1, 4], [1, 2, 0, 3, 4]), ([1, 0, 4, 3, 2], [0, 2, 3, 1, 4], [1, 3, 0, 4, 2]), ([2, 1, 0, 4, 3], [0, 1, 3, 4, 2], [2, 1, 3, 0, 4]), ([2, 3, 0, 1, 4], [0, 1, 3, 4, 2], [2, 3, 4, 0, 1]), ([2, 4, 0, 3, 1], [0, 1, 3, 4, 2], [2, 4, 1, 0, 3]), ([3, 1, 4, 0, 2], [0, 1, 3, 4, 2], [3, 1, 2, 4, 0]), ([3, 2, 1, 0, 4], [0, 1, 3, 4, 2], [3, 2, 4, 1, 0]), ([3, 4, 2, 0, 1], [0, 1, 3, 4, 2], [3, 4, 1, 2, 0]), ([4, 1, 3, 2, 0], [0, 1, 3, 4, 2], [4, 1, 0, 3, 2]), ([4, 2, 1, 3, 0], [0, 1, 3, 4, 2], [4, 2, 0, 1, 3]), ([4, 3, 2, 1, 0], [0, 1, 3, 4, 2], [4, 3, 0, 2, 1])]
def od5 (t : List Nat) : Bool := decide (t ≠ List.range 5) && (decide (pw 5 t 3 = List.range 5) || decide (pw 5 t 5 = List.range 5))
def fiveL : List (List Nat) := [[1, 2, 3, 4, 0], [1, 2, 0, 3, 4]]
theorem fiveP : ∀ g ∈ fiveL, IsP 5 g := by decide +kernel
theorem a5_still : List.range 5 ∈ A5 := by decide +kernel
theorem a5_step : ∀ t ∈ A5, ∀ g ∈ fiveL, prod t g ∈ A5 := by decide +kernel
theorem fiveF : Few fiveL 5 60 := few_of (by decide +kernel : (qq fiveL 5 60).length ≤ 60)
theorem a5_mk {u : List Nat} : Mk fiveL 5 u ↔ u ∈ A5 := by
  constructor
  · intro h
    induction h with
    | still => exact a5_still
    | step _ hg ih => exact a5_step _ ih _ hg
  · intro h
    have s : ∀ u ∈ A5, u ∈ (qq fiveL 5 300).map (·.1) := by decide +kernel
    refine (LL_mem fiveF (by decide) u).mp ?_
    rw [LL_eq]
    exact s u h
theorem a5_P {u : List Nat} (h : u ∈ A5) : IsP 5 u := (a5_mk.mpr h).isP fiveP
theorem a5_prod {a b : List Nat} (ha : a ∈ A5) (hb : b ∈ A5) : prod a b ∈ A5 := a5_mk.mp ((a5_mk.mpr ha).prod fiveP (a5_mk.mpr hb))
theorem a5_inv {a : List Nat} (ha : a ∈ A5) : inv a ∈ A5 := a5_mk.mp ((a5_mk.mpr ha).inv fiveP fiveF)
theorem five_cj : ∀ s ∈ perms 5 (List.range 5), ∀ g ∈ fiveL, cj s g ∈ A5 := by decide +kernel
theorem five_cjP {s : List Nat} (hs : IsP 5 s) : ∀ g ∈ fiveL, cj s g ∈ A5 := five_cj s ((perms_mem 5 _ _ (by rfl)).mpr hs)
theorem a5_cj {s u : List Nat} (hs : IsP 5 s) (h : u ∈ A5) : cj s u ∈ A5 := by
  replace h := a5_mk.mpr h
  induction h with
  | still => rw [cj_still hs]; exact a5_still
  | @step a g ha hg ih =>
    rw [cj_prod hs (ha.isP fiveP) (fiveP g hg)]
    exact a5_prod ih (five_cjP hs g hg)
theorem mk_cj {gs : List (List Nat)} {n : Nat} {s : List Nat} (hg : ∀ g ∈ gs, IsP n g) (hs : IsP n s) {t : List Nat} (h : Mk gs n t) : Mk (gs.map (cj s)) n (cj s t) := by
  induction h with
  | still => rw [cj_still hs]; exact .still
  | @step a g ha hm ih =>
    rw [cj_prod hs (ha.isP hg) (hg g hm)]
    exact .step ih (List.mem_map.mpr ⟨g, hm, rfl⟩)
theorem cj_cj {n : Nat} {s t : List Nat} (hs : IsP n s) (ht : IsP n t) : cj s (cj (inv s) t) = t := by
  have A : ∀ x y z, IsP n x → IsP n y → prod (prod x y) z = prod x (prod y z) := fun x y z a b => pas z a b
  have I2 : ∀ x, IsP n x → inv (inv x) = x := fun x a => inv_inv a
  have C1 : ∀ x z, IsP n x → IsP n z → prod (inv x) (prod x z) = z := fun x z a b => pc1 a b
  have C3 : ∀ x, IsP n x → prod (inv x) x = List.range n := fun x a => prod_inv_l a
  have S : ∀ x, IsP n x → prod x (List.range n) = x := fun x a => prod_still_r a.lt
  have Pr : ∀ x y, IsP n x → IsP n y → IsP n (prod x y) := fun x y a b => a.prod b
  have V : ∀ x, IsP n x → IsP n (inv x) := fun x a => a.inv
  unfold cj
  simp (maxDischargeDepth := 30) only [A, I2, C1, C3, S, Pr, V, hs, ht]
theorem mk_five {s u : List Nat} (hs : IsP 5 s) : Mk (fiveL.map (cj s)) 5 u ↔ u ∈ A5 := by
  constructor
  · intro h
    obtain ⟨t, ht, rfl⟩ := Mk.cj fiveP hs h
    exact a5_cj hs (a5_mk.mp ht)
  · intro h
    have z := mk_cj fiveP hs (a5_mk.mpr (a5_cj hs.inv h))
    rw [cj_cj hs (a5_P h)] at z
    exact z
theorem a5_rds : ∀ t ∈ A5, ((List.range 6).any fun N => decide (1 ≤ N) && decide (pw 5 t N = List.range 5) && ((List.range N).all fun j => decide (j = 0) || decide (pw 5 t j ≠ List.range 5)) && decide (od5 t = (decide (1 < N) && decide (N % 2 = 1)))) = true := by decide +kernel
theorem a5_od {t : List Nat} (h : t ∈ A5) : ∃ N, Rds 5 t N ∧ od5 t = (decide (1 < N) && decide (N % 2 = 1)) := by
  obtain ⟨N, _, h⟩ := List.any_eq_true.mp (a5_rds t h)
  simp only [Bool.and_eq_true, decide_eq_true_eq, List.all_eq_true, Bool.or_eq_true, List.mem_range] at h
  obtain ⟨⟨⟨h1, h2⟩, h3⟩, h4⟩ := h
  exact ⟨N, ⟨h1, h2, fun j j1 j2 => (h3 j j2).resolve_left (by omega)⟩, h4⟩
theorem w5_ok : ∀ x ∈ W5, (x.2.1 ∈ A5 ∧ od5 x.2.1 = true) ∧ (x.2.2 ∈ A5 ∧ od5 x.2.2 = true) ∧ bkt x.2.1 x.2.2 = x.1 := by decide +kernel
theorem w5_all : ∀ t ∈ A5, od5 t = true → t ∈ W5.map (·.1) := by decide +kernel
theorem i5_ok : ∀ x ∈ I5, (x.2.1 ∈ A5 ∧ od5 x.2.1 = true) ∧ (x.2.2 ∈ A5 ∧ od5 x.2.2 = true) ∧ prod x.2.1 x.2.2 = x.1 := by decide +kernel
theorem i5_all : ∀ t ∈ A5, od5 t = true ∨ t = List.range 5 ∨ t ∈ I5.map (·.1) := by decide +kernel
theorem a5_sq : ∀ t ∈ A5, od5 t = true → od5 (inv t) = true ∧ od5 (inv (prod t t)) = true := by decide +kernel
theorem a5_brk {t : List Nat} (h : t ∈ A5) (ho : od5 t = true) : ∃ a b, (a ∈ A5 ∧ od5 a = true) ∧ (b ∈ A5 ∧ od5 b = true) ∧ bkt a b = t := by
  obtain ⟨x, hx, rfl⟩ := List.mem_map.mp (w5_all t h ho)
  exact ⟨x.2.1, x.2.2, w5_ok x hx⟩
/-- commutators of A5 make A5 -/
theorem a5_perf {T : List (List Nat)} (hT : ∀ t, t ∈ T ↔ t ∈ A5) {u : List Nat} (hu : u ∈ A5) : Mk (brk T T) 5 u := by
  have hb : ∀ b ∈ brk T T, IsP 5 b := fun b hb => by
    obtain ⟨x, hx, y, hy, rfl⟩ := brk_mem.mp hb
    exact (a5_P ((hT x).mp hx)).cm (a5_P ((hT y).mp hy))
  have odd : ∀ t, t ∈ A5 → od5 t = true → Mk (brk T T) 5 t := fun t ht ho => by
    obtain ⟨a, b, ha, hb', e⟩ := a5_brk ht ho
    exact .one hb (brk_mem.mpr ⟨a, (hT a).mpr ha.1, b, (hT b).mpr hb'.1, e.symm⟩)
  rcases i5_all u hu with h | h | h
  · exact odd u hu h
  · rw [h]; exact .still
  · obtain ⟨x, hx, rfl⟩ := List.mem_map.mp h
    obtain ⟨ha, hb', e⟩ := i5_ok x hx
    rw [← e]
    exact (odd _ ha.1 ha.2).prod hb (odd _ hb'.1 hb'.2)
/-! ### the last term of the derived series -/
/-- what is known of the last term -/
structure Las (ls : List (List Nat)) (n : Nat) (T : List (List Nat)) : Prop where
  tm : Tm1 ls T n T
  nd : T.Nodup
  perf : ∀ t ∈ T, Mk (brk T T) n t
theorem las_of {ls T0 : List (List Nat)} {n m : Nat} {Ts : List (List (List Nat))} (hls : ∀ g ∈ ls, IsP n g) (hf : Few ls n m) (hT : ∀ t, t ∈ T0 ↔ Mk ls n t) (nd0 : T0.Nodup) (h : SerM (Mb false T0) n T0 Ts) : ∃ T, 1 ≤ Ts.length ∧ Ts[Ts.length - 1]? = some T ∧ Las ls n T := by
  have l1 : 1 ≤ Ts.length := (List.getElem?_eq_some_iff.mp h.head).1
  have inv : ∀ (i : Nat) A, Ts[i]? = some A → Tm1 ls (Mb false T0 A) n A ∧ A.Nodup := fun i => by
    induction i with
    | zero =>
      intro A e
      rw [h.head] at e
      rw [← Option.some.inj e]
      exact ⟨tm_first hls hf hT false, nd0⟩
    | succ i ih =>
      intro B e
      have l := (List.getElem?_eq_some_iff.mp e).1
      have e1 : Ts[i]? = some (Ts[i]'(by omega)) := List.getElem?_eq_getElem _
      exact ⟨tm_next hls hf hT (ih _ e1).1 (h.step i _ B e1 e).1, (h.step i _ B e1 e).1.nd⟩
  have e1 : Ts[Ts.length - 1]? = some (Ts[Ts.length - 1]'(by omega)) := List.getElem?_eq_getElem _
  obtain ⟨t1, n1⟩ := inv _ _ e1
  refine ⟨_, l1, e1, t1, n1, fun t ht => ?_⟩
  obtain ⟨B, nB, lB⟩ := h.stop _ _ e1 (List.getElem?_eq_none (by omega))
  have sub := (t1.next hls (mbP hls hf hT t1) nB).2
  refine (nB.mem t).mp ?_
  refine Classical.byContradiction fun hn => ?_
  have z := nodup_len _ (Ts[Ts.length - 1]'(by omega)) (List.nodup_cons.mpr ⟨hn, nB.nd⟩ : (t :: B).Nodup) fun x hx => by
    rcases List.mem_cons.mp hx with q | q
    · rw [q]; exact ht
    · exact sub x q
  rw [List.length_cons] at z
  omega
/-- steps down: each holds the commutators of the one before -/
theorem las_down {ls T : List (List Nat)} {n : Nat} (L : Las ls n T) {E F : List (List Nat)} (hE : ∀ t ∈ T, t ∈ E) (hs : List.range n ∈ F) (hp : ∀ a ∈ F, ∀ b ∈ F, prod a b ∈ F) (hb : ∀ a ∈ E, ∀ b ∈ E, cm a b ∈ F) : ∀ t ∈ T, t ∈ F := fun t ht => by
  have h := L.perf t ht
  clear ht
  induction h with
  | still => exact hs
  | step _ hg ih =>
    obtain ⟨x, hx, y, hy, rfl⟩ := brk_mem.mp hg
    exact hp _ ih _ (hb x (hE x hx) y (hE y hy))
def E41 : List (List Nat) := (perms 4 (List.range 4)).filter fun t => decide (pw 4 t 3 = List.range 4) || decide (t = [1, 0, 3, 2]) || decide (t = [2, 3, 0, 1]) || decide (t = [3, 2, 1, 0])
def E42 : List (List Nat) := [[0, 1, 2, 3], [1, 0, 3, 2], [2, 3, 0, 1], [3, 2, 1, 0]]
theorem e4_1 : List.range 4 ∈ E41 ∧ (∀ a ∈ E41, ∀ b ∈ E41, prod a b ∈ E41) ∧ ∀ a ∈ perms 4 (List.range 4), ∀ b ∈ perms 4 (List.range 4), cm a b ∈ E41 := by decide +kernel
theorem e4_2 : List.range 4 ∈ E42 ∧ (∀ a ∈ E42, ∀ b ∈ E42, prod a b ∈ E42) ∧ ∀ a ∈ E41, ∀ b ∈ E41, cm a b ∈ E42 := by decide +kernel
theorem e4_3 : List.range 4 ∈ [List.range 4] ∧ (∀ a ∈ [List.range 4], ∀ b ∈ [List.range 4], prod a b ∈ [List.range 4]) ∧ ∀ a ∈ E42, ∀ b ∈ E42, cm a b ∈ [List.range 4] := by decide +kernel
def E31 : List (List Nat) := [[0, 1, 2], [1, 2, 0], [2, 0, 1]]
theorem e3_1 : List.range 3 ∈ E31 ∧ (∀ a ∈ E31, ∀ b ∈ E31, prod a b ∈ E31) ∧ ∀ a ∈ perms 3 (List.range 3), ∀ b ∈ perms 3 (List.range 3), cm a b ∈ E31 := by decide +kernel
theorem e3_2 : List.range 3 ∈ [List.range 3] ∧ (∀ a ∈ [List.range 3], ∀ b ∈ [List.range 3], prod a b ∈ [List.range 3]) ∧ ∀ a ∈ E31, ∀ b ∈ E31, cm a b ∈ [List.range 3] := by decide +kernel
theorem e2_1 : List.range 2 ∈ [List.range 2] ∧ (∀ a ∈ [List.range 2], ∀ b ∈ [List.range 2], prod a b ∈ [List.range 2]) ∧ ∀ a ∈ perms 2 (List.range 2), ∀ b ∈ perms 2 (List.range 2), cm a b ∈ [List.range 2] := by decide +kernel
theorem las_four {ls T : List (List Nat)} {n : Nat} (hls : ∀ g ∈ ls, IsP n g) (n2 : 2 ≤ n) (n4 : n ≤ 4) (L : Las ls n T) : T.length = 1 := by
  have h0 : ∀ t ∈ T, t ∈ perms n (List.range n) := fun t ht => (perms_mem n _ _ List.length_range).mpr ((L.tm.sub t ht).isP hls)
  have h1 : ∀ t ∈ T, t ∈ [List.range n] := by
    obtain rfl | rfl | rfl : n = 2 ∨ n = 3 ∨ n = 4 := by omega
    · exact las_down L h0 e2_1.1 e2_1.2.1 e2_1.2.2
    · exact las_down L (las_down L h0 e3_1.1 e3_1.2.1 e3_1.2.2) e3_2.1 e3_2.2.1 e3_2.2.2
    · exact las_down L (las_down L (las_down L h0 e4_1.1 e4_1.2.1 e4_1.2.2) e4_2.1 e4_2.2.1 e4_2.2.2) e4_3.1 e4_3.2.1 e4_3.2.2
  have z := nodup_len _ [List.range n] L.nd h1
  have y : 1 ≤ T.length := List.length_pos_of_mem L.tm.still
  have : [List.range n].length = 1 := rfl
  omega
/-- the last term is all of A5, or there is none but the still one -/
theorem las_kn {ls T0 : List (List Nat)} {n m : Nat} {Ts : List (List (List Nat))} {kn : List Str} (hk : ∀ nm ∈ kn, ∀ gs, (nm, gs) ∈ table → gs = fiveL ∨ ∀ g ∈ gs, g.length ≤ 4) (hd : LkD kn ls n ∨ n ≤ 4) (gl : GL ls n) (hf : Few ls n m) (hT : ∀ t, t ∈ T0 ↔ Mk ls n t) (nd0 : T0.Nodup) (h : SerM (Mb false T0) n T0 Ts) :
    ∃ T, 1 ≤ Ts.length ∧ Ts[Ts.length - 1]? = some T ∧ T.Nodup ∧ (∀ t ∈ T, Mk ls n t) ∧ (T.length = 1 ∨ (n = 5 ∧ ∀ t, t ∈ T ↔ t ∈ A5)) := by
  have hls := gl.2.2.2.2
  obtain ⟨T, l1, e1, L⟩ := las_of hls hf hT nd0 h
  refine ⟨T, l1, e1, L.nd, L.tm.sub, ?_⟩
  have small : n ≤ 4 → T.length = 1 := fun n4 => las_four hls gl.2.2.1 n4 L
  rcases hd with ⟨nm, gs, s, h1, h2, hs, rfl, hgs⟩ | hd
  · rcases hk nm h1 gs h2 with rfl | h
    · right
      obtain rfl : 5 = n := (hgs [1, 2, 3, 4, 0] List.mem_cons_self).len
      have t0 : ∀ t, t ∈ T0 ↔ t ∈ A5 := fun t => (hT t).trans (mk_five hs)
      have one : Ts.length = 1 := by
        refine Classical.byContradiction fun hn => ?_
        have e2 : Ts[0 + 1]? = some (Ts[1]'(by omega)) := List.getElem?_eq_getElem _
        obtain ⟨nB, lB⟩ := h.step 0 T0 _ h.head e2
        have t1 := tm_first hls hf hT false
        have sub := (t1.next hls (mbP hls hf hT t1) nB).2
        have a1 := nodup_len _ T0 nB.nd sub
        have a2 := nodup_len _ (Ts[1]'(by omega)) nd0 fun t ht => (nB.mem t).mpr (a5_perf t0 ((t0 t).mp ht))
        omega
      rw [one, h.head] at e1
      obtain rfl := Option.some.inj e1
      exact ⟨rfl, t0⟩
    · left
      obtain ⟨g, hg⟩ := List.exists_mem_of_length_pos (l := gs) (by have := gl.1; rw [List.length_map] at this; omega)
      exact small (by rw [← (hgs g hg).len]; exact h g hg)
  · exact .inl (small hd)
end Lt

set_option Elab.async false
set_option linter.all false
set_option maxRecDepth 100000
set_option maxHeartbeats 2000000
/-! min(d), d a dict whose keys are tuples -/
namespace Lt
open PySem PySem.Spec PyProof.Rows L2
theorem alike_dT (t u : List Nat) : PySem.W.alike (dT t) (dT u) = true := by
  have e : ∀ t : List Nat, t.map dN = (t.map fun k : Nat => (k : Int)).map PyData.int := fun t => by rw [List.map_map]; rfl
  show PySem.W.alike (.tuple (t.map dN)) (.tuple (u.map dN)) = true
  rw [e, e, PySem.W.alike]
  exact PySem.W.alike_ints _ _
/-- one of the keys -/
def rMinDT : List V → Hp → VK → Prop := fun vs H Q => ∃ (a : Addr) (kvs : List (List Key × V)) (ts : List (List Nat)), vs = [V.ref a] ∧ Rd H a (.dT kvs) ∧ kvs.map (·.1) = (ts.map iN).map (fun k => k.map Sum.inl) ∧ ts ≠ [] ∧ ∀ b t, t ∈ ts → TK H (.ref b) t → Q (.ref b) H
section
variable {X : Cx}
theorem cr_minDT (hu : X.A.units + 64 < cLine) (hc : X.calm = true) : CallR X (.builtin "min") rMinDT := by
  intro pins s σ H xs us Q I r q
  obtain ⟨a, kvs, ts, rfl, hd, hks, hne, q⟩ := q
  obtain ⟨u, eu, rx⟩ := vals1 r
  subst eu
  cases rx
  obtain ⟨z, lo, kx, pr, o, es, ep, ho, hx, hdt, he, hn⟩ := (show ObjOk X.prog X.w H s.heap a (.dT kvs) from hd.ok I.hok)
  have l1 : es.size = kx.length := size_of_entries he
  have l2 : kvs.length = kx.length := Paired.length pr
  have prk := keys_perm pr hks
  have l3 : es.size = ts.length := by
    have := Paired.length prk
    rw [List.length_map, List.length_map] at this
    omega
  have key : ∀ i v, (∃ en : DictEntry, es[i]? = some en ∧ v = en.key) → ∃ b, v = .ref b ∧ i < ts.length ∧ TK H (.ref b) (ts.getD i []) := fun i v ⟨en, h1, h2⟩ => by
    have hi : i < es.size := (Array.getElem?_eq_some_iff.mp h1).1
    have qe := entry_at he i
    rw [h1] at qe
    cases hb : kx[i]? with
    | none =>
      rw [hb] at qe
      exact nomatch (show some en = none from qe)
    | some b =>
      rw [hb] at qe
      have e2 : en = entryOfKey (tupleKind (mixKind X.prog X.w)) b := Option.some.inj qe
      have e3 : (kx.map fun x => Value.ref x.2.1)[i]? = some (Value.ref b.2.1) := by rw [List.getElem?_map, hb]; rfl
      obtain ⟨k, hk, c, e4, e5⟩ := Paired.getL prk e3
      rw [List.getElem?_map] at hk
      obtain ⟨t, ht, ek⟩ := Option.map_eq_some_iff.mp hk
      injection e4 with e4
      refine ⟨b.2.1, by rw [h2, e2]; rfl, by omega, b.2.1, rfl, ?_⟩
      rw [List.getD_eq_getElem?_getD, ht, e4, e5, ← ek]
      show some (HO.tup ((iN t).map V.int)) = some (HO.tup (nIs t))
      unfold iN nIs
      rw [List.map_map]
      rfl
  refine PySem.call_min_walkH ?_
  obtain ⟨oI, St, hit, W, st⟩ := (kdl_raw (prog := X.prog) (w := X.w) lo hx hdt).iter X.A.in1 s (I.ok.hd hc) ho
  have hlt := Heap.lt_size ho
  refine hit _ _ ⟨s.heap.objs.size, _, _, _, es.size, _, _, s.heap, fun i j => PySem.W.dataLt (dT (ts.getD i [])) (dT (ts.getD j [])), rfl, W.toS, st, fun b hb => ?_, ?_, fun b ob e hb => ?_, fun b ob e => Heap.get?_push_of_some _ e, fun i j vi vj s' Q' E' hk hi hj hq => ?_, fun v s' hv hm => ?_⟩
  · show b < (s.heap.push oI).objs.size
    rw [PyProof.Rows.size_push']
    rcases List.mem_cons.mp hb with e | hb
    · rw [e]; exact Nat.lt_succ_self _
    · rw [List.mem_singleton.mp hb]; exact Nat.lt_succ_of_lt hlt
  · rw [l3]
    exact List.length_pos_iff.mpr hne
  · exact absurd (Heap.lt_size e) ((List.mem_singleton.mp hb) ▸ Nat.lt_irrefl _)
  · obtain ⟨b1, rfl, _, k1⟩ := key i vi hi
    obtain ⟨b2, rfl, _, k2⟩ := key j vj hj
    obtain ⟨as1, r1⟩ := Dp.reads I (dT (ts.getD i [])) (.ref b1) (.ref b1) k1.tn.dp rfl
    obtain ⟨as2, r2⟩ := Dp.reads I (dT (ts.getD j [])) (.ref b2) (.ref b2) k2.tn.dp rfl
    refine PySem.W.rcLt_alike _ _ X.A.in1 s' _ _ _ _ (PySem.W.reads_keeps hk r1) (PySem.W.reads_keeps hk r2) (alike_dT _ _) (fun z => nomatch z) ?_ X.prog X.w E' Q' hq
    have h1 : (dT (ts.getD i [])).depth ≤ 1 := by
      show PyData.depthAll ((ts.getD i []).map dN) + 1 ≤ 1
      rw [depth_nats]
      exact Nat.le_refl _
    have h2 := Nat.min_le_left (dT (ts.getD i [])).depth (dT (ts.getD j [])).depth
    show X.A.units + 1 + _ < _
    omega
  · obtain ⟨b, rfl, hi, k⟩ := key _ v hv
    have hk : ∀ c ob, s.heap.get? c = some ob → s'.heap.get? c = some ob := fun c ob e =>
      hm.heap c ob (fun hI => absurd (Heap.lt_size e) (by rw [List.mem_singleton.mp hI]; exact Nat.lt_irrefl _)) (Heap.get?_push_of_some _ e)
    rw [Moved.eq_with hm]
    refine ⟨.ref b, H, I.kept (t' := s'.toks) hk, rfl, q b _ ?_ k⟩
    rw [List.getD_eq_getElem?_getD, List.getElem?_eq_getElem hi]
    exact List.getElem_mem hi
end
end Lt

set_option Elab.async false
set_option linter.all false
set_option maxRecDepth 100000
set_option maxHeartbeats 2000000
namespace Lt
open PySem PySem.Spec PyProof.Rows L2
section
variable {P : Program} {w : World} {K : PySem.W.Frag} {mg : Str → Option Value} {base : Heap}
theorem dec_len (k : Nat) : decide (V.int (k : Int) = V.int 1) = decide (k = 1) := decide_eq_decide.mpr ⟨fun h => by injection h with h; omega, fun h => by rw [h]; rfl⟩
end
end Lt

set_option Elab.async false
set_option linter.all false
set_option maxRecDepth 100000
set_option maxHeartbeats 2000000
/-! k10: formula_row -/
namespace Lt
open PySem PySem.Spec PyProof.Rows L2
theorem wt_deep : ∀ f : Fm, wtF f + 2 ≤ 2 ^ (f.deep + 1)
  | .x _ => Nat.le_refl _
  | .no f => by
    have h := wt_deep f
    show wtF f + 1 + 2 ≤ 2 ^ (f.deep + 1 + 1)
    rw [Nat.pow_succ]
    omega
  | .two j f g => by
    have h1 := wt_deep f
    have h2 := wt_deep g
    have p1 : 2 ^ (f.deep + 1) ≤ 2 ^ (max f.deep g.deep + 1) := Nat.pow_le_pow_right (by decide) (Nat.succ_le_succ (Nat.le_max_left _ _))
    have p2 : 2 ^ (g.deep + 1) ≤ 2 ^ (max f.deep g.deep + 1) := Nat.pow_le_pow_right (by decide) (Nat.succ_le_succ (Nat.le_max_right _ _))
    show wtF f + wtF g + 2 + 2 ≤ 2 ^ (max f.deep g.deep + 1 + 1)
    rw [Nat.pow_succ 2 (max f.deep g.deep + 1)]
    omega
/-- kinds of five places like the first, or of at most four -/
def KnOk (kn : List Str) : Prop := ∀ nm ∈ kn, ∀ gs, (nm, gs) ∈ table → gs = fiveL ∨ ∀ g ∈ gs, g.length ≤ 4
theorem tttk_last {H : Hp} {v : V} {Ts : List (List (List Nat))} {T : List (List Nat)} (h : TTTK H v Ts) (l1 : 1 ≤ Ts.length) (hT : Ts[Ts.length - 1]? = some T) : ∃ a xs z, v = .ref a ∧ H a = some (.tup (xs ++ [z])) ∧ TTK H z T := by
  obtain ⟨a, xs, rfl, ha, p⟩ := h
  have hl := Paired.length p
  have hne : xs ≠ [] := fun e => by
    rw [e] at hl
    have : ([] : List V).length = 0 := rfl
    omega
  obtain ⟨ys, z, rfl⟩ : ∃ ys z, xs = ys ++ [z] := ⟨xs.dropLast, xs.getLast hne, (List.dropLast_concat_getLast hne).symm⟩
  obtain ⟨A, hA, hz⟩ := Paired.getL p (i := ys.length) (x := z) List.getElem?_concat_length
  rw [List.length_append] at hl
  have e : Ts.length - 1 = ys.length := by
    have : [z].length = 1 := rfl
    omega
  rw [e, hA] at hT
  rw [Option.some.inj hT] at hz
  exact ⟨a, ys, z, rfl, ha, hz⟩
/-- the last term of the derived series has one turn alone -/
def Solv (ls : List (List Nat)) (n : Nat) : Prop := ∃ T0 Ts T, T0.Nodup ∧ Asc T0 ∧ (∀ t, t ∈ T0 ↔ Mk ls n t) ∧ SerM (Mb false T0) n T0 Ts ∧ Ts[Ts.length - 1]? = some T ∧ T.length = 1
def Unso (ls : List (List Nat)) (n : Nat) : Prop := ∃ T0 Ts T, T0.Nodup ∧ Asc T0 ∧ (∀ t, t ∈ T0 ↔ Mk ls n t) ∧ SerM (Mb false T0) n T0 Ts ∧ Ts[Ts.length - 1]? = some T ∧ T.length ≠ 1
structure RowF (ls : List (List Nat)) (n m : Nat) (f : Fm) (ss : List StepT) (t : List Nat) : Prop where
  ok : RowOk ls n m ss
  made : Mk ls n t
  ne : t ≠ List.range n
  val : ∀ p, valK n ss p = if evF f p = 1 then t else List.range n
  short : ss.length ≤ 1000
section
variable {P : Program} {w : World} {K : PySem.W.Frag} {mg : Str → Option Value} {base : Heap} {CW CY : Addr}
def spFormula (CW : Addr) : Sp := fun vs H Q E => ∃ (v : V) (ls : List (List Nat)) (n m : Nat) (x : Str) (f : Fm) (kn : List Str), vs = [v, nI m, .str x] ∧ Good H v ls n ∧ 1 ≤ m ∧ m ≤ 6 ∧ x.length ≤ 1000 ∧ f.Ok m ∧ f.deep ≤ 3 ∧ (lexWords x).map (·.2) = f.spell ++ [wVoid] ∧ KnOk kn ∧ (LkD kn ls n ∨ n ≤ 4) ∧
  (Solv ls n → Bad0 CW H E) ∧
  (Unso ls n → ∀ p H' rv tv ss t, Same H H' → H' p = some (.tup [rv, tv]) → RwK H' rv ss → TK H' tv t → RowF ls n m f ss t → Q (.ref p) H')
abbrev frN : List Str := ["lock", "inputs", "text", "lasting", "tree", "pairs", "turn"]
theorem sc_formula_row : FnScope frN ["lock", "inputs", "text"] (defScope s_formula_row) := ⟨rfl, rfl, rfl, by decide +kernel, rfl, by decide +kernel, by decide +kernel⟩
theorem has_formula_row (T : Top K mg "formula_row" s_formula_row ["lock", "inputs", "text"]) (B : Bi mg) (bm : mg "min" = none) (G : ∃ u, mg "MOST_STEPS" = some u ∧ RelV (.int 6000) u) (X0 : Err0 K mg "NoWay" CW) (X1 : ErrI P w K mg base "TooMany" "most" CY)
    (hD : Has P w K mg base CX0 7 "derived" ["lock"] spDerivedK) (hF : Has P w K mg base (L2.CX P w) 26 "formula_tree" ["inputs", "text"] spFTE) (hM : Has P w K mg base CX0 5 "many_steps" ["tree"] (spMany 4))
    (hB : Has P w K mg base CX0 3 "bracket_pairs" ["lasting"] spPairs) (hS : Has P w K mg base CX0 33 "steps_for" ["pairs", "tree", "turn"] (spSteps 15)) : Has P w K mg base (L2.CX P w) 34 "formula_row" ["lock", "inputs", "text"] (spFormula CW) := by
  refine T.okX sc_formula_row (fun vs H Q E h => ?_) (fun f cdv A outer s H vs Q E hr h => ?_)
  · obtain ⟨v, ls, n, m, x, f, kn, rfl, _⟩ := h
    rfl
  · obtain ⟨v, ls, n, m, x, fm, kn, rfl, g, m1, m6, hx, ok, hd, hwd, hkn, hlk, qN, qR⟩ := h
    have hr7 : Room 7 _ := hr.mono (by decide)
    have hr26 : Room 26 _ := hr.mono (by decide)
    have hr5 : Room 5 _ := hr.mono (by decide)
    have hr3 : Room 3 _ := hr.mono (by decide)
    have hr2 : Room 2 _ := hr.mono (by decide)
    have hr33 : Room 33 _ := hr.mono (by decide)
    have hu := hr.units
    refine ⟨_, pss_cons (ps_set (i := 3) sc_formula_row.nd rfl (Or.inl rfl) (pe_ix ix_tup (pe_has hD hr7 (by rfl) (pa_cons (pv 0) pa_nil)) (pe_un un_neg pe_int) (fun _ _ => rfl)))
      (pss_cons (ps_set (i := 4) sc_formula_row.nd rfl (Or.inl rfl) (pe_hasL hF hr26 (by rfl) (pa_cons (pv 1) (pa_cons (pv 2) pa_nil))))
      (pss_cons (ps_if (pt_cmpR op_eq (pe_callB call_len_seq (by rfl) B.len PySem.boot_len (pa_cons (pv 3) pa_nil)) pe_int (nomark _)) (pss_one (ps_raise rfl (takes_of rfl rfl rfl rfl) (pmk_err0 X0 (by rfl)))) pss_nil)
      (pss_cons (ps_if (pt_cmpR op_gt (pe_has hM hr5 (by rfl) (pa_cons (pv 4) pa_nil)) (pe_gc2 (by rfl) G) (nomark _)) (pss_one (ps_raise rfl (takes_of rfl rfl rfl rfl) (pmk_errI X1 hr2 (by rfl) (pa_cons (pe_gc2 (by rfl) G) pa_nil)))) pss_nil)
      (pss_cons (ps_set (i := 5) sc_formula_row.nd rfl (Or.inl rfl) (pe_has hB hr3 (by rfl) (pa_cons (pv 3) pa_nil)))
      (pss_cons (ps_set (i := 6) sc_formula_row.nd rfl (Or.inl rfl) (pe_callB (cr_minDT hu (by rfl)) (by rfl) bm PyProof.Rows.boot_min (pa_cons (pv 5) pa_nil)))
      (pss_one (ps_ret (pe_tup (pa_cons (pe_tupleOf (by rfl) B.tuple (pe_has hS hr33 (by rfl) (pa_cons (pv 5) (pa_cons (pv 4) (pa_cons (pv 6) pa_nil))))) (pa_cons (pv 6) pa_nil)))))))))), ?_⟩
    refine ⟨_, rfl, v, ls, n, rfl, g, fun r H1 T0 Ts s1 hTs nd0 asc0 mem0 hser => ?_⟩
    have hserM := serM_derived hser
    obtain ⟨T, l1, eT, ndT, subT, hT⟩ := las_kn hkn hlk g.gl g.few mem0 nd0 hserM
    obtain ⟨a, xs, z, rfl, ha, hz⟩ := tttk_last hTs l1 eT
    obtain ⟨za, zx, rfl, hza, pz⟩ := id hz
    refine ⟨1, rfl, a, xs ++ [.ref za], -1, .ref za, rfl, rfl, SqT.of ha, atI_last xs (.ref za), ?_⟩
    refine ⟨_, rfl, _, rfl, m, x, fm, rfl, m1, m6, hx, ok, by omega, hwd, fun tv H2 s2 hAt => ?_⟩
    have s12 := s1.trans s2
    have hza2 := s2 _ _ hza
    have ed : decide (V.int (zx.length : Int) = V.int 1) = decide (T.length = 1) := by rw [dec_len, Paired.length pz]
    refine ⟨_, rfl, za, zx, rfl, .inr (SqT.of hza2), rfl, decide (T.length = 1), congrArg V.bl ed, ite2 (fun h1 => ?_) (fun h1 => ?_)⟩
    · have b := qN ⟨T0, Ts, T, nd0, asc0, mem0, hserM, eT, of_decide_eq_true h1⟩
      exact b _ s12
    have h1 : ¬ T.length = 1 := fun e => h1 (decide_eq_true e)
    have un : Unso ls n := ⟨T0, Ts, T, nd0, asc0, mem0, hserM, eT, h1⟩
    obtain ⟨n5, hTA⟩ := hT.resolve_left h1
    have m216 : manyF fm ≤ 216 := Nat.le_trans (many_6 fm) (Nat.pow_le_pow_right (by decide) hd)
    have w14 : wtF fm + 2 ≤ 2 ^ 4 := Nat.le_trans (wt_deep fm) (Nat.pow_le_pow_right (by decide) (Nat.succ_le_succ hd))
    refine ⟨_, rfl, tv, fm, m, rfl, hAt, by omega, by omega, ok, (manyF fm : Int), 6000, rfl, rfl, false, congrArg V.bl (decide_eq_false (by omega)), iteF ?_⟩
    have qR := qR un
    clear un qN
    subst n5
    have memO : ∀ t, t ∈ T.filter od5 ↔ t ∈ A5 ∧ od5 t = true := fun t => by rw [List.mem_filter, hTA]
    have l63 : T.length ≤ 63 := by
      have := nodup_len _ A5 ndT fun t ht => (hTA t).mp ht
      have e : A5.length = 60 := rfl
      omega
    refine ⟨_, rfl, .ref za, T, 5, od5, rfl, TTK.tm2 (.of s2) hz, fun t ht => a5_P ((hTA t).mp ht), ndT, l63, by decide, fun t ht => a5_od ((hTA t).mp ht), fun t ht => ?_, fun d H3 pr kvs s3 hd3 hks hpr => ?_⟩
    · obtain ⟨h1, h2⟩ := (memO t).mp ht
      obtain ⟨a, b, ha, hb, e⟩ := a5_brk h1 h2
      exact ⟨a, (memO a).mpr ha, b, (memO b).mpr hb, e⟩
    have s13 := s12.trans s3
    have O5 : PrOk pr 5 (· ∈ T.filter od5) := by
      refine ⟨fun t ht => ?_, fun t ht => ?_, fun t ht => ?_, fun t ht => ?_, fun t ht => ?_⟩
      · obtain ⟨h1, h2⟩ := (memO t).mp ht
        exact (memO _).mpr ⟨a5_inv h1, (a5_sq t h1 h2).1⟩
      · obtain ⟨h1, h2⟩ := (memO t).mp ht
        exact (memO _).mpr ⟨a5_inv (a5_prod h1 h1), (a5_sq t h1 h2).2⟩
      · obtain ⟨_, _, _, _, _, _, _, h5, h6, h7⟩ := hpr t ht
        exact h5
      · obtain ⟨_, _, _, _, _, _, _, h5, h6, h7⟩ := hpr t ht
        exact h6
      · obtain ⟨_, _, _, _, _, _, _, h5, h6, h7⟩ := hpr t ht
        exact h7
    have O5P : ∀ t, t ∈ T.filter od5 → IsP 5 t := fun t ht => a5_P ((memO t).mp ht).1
    refine ⟨_, rfl, d, kvs, T.filter od5, rfl, .inl hd3, ?_, ?_, fun b t ht hk => ?_⟩
    · rw [hks, List.map_map]
      refine List.map_congr_left fun t _ => ?_
      show keyN t = (iN t).map Sum.inl
      unfold keyN iN
      rw [List.map_map]
      rfl
    · intro z
      have h : ([1, 2, 3, 4, 0] : List Nat) ∈ T.filter od5 := (memO _).mpr (by decide +kernel)
      rw [z] at h
      cases h
    have Sc : StC H3 d pr (· ∈ T.filter od5) 5 m := ⟨⟨kvs, hd3, fun t ht => let ⟨q, x, y, h1, h2, h3, h4, _⟩ := hpr t ht; ⟨q, x, y, h1, h2, h3, h4⟩⟩, O5, O5P, by decide, m6⟩
    refine ⟨_, rfl, _, rfl, _, rfl, d, tv, .ref b, pr, _, 5, m, fm, t, rfl, Sc, hAt.same s3, ok, by omega, by omega, hk, ht, fun r4 H4 s4 l4 => ?_⟩
    obtain ⟨fl, us, rfl, hus, pus⟩ := l4
    refine .inl ⟨fl, us, rfl, SqL.of hus, fun p hp => ?_⟩
    have s5 := same_new (o := .tup us) hp
    refine ⟨_, rfl, Nat.le_of_ble_eq_true rfl, fun tp htp => ?_⟩
    have s6 := same_new (o := .tup [V.ref p, V.ref b]) htp
    have sl := st_len pr 5 fm t ok
    have OM : ∀ t, t ∈ T.filter od5 → Mk ls 5 t := fun t ht => subT t (List.mem_filter.mp ht).1
    have CM : Cld 5 (Mk ls 5) := ⟨fun t ht => ht.isP g.gl.2.2.2.2, .still, fun t u a b => a.prod g.gl.2.2.2.2 b, fun t a => a.inv g.gl.2.2.2.2 g.few⟩
    refine qR tp _ (.ref p) (.ref b) (stF pr 5 fm t) t ((s13.trans s4).trans (s5.trans s6)) upd_same ⟨p, us, rfl, s6 _ _ upd_same, paired_mono (fun _ _ r => StK.tm (.of (s5.trans s6)) r) pus⟩ (hk.tm (.of (s4.trans (s5.trans s6)))) ⟨⟨?_, by omega⟩, OM t ht, ?_, ?_, by omega⟩
    · exact fun s hs => st_in CM O5 OM fm t ok ht s hs
    · intro e
      have h := ((memO t).mp ht).2
      rw [e] at h
      exact absurd h (by decide +kernel)
    · exact fun p => st_val (cldP 5) O5 O5P p fm t ok ht
end
end Lt

set_option Elab.async false
set_option linter.all false
set_option maxRecDepth 100000
set_option maxHeartbeats 4000000
namespace Lt
open PySem PySem.Spec PyProof.Rows L2
/-- the terms so far: A the last, as far as the series has come -/
structure Sf (b : Bool) (ls : List (List Nat)) (n : Nat) (T0 : List (List Nat)) (j : Nat) (pre : List (List (List Nat))) (A : List (List Nat)) : Prop where
  len : pre.length = j
  nd : A.Nodup
  asc : Asc A
  tm : Tm1 ls (Mb b T0 A) n A
  few : A.length * 2 ^ j ≤ 60
  head : (pre ++ [A])[0]? = some T0
  step : ∀ i X Y, (pre ++ [A])[i]? = some X → (pre ++ [A])[i + 1]? = some Y → Nx (Mb b T0 X) n X Y ∧ Y.length ≠ X.length
theorem mb_sub {b : Bool} {T0 A B : List (List Nat)} (h : ∀ t ∈ B, t ∈ A) : ∀ t ∈ Mb b T0 B, t ∈ Mb b T0 A := by
  cases b
  · exact h
  · exact fun t ht => ht
theorem Sf.next {b : Bool} {ls T0 A B : List (List Nat)} {n j m : Nat} {pre : List (List (List Nat))} (h : Sf b ls n T0 j pre A) (hls : ∀ g ∈ ls, IsP n g) (hms : ∀ g ∈ Mb b T0 A, IsP n g) (hf : Few ls n m) (hx : Nx (Mb b T0 A) n A B) (hne : B.length ≠ A.length) : Sf b ls n T0 (j + 1) (pre ++ [A]) B := by
  obtain ⟨Bt, Bs⟩ := h.tm.next hls hms hx
  have hh := hx.half hls hms hf h.tm hne h.nd
  refine ⟨by rw [List.length_append, h.len]; rfl, hx.nd, hx.asc, ⟨Bt.sub, Bt.still, Bt.pr, fun t ht g hg => Bt.cm t ht g (mb_sub Bs g hg)⟩, ?_, ?_, fun i X Y h1 h2 => ?_⟩
  · have e : B.length * 2 ^ (j + 1) = (2 * B.length) * 2 ^ j := by rw [Nat.pow_succ, Nat.mul_comm 2, Nat.mul_assoc, Nat.mul_comm 2]
    rw [e]
    exact Nat.le_trans (Nat.mul_le_mul_right _ hh) h.few
  · rw [List.getElem?_append_left (by rw [List.length_append]; show 0 < pre.length + 1; omega)]
    exact h.head
  · by_cases hi : i + 1 < (pre ++ [A]).length
    · rw [List.getElem?_append_left hi] at h2
      rw [List.getElem?_append_left (by omega)] at h1
      exact h.step i X Y h1 h2
    · have l2 := (List.getElem?_eq_some_iff.mp h2).1
      rw [List.length_append] at l2
      have e0 : ([B] : List (List (List Nat))).length = 1 := rfl
      have e1 : ([A] : List (List (List Nat))).length = 1 := rfl
      have ei : i + 1 = (pre ++ [A]).length := by omega
      have ei2 : i = pre.length := by
        rw [List.length_append] at ei
        omega
      rw [ei, List.getElem?_concat_length] at h2
      rw [List.getElem?_append_left (by omega), ei2, List.getElem?_concat_length] at h1
      rw [← Option.some.inj h1, ← Option.some.inj h2]
      exact ⟨hx, hne⟩
theorem Sf.done {b : Bool} {ls T0 A : List (List Nat)} {n j : Nat} {pre : List (List (List Nat))} (h : Sf b ls n T0 j pre A) (hx : ∃ B, Nx (Mb b T0 A) n A B ∧ B.length = A.length) : SerM (Mb b T0) n T0 (pre ++ [A]) := by
  refine ⟨h.head, h.step, fun i X h1 h2 => ?_⟩
  have l1 := (List.getElem?_eq_some_iff.mp h1).1
  have l2 := List.getElem?_eq_none_iff.mp h2
  have e0 : ([A] : List (List (List Nat))).length = 1 := rfl
  rw [List.length_append] at l1 l2
  have ei : i = pre.length := by omega
  rw [ei, List.getElem?_concat_length] at h1
  rw [← Option.some.inj h1]
  exact hx
theorem LF.dp {K : PySem.W.Frag} {H : Hp} {a : Addr} {ts : List (List Nat)} (h : LF H a ts) : Dp K H (.ref a) (.list (ts.map dT)) := h.lt.dp
/-- a list apart from another one -/
def LVn (fl : Addr) (H : Hp) (v : V) (ts : List (List Nat)) : Prop := ∃ a, v = .ref a ∧ a ≠ fl ∧ LF H a ts
theorem LVn.same {fl : Addr} {H H' : Hp} {v : V} {ts : List (List Nat)} (e : Same H H') (h : LVn fl H v ts) : LVn fl H' v ts := let ⟨a, e1, hn, h1⟩ := h; ⟨a, e1, hn, h1.same e⟩
theorem LVns.same {fl : Addr} {H H' : Hp} (e : Same H H') {xs : List V} {ts : List (List (List Nat))} (p : Paired (LVn fl H) xs ts) : Paired (LVn fl H') xs ts := paired_mono (fun _ _ r => r.same e) p
theorem LF.upd {fl a : Addr} {H : Hp} {ys : List V} {o : HO} {ts : List (List Nat)} (h : LF H a ts) (hn : a ≠ fl) (hf : H fl = some (.lst ys)) : LF (upd H fl o) a ts := let ⟨xs, h1, h2⟩ := h; ⟨xs, (upd_ne hn).trans h1, TFs.tm (.lst hf) h2⟩
theorem LVns.upd {fl : Addr} {H : Hp} {ys : List V} {o : HO} (hf : H fl = some (.lst ys)) {xs : List V} {ts : List (List (List Nat))} (p : Paired (LVn fl H) xs ts) : Paired (LVn fl (upd H fl o)) xs ts := paired_mono (fun _ _ r => let ⟨a, e1, hn, h1⟩ := r; ⟨a, e1, hn, h1.upd hn hf⟩) p
theorem LVns.out {fl : Addr} {H : Hp} {xs : List V} {ts : List (List (List Nat))} (p : Paired (LVn fl H) xs ts) : Paired (LV H) xs ts := paired_mono (fun _ _ r => let ⟨a, e1, _, h1⟩ := r; ⟨a, e1, h1⟩) p
theorem iList_if {K : PySem.W.Frag} {ta tb : TE} {i : Nat} {σ : L2.St} {H : Hp} {R : It → Hp → Prop} {b : Bool} {ma : Addr} {mx : List V} (hσ : σ[i]? = some (some (.bl b))) (hm : H ma = some (.lst mx)) (hA : b = true → ∀ Q : VK, Q (.ref ma) H → ta σ H Q) (hB : b = false → ∀ Q : VK, Q (.ref ma) H → tb σ H Q)
    (hR : R (Itl K ma) H) : iList K (tIf (tB (tVar i)) ta tb) σ H R := by
  refine ⟨_, hσ, b, rfl, ?_⟩
  cases b
  · exact iteF (hB rfl _ ⟨ma, rfl, ⟨_, SqL.of hm⟩, hR⟩)
  · exact iteT (hA rfl _ ⟨ma, rfl, ⟨_, SqL.of hm⟩, hR⟩)
section
variable {P : Program} {w : World} {K : PySem.W.Frag} {mg : Str → Option Value} {base : Heap}
def spTerms : Sp := fun vs H Q _ => ∃ (v : V) (b : Bool) (ls : List (List Nat)) (n : Nat), vs = [v, .bl b] ∧ TT H v ls ∧ GL ls n ∧ Few ls n 60 ∧
  ∀ p H' xs Ts T0, Same H H' → H p = none → H' p = some (.lst xs) → Paired (LV H') xs Ts → T0.Nodup → Asc T0 → (∀ t, t ∈ T0 ↔ Mk ls n t) → SerM (Mb b T0) n T0 Ts → Q (.ref p) H'
theorem sc_law_terms : FnScope ["lock", "by_all", "places", "whole", "found", "turn", "given", "one", "later", "other"] ["lock", "by_all"] (defScope s_law_terms) := ⟨rfl, rfl, rfl, by decide +kernel, rfl, by decide +kernel, by decide +kernel⟩
theorem has_law_terms (T : Top K mg "_law_terms" s_law_terms ["lock", "by_all"]) (B : Bi mg) (hS : Has P w K mg base CX0 2 "_law_span" ["places", "given"] spSpan) (hW : Has P w K mg base CX0 2 "_law_swap" ["one", "other"] spLawSwap) : Has P w K mg base CX0 3 "_law_terms" ["lock", "by_all"] spTerms := by
  refine T.ok sc_law_terms (fun vs H Q E h => ?_) (fun f cdv A outer s H vs Q E hr h => ?_)
  · obtain ⟨v, b, ls, n, rfl, _⟩ := h
    rfl
  · obtain ⟨v, b, ls, n, rfl, htt, hgl, hf, q⟩ := h
    have hu := hr.units
    obtain ⟨l1, l4, n2, n9, hls⟩ := id hgl
    refine ⟨_, pss_cons (ps_set (i := 2) sc_law_terms.nd rfl (Or.inl rfl) (pe_callB call_len_seq (by rfl) B.len PySem.boot_len (pa_cons (pe_ix ix_tup (pv 0) pe_int (fun _ _ => rfl)) pa_nil)))
      (pss_cons (ps_set (i := 3) sc_law_terms.nd rfl (Or.inl rfl) (pe_has hS hr (by rfl) (pa_cons (pv 2) (pa_cons (pv 0) pa_nil))))
      (pss_cons (ps_set (i := 4) sc_law_terms.nd rfl (Or.inl rfl) (pe_lst (pa_cons (pv 3) pa_nil)))
      (pss_cons (ps_for PassesOwn.never rfl (pi_range1 (by rfl) B.range (pa_cons pe_int pa_nil)) (pg_name (i := 5) sc_law_terms.nd rfl (Or.inl rfl))
        (pss_cons (ps_set (i := 6) sc_law_terms.nd rfl (Or.inl rfl) (pe_lst pa_nil))
        (pss_cons (ps_for PassesOwn.never rfl (pi_list (pe_ix ix_list (pv 4) (pe_un un_neg pe_int) (fun _ _ => rfl))) (pg_name (i := 7) sc_law_terms.nd rfl (Or.inr rfl))
          (pss_one (ps_set (i := 6) sc_law_terms.nd rfl (Or.inl rfl) (pe_op op_cat (pv 6) (pe_lc (own := [("other", 9)]) (g := gName 9) (te := tCall spLawSwap [] E0 (tCons (tVar 7) (tCons (tVar 9) tNil))) (by rfl) sc_law_terms.nd
            (pi_list (pe_ifExp (pt_val (pv 1)) (pv 3) (pe_ix ix_list (pv 4) (pe_un un_neg pe_int) (fun _ _ => rfl))))
            (blkOk_by (own := [("other", 9)]) (N := ["lock", "by_all", "places", "whole", "found", "turn", "given", "one", "later", "other"]) (sc := defScope s_law_terms) (by decide +kernel))
            (fun _ _ _ _ _ => pg_name (i := 9) sc_law_terms.nd rfl (Or.inl rfl)) (fun _ _ _ _ _ => pts_nil) (fun _ _ _ _ _ => pe_has hW hr (by rfl) (pa_cons (pv 7) (pa_cons (pv 9) pa_nil))))))))
        (pss_cons (ps_set (i := 8) sc_law_terms.nd rfl (Or.inl rfl) (pe_has hS hr (by rfl) (pa_cons (pv 2) (pa_cons
            (pe_callB (cr_sortedT (by rfl)) (by rfl) B.sorted PyProof.Rows.boot_sorted (pa_cons (pe_callTy (cr_setFew (by rfl) hu) (by rfl) B.set PyProof.Rows.boot_set (pa_cons (pv 6) pa_nil)) pa_nil)) pa_nil))))
        (pss_cons (ps_if (pt_cmpR (op_eqD hu) (pv 8) (pe_ix ix_list (pv 4) (pe_un un_neg pe_int) (fun _ _ => rfl)) (nomark _)) (pss_one (ps_ret (pv 4))) pss_nil)
        (pss_one (ps_expr (pe_bm PySem.F.plainAttrs_list PySem.F.slot_list_append PySem.F.type_list_append mt_append (pv 4) (pa_cons (pv 8) pa_nil)))))))))
      (pss_one (ps_ret (pv 4)))))), ?_⟩
    obtain ⟨a0, xs0, b0, rfl, ha0, hp0, h00, t00, hbt0, htl0⟩ := htt.head hgl
    refine ⟨_, rfl, a0, xs0, 0, .ref b0, rfl, rfl, SqT.of ha0, h00, b0, _, rfl, .inr hbt0.sq, ?_⟩
    rw [nIs_len, htl0]
    refine ⟨_, rfl, _, rfl, .ref a0, ls, n, rfl, .inl ⟨a0, xs0, rfl, ha0, hp0⟩, hls, by omega, n9, by omega, hf.mono (by omega), fun wa H1 T0 s1 hwa hlf0 hnd hmem hasc => ?_⟩
    have h60 : T0.length ≤ 60 := hf.le hnd fun t h => (hmem t).mp h
    have hT0P : ∀ t ∈ T0, IsP n t := fun t ht => ((hmem t).mp ht).isP hls
    refine ⟨_, rfl, Nat.le_of_ble_eq_true rfl, fun fl hfl => ?_⟩
    have s2 := same_new (o := .lst [V.ref wa]) hfl
    have fl0 : H fl = none := s1.free hfl
    have wafl : wa ≠ fl := fun z => by
      obtain ⟨wx, hwx, _⟩ := hlf0
      rw [z, hfl] at hwx
      cases hwx
    have hw0 := (Tm1.whole hls hf hmem)
    refine ⟨9, rfl, by decide, by decide, for_range (lo := 0) (n := 9) (fun j σ H' => ∃ x5 x6 x7 x8 x9 xs za pre A, σ = [some (.ref a0), some (.bl b), some (nI n), some (.ref wa), some (.ref fl), x5, x6, x7, x8, x9] ∧ Same H1 H' ∧ H' fl = some (.lst (xs ++ [.ref za])) ∧ Paired (LVn fl H') xs pre ∧ za ≠ fl ∧ LF H' za A ∧ Sf b ls n T0 j pre A)
      ⟨none, none, none, none, none, [], wa, [], T0, rfl, s2, upd_same, .nil, wafl, hlf0.same s2, ⟨rfl, hnd, hasc, ?_, by simpa using h60, rfl, fun i X Y h1 h2 => ?_⟩⟩ ?_ ?_⟩
    · cases b
      · exact hw0.self hls hf hmem
      · exact hw0.self hls hf hmem
    · have := (List.getElem?_eq_some_iff.mp h2).1
      simp at this
    · rintro j σ H' hj ⟨x5, x6, x7, x8, x9, xs, za, pre, A, rfl, st, hfl', pxs, zafl, hza, sf⟩
      have hAP : ∀ t ∈ A, IsP n t := fun t ht => (sf.tm.sub t ht).isP hls
      have hA60 : A.length ≤ 60 := hf.le sf.nd sf.tm.sub
      have hMP : ∀ t ∈ Mb b T0 A, IsP n t := by
        cases b
        · exact hAP
        · exact hT0P
      have hM60 : (Mb b T0 A).length ≤ 60 := by
        cases b
        · exact hA60
        · exact h60
      have hwa' : LF H' wa T0 := hlf0.same st
      refine ⟨Nat.zero_le _, fun g0 hg0 => ?_⟩
      have s3 := same_new (o := .lst []) hg0
      obtain ⟨zx, hzx, pzx⟩ := hza
      refine ⟨_, rfl, 1, rfl, fl, xs ++ [.ref za], -1, .ref za, rfl, rfl, SqL.of (s3 _ _ hfl'), atI_last xs (.ref za), za, rfl, ⟨_, SqL.of (s3 _ _ hzx)⟩, for_list (K := K) (a := za) (xs := zx)
        (fun i σ H2 => ∃ ga gxs x7 x8 x9, σ = [some (.ref a0), some (.bl b), some (nI n), some (.ref wa), some (.ref fl), some (nI j), some (.ref ga), x7, x8, x9] ∧ Same H' H2 ∧ H2 ga = some (.lst gxs) ∧ Paired (TK H2) gxs (brk (A.take i) (Mb b T0 A)))
        ⟨g0, [], x7, x8, x9, by rw [Int.zero_add]; rfl, s3, upd_same, .nil⟩ (fun i σ H2 _ ⟨_, _, _, _, _, _, sm, _⟩ => SqL.of (sm _ _ hzx)) ?_ ?_⟩
      · rintro i x σ H2 hi ⟨ga, gxs, y7, y8, y9, rfl, sm, hga, pgx⟩
        obtain ⟨t, ht, htf0⟩ := Paired.getL pzx hi
        have htP := hAP t (List.mem_of_getElem? ht)
        have htf : TF H2 x t := htf0.tm (.of sm)
        have hil : i < 60 := by
          have := (List.getElem?_eq_some_iff.mp ht).1
          omega
        have gl : gxs.length ≤ 3600 := by
          rw [Paired.length pgx, brk_len]
          have e1 : (A.take i).length ≤ 60 := by rw [List.length_take]; omega
          exact Nat.mul_le_mul e1 hM60
        have hfl2 := sm _ _ hfl'
        obtain ⟨ma, mx, hma, pmx, mA, mB⟩ : ∃ ma mx, H2 ma = some (.lst mx) ∧ Paired (TF H2) mx (Mb b T0 A) ∧ (b = true → ma = wa) ∧ (b = false → ma = za) := by
          cases b
          · exact ⟨za, zx, sm _ _ hzx, TFs.tm (.of sm) pzx, ⟨(fun h => nomatch h), fun _ => rfl⟩⟩
          · obtain ⟨wx, hwx, pwx⟩ := hwa'
            exact ⟨wa, wx, sm _ _ hwx, TFs.tm (.of sm) pwx, ⟨fun _ => rfl, (fun h => nomatch h)⟩⟩
        refine ⟨_, rfl, iList_if (b := b) (ma := ma) (mx := mx) rfl hma (fun hb Q hQ => ?_) (fun hb Q hQ => ?_) (fun D hD => ?_)⟩
        · rw [mA hb] at hQ
          exact ⟨_, rfl, hQ⟩
        · rw [mB hb] at hQ
          exact ⟨_, rfl, 1, rfl, fl, xs ++ [.ref za], -1, .ref za, rfl, rfl, SqL.of hfl2, atI_last xs (.ref za), hQ⟩
        refine lc_listM (K := K) TK ((Mb b T0 A).map (cm t)) (fun _ _ _ _ e r => TK.tm e r) (fun H3 s3 => SqL.of (s3 _ _ hma)) (by rw [Paired.length pmx]; omega) (by rw [List.length_map, Paired.length pmx]) hD (fun _ => rfl) (fun k y b2 hy hb H3 s3 Q' q' => ?_) (fun H3 zs s3 hz pz => ?_)
        · obtain ⟨g, hgk, hyg⟩ := Paired.getL pmx hy
          rw [List.getElem?_map, hgk] at hb
          have hb := Option.some.inj hb
          subst hb
          have hgP := hMP g (List.mem_of_getElem? hgk)
          refine ⟨_, rfl, _, rfl, x, y, t, g, n, rfl, htf.tm (.of s3), hyg.tm (.of s3), htP, hgP, by omega, fun v H' s4 tk => q' v H' s4 ?_⟩
          rw [cm_eq htP hgP] at tk
          exact tk
        · have hga3 := s3 _ _ hga
          have zl : zs.length ≤ 60 := by
            rw [Paired.length pz, List.length_map]
            exact hM60
          refine ⟨ga, D, gxs, zs, rfl, rfl, hga3, hz, by rw [sizeLine_eq]; omega, fun np hnp => ?_⟩
          have s4 := same_new (o := .lst (gxs ++ zs)) hnp
          refine ⟨np, _, _, _, _, rfl, sm.trans (s3.trans s4), upd_same, ?_⟩
          rw [brk_next ht]
          exact Paired.app (TKs.tm (.of (s3.trans s4)) pgx) (TKs.tm (.of s4) pz)
      · rintro σ H2 ⟨ga, gxs, y7, y8, y9, rfl, sm, hga, pgx⟩
        rw [Paired.length pzx, List.take_length] at pgx
        have hbP : ∀ t ∈ brk A (Mb b T0 A), IsP n t := fun t ht => by
          obtain ⟨x, h1, y, h2, rfl⟩ := brk_mem.mp ht
          exact (hAP x h1).cm (hMP y h2)
        have hbL : ∀ t ∈ brk A (Mb b T0 A), Mk ls n t := fun t ht => by
          obtain ⟨x, h1, y, h2, rfl⟩ := brk_mem.mp ht
          exact sf.tm.sub _ (sf.tm.cm x h1 y h2)
        refine ⟨_, rfl, srt_set (n := n) (g := 6) rfl hga pgx hbP (by omega) n9 (fun us und hus => hf.le und fun u hu => hbL u (hus u hu)) fun sp H3 us s3 hlt und umem ul => ?_⟩
        have usP : ∀ t ∈ us, IsP n t := fun t ht => hbP t ((umem t).mp ht)
        have hmk : ∀ t, Mk us n t ↔ Mk (brk A (Mb b T0 A)) n t := fun t => ⟨fun h => h.mono hbP fun g hg => .one hbP ((umem g).mp hg), fun h => h.mono usP fun g hg => .one usP ((umem g).mpr hg)⟩
        refine ⟨.ref sp, us, n, rfl, .inr ⟨sp, rfl, hlt⟩, usP, by omega, n9, ul, (hf.mono (by omega)).sub fun t h => h.mono hls fun g hg => hbL g ((umem g).mp hg), fun p H4 B s4 hp hlf bnd bmem basc => ?_⟩
        have nx : Nx (Mb b T0 A) n A B := ⟨bnd, basc, fun t => (bmem t).trans (hmk t)⟩
        have s24 := (sm.trans s3).trans s4
        have hfl4 := s24 _ _ hfl'
        have hza4 : LF H4 za A := LF.same ⟨zx, hzx, pzx⟩ s24
        refine ⟨_, rfl, _, rfl, 1, rfl, fl, xs ++ [.ref za], -1, .ref za, rfl, rfl, SqL.of hfl4, atI_last xs (.ref za), .list (B.map dT), .list (A.map dT), hlf.dp, hza4.dp, sh_LT _, sh_LT _, decide (B = A), congrArg V.bl (eqv_dTT B A), ite2 (fun e => ?_) (fun e => ?_)⟩
        · have e : B = A := of_decide_eq_true e
          refine ⟨_, rfl, ?_⟩
          have sH := (s1.trans st).trans s24
          exact q fl H4 (xs ++ [.ref za]) (pre ++ [A]) T0 sH fl0 hfl4 (Paired.app (LVs.same s24 (LVns.out pxs)) (Paired.one ⟨za, rfl, hza4⟩)) hnd hasc hmem (sf.done ⟨B, nx, by rw [e]⟩)
        · have e : ¬ B = A := fun z => e (decide_eq_true z)
          obtain ⟨_, Bs⟩ := sf.tm.next hls hMP nx
          have hne : B.length ≠ A.length := fun z => e (asc_one n9 (fun t ht => hAP t (Bs t ht)) ((List.perm_ext_iff_of_nodup bnd sf.nd).mpr fun t => ⟨Bs t, fun ht => Classical.byContradiction fun hn => by
            have l := nodup_len (t :: B) A (List.nodup_cons.mpr ⟨hn, bnd⟩) fun x hx => by
              rcases List.mem_cons.mp hx with y | y
              · rw [y]
                exact ht
              · exact Bs x y
            have e1 : (t :: B).length = B.length + 1 := rfl
            omega⟩) basc sf.asc)
          have pl : pre.length ≤ 9 := by rw [sf.len]; omega
          refine ⟨_, rfl, .inl ⟨rfl, _, SqL.of hfl4⟩, _, rfl, fl, _, .ref p, rfl, rfl, hfl4, by rw [sizeLine_eq, List.length_append, Paired.length pxs]; show pre.length + 1 < 16777216; omega, ?_⟩
          have pfl : p ≠ fl := fun z => by
            have y := s3 _ _ (sm _ _ hfl')
            rw [← z, hp] at y
            cases y
          have t7 := Tm.lst (o := .lst ((xs ++ [V.ref za]) ++ [V.ref p])) hfl4
          refine ⟨_, _, _, _, _, xs ++ [.ref za], p, pre ++ [A], B, rfl, same_mut (st.trans s24) hfl, upd_same, LVns.upd hfl4 (Paired.app (LVns.same s24 pxs) (Paired.one ⟨za, rfl, zafl, hza4⟩)), pfl, hlf.upd pfl hfl4, sf.next hls hMP hf nx hne⟩
    · rintro σ H' ⟨x5, x6, x7, x8, x9, xs, za, pre, A, rfl, st, hfl', pxs, zafl, hza, sf⟩
      have := sf.few
      have : 1 ≤ A.length := List.length_pos_of_mem sf.tm.still
      omega
end
end Lt

set_option Elab.async false
set_option linter.all false
set_option maxRecDepth 100000
set_option maxHeartbeats 4000000
/-! k10: the law's try statement -/
namespace Lt
open PySem PySem.Spec PyProof.Rows L2 MaX
abbrev lawN : List Str := ["script", "row", "lock", "fine", "inputs", "tree", "text", "due", "steps", "turn", "values", "e", "bits", "one"]
theorem sc_law : FnScope lawN ["script"] (defScope s_law) := ⟨rfl, rfl, rfl, by decide +kernel, rfl, by decide +kernel, by decide +kernel⟩
theorem valS_Kf {n k : Nat} {ss : List StepT} (h : ∀ s ∈ ss, s.1 < k) (i : Nat) : valS n ss (bitsR k i) = valK n ss i := by
  unfold valS valK
  have go : ∀ (ss : List StepT) (c : List Nat), (∀ s ∈ ss, s.1 < k) → ss.foldl (stepV (bitsR k i)) c = ss.foldl (fun c s => prod c (if i / 2 ^ s.1 % 2 = 1 then s.2.2 else s.2.1)) c := by
    intro ss
    induction ss with
    | nil => intro c _; rfl
    | cons s ss ih =>
      intro c h
      rw [List.foldl_cons, List.foldl_cons]
      have e : stepV (bitsR k i) c s = prod c (if i / 2 ^ s.1 % 2 = 1 then s.2.2 else s.2.1) := by
        unfold stepV
        rw [List.getD_eq_getElem?_getD, bitsR_get (h s List.mem_cons_self)]
        rfl
      rw [e]
      exact ih _ fun s' hs => h s' (List.mem_cons_of_mem _ hs)
  exact go ss _ h
theorem ne_TK {K : PySem.W.Frag} {H : Hp} {r v : V} {t u : List Nat} {Q : VK} (h1 : TK H r t) (h2 : TK H v u) (q : Q (.bl (!decide (t = u))) H) : rNeD K r v H Q := by
  refine ⟨dT t, dT u, h1.tn.dp, h2.tn.dp, sh_T _, sh_T _, ?_⟩
  rw [eqv_dT]
  exact q
/-- all that the law calls -/
structure LawHasF (P : Program) (w : World) (K : PySem.W.Frag) (mg : Str → Option Value) (base : Heap) (CW CY CN CR CT : Addr) : Prop where
  bi : Bi mg
  taken : Has P w K mg base CX0 1 "_law_taken" ["row", "many"] (spTaken K)
  lock : Has P w K mg base CX0 4 "_law_lock" ["row", "kinds"] (spLockD K)
  terms : Has P w K mg base CX0 3 "_law_terms" ["lock", "by_all"] spTerms
  tree : Has P w K mg base CX0 6 "_law_tree" ["row", "inputs", "deep"] (spLT K 4)
  text : Has P w K mg base CX0 6 "_law_text" ["row", "tree"] (spLTxt K 4)
  worth : Has P w K mg base CX0 6 "_law_worth" ["tree", "bits"] (spLW 4)
  bits : Has P w K mg base CX0 1 "_law_bits" ["inputs"] spLBits
  value : Has P w K mg base CX0 2 "_law_value" ["places", "steps", "bits"] spValue
  formula : Has P w K mg base (L2.CX P w) 34 "formula_row" ["lock", "inputs", "text"] (spFormula CW)
  written : Has P w K mg base (L2.CX P w) 6 "written" ["lock", "inputs", "row", "turn"] (spWritten CN CR CT)
  tabE : Has P w K mg base (L2.CX P w) 27 "table_of" ["inputs", "text"] spTabE
  eW : Err0 K mg "NoWay" CW
  eY : ErrI P w K mg base "TooMany" "most" CY
def clF (K : PySem.W.Frag) (CW CY : Addr) : List Cl := [(.ref CW, fun a cls d => tRet (tNotV (tVar 3))), (.ref CY, fun a cls d => tRet (tAndV (tVar 3) (tOp rEq (tXf a cls d CY "most" (tVar 11)) (tC (.int 6000)))))]
section
variable {P : Program} {w : World} {K : PySem.W.Frag} {mg : Str → Option Value} {base : Heap} {CW CY CN CR CT : Addr}
/-- what is known behind the draws -/
structure TryF (K : PySem.W.Frag) (CW : Addr) (H : Hp) (v dv : V) (ls : List (List Nat)) (n m : Nat) (x : Str) (f : Fm) (b : Bool) (kn : List Str) : Prop where
  good : Good H v ls n
  m1 : 1 ≤ m
  m6 : m ≤ 6
  hx : x.length ≤ 1000
  ok : f.Ok m
  deep : f.deep ≤ 3
  words : (lexWords x).map (·.2) = f.spell ++ [wVoid]
  kno : KnOk kn
  lk : LkD kn ls n ∨ n ≤ 4
  due : TK H dv (tabF m f)
  un : Unso ls n → b = true
  so : Solv ls n → b = false
def tyB : List Stmt := match (defBody s_law).getD 6 (.Pass ⟨0, 0, 0, 0⟩) with
  | .Try b _ _ _ _ => b
  | _ => []
abbrev tyBody : List Stmt := [tyB.getD 0 (.Pass ⟨0, 0, 0, 0⟩), tyB.getD 1 (.Pass ⟨0, 0, 0, 0⟩), tyB.getD 2 (.Pass ⟨0, 0, 0, 0⟩), tyB.getD 3 (.Pass ⟨0, 0, 0, 0⟩)]
abbrev lawX (P : Program) (w : World) (K : PySem.W.Frag) (mg : Str → Option Value) (base : Heap) (f : Addr) (cdv : Value) (A : Around) (outer : List Env) (s : Shared) (H : Hp) (E : XK) : Cx := (cxOf CX0 P w K mg base lawN "law" (defScope s_law) f cdv A outer s H E).nox
def tTk (K : PySem.W.Frag) : TE := tCB (rLenS K) (tCons (tOp (rIxT K) (tVar 2) (tC (.int 0))) tNil)
def tFl (K : PySem.W.Frag) : L2.TT := tAnd (tTest (tOp (rNeD K) (tVar 13) (tVar 9))) (tTest (tOp (rNeD K) (tVar 13) (tTupRg (tRg1 (tTk K)))))
def tyIf (K : PySem.W.Frag) (CN CR CT : Addr) : TS := tIfS (tOr (tNot (tB (tVar 3))) (tOr (tTest (tOp (rNeD K) (tCall (spWritten CN CR CT) [] E0 (tCons (tVar 2) (tCons (tVar 4) (tCons (tVar 8) (tCons (tVar 9) tNil))))) (tVar 7))) (tTest (tOp (rNeD K) (tCall spTabE [] E0 (tCons (tVar 4) (tCons (tVar 6) tNil))) (tVar 7))))) (tRet (tC (.bl false))) tNext
def tyVals (P : Program) (w : World) (K : PySem.W.Frag) : TE := tCB (rSortedT K P w) (tCons (tCB (rSetFew K P w) (tCons (tLc (iList K (tCall spLBits [] E0 (tCons (tVar 4) tNil))) (gName 12) tYes (tCall spValue [] E0 (tCons (tTk K) (tCons (tVar 8) (tCons (tVar 12) tNil)))) [12]) tNil)) tNil)
def tyRet (K : PySem.W.Frag) : TS := tRet (tOp (rEqD K) (tLc (iList K (tVar 10)) (gName 13) (tFl K) (tVar 13) [13]) (tLst tNil))
def tyTb (P : Program) (w : World) (K : PySem.W.Frag) (CW CN CR CT : Addr) (W : WX) : TS := tSeq (tAsg (tCallS (spFormula CW) (WE W) (tCons (tVar 2) (tCons (tVar 4) (tCons (tVar 6) tNil)))) (gTup K 2 (gCons (gName 8) (gCons (gName 9) gNil)))) (tSeq (tyIf K CN CR CT) (tSeq (tAsg (tyVals P w K) (gName 10)) (tyRet K)))
theorem try_body {f0 : Addr} {cdv : Value} {A : Around} {outer : List Env} {s0 : Shared} {H0 : Hp} {E0' : XK} (hr : Room 34 (lawX P w K mg base f0 cdv A outer s0 H0 E0').A) (L : LawHasF P w K mg base CW CY CN CR CT) (W : WX) (pn : List (Addr × Obj)) (xe : Value → Shared → Prop) (tk : Takes ((lawX P w K mg base f0 cdv A outer s0 H0 E0').tr pn xe) W) :
    PSs ((lawX P w K mg base f0 cdv A outer s0 H0 E0').tr pn xe) tyBody (tyTb P w K CW CN CR CT W) := by
  have B := L.bi
  have hr : Room 34 ((lawX P w K mg base f0 cdv A outer s0 H0 E0').tr pn xe).A := hr
  have hu := hr.units
  have hr1 : Room 1 ((lawX P w K mg base f0 cdv A outer s0 H0 E0').tr pn xe).A := hr.mono (by decide)
  have hr2 : Room 2 ((lawX P w K mg base f0 cdv A outer s0 H0 E0').tr pn xe).A := hr.mono (by decide)
  have hr6 : Room 6 ((lawX P w K mg base f0 cdv A outer s0 H0 E0').tr pn xe).A := hr.mono (by decide)
  have hr27 : Room 27 ((lawX P w K mg base f0 cdv A outer s0 H0 E0').tr pn xe).A := hr.mono (by decide)
  refine pss_cons (ps_asg (pe_hasS L.formula hr (by rfl) (fun σ => passAt tk σ) (pa_cons (pv 2) (pa_cons (pv 4) (pa_cons (pv 6) pa_nil)))) (pg_tup rfl (pgs_cons (pg_name (i := 8) sc_law.nd rfl (Or.inr rfl)) (pgs_cons (pg_name (i := 9) sc_law.nd rfl (Or.inr rfl)) pgs_nil)))) (pss_cons ?_ (pss_cons ?_ (pss_one ?_)))
  · exact ps_if (PW.pt (pw_or (pt_not (pt_val (pv 3))) (pw_or (pt_cmpR (op_neD hu) (pe_hasL L.written hr6 (by rfl) (pa_cons (pv 2) (pa_cons (pv 4) (pa_cons (pv 8) (pa_cons (pv 9) pa_nil))))) (pv 7) (nomark _)) (pw_or1 (pt_cmpR (op_neD hu) (pe_hasL L.tabE hr27 (by rfl) (pa_cons (pv 4) (pa_cons (pv 6) pa_nil))) (pv 7) (nomark _)))))) (pss_one (ps_ret pe_bl)) pss_nil
  · exact ps_set (i := 10) sc_law.nd rfl (Or.inl rfl) (pe_callB (cr_sortedT (by rfl)) (by rfl) B.sorted PyProof.Rows.boot_sorted (pa_cons (pe_callTy (cr_setFew (by rfl) hu) (by rfl) B.set PyProof.Rows.boot_set (pa_cons
        (pe_lc (own := [("bits", 12)]) (g := gName 12) (te := tCall spValue [] E0 (tCons (tTk K) (tCons (tVar 8) (tCons (tVar 12) tNil)))) (by rfl) sc_law.nd (pi_list (pe_has L.bits hr1 (by rfl) (pa_cons (pv 4) pa_nil))) (blkOk_by (own := [("bits", 12)]) (N := lawN) (sc := defScope s_law) (by decide +kernel))
          (fun _ _ _ _ _ => pg_name (i := 12) sc_law.nd rfl (Or.inl rfl)) (fun _ _ _ _ _ => pts_nil) (fun _ _ _ _ _ => by exact (pe_has L.value hr2 (by rfl) (pa_cons (pe_callB call_len_seq (by rfl) B.len PySem.boot_len (pa_cons (pe_ix ix_tup (pv 2) pe_int (fun _ _ => rfl)) pa_nil)) (pa_cons (pv 8) (pa_cons (pv 12) pa_nil)))))) pa_nil)) pa_nil))
  · exact ps_ret (pe_cmpR (op_eqD hu) (pe_lc (own := [("one", 13)]) (g := gName 13) (te := tVar 13) (tt := tFl K) (by rfl) sc_law.nd (pi_list (pv 10)) (blkOk_by (own := [("one", 13)]) (N := lawN) (sc := defScope s_law) (by decide +kernel))
          (fun _ _ _ _ _ => pg_name (i := 13) sc_law.nd rfl (Or.inl rfl)) (fun _ _ _ _ _ => by exact (pts_one (PW.pt (pw_and (pt_cmpR (op_neD (by exact hu)) (pv 13) (pv 9) (nomark _)) (pw_and1 (pt_cmpR (op_neD (by exact hu)) (pv 13) (pe_tupRg (by rfl) (by rfl) B.tuple (prg_1 (by rfl) B.range (pe_callB call_len_seq (by rfl) B.len PySem.boot_len (pa_cons (pe_ix ix_tup (pv 2) pe_int (fun _ _ => rfl)) pa_nil)))) (nomark _))))))) (fun _ _ _ _ _ => pv 13)) (pe_lst pa_nil) (nomark _))
end
end Lt

set_option Elab.async false
set_option linter.all false
set_option maxRecDepth 100000
set_option maxHeartbeats 4000000
/-! k10: what the try statement comes to -/
namespace Lt
open PySem PySem.Spec PyProof.Rows L2 MaX
theorem ne_TN {K : PySem.W.Frag} {H : Hp} {r v : V} {t u : List Nat} {Q : VK} (h1 : TN H r t) (h2 : TN H v u) (q : Q (.bl (!decide (t = u))) H) : rNeD K r v H Q := by
  refine ⟨dT t, dT u, h1.dp, h2.dp, sh_T _, sh_T _, ?_⟩
  rw [eqv_dT]
  exact q
theorem yes_tab {ls : List (List Nat)} {n m : Nat} {f : Fm} {ss : List StepT} {t : List Nat} (R : RowF ls n m f ss t) : yesT (valsK n m ss) t = tabF m f := by
  unfold yesT valsK tabF
  rw [List.map_map]
  refine List.map_congr_left fun p _ => ?_
  show (if valK n ss p = t then 1 else 0) = evF f p
  have h := evF_le f p
  rw [R.val p]
  by_cases e : evF f p = 1
  · rw [if_pos e, if_pos rfl, e]
  · rw [if_neg e, if_neg (fun z => R.ne z.symm)]
    omega
theorem srt_go {P : Program} {w : World} {K : PySem.W.Frag} {H : Hp} {n : Nat} {ga : Addr} {xs : List V} {ts : List (List Nat)} {Q : VK} (hga : H ga = some (.lst xs)) (p : Paired (TK H) xs ts) (hts : ∀ t ∈ ts, IsP n t) (h1 : 1 ≤ n) (h9 : n ≤ 9)
    (few : ∀ us : List (List Nat), us.Nodup → (∀ u ∈ us, u ∈ ts) → us.length ≤ 60) (q : ∀ sp H' us, Same H H' → LT H' sp us → us.Nodup → (∀ t, t ∈ us ↔ t ∈ ts) → us.length ≤ 60 → Q (.ref sp) H') :
    rSetFew K P w [.ref ga] H fun x H1 => rSortedT K P w [x] H1 Q := by
  obtain ⟨v, hv, z⟩ := srt_set (P := P) (w := w) (K := K) (g := 0) (σ := [some (.ref ga)]) (Q := fun vs H' => match vs with | [v] => Q v H' | _ => False) rfl hga p hts h1 h9 few q
  cases hv
  exact z
section
variable {P : Program} {w : World} {K : PySem.W.Frag} {CW CN CR CT : Addr}
theorem try_read {W : WX} {D : Ends} {H : Hp} {x0 x1 x5 x8 x9 x10 x11 x12 x13 : Option V} {v dv : V} {ls : List (List Nat)} {n m : Nat} {x : Str} {f : Fm} {b : Bool} {kn : List Str} (F : TryF K CW H v dv ls n m x f b kn)
    (hE : Solv ls n → Bad0 CW H (WE W [x0, x1, some v, some (.bl b), some (nI m), x5, some (.str x), some dv, x8, x9, x10, x11, x12, x13])) (q : ∀ H', D.rt (.bl true) H') :
    tyTb P w K CW CN CR CT W D [x0, x1, some v, some (.bl b), some (nI m), x5, some (.str x), some dv, x8, x9, x10, x11, x12, x13] H := by
  have g0 := F.good
  have hgl := g0.gl
  have n9 := hgl.2.2.2.1
  have hls := hgl.2.2.2.2
  have m6 := F.m6
  have h64 := pow6 m6
  refine ⟨_, rfl, _, rfl, _, rfl, v, ls, n, m, x, f, kn, rfl, g0, F.m1, F.m6, F.hx, F.ok, F.deep, F.words, F.kno, F.lk, hE, fun un p H1 rv tv ss t s1 hp hrw htk RF => ?_⟩
  obtain rfl : b = true := F.un un
  refine ⟨p, _, rfl, SqT.of hp, rfl, rv, _, rfl, tv, _, rfl, rfl, ?_⟩
  have g1 := g0.same s1
  have due1 := F.due.tm (.of s1)
  refine ⟨_, rfl, true, rfl, iteF ?_⟩
  refine ⟨_, rfl, _, rfl, _, rfl, _, rfl, v, rv, tv, ls, n, m, rfl, g1, F.m1, F.m6, .inl ⟨ss, hrw, RF.ok, .inl ⟨t, htk.tn, RF.made, fun r H2 s2 tr => ⟨_, rfl, ne_TK tr (due1.tm (.of s2)) ?_⟩⟩⟩⟩
  rw [yes_tab RF, decide_eq_true rfl]
  refine ⟨false, rfl, iteF ?_⟩
  refine ⟨_, rfl, _, rfl, m, x, f, rfl, F.m1, F.m6, F.hx, F.ok, by have := F.deep; omega, F.words, fun r2 H3 s3 tr2 => ⟨_, rfl, ne_TK tr2 (due1.tm (.of (s2.trans s3))) ?_⟩⟩
  rw [decide_eq_true rfl]
  refine ⟨false, rfl, iteF ?_⟩
  have s23 := s2.trans s3
  have g3 := g1.same s23
  have hrw3 := hrw.tm (.of s23)
  have htk3 := htk.tm (.of s23)
  have tP : IsP n t := RF.made.isP hls
  obtain ⟨la, lxs, lb, rfl, hla, hlp, hl0, t0, hbt, htl⟩ := g3.tt.head hgl
  obtain ⟨ra, rxs, rfl, hra, hrx⟩ := hrw3
  have two : ∀ i, valK n ss i = t ∨ valK n ss i = List.range n := fun i => by
    rw [RF.val i]
    split
    · exact .inl rfl
    · exact .inr rfl
  refine ⟨_, rfl, m, rfl, m6, fun lbb H4 s4 hlb ⟨xb, hxb, pxb⟩ => ⟨lbb, rfl, ⟨_, SqL.of hxb⟩, fun D1 hD1 => ?_⟩⟩
  have lxb := Paired.length pxb
  rw [rowsB_len] at lxb
  refine lc_listM (K := K) (j := 12) (xs := xb) TK (valsK n m ss) (fun _ _ _ _ e r => TK.tm e r) (fun H' s => SqL.of (s _ _ hxb)) (by omega) (by rw [valsK_len, lxb]) hD1 (fun x => rfl) (fun i x u hi hu H5 s5 Q5 q5 => ?_) (fun H5 zs s5 hz pz => ?_)
  · have him : i < 2 ^ m := by have := (List.getElem?_eq_some_iff.mp hi).1; omega
    obtain ⟨bt, hbt', ba, rfl, hba⟩ := Paired.getL pxb hi
    rw [rowsB_get him] at hbt'
    have hbt' := (Option.some.inj hbt').symm
    subst hbt'
    have eb : u = valS n ss (bitsR m i) := by
      unfold valsK at hu
      rw [List.getElem?_map, List.getElem?_range him] at hu
      rw [valS_Kf (k := m) (fun s hs => (RF.ok.ok s hs).1)]
      exact (Option.some.inj hu).symm
    subst eb
    have s45 := s4.trans s5
    refine ⟨_, rfl, la, lxs, 0, .ref lb, rfl, rfl, SqT.of (s45 _ _ hla), hl0, lb, _, rfl, .inr (hbt.tm (.of s45)).sq, _, rfl, _, rfl, n, m, .ref ra, ra, ba, rxs, ss, bitsR m i, ?_, rfl, s45 _ _ hra, ?_, fun s hs => ?_, ?_, n9, s5 _ _ hba, bitsR_len m i, fun x hx => bitsR_le hx, fun r H6 s6 tk => q5 _ H6 s6 tk⟩
    · rw [nIs_len, htl]
      rfl
    · exact paired_mono (fun _ _ ⟨p, x, y, e, h1, h2, h3⟩ => ⟨p, x, y, e, s45 _ _ h1, (h2.tm (.of s45)).tn, (h3.tm (.of s45)).tn⟩) hrx
    · obtain ⟨a1, a2, a3⟩ := RF.ok.ok s hs
      exact ⟨a1, a2.isP hls, a3.isP hls⟩
    · exact RF.short
  have hvs : ∀ t' ∈ valsK n m ss, IsP n t' := fun t' ht' => by
    obtain ⟨i, _, rfl⟩ := List.mem_map.mp ht'
    rcases two i with e | e
    · rw [e]; exact tP
    · rw [e]; exact .still n
  have hv2 : ∀ t' ∈ valsK n m ss, t' ∈ [t, List.range n] := fun t' ht' => by
    obtain ⟨i, _, rfl⟩ := List.mem_map.mp ht'
    rcases two i with e | e <;> rw [e] <;> simp
  dsimp only [tNil]
  refine srt_go hz pz hvs (by have := hgl.2.2.1; omega) n9 (fun us nd hu => by
    have := nodup_len _ [t, List.range n] nd fun u h => hv2 u (hu u h)
    have e : [t, List.range n].length = 2 := rfl
    omega) fun sp H6 us s6 hlt nd hmem l60 => ?_
  have s46 := s4.trans (s5.trans s6)
  obtain ⟨zx, hzx, pzx⟩ := hlt
  have lz := Paired.length pzx
  have htk6 := htk3.tm (.of s46)
  refine ⟨_, rfl, sp, rfl, ⟨_, SqL.of hzx⟩, fun D2 hD2 => lc_genF (J := Itl K sp) (n := zx.length) TN (fun _ => false) (fun _ => ([] : List Nat)) (fun _ _ _ _ e r => TN.tm e r) (by omega) hD2 (fun i H7 hi s7 => ⟨zx, _, SqL.of (s7 _ _ hzx), List.getElem?_eq_getElem hi⟩) (fun H7 s7 => ⟨zx, SqL.of (s7 _ _ hzx), Nat.le_refl _⟩) (fun i H7 x' H8 hi s7 y => ?_) (fun H7 zs2 s7 hz2 pr2 => ?_)⟩
  · obtain ⟨rfl, hx'⟩ := y
    have hx' := hx' _ (SqL.of (s7 _ _ hzx))
    obtain ⟨u, hu, ku⟩ := Lt.Paired.getL pzx hx'
    have hum := hv2 u ((hmem u).mp (List.mem_of_getElem? hu))
    have ku7 := ku.tm (.of s7)
    have s47 := s46.trans s7
    refine ⟨Same.refl _, _, fun Kk q => q, rfl, fun Q2 q2 => ?_, fun hp => by cases hp⟩
    refine ⟨_, rfl, _, rfl, ne_TN ku7 (htk6.tm (.of s7)).tn ?_⟩
    by_cases e : u = t
    · rw [decide_eq_true e]
      exact ⟨false, rfl, iteF (q2 _ (Same.refl _))⟩
    · rw [decide_eq_false e]
      refine ⟨true, rfl, iteT ?_⟩
      have e2 : u = List.range n := by
        rcases List.mem_cons.mp hum with z | z
        · exact absurd z e
        · exact List.mem_singleton.mp z
      have ll : (nIs t0).length = n := by rw [nIs_len, htl]
      refine ⟨_, rfl, _, rfl, la, lxs, 0, .ref lb, rfl, rfl, SqT.of (s47 _ _ hla), hl0, lb, _, rfl, .inr (hbt.tm (.of s47)).sq, _, rfl, .of_le (by omega) (by omega) (by omega) (by omega), fun p0 hp0 => ?_⟩
      have s8 := same_new (o := .tup (rgV 0 ((nIs t0).length : Int))) hp0
      refine ne_TN (ku7.tm (.of s8)) ⟨p0, rfl, .inl (by rw [upd_same, ll, rgV_nat])⟩ ?_
      rw [decide_eq_true e2]
      exact ⟨false, rfl, q2 _ s8⟩
  · have e0 : (List.range zx.length).filter (fun _ => false) = [] := List.filter_eq_nil_iff.mpr (fun _ _ h => by cases h)
    rw [e0, List.map_nil] at pr2
    cases pr2
    refine ⟨Nat.zero_le _, fun p0 hp0 => ?_⟩
    have s8 := same_new (o := .lst []) hp0
    exact ⟨.list [], .list [], Rp.dp _ _ (.lst (s8 _ _ hz2) .nil), Rp.dp _ _ (.lst upd_same .nil), rfl, rfl, q _⟩
end
end Lt

set_option Elab.async false
set_option linter.all false
set_option maxRecDepth 100000
set_option maxHeartbeats 4000000
/-! k10: the law -/
namespace Lt
open PySem PySem.Spec PyProof.Rows L2 MaX
abbrev kindsF : List Str := ["five", "five", "five", "three", "tetra", "square", "whole"]
theorem kindsF_ok : KnOk kindsF := by
  have h : ∀ x ∈ table, x.1 ∈ kindsF → x.2 = fiveL ∨ ∀ g ∈ x.2, g.length ≤ 4 := by decide +kernel
  exact fun nm h1 gs h2 => h (nm, gs) h2 h1
def spLaw (K : PySem.W.Frag) : Sp := fun vs H Q _ => ∃ (l : Addr) (ns : List Int), vs = [.ref l] ∧ SqL K H l (ns.map V.int) ∧ ∀ H', Q (.bl true) H'
theorem law_len {K : PySem.W.Frag} : ∀ vs H Q E, spLaw K vs H Q E → vs.length = (["script"] : List Str).length := fun vs H Q E h => by
  obtain ⟨l, ns, rfl, _⟩ := h
  rfl
theorem lv_last {H : Hp} {xs : List V} {Ts : List (List (List Nat))} {T : List (List Nat)} (p : Paired (LV H) xs Ts) (l1 : 1 ≤ Ts.length) (hT : Ts[Ts.length - 1]? = some T) : ∃ ys z zx, xs = ys ++ [.ref z] ∧ H z = some (.lst zx) ∧ zx.length = T.length := by
  have hl := Paired.length p
  have hne : xs ≠ [] := fun e => by
    rw [e] at hl
    have : ([] : List V).length = 0 := rfl
    omega
  obtain ⟨ys, z, rfl⟩ : ∃ ys z, xs = ys ++ [z] := ⟨xs.dropLast, xs.getLast hne, (List.dropLast_concat_getLast hne).symm⟩
  obtain ⟨A, hA, hz⟩ := Paired.getL p (i := ys.length) (x := z) List.getElem?_concat_length
  rw [List.length_append] at hl
  have e : Ts.length - 1 = ys.length := by
    have : [z].length = 1 := rfl
    omega
  rw [e, hA] at hT
  rw [Option.some.inj hT] at hz
  obtain ⟨a, rfl, zx, h1, h2⟩ := hz
  exact ⟨ys, a, zx, rfl, h1, Paired.length h2⟩
section
variable {P : Program} {w : World} {K : PySem.W.Frag} {mg : Str → Option Value} {base : Heap} {CW CY CN CR CT : Addr}
theorem law_body (L : LawHasF P w K mg base CW CY CN CR CT) (ne : PySem.W.exmOne K (.ref CW) (.ref CW) = some true) (f : Addr) (cdv : Value) (A : Around) (outer : List Env) (s : Shared) (H : Hp) (vs : List V) (Q : VK) (E : XK) (hr : Room 34 (A.deeper (envOfC "law" (defScope s_law) s.heap.objs.size f cdv))) (h : spLaw K vs H Q E) :
    ∃ t, PSs (cxOf CX0 P w K mg base lawN "law" (defScope s_law) f cdv A outer s H E).nox (defBody s_law) t ∧ t { nx := fun _ H' => Q .non H', rt := Q } (start lawN vs) H := by
  obtain ⟨sc, ns, rfl, hsc, q⟩ := h
  have B := L.bi
  have hr0 : Room 34 (lawX P w K mg base f cdv A outer s H E).A := hr
  have hr1 : Room 1 (lawX P w K mg base f cdv A outer s H E).A := hr.mono (by decide)
  have hr3 : Room 3 (lawX P w K mg base f cdv A outer s H E).A := hr.mono (by decide)
  have hr4 : Room 4 (lawX P w K mg base f cdv A outer s H E).A := hr.mono (by decide)
  have hr6 : Room 6 (lawX P w K mg base f cdv A outer s H E).A := hr.mono (by decide)
  refine ⟨_, pss_cons (ps_set (i := 1) sc_law.nd rfl (Or.inl rfl) (pe_lst (pa_cons (pv 0) (pa_cons pe_int (pa_cons pe_int (pa_cons pe_int pa_nil))))))
    (pss_cons (ps_set (i := 2) sc_law.nd rfl (Or.inr rfl) (pe_has L.lock hr4 (by rfl) (pa_cons (pv 1) (pa_cons (pe_lst (pa_cons pe_str (pa_cons pe_str (pa_cons pe_str (pa_cons pe_str (pa_cons pe_str (pa_cons pe_str (pa_cons pe_str pa_nil)))))))) pa_nil))))
    (pss_cons (ps_par (i := 3) (j := 4) (by rfl) sc_law.nd rfl rfl (by decide) rfl rfl (pa_cons (pe_cmpR op_gt (pe_callB call_len_seq (by rfl) B.len PySem.boot_len (pa_cons (pe_ix ix_list (pe_has L.terms hr3 (by rfl) (pa_cons (pv 2) (pa_cons pe_bl pa_nil))) (pe_un un_neg pe_int) (fun _ _ => rfl)) pa_nil)) pe_int (nomark _)) (pa_cons (pe_op op_add pe_int (pe_has L.taken hr1 (by rfl) (pa_cons (pv 1) (pa_cons pe_int pa_nil)))) pa_nil)) (by rfl))
    (pss_cons (ps_set (i := 5) sc_law.nd rfl (Or.inr rfl) (pe_has L.tree hr6 (by rfl) (pa_cons (pv 1) (pa_cons (pv 4) (pa_cons pe_int pa_nil)))))
    (pss_cons (ps_set (i := 6) sc_law.nd rfl (Or.inl rfl) (pe_has L.text hr6 (by rfl) (pa_cons (pv 1) (pa_cons (pv 5) pa_nil))))
    (pss_cons (ps_set (i := 7) sc_law.nd rfl (Or.inl rfl) (pe_tupleOf (by rfl) B.tuple (pe_lc (own := [("bits", 12)]) (g := gName 12) (te := tCall (spLW 4) [] E0 (tCons (tVar 5) (tCons (tVar 12) tNil))) (by rfl) sc_law.nd (pi_list (pe_has L.bits hr1 (by rfl) (pa_cons (pv 4) pa_nil))) (blkOk_by (own := [("bits", 12)]) (N := lawN) (sc := defScope s_law) (by decide +kernel))
        (fun _ _ _ _ _ => pg_name (i := 12) sc_law.nd rfl (Or.inl rfl)) (fun _ _ _ _ _ => pts_nil) (fun _ _ _ _ _ => pe_has L.worth hr6 (by rfl) (pa_cons (pv 5) (pa_cons (pv 12) pa_nil))))))
    (pss_one (ps_try_asM (n := "e") (i := 11) (l := clF K CW CY) (tb := fun W => tyTb P w K CW CN CR CT W) (Wo := fun _ _ _ _ => False) rfl rfl sc_law.nd rfl rfl L2.takes0 (fun W pn xe tk _ => try_body hr0 L W pn xe tk)
      (.cons ⟨rfl, by decide, Or.inl L.eW.g⟩ (fun a oe cls d pn hz hf => pss_one (ps_ret (pe_not (pv 3))))
      (.cons ⟨rfl, by decide, Or.inl L.eY.g⟩ (fun a oe cls d pn hz hf => pss_one (ps_ret (pe_and (pv 3) (pe_one (pe_cmpR op_eq (pe_xf L.eY.xf L.eY.no hz hf (pv 11)) pe_int (nomark _)))))) .nil))))))))), ?_⟩
  refine ⟨_, rfl, Nat.le_of_ble_eq_true rfl, fun r hr9 => ?_⟩
  have s1 := same_new (o := .lst [V.ref sc, V.int 0, V.int 7710, V.int 0]) hr9
  have ra1 : RowAt K (upd H r (.lst [V.ref sc, V.int 0, V.int 7710, V.int 0])) r sc ns := ⟨0, 7710, 0, upd_same, Same.seq s1 hsc, by omega, by omega, by omega⟩
  generalize upd H r (.lst [V.ref sc, V.int 0, V.int 7710, V.int 0]) = H1 at *
  refine ⟨_, rfl, Nat.le_of_ble_eq_true rfl, fun kl hkl => ?_⟩
  have s2 := same_new (o := .lst (kindsF.map V.str)) hkl
  have k2 : (upd H1 kl (.lst (kindsF.map V.str))) kl = some (.lst (kindsF.map V.str)) := upd_same
  refine ⟨r, kl, sc, ns, kindsF, rfl, ra1.step s2, k2, (ra1.ne hkl).symm, by decide, by decide, by decide +kernel, fun v H2 ls n lk l3 gl fw st2 ra2 htt => ?_⟩
  have n9 := gl.2.2.2.1
  have hls := gl.2.2.2.2
  refine ⟨_, rfl, v, false, ls, n, rfl, htt, gl, fw, fun p H3 xs Ts T0 s3 hp0 hp pxs nd0 asc0 mem0 hser => ?_⟩
  obtain ⟨T, l1, eT, ndT, subT, hT⟩ := las_kn kindsF_ok lk gl fw mem0 nd0 hser
  obtain ⟨ys, z, zx, rfl, hz, lz⟩ := lv_last pxs l1 eT
  have T1 : 1 ≤ T.length := by
    rcases hT with h | ⟨_, h⟩
    · omega
    · exact List.length_pos_of_mem ((h _).mpr a5_still)
  have same : ∀ T0' Ts' T', T0'.Nodup → Asc T0' → (∀ t, t ∈ T0' ↔ Mk ls n t) → SerM (Mb false T0') n T0' Ts' → Ts'[Ts'.length - 1]? = some T' → T' = T := fun T0' Ts' T' h1 h2 h3 h4 h5 => by
    obtain rfl : T0' = T0 := asc_one n9 (fun t ht => ((h3 t).mp ht).isP hls) ((List.perm_ext_iff_of_nodup h1 nd0).mpr fun t => (h3 t).trans (mem0 t).symm) h2 asc0
    obtain rfl : Ts' = Ts := serM_one hls fw mem0 n9 h4 hser
    rw [eT] at h5
    exact (Option.some.inj h5).symm
  have ra3 := ra2.step s3
  refine ⟨1, rfl, p, ys ++ [.ref z], -1, .ref z, rfl, rfl, SqL.of hp, atI_last ys (.ref z), z, zx, rfl, .inl (SqL.of hz), (zx.length : Int), 1, rfl, rfl, ?_⟩
  refine ⟨_, rfl, r, sc, ns, 4, rfl, ra3, by decide, by decide, fun g H4 hg st4 ra4 => ⟨1, (g : Int), rfl, rfl, _, _, rfl, ?_⟩⟩
  have em : (1 : Int) + (g : Nat) = ((g + 1 : Nat) : Int) := by omega
  dsimp only
  rw [em]
  obtain ⟨m, hm1⟩ : ∃ m, m = g + 1 := ⟨_, rfl⟩
  rw [← hm1]
  have m1 : 1 ≤ m := by omega
  have m6 : m ≤ 6 := by omega
  refine ⟨_, rfl, _, rfl, r, sc, ns, m, 3, rfl, ra4, m1, m6, by decide, by decide, fun tv H5 fm okf df st5 ra5 lat => ?_⟩
  refine ⟨_, rfl, _, rfl, r, sc, ns, m, 3, tv, fm, rfl, ra5, m6, okf, df, by decide, by decide, lat, fun x H6 st6 ra6 ex lx => ?_⟩
  have cap : capT 3 = 109 := rfl
  have lat6 := lat.tm (st6.tm ra5)
  refine ⟨_, rfl, m, rfl, m6, fun lb H7 s7 hlb ⟨xb, hxb, pxb⟩ => ⟨lb, rfl, ⟨_, SqL.of hxb⟩, fun D1 hD1 => ?_⟩⟩
  have h64 := pow6 m6
  have lxb := Paired.length pxb
  rw [rowsB_len] at lxb
  have lat7 := lat6.tm (.of s7)
  refine lc_listM (K := K) (j := 12) (xs := xb) RN (tabF m fm) (fun _ _ _ _ _ r => r) (fun H' s => SqL.of (s _ _ hxb)) (by omega) (by rw [tabF_len, lxb]) hD1 (fun x => rfl) (fun i x b hi hb H5 s5 Q5 q5 => ?_) (fun H8 zs s8 hzs pz => ?_)
  · have him : i < 2 ^ m := by have := (List.getElem?_eq_some_iff.mp hi).1; omega
    obtain ⟨bt, hbt, ba, rfl, hba⟩ := Paired.getL pxb hi
    rw [rowsB_get him] at hbt
    have hbt := (Option.some.inj hbt).symm
    subst hbt
    have eb : b = evF fm i := by
      unfold tabF at hb
      rw [List.getElem?_map, List.getElem?_range him] at hb
      exact (Option.some.inj hb).symm
    subst eb
    exact ⟨_, rfl, _, rfl, m, ba, bitsR m i, tv, fm, rfl, bitsR_len m i, fun x hx => bitsR_le hx, s5 _ _ hba, okf, by omega, lat7.tm (.of s5), fun H6 s6 => q5 _ H6 s6 (by rw [evL_bits okf]; rfl)⟩
  refine .inl ⟨D1, zs, rfl, SqL.of hzs, fun dp hdp => ?_⟩
  have s9 := same_new (o := .tup zs) hdp
  have kd : TK (upd H8 dp (.tup zs)) (.ref dp) (tabF m fm) := tn_of upd_same (RN.all pz)
  have htt9 := ((((htt.tm (.of s3)).tm (st4.tm ra3)).tm (st5.tm ra4)).tm (st6.tm ra5)).tm (.of (s7.trans (s8.trans s9)))
  have fT : T.length = 1 → decide ((1 : Int) < (zx.length : Int)) = false := fun e => decide_eq_false (by omega)
  have F : TryF K CW (upd H8 dp (.tup zs)) v (.ref dp) ls n m x fm (decide ((1 : Int) < (zx.length : Int))) kindsF := by
    refine ⟨⟨htt9, gl, fw.mono (by decide)⟩, m1, m6, by omega, okf, df, ?_, kindsF_ok, lk, kd, fun ⟨T0', Ts', T', h1, h2, h3, h4, h5, h6⟩ => ?_, fun ⟨T0', Ts', T', h1, h2, h3, h4, h5, h6⟩ => ?_⟩
    · rw [lexWords_map]
      show spellOf x ++ [wVoid] = _
      rw [ex]
    · obtain rfl := same _ _ _ h1 h2 h3 h4 h5
      exact decide_eq_true (by omega)
    · obtain rfl := same _ _ _ h1 h2 h3 h4 h5
      exact fT h6
  refine try_read F (fun sv H' s' => ?_) q
  have eb := F.so sv
  rw [eb]
  exact ⟨true, ne, fun _ a ha => ⟨_, rfl, false, rfl, q _⟩, fun z => by cases z⟩
end
end Lt

set_option Elab.async false
set_option linter.all false
set_option maxRecDepth 100000
set_option maxHeartbeats 2000000
namespace Lt
open PySem PySem.Spec PyProof.Rows L2
section
variable {P : Program} {w : World} {K : PySem.W.Frag} {mg : Str → Option Value} {base : Heap} {CL CM : Addr}
end
end Lt

set_option Elab.async false
set_option linter.all false
set_option maxRecDepth 100000
set_option maxHeartbeats 2000000
namespace Lt
open PySem PySem.Spec PyProof.Rows L2
section
variable {P : Program} {w : World} {K : PySem.W.Frag} {mg : Str → Option Value} {base : Heap} {CL CM : Addr}
end
end Lt

set_option Elab.async false
set_option linter.all false
set_option maxRecDepth 100000
set_option maxHeartbeats 2000000
namespace Lt
open PySem PySem.Spec PyProof.Rows L2 MaX
section
variable {P : Program} {w : World} {K : PySem.W.Frag} {mg : Str → Option Value} {base : Heap} {CL CR CB CM CT CN CW CS : Addr}
theorem Cn.glF {x : Str} {i : Int} (h : Cn mg x i) : ∃ u, mg x = some u ∧ RelV (.int i) u := let ⟨t, h⟩ := h; ⟨_, h, ⟨t, rfl⟩⟩
theorem Cs.glF {x z : Str} (h : Cs mg x z) : ∃ u, mg x = some u ∧ RelV (.str z) u := let ⟨t, h⟩ := h; ⟨_, h, ⟨t, rfl⟩⟩
theorem TopFs.has (T : TopFs K mg CL CR CB CM CT CN CW CS) : LawHasF P w K mg base CW CM CN CR CT := by
  have B := T.bi
  have eL : ErrI P w K mg base "BadLock" "place" CL := T.e_BadLock.errI init_BadLock
  have eR : ErrI P w K mg base "BadRow" "place" CR := T.e_BadRow.errI init_BadRow
  have eB : ErrI P w K mg base "BadSign" "place" CB := T.e_BadSign.errI init_BadSign
  have eM : ErrI P w K mg base "TooMany" "most" CM := T.e_TooMany.errI init_TooMany
  have i1 : Has P w K mg base CX0 1 "is_number" _ _ := has_is_number T.f_is_number B
  have i2 := has_are_numbers T.f_are_numbers B i1
  have i3 := has_is_permutation T.f_is_permutation B i2
  have i4 : Has P w K mg base CX0 1 "still_of" _ _ := has_still_of T.f_still_of B
  have i5 : Has P w K mg base CX0 1 "product_of" _ _ := has_product_of T.f_product_of B
  have i6 : Has P w K mg base CX0 1 "back_of" _ _ := has_back_of T.f_back_of B
  have i7 := has_bracket_of T.f_bracket_of i5 i6
  have i8 := has_words_of T.f_words_of B T.c_MOST_TURNS i4 i5
  have i9 := has_words_ofL T.f_words_of B T.c_MOST_TURNS i4 i5
  have i10 := has_group_ofK T.f_group_of B i4 i9
  have i16 := has_check_lock T.f_check_lock B eL T.c_MOST_GIVEN T.c_FEWEST_PLACES T.c_MOST_PLACES i3
  have i17 := has_made_words T.f_made_words B eM T.c_MOST_TURNS i16 i8
  have i18 := has_all_turnsK T.f_all_turns B i17
  have i20 := has_brackets_madeK T.f_brackets_made B i7 i10
  have i23 := has_derivedK T.f_derived B i18 i20
  have m19 := has_is_turn T.f_is_turn i2
  have m20 := has_check_turn T.f_check_turn T.e_BadTurn m19
  have m21 := has_is_step T.f_is_step B i1 m19
  have m22 := has_check_row T.f_check_row B T.c_MOST_STEPS.glF eR m21
  have m23 := has_products T.f_products B i5
  have m24 : Has P w K mg base CX0 1 "yes_where" _ _ := has_yes_where T.f_yes_where B
  have m25 := has_check_inputs2 T.f_check_inputs T.c_MOST_INPUTS.glF T.e_BadNumber i1
  have t2 := has_check_inputs T.f_check_inputs T.c_MOST_INPUTS.glF T.e_BadNumber i1
  have t3 : Has P w K mg base CX0 1 "placed_words" _ _ := has_placed_words T.f_placed_words B T.c_RUN_SIGNS.glF
  have t4 := has_expected T.f_expected eB
  have t5 := has_tree_fromE T.f_tree_from eB ⟨T.c_MOST_AROUND.glF, T.c_JOINERS⟩ t4 21
  have t6 := has_formula_treeE T.f_formula_tree B eB T.e_BadString t2 t3 t5
  have t7 : Has P w K mg base CX0 1 "input_table" _ _ := has_input_table T.f_input_table B
  have t8 : Has P w K mg base CX0 1 "bits_of" _ _ := has_bits_of T.f_bits_of B T.b_sum
  have tw := has_worth_ofE (P := P) (w := w) (base := base) T.f_worth_of B 22
  have t9 := has_table_ofE T.f_table_of B t6 t7 t8 tw
  have u1 := has_undone_steps T.f_undone_steps T.b_reversed i6
  have u2 := has_unless T.f_unless i5
  have u3 := has_many_steps (P := P) (w := w) (base := base) T.f_many_steps B 4
  have u4 := has_steps_for T.f_steps_for T.f_both_steps B u1 u2 i6 i5 i4 15
  have u5 := has_bracket_pairs T.f_bracket_pairs (has_rounds_of T.f_rounds_of B i4 i5) i7
  have u6 := has_formula_row T.f_formula_row B T.b_min T.c_MOST_STEPS.glF T.e_NoWay eM i23 t6 u3 u5 u4
  have j1 : Has P w K mg base CX0 1 "_law_taken" _ _ := has_law_taken T.f_law_taken B
  have j2 := has_law_pick T.f_law_pick B j1
  have j5 := has_law_permutation T.f_law_permutation B j1
  have j6 : Has P w K mg base CX0 1 "_law_behind" _ _ := has_law_behind T.f_law_behind B
  have j7 : Has P w K mg base CX0 1 "_law_back" _ _ := has_law_back T.f_law_back B
  have j8 := has_law_swap T.f_law_swap j6 j7
  have j9 : Has P w K mg base CX0 2 "_law_span" _ _ := has_law_span T.f_law_span B (has_law_behindF T.f_law_behind B)
  have j10 := has_law_knownD T.f_law_known B j2 j5
  exact { bi := B, taken := j1, lock := has_law_lockD T.f_law_lock B j1 j10 j5, terms := has_law_terms T.f_law_terms B j9 j8, tree := has_law_treeE T.f_law_tree j1 4, text := has_law_text T.f_law_text B j1 4, worth := has_law_worth T.f_law_worth B T.b_max 4,
          bits := has_law_bits T.f_law_bits B, value := has_law_value T.f_law_value B j6, formula := u6, written := has_written T.f_written i17 m25 m22 m20 m23 m24, tabE := t9, eW := T.e_NoWay, eY := eM }
theorem law_fin {h : Heap} {fa f : Addr} {oc kV doc pm cdv ct : Value} {od an : Option Addr} {osl : Array (Option Value)} (X : K.In h) (hfa : mg "law" = some (.ref fa)) (G : h.Ns mainGlobals mg) (a : PySem.W.nsIn K mainGlobals "law" = some (some (.ref f)))
    (l : K.lookup f = some ⟨oc, od, .func (PySem.W.fnOf "law" "law" (defArgs s_law) (defBody s_law) (defScope s_law) .none kV doc pm an cdv ct), osl⟩) (c : PySem.W.codeIn K cdv "law" = true) (k : PySem.W.keepIn K (.ref f) = true) (T : TopFs K mg CL CR CB CM CT CN CW CS) :
    ∃ fd : FuncData, (∀ (s : Shared) (u : Value), BindsTo s fd ⟨[u], []⟩ [("script", u)]) ∧ ∀ base : Heap, K.In base → base.Ns mainGlobals mg → FnOk P w K mg base CX0 35 fa fd ["script"] (spLaw K) := by
  have e := hfa.symm.trans (PySem.W.mg_of X G a)
  cases e
  exact ⟨_, fun s u => .of_eq rfl, fun base _ _ => (fun_mk l c k).ok sc_law law_len fun cdv A outer s H vs Q E hr h => law_body T.has T.e_NoWay.exm _ cdv A outer s H vs Q E hr h⟩
end
end Lt

open PySem PySem.W PyProof.Rows
set_option Elab.async false
set_option maxRecDepth 100000 in
set_option maxHeartbeats 0 in
theorem PySem.Challenge.cw_lockturns_k10_whole_formulas_holds : PySem.Challenge.rw_lockturns_k10_whole_formulas.Holds := by
  w_on; o_law; k_head; (case hw => w_witness2)
  k_fill
  refine L2.walk_ofK (l := PySem.Challenge.rw_lockturns_k10_whole_formulas) (n := 63) (k := 35) (x := "script") (CX := L2.CX0) (sp := Lt.spLaw) rfl (by decide) rfl ⟨rfl, by decide, by decide⟩ (fun w h Y => PySem.W.kIn_of Y) ?F (fun K H a ns _ _ h3 => ⟨a, ns, rfl, h3, fun _ => rfl⟩) (fun _ _ _ _ z => z)
  case F =>
    intro w mg fa h KX G hmg
    have bi : Lt.Bi mg := by
      refine' { tuple := mg_none_of KX G ?z0, list := mg_none_of KX G ?z1, range := mg_none_of KX G ?z2, len := mg_none_of KX G ?z3, sorted := mg_none_of KX G ?z4, enumerate := mg_none_of KX G ?z5, isinstance := mg_none_of KX G ?z6, all := mg_none_of KX G ?z7, set := mg_none_of KX G ?z8, int := mg_none_of KX G ?z9, bool := mg_none_of KX G ?z10, str := mg_none_of KX G ?z11 }
      all_goals k_is
    have b_sum : mg "sum" = none := by
      refine' mg_none_of KX G ?z
      (case z => k_is)
    have b_min : mg "min" = none := by
      refine' mg_none_of KX G ?z
      (case z => k_is)
    have b_max : mg "max" = none := by
      refine' mg_none_of KX G ?z
      (case z => k_is)
    have b_reversed : mg "reversed" = none := by
      refine' mg_none_of KX G ?z
      (case z => k_is)
    have c_MOST_TURNS : Lt.Cn mg "MOST_TURNS" 240 := by
      refine' Lt.cn_mk KX G ?a ?b
      (case a => k_is); (case b => exact ⟨_, rfl⟩)
    have c_MOST_GIVEN : Lt.Cn mg "MOST_GIVEN" 4 := by
      refine' Lt.cn_mk KX G ?a ?b
      (case a => k_is); (case b => exact ⟨_, rfl⟩)
    have c_FEWEST_PLACES : Lt.Cn mg "FEWEST_PLACES" 2 := by
      refine' Lt.cn_mk KX G ?a ?b
      (case a => k_is); (case b => exact ⟨_, rfl⟩)
    have c_MOST_PLACES : Lt.Cn mg "MOST_PLACES" 9 := by
      refine' Lt.cn_mk KX G ?a ?b
      (case a => k_is); (case b => exact ⟨_, rfl⟩)
    have c_MOST_INPUTS : Lt.Cn mg "MOST_INPUTS" 6 := by
      refine' Lt.cn_mk KX G ?a ?b
      (case a => k_is); (case b => exact ⟨_, rfl⟩)
    have c_MOST_AROUND : Lt.Cn mg "MOST_AROUND" 20 := by
      refine' Lt.cn_mk KX G ?a ?b
      (case a => k_is); (case b => exact ⟨_, rfl⟩)
    have c_MOST_STEPS : Lt.Cn mg "MOST_STEPS" 6000 := by
      refine' Lt.cn_mk KX G ?a ?b
      (case a => k_is); (case b => exact ⟨_, rfl⟩)
    have c_RUN_SIGNS : Lt.Cs mg "RUN_SIGNS" "abcdefghijklmnopqrstuvwxyz0123456789" := by
      refine' Lt.cs_mk KX G ?a ?b
      (case a => k_is); (case b => exact ⟨_, rfl⟩)
    have c_JOINERS : Lt.CtX KX mg "JOINERS" ["and", "or", "xor"] := by
      refine' Lt.ct_mk KX G ?a ?l ?b
      (case a => k_is); (case l => k_is); (case b => exact ⟨_, _, rfl, rfl, by decide, (.cons ⟨_, rfl⟩ (.cons ⟨_, rfl⟩ (.cons ⟨_, rfl⟩ (.nil))))⟩)
    have f_is_number : Lt.TopX KX mg "is_number" Lt.s_is_number ["value"] := by
      refine' Lt.top_mk KX G ?a ?l ?c ?k (fun _ _ _ _ _ _ us hl => match us, hl with | [_], _ => rfl)
      (case a => k_is); (case l => k_is); (case c => k_is); (case k => k_is)
    have f_are_numbers : Lt.TopX KX mg "are_numbers" Lt.s_are_numbers ["value"] := by
      refine' Lt.top_mk KX G ?a ?l ?c ?k (fun _ _ _ _ _ _ us hl => match us, hl with | [_], _ => rfl)
      (case a => k_is); (case l => k_is); (case c => k_is); (case k => k_is)
    have f_is_permutation : Lt.TopX KX mg "is_permutation" Lt.s_is_permutation ["value", "size"] := by
      refine' Lt.top_mk KX G ?a ?l ?c ?k (fun _ _ _ _ _ _ us hl => match us, hl with | [_, _], _ => rfl)
      (case a => k_is); (case l => k_is); (case c => k_is); (case k => k_is)
    have f_still_of : Lt.TopX KX mg "still_of" Lt.s_still_of ["size"] := by
      refine' Lt.top_mk KX G ?a ?l ?c ?k (fun _ _ _ _ _ _ us hl => match us, hl with | [_], _ => rfl)
      (case a => k_is); (case l => k_is); (case c => k_is); (case k => k_is)
    have f_product_of : Lt.TopX KX mg "product_of" Lt.s_product_of ["one", "other"] := by
      refine' Lt.top_mk KX G ?a ?l ?c ?k (fun _ _ _ _ _ _ us hl => match us, hl with | [_, _], _ => rfl)
      (case a => k_is); (case l => k_is); (case c => k_is); (case k => k_is)
    have f_back_of : Lt.TopX KX mg "back_of" Lt.s_back_of ["turn"] := by
      refine' Lt.top_mk KX G ?a ?l ?c ?k (fun _ _ _ _ _ _ us hl => match us, hl with | [_], _ => rfl)
      (case a => k_is); (case l => k_is); (case c => k_is); (case k => k_is)
    have f_rounds_of : Lt.TopX KX mg "rounds_of" Lt.s_rounds_of ["turn"] := by
      refine' Lt.top_mk KX G ?a ?l ?c ?k (fun _ _ _ _ _ _ us hl => match us, hl with | [_], _ => rfl)
      (case a => k_is); (case l => k_is); (case c => k_is); (case k => k_is)
    have f_bracket_of : Lt.TopX KX mg "bracket_of" Lt.s_bracket_of ["one", "other"] := by
      refine' Lt.top_mk KX G ?a ?l ?c ?k (fun _ _ _ _ _ _ us hl => match us, hl with | [_, _], _ => rfl)
      (case a => k_is); (case l => k_is); (case c => k_is); (case k => k_is)
    have f_words_of : Lt.TopX KX mg "words_of" Lt.s_words_of ["makers", "size"] := by
      refine' Lt.top_mk KX G ?a ?l ?c ?k (fun _ _ _ _ _ _ us hl => match us, hl with | [_, _], _ => rfl)
      (case a => k_is); (case l => k_is); (case c => k_is); (case k => k_is)
    have f_group_of : Lt.TopX KX mg "group_of" Lt.s_group_of ["makers", "size"] := by
      refine' Lt.top_mk KX G ?a ?l ?c ?k (fun _ _ _ _ _ _ us hl => match us, hl with | [_, _], _ => rfl)
      (case a => k_is); (case l => k_is); (case c => k_is); (case k => k_is)
    have f_all_turns : Lt.TopX KX mg "all_turns" Lt.s_all_turns ["lock"] := by
      refine' Lt.top_mk KX G ?a ?l ?c ?k (fun _ _ _ _ _ _ us hl => match us, hl with | [_], _ => rfl)
      (case a => k_is); (case l => k_is); (case c => k_is); (case k => k_is)
    have f_check_lock : Lt.TopX KX mg "check_lock" Lt.s_check_lock ["lock"] := by
      refine' Lt.top_mk KX G ?a ?l ?c ?k (fun _ _ _ _ _ _ us hl => match us, hl with | [_], _ => rfl)
      (case a => k_is); (case l => k_is); (case c => k_is); (case k => k_is)
    have f_made_words : Lt.TopX KX mg "made_words" Lt.s_made_words ["lock"] := by
      refine' Lt.top_mk KX G ?a ?l ?c ?k (fun _ _ _ _ _ _ us hl => match us, hl with | [_], _ => rfl)
      (case a => k_is); (case l => k_is); (case c => k_is); (case k => k_is)
    have f_is_turn : Lt.TopX KX mg "is_turn" Lt.s_is_turn ["made", "value"] := by
      refine' Lt.top_mk KX G ?a ?l ?c ?k (fun _ _ _ _ _ _ us hl => match us, hl with | [_, _], _ => rfl)
      (case a => k_is); (case l => k_is); (case c => k_is); (case k => k_is)
    have f_check_turn : Lt.TopX KX mg "check_turn" Lt.s_check_turn ["made", "turn"] := by
      refine' Lt.top_mk KX G ?a ?l ?c ?k (fun _ _ _ _ _ _ us hl => match us, hl with | [_, _], _ => rfl)
      (case a => k_is); (case l => k_is); (case c => k_is); (case k => k_is)
    have f_derived : Lt.TopX KX mg "derived" Lt.s_derived ["lock"] := by
      refine' Lt.top_mk KX G ?a ?l ?c ?k (fun _ _ _ _ _ _ us hl => match us, hl with | [_], _ => rfl)
      (case a => k_is); (case l => k_is); (case c => k_is); (case k => k_is)
    have f_brackets_made : Lt.TopX KX mg "brackets_made" Lt.s_brackets_made ["term", "makers"] := by
      refine' Lt.top_mk KX G ?a ?l ?c ?k (fun _ _ _ _ _ _ us hl => match us, hl with | [_, _], _ => rfl)
      (case a => k_is); (case l => k_is); (case c => k_is); (case k => k_is)
    have f_table_of : Lt.TopX KX mg "table_of" Lt.s_table_of ["inputs", "text"] := by
      refine' Lt.top_mk KX G ?a ?l ?c ?k (fun _ _ _ _ _ _ us hl => match us, hl with | [_, _], _ => rfl)
      (case a => k_is); (case l => k_is); (case c => k_is); (case k => k_is)
    have f_check_inputs : Lt.TopX KX mg "check_inputs" Lt.s_check_inputs ["inputs"] := by
      refine' Lt.top_mk KX G ?a ?l ?c ?k (fun _ _ _ _ _ _ us hl => match us, hl with | [_], _ => rfl)
      (case a => k_is); (case l => k_is); (case c => k_is); (case k => k_is)
    have f_input_table : Lt.TopX KX mg "input_table" Lt.s_input_table ["inputs", "own"] := by
      refine' Lt.top_mk KX G ?a ?l ?c ?k (fun _ _ _ _ _ _ us hl => match us, hl with | [_, _], _ => rfl)
      (case a => k_is); (case l => k_is); (case c => k_is); (case k => k_is)
    have f_bits_of : Lt.TopX KX mg "bits_of" Lt.s_bits_of ["table"] := by
      refine' Lt.top_mk KX G ?a ?l ?c ?k (fun _ _ _ _ _ _ us hl => match us, hl with | [_], _ => rfl)
      (case a => k_is); (case l => k_is); (case c => k_is); (case k => k_is)
    have f_formula_tree : Lt.TopX KX mg "formula_tree" Lt.s_formula_tree ["inputs", "text"] := by
      refine' Lt.top_mk KX G ?a ?l ?c ?k (fun _ _ _ _ _ _ us hl => match us, hl with | [_, _], _ => rfl)
      (case a => k_is); (case l => k_is); (case c => k_is); (case k => k_is)
    have f_placed_words : Lt.TopX KX mg "placed_words" Lt.s_placed_words ["text"] := by
      refine' Lt.top_mk KX G ?a ?l ?c ?k (fun _ _ _ _ _ _ us hl => match us, hl with | [_], _ => rfl)
      (case a => k_is); (case l => k_is); (case c => k_is); (case k => k_is)
    have f_tree_from : Lt.TopX KX mg "tree_from" Lt.s_tree_from ["names", "words", "at", "around"] := by
      refine' Lt.top_mk KX G ?a ?l ?c ?k (fun _ _ _ _ _ _ us hl => match us, hl with | [_, _, _, _], _ => rfl)
      (case a => k_is); (case l => k_is); (case c => k_is); (case k => k_is)
    have f_expected : Lt.TopX KX mg "expected" Lt.s_expected ["words", "at", "wanted"] := by
      refine' Lt.top_mk KX G ?a ?l ?c ?k (fun _ _ _ _ _ _ us hl => match us, hl with | [_, _, _], _ => rfl)
      (case a => k_is); (case l => k_is); (case c => k_is); (case k => k_is)
    have f_worth_of : Lt.TopX KX mg "worth_of" Lt.s_worth_of ["tree", "leaves", "every"] := by
      refine' Lt.top_mk KX G ?a ?l ?c ?k (fun _ _ _ _ _ _ us hl => match us, hl with | [_, _, _], _ => rfl)
      (case a => k_is); (case l => k_is); (case c => k_is); (case k => k_is)
    have f_undone_steps : Lt.TopX KX mg "undone_steps" Lt.s_undone_steps ["steps"] := by
      refine' Lt.top_mk KX G ?a ?l ?c ?k (fun _ _ _ _ _ _ us hl => match us, hl with | [_], _ => rfl)
      (case a => k_is); (case l => k_is); (case c => k_is); (case k => k_is)
    have f_written : Lt.TopX KX mg "written" Lt.s_written ["lock", "inputs", "row", "turn"] := by
      refine' Lt.top_mk KX G ?a ?l ?c ?k (fun _ _ _ _ _ _ us hl => match us, hl with | [_, _, _, _], _ => rfl)
      (case a => k_is); (case l => k_is); (case c => k_is); (case k => k_is)
    have f_check_row : Lt.TopX KX mg "check_row" Lt.s_check_row ["made", "inputs", "row"] := by
      refine' Lt.top_mk KX G ?a ?l ?c ?k (fun _ _ _ _ _ _ us hl => match us, hl with | [_, _, _], _ => rfl)
      (case a => k_is); (case l => k_is); (case c => k_is); (case k => k_is)
    have f_is_step : Lt.TopX KX mg "is_step" Lt.s_is_step ["made", "inputs", "value"] := by
      refine' Lt.top_mk KX G ?a ?l ?c ?k (fun _ _ _ _ _ _ us hl => match us, hl with | [_, _, _], _ => rfl)
      (case a => k_is); (case l => k_is); (case c => k_is); (case k => k_is)
    have f_products : Lt.TopX KX mg "products" Lt.s_products ["made", "inputs", "row"] := by
      refine' Lt.top_mk KX G ?a ?l ?c ?k (fun _ _ _ _ _ _ us hl => match us, hl with | [_, _, _], _ => rfl)
      (case a => k_is); (case l => k_is); (case c => k_is); (case k => k_is)
    have f_yes_where : Lt.TopX KX mg "yes_where" Lt.s_yes_where ["reached", "turn"] := by
      refine' Lt.top_mk KX G ?a ?l ?c ?k (fun _ _ _ _ _ _ us hl => match us, hl with | [_, _], _ => rfl)
      (case a => k_is); (case l => k_is); (case c => k_is); (case k => k_is)
    have f_formula_row : Lt.TopX KX mg "formula_row" Lt.s_formula_row ["lock", "inputs", "text"] := by
      refine' Lt.top_mk KX G ?a ?l ?c ?k (fun _ _ _ _ _ _ us hl => match us, hl with | [_, _, _], _ => rfl)
      (case a => k_is); (case l => k_is); (case c => k_is); (case k => k_is)
    have f_many_steps : Lt.TopX KX mg "many_steps" Lt.s_many_steps ["tree"] := by
      refine' Lt.top_mk KX G ?a ?l ?c ?k (fun _ _ _ _ _ _ us hl => match us, hl with | [_], _ => rfl)
      (case a => k_is); (case l => k_is); (case c => k_is); (case k => k_is)
    have f_bracket_pairs : Lt.TopX KX mg "bracket_pairs" Lt.s_bracket_pairs ["lasting"] := by
      refine' Lt.top_mk KX G ?a ?l ?c ?k (fun _ _ _ _ _ _ us hl => match us, hl with | [_], _ => rfl)
      (case a => k_is); (case l => k_is); (case c => k_is); (case k => k_is)
    have f_steps_for : Lt.TopX KX mg "steps_for" Lt.s_steps_for ["pairs", "tree", "turn"] := by
      refine' Lt.top_mk KX G ?a ?l ?c ?k (fun _ _ _ _ _ _ us hl => match us, hl with | [_, _, _], _ => rfl)
      (case a => k_is); (case l => k_is); (case c => k_is); (case k => k_is)
    have f_both_steps : Lt.TopX KX mg "both_steps" Lt.s_both_steps ["pairs", "one", "other", "turn"] := by
      refine' Lt.top_mk KX G ?a ?l ?c ?k (fun _ _ _ _ _ _ us hl => match us, hl with | [_, _, _, _], _ => rfl)
      (case a => k_is); (case l => k_is); (case c => k_is); (case k => k_is)
    have f_unless : Lt.TopX KX mg "unless" Lt.s_unless ["steps", "turn"] := by
      refine' Lt.top_mk KX G ?a ?l ?c ?k (fun _ _ _ _ _ _ us hl => match us, hl with | [_, _], _ => rfl)
      (case a => k_is); (case l => k_is); (case c => k_is); (case k => k_is)
    have f_law_taken : Lt.TopX KX mg "_law_taken" Lt.s_law_taken ["row", "many"] := by
      refine' Lt.top_mk KX G ?a ?l ?c ?k (fun _ _ _ _ _ _ us hl => match us, hl with | [_, _], _ => rfl)
      (case a => k_is); (case l => k_is); (case c => k_is); (case k => k_is)
    have f_law_pick : Lt.TopX KX mg "_law_pick" Lt.s_law_pick ["row", "things"] := by
      refine' Lt.top_mk KX G ?a ?l ?c ?k (fun _ _ _ _ _ _ us hl => match us, hl with | [_, _], _ => rfl)
      (case a => k_is); (case l => k_is); (case c => k_is); (case k => k_is)
    have f_law_permutation : Lt.TopX KX mg "_law_permutation" Lt.s_law_permutation ["row", "places"] := by
      refine' Lt.top_mk KX G ?a ?l ?c ?k (fun _ _ _ _ _ _ us hl => match us, hl with | [_, _], _ => rfl)
      (case a => k_is); (case l => k_is); (case c => k_is); (case k => k_is)
    have f_law_behind : Lt.TopX KX mg "_law_behind" Lt.s_law_behind ["one", "other"] := by
      refine' Lt.top_mk KX G ?a ?l ?c ?k (fun _ _ _ _ _ _ us hl => match us, hl with | [_, _], _ => rfl)
      (case a => k_is); (case l => k_is); (case c => k_is); (case k => k_is)
    have f_law_back : Lt.TopX KX mg "_law_back" Lt.s_law_back ["turn"] := by
      refine' Lt.top_mk KX G ?a ?l ?c ?k (fun _ _ _ _ _ _ us hl => match us, hl with | [_], _ => rfl)
      (case a => k_is); (case l => k_is); (case c => k_is); (case k => k_is)
    have f_law_swap : Lt.TopX KX mg "_law_swap" Lt.s_law_swap ["one", "other"] := by
      refine' Lt.top_mk KX G ?a ?l ?c ?k (fun _ _ _ _ _ _ us hl => match us, hl with | [_, _], _ => rfl)
      (case a => k_is); (case l => k_is); (case c => k_is); (case k => k_is)
    have f_law_span : Lt.TopX KX mg "_law_span" Lt.s_law_span ["places", "given"] := by
      refine' Lt.top_mk KX G ?a ?l ?c ?k (fun _ _ _ _ _ _ us hl => match us, hl with | [_, _], _ => rfl)
      (case a => k_is); (case l => k_is); (case c => k_is); (case k => k_is)
    have f_law_known : Lt.TopX KX mg "_law_known" Lt.s_law_known ["row", "kinds"] := by
      refine' Lt.top_mk KX G ?a ?l ?c ?k (fun _ _ _ _ _ _ us hl => match us, hl with | [_, _], _ => rfl)
      (case a => k_is); (case l => k_is); (case c => k_is); (case k => k_is)
    have f_law_lock : Lt.TopX KX mg "_law_lock" Lt.s_law_lock ["row", "kinds"] := by
      refine' Lt.top_mk KX G ?a ?l ?c ?k (fun _ _ _ _ _ _ us hl => match us, hl with | [_, _], _ => rfl)
      (case a => k_is); (case l => k_is); (case c => k_is); (case k => k_is)
    have f_law_terms : Lt.TopX KX mg "_law_terms" Lt.s_law_terms ["lock", "by_all"] := by
      refine' Lt.top_mk KX G ?a ?l ?c ?k (fun _ _ _ _ _ _ us hl => match us, hl with | [_, _], _ => rfl)
      (case a => k_is); (case l => k_is); (case c => k_is); (case k => k_is)
    have f_law_tree : Lt.TopX KX mg "_law_tree" Lt.s_law_tree ["row", "inputs", "deep"] := by
      refine' Lt.top_mk KX G ?a ?l ?c ?k (fun _ _ _ _ _ _ us hl => match us, hl with | [_, _, _], _ => rfl)
      (case a => k_is); (case l => k_is); (case c => k_is); (case k => k_is)
    have f_law_text : Lt.TopX KX mg "_law_text" Lt.s_law_text ["row", "tree"] := by
      refine' Lt.top_mk KX G ?a ?l ?c ?k (fun _ _ _ _ _ _ us hl => match us, hl with | [_, _], _ => rfl)
      (case a => k_is); (case l => k_is); (case c => k_is); (case k => k_is)
    have f_law_worth : Lt.TopX KX mg "_law_worth" Lt.s_law_worth ["tree", "bits"] := by
      refine' Lt.top_mk KX G ?a ?l ?c ?k (fun _ _ _ _ _ _ us hl => match us, hl with | [_, _], _ => rfl)
      (case a => k_is); (case l => k_is); (case c => k_is); (case k => k_is)
    have f_law_bits : Lt.TopX KX mg "_law_bits" Lt.s_law_bits ["inputs"] := by
      refine' Lt.top_mk KX G ?a ?l ?c ?k (fun _ _ _ _ _ _ us hl => match us, hl with | [_], _ => rfl)
      (case a => k_is); (case l => k_is); (case c => k_is); (case k => k_is)
    have f_law_value : Lt.TopX KX mg "_law_value" Lt.s_law_value ["places", "steps", "bits"] := by
      refine' Lt.top_mk KX G ?a ?l ?c ?k (fun _ _ _ _ _ _ us hl => match us, hl with | [_, _, _], _ => rfl)
      (case a => k_is); (case l => k_is); (case c => k_is); (case k => k_is)
    have ee_BadLock : Lt.ErrE KX mg "BadLock" "place" Lt.s_BadLock := by
      refine' Lt.err_mk KX G ?aC ?xL ?rv ?sa ?ga ?gg ?no ?kC ?eC ?tC ?hC ?iC ?sC ?i1 ?i2 ?i3 ?i4 ?i5 (fun _ _ _ _ _ _ us hl => match us, hl with | [_, _], _ => rfl)
      (case aC => k_is); (case xL => k_is); (case rv => decide +kernel); (case sa => k_is); (case ga => k_is); (case gg => k_is); (case no => k_is); (case kC => k_is); (case eC => k_is); (case tC => k_is); (case hC => k_is); (case iC => k_is); (case sC => first | rfl | k_is)
      (case i1 => k_is); (case i2 => k_is); (case i3 => k_is); (case i4 => k_is); (case i5 => k_is)
    obtain ⟨C_BadLock, e_BadLock⟩ := ee_BadLock
    have ee_BadRow : Lt.ErrE KX mg "BadRow" "place" Lt.s_BadRow := by
      refine' Lt.err_mk KX G ?aC ?xL ?rv ?sa ?ga ?gg ?no ?kC ?eC ?tC ?hC ?iC ?sC ?i1 ?i2 ?i3 ?i4 ?i5 (fun _ _ _ _ _ _ us hl => match us, hl with | [_, _], _ => rfl)
      (case aC => k_is); (case xL => k_is); (case rv => decide +kernel); (case sa => k_is); (case ga => k_is); (case gg => k_is); (case no => k_is); (case kC => k_is); (case eC => k_is); (case tC => k_is); (case hC => k_is); (case iC => k_is); (case sC => first | rfl | k_is)
      (case i1 => k_is); (case i2 => k_is); (case i3 => k_is); (case i4 => k_is); (case i5 => k_is)
    obtain ⟨C_BadRow, e_BadRow⟩ := ee_BadRow
    have ee_BadSign : Lt.ErrE KX mg "BadSign" "place" Lt.s_BadSign := by
      refine' Lt.err_mk KX G ?aC ?xL ?rv ?sa ?ga ?gg ?no ?kC ?eC ?tC ?hC ?iC ?sC ?i1 ?i2 ?i3 ?i4 ?i5 (fun _ _ _ _ _ _ us hl => match us, hl with | [_, _], _ => rfl)
      (case aC => k_is); (case xL => k_is); (case rv => decide +kernel); (case sa => k_is); (case ga => k_is); (case gg => k_is); (case no => k_is); (case kC => k_is); (case eC => k_is); (case tC => k_is); (case hC => k_is); (case iC => k_is); (case sC => first | rfl | k_is)
      (case i1 => k_is); (case i2 => k_is); (case i3 => k_is); (case i4 => k_is); (case i5 => k_is)
    obtain ⟨C_BadSign, e_BadSign⟩ := ee_BadSign
    have ee_TooMany : Lt.ErrE KX mg "TooMany" "most" Lt.s_TooMany := by
      refine' Lt.err_mk KX G ?aC ?xL ?rv ?sa ?ga ?gg ?no ?kC ?eC ?tC ?hC ?iC ?sC ?i1 ?i2 ?i3 ?i4 ?i5 (fun _ _ _ _ _ _ us hl => match us, hl with | [_, _], _ => rfl)
      (case aC => k_is); (case xL => k_is); (case rv => decide +kernel); (case sa => k_is); (case ga => k_is); (case gg => k_is); (case no => k_is); (case kC => k_is); (case eC => k_is); (case tC => k_is); (case hC => k_is); (case iC => k_is); (case sC => first | rfl | k_is)
      (case i1 => k_is); (case i2 => k_is); (case i3 => k_is); (case i4 => k_is); (case i5 => k_is)
    obtain ⟨C_TooMany, e_TooMany⟩ := ee_TooMany
    have ee_BadTurn : Lt.NoE KX mg "BadTurn" := by
      refine' Lt.no_mk KX G ?aC ?qx ?kC ?eC ?tC ?iC ?sC
      (case aC => k_is); (case qx => first | rfl | kernel_rfl); (case kC => k_is); (case eC => k_is); (case tC => k_is); (case iC => k_is); (case sC => first | rfl | k_is)
    obtain ⟨C_BadTurn, e_BadTurn⟩ := ee_BadTurn
    have ee_BadNumber : Lt.NoE KX mg "BadNumber" := by
      refine' Lt.no_mk KX G ?aC ?qx ?kC ?eC ?tC ?iC ?sC
      (case aC => k_is); (case qx => first | rfl | kernel_rfl); (case kC => k_is); (case eC => k_is); (case tC => k_is); (case iC => k_is); (case sC => first | rfl | k_is)
    obtain ⟨C_BadNumber, e_BadNumber⟩ := ee_BadNumber
    have ee_NoWay : Lt.NoE KX mg "NoWay" := by
      refine' Lt.no_mk KX G ?aC ?qx ?kC ?eC ?tC ?iC ?sC
      (case aC => k_is); (case qx => first | rfl | kernel_rfl); (case kC => k_is); (case eC => k_is); (case tC => k_is); (case iC => k_is); (case sC => first | rfl | k_is)
    obtain ⟨C_NoWay, e_NoWay⟩ := ee_NoWay
    have ee_BadString : Lt.NoE KX mg "BadString" := by
      refine' Lt.no_mk KX G ?aC ?qx ?kC ?eC ?tC ?iC ?sC
      (case aC => k_is); (case qx => first | rfl | kernel_rfl); (case kC => k_is); (case eC => k_is); (case tC => k_is); (case iC => k_is); (case sC => first | rfl | k_is)
    obtain ⟨C_BadString, e_BadString⟩ := ee_BadString
    have n_NoWay_TooMany : Lt.ExmNoX KX C_NoWay C_TooMany := by
      refine' Lt.exm_no KX G e_NoWay.g e_TooMany.g ?a1 ?a2 ?h1 ?h2 ?h3 ?h4
      (case a1 => k_is); (case a2 => k_is); (case h1 => k_is); (case h2 => k_is); (case h3 => k_is); (case h4 => first | rfl | k_is)
    refine' Lt.law_fin KX hmg G ?a ?l ?c ?k ⟨bi, b_sum, b_min, b_max, b_reversed, c_MOST_TURNS, c_MOST_GIVEN, c_FEWEST_PLACES, c_MOST_PLACES, c_MOST_INPUTS, c_MOST_AROUND, c_MOST_STEPS, c_RUN_SIGNS, c_JOINERS, e_BadLock, e_BadRow, e_BadSign, e_TooMany, e_BadTurn, e_BadNumber, e_NoWay, e_BadString, n_NoWay_TooMany, f_is_number, f_are_numbers, f_is_permutation, f_still_of, f_product_of, f_back_of, f_rounds_of, f_bracket_of, f_words_of, f_group_of, f_all_turns, f_check_lock, f_made_words, f_is_turn, f_check_turn, f_derived, f_brackets_made, f_table_of, f_check_inputs, f_input_table, f_bits_of, f_formula_tree, f_placed_words, f_tree_from, f_expected, f_worth_of, f_undone_steps, f_written, f_check_row, f_is_step, f_products, f_yes_where, f_formula_row, f_many_steps, f_bracket_pairs, f_steps_for, f_both_steps, f_unless, f_law_taken, f_law_pick, f_law_permutation, f_law_behind, f_law_back, f_law_swap, f_law_span, f_law_known, f_law_lock, f_law_terms, f_law_tree, f_law_text, f_law_worth, f_law_bits, f_law_value⟩
    (case a => k_is); (case l => k_is); (case c => k_is); (case k => k_is)
#print axioms PySem.Challenge.cw_lockturns_k10_whole_formulas_holds

