import PyProof.Rows.All
import Wide.All
import OpenK.AllK
import Wide.FinOn
import HandS.ForMost
import HandS.TupSets
import HandS.Conv
import HandS.Strs
import HandS.SortInts
import HandS.IsInst
import HandS.TupAny
import HandS.TupLen
import HandS.TupMul
import HandS.Deep
import HandS.Evl
import KE.GoesEnum
import KE.KDictDisplayH
import HandS.ExcInit
import HandS.ExcOwn
import HandS.ExcField
import HandS.TryOnly
import HandS.ForExc
import HandS.Small
import HandS.Property
import HandS.Lambda
import HandS.Nested
import KE.KDflt
import HandS.EndOwn
import HandS.NestedK
import HandS.Codes
import HandS.FStr
import HandS.WideBits
import PyProof.StrBlock2
import HandS.SortKw
import KE.SortCalls
import KE.SortData
import KE.SortKeyHeap
import KE.KSortKey
import HandS.Zip
import KE.DataMinMax
import HandS.DictComp
import PyProof.AutoIntOps
import PySem.Challenge.RW_lockturns_k06_whole_rows
set_option Elab.async false
set_option linter.all false
set_option maxRecDepth 100000
set_option maxHeartbeats 4000000
/-! enumerate over a tuple, in a for -/
namespace LtR
open PySem PyProof.Rows
open AutoSeq1 (wpAny_loadPart')
theorem meets_enum1 {v : Value} {o : Obj} {H : Heap → Prop} (B : Begins v o H) :
    Meets (Builtin.«enumerate.__new__» ⟨[.type "enumerate", v], []⟩) (fun _ R s => H s.heap ∧
      R (.ok (.ret (.ref (s.heap.push o).objs.size))) { s with heap := (s.heap.push o).push { cls := .type "enumerate", data := .fields #[.none, .bool false, .ref s.heap.objs.size, rawInt 0, .none, .none] } }) :=
  .of_wp fun prog w A R s h => by
    obtain ⟨hp, g, d, tk, os⟩ := s
    obtain ⟨h1, h⟩ := h
    have hsub := sub_enumerate
    have q1 : ∀ {A' : Around} {E : Value → Shared → Prop} {Q : Value → Shared → Prop}, Q (.ref hp.objs.size) ⟨hp.push o, g, d, tk, os⟩ → wpAny (model prog w) A' (pyIter v) Q E ⟨hp, g, d, tk, os⟩ :=
      fun q => B.iter prog w _ _ ⟨hp, g, d, tk, os⟩ _ h1 q
    wp_walk using q1
    refine wpAny_stack_any fun st => wpAny_pure ?_
    split
    · rename_i c _ _ _ _ _
      cases (c == Value.type "enumerate")
      · wp_walk using q1
        exact ⟨_, rfl, h⟩
      · wp_walk using q1
        exact ⟨_, rfl, h⟩
    · wp_walk using q1
      exact ⟨_, rfl, h⟩
section
variable {prog : Program} {w : World} {A : Around} {E : Value → Shared → Prop} {s : Shared}
theorem enum1_begins {v : Value} {o : Obj} {H : Heap → Prop} {Q : Value → Shared → Prop} (B : Begins v o H) (h1 : H s.heap)
    (h : ∀ h', IsEnum h' (s.heap.objs.size + 1) s.heap.objs.size 0 .none → h'.get? s.heap.objs.size = some o → h'.objs.size = s.heap.objs.size + 2 →
      (∀ b o, s.heap.get? b = some o → h'.get? b = some o) → Q (.ref (s.heap.objs.size + 1)) { s with heap := h' }) :
    wpAny (model prog w) A (call (.type "enumerate") [v]) Q E s := by
  refine callType_new F.called_enumerate (by decide) (F.typeCall_enumerate_1 _) (F.newCall_enumerate_1 _) (fun obj => F.args_object_init_2 obj _) F.entry_enumerate_new
    (meets_enum1 B) ⟨h1, ?_⟩
  have hz : (s.heap.push o).objs.size = s.heap.objs.size + 1 := Heap.size_push ..
  show _ ∧ _
  rw [hz]
  have he : IsEnum ((s.heap.push o).push { cls := .type "enumerate", data := .fields #[.none, .bool false, .ref s.heap.objs.size, rawInt 0, .none, .none] }) (s.heap.objs.size + 1) s.heap.objs.size 0 .none := by
    have := Heap.get?_push_size (s.heap.push o) (o := { cls := .type "enumerate", data := .fields #[.none, .bool false, .ref s.heap.objs.size, rawInt 0, .none, .none] }) rfl
    rw [hz] at this; exact this
  refine ⟨⟨_, he, rfl⟩, h _ he (Heap.get?_push_of_some _ (Heap.get?_push_size _ B.free)) (by rw [Heap.size_push, hz]) fun b o x => Heap.get?_push_of_some _ (Heap.get?_push_of_some _ x)⟩
end
end LtR
namespace L2
open PySem PySem.Spec PyProof.Rows
/-- the tuple at a as it stands at each turn, each item in a new pair -/
def Itet (K : PySem.W.Frag) (a : Addr) : It :=
  ⟨fun i H => ∃ (xs : List V) (x : V), SqT K H a xs ∧ xs[i]? = some x, fun i H v H' => ∃ T x, v = .ref T ∧ H T = none ∧ H' = upd H T (.tup [.int (i : Nat), x]) ∧ ∀ xs, SqT K H a xs → xs[i]? = some x, fun i H => ∃ xs : List V, SqT K H a xs ∧ xs.length = i⟩
theorem turn_enumT {P : Program} {w : World} {K : PySem.W.Frag} {elts : List Expr} {kk : Nat} {tpos : Pos} (a e it : Addr) (hae : a ≠ e) (hai : a ≠ it) :
    Turn P w K (.Tuple elts kk tpos) (Itet K a) [e, it] e (fun i h => (∃ old, IsEnum h e it ((i : Nat) : Int) old) ∧ h.IsTupleIter it a i ∧ e ≠ it) where
  mem := by simp
  obj := fun i h st b hb => by
    obtain ⟨⟨old, he⟩, ⟨o, ho, hc, hd⟩, _⟩ := st
    have e' : b = e ∨ b = it := by simpa using hb
    rcases e' with z | z
    · rw [z]; exact ⟨_, he, fun v q => nomatch q⟩
    · rw [z]; exact ⟨o, ho, fun v q => by rw [hd] at q; cases q⟩
  keep := fun i h h' st k => let ⟨⟨old, he⟩, hi, hne⟩ := st; ⟨⟨old, k e (by simp) _ he⟩, hi.at fun o q => k it (by simp) o q, hne⟩
  item := by
    intro X hP hw hK hc i pins s σ H E I hf st hg
    subst hP hw hK
    obtain ⟨⟨old, he⟩, hit, hne⟩ := st
    obtain ⟨xs, x, hq, hx⟩ := hg
    obtain ⟨its, rv, p, hz⟩ := I.tuple hq
    obtain ⟨u, hu, ru⟩ := rv.get hx
    have hel : e < s.heap.objs.size := Heap.lt_size he
    have hil : it < s.heap.objs.size := by obtain ⟨_, q, _⟩ := hit; exact Heap.lt_size q
    have hu' : its.toArray[i]? = some u := by simpa using hu
    have hlt : i < its.toArray.size := (Array.getElem?_eq_some_iff.mp hu').1
    refine wpAny_pyNext_enum_itemD (Draws.tuple (prog := X.prog) (w := X.w) (A := X.A.in1) (I.ok.hd hc) it a hai its.toArray) he ⟨hit, (show s.heap.IsTuple a its.toArray from p)⟩ hlt hne (by simp [hne, Ne.symm hae]) fun x' h' tk hP ho hst' hT hsz hk => ?_
    have ex : x' = u := Option.some.inj ((show its.toArray[i]? = some x' from hP).symm.trans hu')
    subst ex
    obtain ⟨hit', hp'⟩ := hst'
    refine ⟨_, rfl, wpAny_letOwnedTupleGo_enum (s := { s with heap := h', toks := tk + 1 }) ho fun h'' he' sb => ?_⟩
    have hT2 : h''.get? s.heap.objs.size = some { cls := .type "tuple", data := .seq #[.int i tk, x'] } := (sb.2 _ (Nat.ne_of_gt hel)).trans hT
    have new : ObjOk X.prog X.w (upd H s.heap.objs.size (.tup [.int (i : Nat), x])) h'' s.heap.objs.size (.tup [.int (i : Nat), x]) :=
      ⟨by show 2 ≤ sizeLine; decide, [.int i tk, x'], .cons ⟨_, rfl⟩ (.cons ru .nil), ⟨_, hT2, rfl, _, rfl⟩⟩
    have I1 : Inv X pins σ (upd H s.heap.objs.size (.tup [.int (i : Nat), x])) { s with heap := h'', toks := tk + 1 } :=
      I.turnedNew (ch := [e, it]) (fun b ob hb q => (sb.2 b (fun z => hb (by simp [z]))).trans (hk b ob (fun z => hb (by simp [z])) (fun z => hb (by simp [z])) q)) hf (Nat.le_refl _) new
    refine ⟨.ref s.heap.objs.size, _, I1, rfl, ⟨_, x, rfl, I.hok.fresh (Nat.le_refl _), rfl, fun ys hy => by rw [I.tuple_inj hy hq]; exact hx⟩, ⟨⟨x', ?_⟩, hit'.at fun o q => (sb.2 it (Ne.symm hne)).trans q, hne⟩, fun b hb => ?_⟩
    · have e1 : ((i + 1 : Nat) : Int) = (i : Int) + 1 := by omega
      rw [e1]; exact he'
    · have hb' : b < s.heap.objs.size := by
        have e' : b = e ∨ b = it := by simpa using hb
        rcases e' with z | z
        · rw [z]; exact hel
        · rw [z]; exact hil
      rw [upd_ne (Nat.ne_of_lt hb')]
      exact (hf b hb).1
  done := by
    intro X hP hw hK hc i pins s σ H E I hf st hg
    subst hP hw hK
    obtain ⟨⟨old, he⟩, hit, hne⟩ := st
    obtain ⟨xs, hq, hx⟩ := hg
    obtain ⟨its, rv, p, hz⟩ := I.tuple hq
    obtain ⟨f0, f1, f2, f3, f4, f5⟩ := hf it (by simp)
    have hl := rv.length
    have hn : its.toArray.size = i := by simp; omega
    exact wpAny_pyNext_enum_endD (Draws.tuple (prog := X.prog) (w := X.w) (A := X.A.in1) (I.ok.hd hc) it a hai its.toArray) he (show s.heap.IsTupleIter it a its.toArray.size ∧ s.heap.IsTuple a its.toArray from ⟨by rw [hn]; exact hit, p⟩) fun h' eb => ⟨rfl, I.turned (t' := s.toks) (fun b o hb q => eb b o hb q) f0 f1 f3 f4 f5⟩
  self := fun A i s Q E st h => let ⟨⟨_, he⟩, _⟩ := st; wpAny_pyIter_enum he h
def iEnumT (K : PySem.W.Frag) (ta : TA) : TI := fun σ H R => ta σ H fun vs H1 => ∃ a xs, vs = [.ref a] ∧ SqT K H1 a xs ∧ R (Itet K a) H1
theorem pi_enumT {X : Cx} {e : Expr} {ta : TA} {p pos tpos : Pos} {elts : List Expr} {kk : Nat} (hg : Gl X "enumerate") (hm : X.mg "enumerate" = none) (ha : PA X [e] ta) (hs : starEach [e] X.env = [(false, eval e X.env)] := by rfl) :
    PI X (.Tuple elts kk tpos) (.Call (.Name "enumerate" p) [e] [] pos) (iEnumT X.K ta) := by
  refine ⟨fun pins s σ H R I h => ?_⟩
  refine Call_ (ld_blt I hg hm boot_enumerate (PyProof.Rows.callWith_type1 (thn (ha.run pos pins s σ H _ I h) fun us s1 ⟨vs, H1, I1, r1, q1⟩ => ?_) hs rfl))
  obtain ⟨a, xs, ex, hq, q⟩ := q1
  subst ex
  cases r1 with
  | cons r rr =>
    cases rr
    cases r
    obtain ⟨its, rv, p', hz⟩ := I1.tuple hq
    have hal : a < s1.heap.objs.size := by obtain ⟨_, e, _⟩ := p'; exact Heap.lt_size e
    refine LtR.enum1_begins (begins_tuple a its.toArray) (show s1.heap.IsTuple a its.toArray from p') fun h' he hit hsz hk => wpAny_pyIter_enum he ?_
    have I2 : Inv X pins σ H1 { s1 with heap := h' } := I1.kept (t' := s1.toks) hk
    refine ⟨s1.heap.objs.size + 1, [s1.heap.objs.size + 1, s1.heap.objs.size], _, _, H1, rfl, I2, turn_enumT a (s1.heap.objs.size + 1) s1.heap.objs.size (Nat.ne_of_lt (Nat.lt_succ_of_lt hal)) (Nat.ne_of_lt hal), ⟨⟨.none, he⟩, ⟨_, hit, rfl, rfl⟩, Nat.succ_ne_self _⟩, fun b hb => ?_, q⟩
    have e' : b = s1.heap.objs.size + 1 ∨ b = s1.heap.objs.size := by simpa using hb
    have hle : s1.heap.objs.size ≤ b := by
      rcases e' with z | z
      · rw [z]; exact Nat.le_add_right _ _
      · rw [z]; exact Nat.le_refl _
    exact I1.fpOk hle (I1.hok.fresh hle)
end L2

set_option Elab.async false
set_option linter.all false
set_option maxRecDepth 100000
set_option maxHeartbeats 4000000
/-! sorted of a dict whose keys are tuples of ints; sorted of a tuple of ints; tuple.index of ints; {tuple: v} -/
namespace L2
open PySem PySem.Spec PyProof.Rows
section
variable {X : Cx}
/-- t.index(i), the first place -/
theorem mt_tup_indexI : MtR X "tuple.index" (fun x xs H Q => ∃ p, ∃ ys : List Int, ∃ z j, x = .ref p ∧ xs = [.int z] ∧ SqT X.K H p (ys.map V.int) ∧ ys[j]? = some z ∧ (∀ m, m < j → ys[m]? ≠ some z) ∧ Q (.int (j : Nat)) H) := by
  intro pins s σ H x xs v us Q I rx rs h
  obtain ⟨p, ys, z, j, rfl, rfl, hq, hy, hno, q⟩ := h
  cases rx
  obtain ⟨u, rfl, t, rfl⟩ := vals1 rs
  obtain ⟨its, r, pl, hz⟩ := I.tuple hq
  obtain ⟨⟨cls, dd, dt, sl⟩, ho, hc, n, hd⟩ := pl
  simp only at hc hd
  subst hc
  subst hd
  have hl : its.toArray.size = ys.length := by rw [List.size_toArray, ← r.length, List.length_map]
  have hj : j < its.toArray.size := by rw [hl]; exact (List.getElem?_eq_some_iff.mp hy).1
  have at' : ∀ (m : Nat) (hm : m < its.toArray.size), ∃ y t', ys[m]? = some y ∧ its.toArray[m] = Value.int y t' := fun m hm => by
    have hm' : m < ys.length := by rw [← hl]; exact hm
    obtain ⟨w, hw, t', hw'⟩ := r.get (i := m) (x := .int ys[m]) (by simp [hm'])
    refine ⟨ys[m], t', List.getElem?_eq_getElem hm', ?_⟩
    have e := (List.getElem?_eq_some_iff.mp hw).2
    rw [← hw', ← e]
    simp
  have flat : (ys.map V.int).all flatV = true := by
    rw [List.all_map]
    exact List.all_eq_true.mpr fun _ _ => rfl
  refine call_meets PySem.F.slot_tuple_index ⟨_, ho, rfl⟩ PySem.F.entry_tuple_index (PySem.F.args_tuple_index_2 _ _) (TI.tuple_indexAt p its.toArray n dd sl (.int z t) (eqU (.int z)) j hj ?_ ?_)
    ⟨ho, fun w hw => mem_eqAt (x := .int z) ⟨t, rfl⟩ rfl r flat w (by simpa using hw), ⟨.int (j : Nat), H, I.tok _, ⟨_, rfl⟩, q⟩⟩
  · obtain ⟨y, t', h1, h2⟩ := at' j hj
    rw [hy] at h1
    cases h1
    rw [h2]
    show (z == z) = true
    exact beq_self_eq_true z
  · intro m hm hmj
    obtain ⟨y, t', h1, h2⟩ := at' m hm
    rw [h2]
    show (y == z) = false
    exact beq_eq_false_iff_ne.mpr fun e => hno m hmj (e ▸ h1)
/-- sorted(d), d a dict with fewer than 64 keys, all tuples of dd ints in [0, B) -/
def rSortDT (d : Nat) (B : Int) : List V → Hp → VK → Prop := fun vs H Q => ∃ (a : Addr) (kvs : List (List Key × V)) (ks : List (List Int)), vs = [V.ref a] ∧ Rd H a (.dT kvs) ∧ kvs.map (·.1) = ks.map (fun k => k.map Sum.inl) ∧ ks.length < 64 ∧ (∀ k ∈ ks, k.length = d ∧ TS.Bd B k) ∧
  ∀ (bs : List Addr) (ks' : List (List Int)) (p : Addr), ks'.Perm ks → ks'.Pairwise (fun x y => TS.code B x ≤ TS.code B y) → Paired (fun (b : Addr) k => H b = some (.tup (k.map V.int))) bs ks' → H p = none → Q (.ref p) (upd H p (.lst (bs.map V.ref)))
theorem kV_ints (k : List Int) : (k.map (Sum.inl : Int → Key)).map kV = k.map V.int := by
  rw [List.map_map]
  rfl
def refA : Value → Addr
  | .ref a => a
  | _ => 0
theorem keys_perm {H : Hp} : ∀ {kvs : List (List Key × V)} {xs : List (List Key × Addr × Value)} {ks : List (List Int)}, KT H kvs xs → kvs.map (·.1) = ks.map (fun k => k.map Sum.inl) →
    Paired (fun (u : Value) (k : List Int) => ∃ b, u = .ref b ∧ H b = some (.tup (k.map V.int))) (xs.map fun x => Value.ref x.2.1) ks
  | _, _, [], .nil, _ => .nil
  | _, _, [], .cons _ _, e => by simp at e
  | _, _, _ :: _, .nil, e => by simp at e
  | p :: ps, q :: qs, k :: ks, .cons h t, e => by
    rw [List.map_cons, List.map_cons] at e
    injection e with e1 e2
    refine .cons ⟨q.2.1, rfl, ?_⟩ (keys_perm t e2)
    have z := h.2.1
    rw [e1, kV_ints] at z
    exact z
theorem paired_map_eq {β γ : Type} {F : β → γ → Prop} {f : β → γ} (h : ∀ u k, F u k → f u = k) : ∀ {us : List β} {ks : List γ}, Paired F us ks → us.map f = ks
  | _, _, .nil => rfl
  | _, _, .cons r t => by rw [List.map_cons, h _ _ r, paired_map_eq h t]
theorem paired_mem_left {β γ : Type} {F : β → γ → Prop} : ∀ {us : List β} {ks : List γ}, Paired F us ks → ∀ u ∈ us, ∃ k ∈ ks, F u k
  | _, _, .nil, u, h => by cases h
  | _, _, .cons r t, u, h => by
    rcases List.mem_cons.mp h with e | h
    · subst e
      exact ⟨_, List.mem_cons_self, r⟩
    · obtain ⟨k, hk, f⟩ := paired_mem_left t u h
      exact ⟨k, List.mem_cons_of_mem _ hk, f⟩
theorem paired_of_map {β γ δ : Type} {F : γ → δ → Prop} {f : β → γ} {g : β → δ} : ∀ {us : List β}, (∀ u ∈ us, F (f u) (g u)) → Paired F (us.map f) (us.map g)
  | [], _ => .nil
  | u :: us, h => .cons (h u List.mem_cons_self) (paired_of_map fun v hv => h v (List.mem_cons_of_mem _ hv))
theorem cr_sortDT {d : Nat} {B : Int} (hc : X.calm = true) (hd1 : 1 ≤ d) : CallR X (.builtin "sorted") (rSortDT d B) := by
  intro pins s σ H xs us Q I r q
  obtain ⟨a, kvs, ks, rfl, hd, hks, h64, hB, q⟩ := q
  obtain ⟨u, eu, rx⟩ := vals1 r
  subst eu
  cases rx
  obtain ⟨z, lo, kx, pr, o, es, ep, ho, hx, hdt, he, hn⟩ := (show ObjOk X.prog X.w H s.heap a (.dT kvs) from hd.ok I.hok)
  have l1 : es.size = kx.length := size_of_entries he
  have l2 : kvs.length = kx.length := Paired.length pr
  refine Calls.call_function_entry PyProof.Rows.kind_sorted PyProof.Rows.plain_sorted PyProof.Rows.entry_sorted (PyProof.Rows.args_sorted1 _) ?_
  unfold Builtin.«sorted»
  refine wpAny_bind (m := checkCount "sorted" 1 1 _) (wpAny_pure ?_)
  refine wpAny_bind (PySem.W.kdu_collect (A := X.A.in1) (kdl_raw lo hx hdt) (I.ok.hd hc) ho (by omega) fun h' tk acc hk hacc => ?_)
  have ea : acc.toList = kx.map fun x => Value.ref x.2.1 := by
    have hl : acc.toList.length = kx.length := by rw [Array.length_toList, hacc.1]; exact l1
    apply List.ext_getElem?
    intro j
    rw [List.getElem?_map]
    cases hj : acc.toList[j]? with
    | none =>
      have h1 := List.getElem?_eq_none_iff.mp hj
      rw [List.getElem?_eq_none (by omega)]
      all_goals rfl
    | some v =>
      obtain ⟨en, hen, hv⟩ := hacc.2 j v (by rw [← Array.getElem?_toList]; exact hj)
      have qe := entry_at he j
      rw [hen] at qe
      cases hb : kx[j]? with
      | none =>
        rw [hb] at qe
        exact nomatch (show some en = none from qe)
      | some b =>
        rw [hb] at qe
        have e2 : en = entryOfKey (tupleKind (mixKind X.prog X.w)) b := Option.some.inj qe
        rw [hv, e2]
        all_goals rfl
  have I1 : Inv X pins σ H { s with heap := h', toks := tk } := I.kept hk
  have prk := keys_perm pr hks
  rw [← ea] at prk
  generalize acc.toList = vs at prk
  have hvl : vs.length = ks.length := Paired.length prk
  have tup : ∀ b (k : List Int), H b = some (.tup (k.map V.int)) → TS.TupInts h' (.ref b) k := fun b k e => tupI_raw I1 (SqT.of e)
  have hin : ∀ v ∈ vs, ∃ b k, k ∈ ks ∧ v = .ref b ∧ H b = some (.tup (k.map V.int)) := fun v hv => by
    obtain ⟨k, hk', b, e1, e2⟩ := paired_mem_left prk v hv
    exact ⟨b, k, hk', e1, e2⟩
  have hmap : vs.map (TS.intsOf h') = ks := paired_map_eq (fun u k h => by
    obtain ⟨b, e1, e2⟩ := h
    subst e1
    exact (tup b k e2).ints) prk
  refine wpAny_bind (wpAny_newList ?_ (by rw [hvl, sizeLine_eq]; omega))
  have hoL : (h'.push (seqObj "list" vs.toArray 0)).get? h'.objs.size = some (seqObj "list" vs.toArray 0) := Heap.get?_push_size _ rfl
  show wpAny _ _ _ _ _ { s with heap := h'.push (seqObj "list" vs.toArray 0), toks := tk }
  have keep : ∀ b u, h'.get? b = some u → (h'.push (seqObj "list" vs.toArray 0)).get? b = some u := fun b u e => Heap.get?_push_of_some _ e
  have I2 : Inv X pins σ H { s with heap := h'.push (seqObj "list" vs.toArray 0), toks := tk } := I1.kept (t' := tk) keep
  have tup2 : ∀ b (k : List Int), H b = some (.tup (k.map V.int)) → TS.TupInts (h'.push (seqObj "list" vs.toArray 0)) (.ref b) k := fun b k e => tupI_raw I2 (SqT.of e)
  have x : TS.TupsOk (h'.push (seqObj "list" vs.toArray 0)) d B vs := fun v hv => by
    obtain ⟨b, k, hk', e1, e2⟩ := hin v hv
    subst e1
    exact ⟨k, tup2 b k e2, (hB k hk').1, (hB k hk').2⟩
  refine wpAny_bind (wpAny_holding (TS.call_sort_tups (s := { s with heap := h'.push (seqObj "list" vs.toArray 0), toks := tk }) hoL (by rw [hvl]; exact h64) hd1 x fun out a1 a2 => ?_))
  obtain ⟨c, hcc⟩ := PyProof.Rows.sortedHeap_at (vs := vs) (out := out) hoL
  have hin' : ∀ v ∈ out.toList, ∃ b k, k ∈ ks ∧ v = .ref b ∧ H b = some (.tup (k.map V.int)) := fun v hv => hin v (a1.mem_iff.mp hv)
  have intz : ∀ v ∈ out.toList, TS.intsOf (h'.push (seqObj "list" vs.toArray 0)) v = TS.intsOf h' v := fun v hv => by
    obtain ⟨b, k, _, e1, e2⟩ := hin' v hv
    subst e1
    rw [(tup2 b k e2).ints, (tup b k e2).ints]
  have hn' : H h'.objs.size = none := I1.hok.fresh (Nat.le_refl _)
  have vr : Vals ((out.toList.map refA).map V.ref) out.toList := by
    have e : out.toList = (out.toList.map refA).map Value.ref := by
      rw [List.map_map]
      refine (List.map_id' out.toList).symm.trans (List.map_congr_left fun v hv => ?_)
      obtain ⟨b, k, _, e1, e2⟩ := hin' v hv
      subst e1
      rfl
    have z := vals_refs (out.toList.map refA)
    rw [← e] at z
    exact z
  have hlen : ((out.toList.map refA).map V.ref).length ≤ sizeLine := by
    rw [List.length_map, List.length_map, a1.length_eq, hvl, sizeLine_eq]
    omega
  refine wpAny_pure ⟨_, rfl, .ref h'.objs.size, upd H h'.objs.size (.lst ((out.toList.map refA).map V.ref)), I1.laid (t' := tk) (fun b u e => ?_) (Nat.le_refl _) ⟨hlen, out.toList, c, vr, hcc⟩, rfl, ?_⟩
  · have hlt : b < h'.objs.size := Heap.lt_size e
    show (PyProof.Rows.sortedHeap (h'.push (seqObj "list" vs.toArray 0)) h'.objs.size vs out).get? b = some u
    rw [PyProof.Rows.sortedHeap_old (Nat.ne_of_lt hlt) (by rw [PyProof.Rows.size_push']; exact Nat.lt_succ_of_lt hlt)]
    exact Heap.get?_push_of_some _ e
  · refine q (out.toList.map refA) (out.toList.map (TS.intsOf h')) h'.objs.size ?_ ?_ ?_ hn'
    · have z := a1.map (TS.intsOf h')
      rw [hmap] at z
      exact z
    · refine List.pairwise_map.mpr (List.Pairwise.imp_of_mem (fun {u v} hu hv h => ?_) a2)
      rw [← intz u hu, ← intz v hv]
      exact h
    · refine paired_of_map fun v hv => ?_
      obtain ⟨b, k, _, e1, e2⟩ := hin' v hv
      subst e1
      rw [(tup b k e2).ints]
      exact e2
/-- sorted(t), t a tuple of fewer than 64 ints -/
def rSortIT (K : PySem.W.Frag) : List V → Hp → VK → Prop := fun vs H Q => ∃ (a : Addr) (ns : List Int), vs = [V.ref a] ∧ SqT K H a (ns.map V.int) ∧ ns.length < 64 ∧
  ∀ (ns' : List Int) (p : Addr), ns'.Perm ns → ns'.Pairwise (· ≤ ·) → H p = none → Q (.ref p) (upd H p (.lst (ns'.map V.int)))
end
section
variable {prog : Program} {w : World} {A : Around} {E : Value → Shared → Prop} {s : Shared}
theorem collect_tup {l : Addr} {vs : List Value} {Q : List Value → Shared → Prop} (hl : s.heap.IsTuple l vs.toArray)
    (h : Q vs { s with heap := (s.heap.push (seqObj "list" #[] 0)).update s.heap.objs.size (Obj.mapSeq (· ++ vs.toArray)) }) (hsz : vs.length ≤ sizeLine) :
    wpAny (model prog w) A (collect (.ref l)) Q E s := by
  obtain ⟨o, ho, hc, n, hd⟩ := id hl
  unfold collect
  refine wpAny_bind (wpAny_runValue (codeAny_builtin entry_proto_collect' ?_))
  show wpAny _ _ (do again (.builtin "list.__iadd__" ⟨[← newList [], .ref l], []⟩)) _ _ s
  refine wpAny_bind (wpAny_newList (wpAny_pure ⟨Code.quiet_builtin _ (by decide +kernel), codeAny_builtin entry_list_iadd' ?_⟩))
  show wpAny _ _ (Builtin.List.listExtendWith (.ref s.heap.objs.size) (.ref l) (.ref s.heap.objs.size)) _ _ { s with heap := s.heap.push (seqObj "list" #[] 0) }
  unfold Builtin.List.listExtendWith
  have ho' : (s.heap.push (seqObj "list" #[] 0)).get? l = some o := Heap.get?_push_of_some _ ho
  refine wpAny_bind (wpAny_typeOf (T := "tuple") ⟨o, ho', hc⟩ ?_)
  have ht : (Value.type "tuple" == Value.type "tuple") = true := by rfl
  rw [if_pos (by rw [ht]; simp)]
  refine wpAny_bind (listItems_at ho' hd ?_)
  refine wpAny_bind (listItems_at (xs := #[]) (n := 0) (Heap.get?_push_size _ rfl) rfl ?_)
  rw [if_neg (by simp)]
  refine wpAny_bind (listUpdate_at (xs := #[]) (n := 0) (Heap.get?_push_size _ rfl) rfl ?_ (Nat.zero_le _) (by show (#[] ++ vs.toArray).size ≤ sizeLine + 1; simp only [Array.size_append, List.size_toArray, List.length_nil]; omega))
  refine wpAny_pure ?_
  show wpAny (model prog w) A (do
      let o ← load s.heap.objs.size
      match o.data with
      | .seq xs _ => pure xs.toList
      | _ => unsupported "internal:collect") Q E { s with heap := (s.heap.push (seqObj "list" #[] 0)).update s.heap.objs.size (Obj.mapSeq (· ++ vs.toArray)) }
  refine wpAny_bind (wpAny_load (get?_update_seq (Heap.get?_push_size _ rfl) _) ?_)
  show wpAny _ _ (pure ((#[] : Array Value) ++ vs.toArray).toList) Q E _
  rw [show ((#[] : Array Value) ++ vs.toArray).toList = vs by simp]
  exact wpAny_pure h
theorem sorted_tupI {l : Addr} {vs : List Value} {ns : List Int} {Q : Value → Shared → Prop} (hl : s.heap.IsTuple l vs.toArray) (hI : IntsAre vs ns) (h64 : vs.length < 64)
    (h : ∀ (out : Array Value) (ns' : List Int), IntsAre out.toList ns' → ns'.Perm ns → ns'.Pairwise (· ≤ ·) → Q (.ref (s.heap.objs.size + 1)) { s with heap := sortedAll s.heap vs out }) :
    wpAny (model prog w) A (call (.builtin "sorted") [.ref l]) Q E s := by
  refine Calls.call_function_entry kind_sorted plain_sorted entry_sorted (args_sorted1 _) ?_
  unfold Builtin.«sorted»
  refine wpAny_bind (m := checkCount "sorted" 1 1 _) (wpAny_pure ?_)
  refine wpAny_bind (collect_tup hl ?_ (by rw [sizeLine_eq]; omega))
  refine wpAny_bind (wpAny_newList ?_ (by rw [sizeLine_eq]; omega))
  have hsz : ((s.heap.push (seqObj "list" #[] 0)).update s.heap.objs.size (Obj.mapSeq (· ++ vs.toArray))).objs.size = s.heap.objs.size + 1 := by
    rw [Heap.size_update, size_push']
  have hoL : (((s.heap.push (seqObj "list" #[] 0)).update s.heap.objs.size (Obj.mapSeq (· ++ vs.toArray))).push (seqObj "list" vs.toArray 0)).get? (s.heap.objs.size + 1) = some (seqObj "list" vs.toArray 0) := by
    rw [← hsz]; exact Heap.get?_push_size _ rfl
  show wpAny _ _ _ _ _ { s with heap := ((s.heap.push (seqObj "list" #[] 0)).update s.heap.objs.size (Obj.mapSeq (· ++ vs.toArray))).push (seqObj "list" vs.toArray 0) }
  rw [hsz]
  refine wpAny_bind (wpAny_holding (wpAny_call_entry slot_list_sort ⟨_, hoL, rfl⟩ entry_list_sort (list_sort_tree hoL hI h64 fun out ns' a1 a2 a3 => ⟨_, rfl, ?_⟩) (args_list_sort _)))
  exact wpAny_pure ⟨_, rfl, h out ns' a1 a2 a3⟩
end
section
variable {X : Cx}
theorem cr_sortIT : CallR X (.builtin "sorted") (rSortIT X.K) := by
  intro pins s σ H vs us Q I r h
  obtain ⟨a, ns, rfl, hs, h64, q⟩ := h
  obtain ⟨its, rv, hl, _⟩ := I.tuple hs
  rw [Vals.ref1 r]
  have hi := rv.ints
  refine sorted_tupI hl hi (by rw [hi.length]; exact h64) fun out ns' h1 h2 h3 => ?_
  obtain ⟨ep, he'⟩ := PyProof.Rows.sortedAll_at s.heap its out
  have hlen : (ns'.map V.int).length ≤ sizeLine := by rw [List.length_map, h2.length_eq]; exact small64 h64
  exact ⟨.ref _, upd H (s.heap.objs.size + 1) (.lst (ns'.map V.int)), I.laid (t' := s.toks) (fun _ _ => PyProof.Rows.sortedAll_old) (Nat.le_succ _) ⟨hlen, out.toList, ep, vals_of_ints h1, he'⟩, rfl, q ns' _ h2 h3 (I.hok.fresh (Nat.le_succ _))⟩
/-- {k: v}, k a tuple of ints and texts -/
def tDispT (tk tv : TE) : TE := fun σ H Q => ∀ p, H p = none → tk σ (upd H p (.dT [])) fun x H1 => tv σ H1 fun y H2 => ∃ (b : Addr) (k : List Key), x = .ref b ∧ H2 p = some (.dT []) ∧ H2 b = some (.tup (k.map kV)) ∧ Q (.ref p) (upd H2 p (.dT [(k, y)]))
theorem pe_dispT {k v : Expr} {pos : Pos} {tk tv : TE} (hu : X.A.units + 1 < cLine) (hk : PE X k tk) (hv : PE X v tv) : PE X (.Dict [some k] [v] pos) (tDispT tk tv) := by
  refine ⟨fun pins s σ H Q I q => ?_⟩
  have hn := I.hok.fresh (Nat.le_refl s.heap.objs.size)
  have I1 := I.laid (a := s.heap.objs.size) (o := .dT []) (h' := s.heap.push { cls := .type "dict", data := .dict #[] }) (t' := s.toks) (fun _ _ q => Heap.get?_push_of_some _ q) (Nat.le_refl _) (dt_empty s.heap I.big)
  have hroom : (tupleKind (mixKind X.prog X.w)).room X.A := (show X.A.units < cLine by omega)
  rw [arm_eval_Dict, zip_pairTrees [some k] [v] X.env pos rfl rfl, dictDisplay_pairs (pairTrees [some k] [v] X.env pos) (by intro z; cases z) (by show 1 < 17; omega)]
  refine wpAny_bind (wpAny_standAt (wpAny_bind (wpAny_subDictH (knd := tupleKind (mixKind X.prog X.w)) (Q := fun d s' => wpAny (model X.prog X.w) X.A (pure (Value.ref d)) (EP X pins σ Q) X.xe s') hroom (by show 1 ≤ 15; omega) ?_)))
  refine pairTrees_cons_walk (thn (hk.run pins _ σ _ _ I1 (q _ hn)) fun u s1 ⟨x, H1, I2, rx, q1⟩ => thn (hv.run pins s1 σ H1 _ I2 q1) fun w2 s2 ⟨y, H2, I3, ry, q2⟩ => pairTrees_nil_walk ?_)
  obtain ⟨b, ks, rfl, hp, hb, qq⟩ := q2
  cases rx
  obtain ⟨z, hd, xs0, rel, dd⟩ := dt_of I3.hok hp
  cases rel
  refine ⟨[(ks, b, w2)], ⟨rfl, rfl, key_of I3.hok hb, trivial⟩, dd, fun h' tk' dd' hs => wpAny_pure ⟨.ref s.heap.objs.size, _, ?_, rfl, qq⟩⟩
  obtain ⟨o, es, ep, ho, h2, h3, h4, _, h5⟩ := dd'
  refine d_write I3 (by rw [hp]; exact True.intro) hs ⟨o, ho⟩ ⟨by show 1 ≤ sizeLine; decide, hd, [(ks, b, w2)], .cons ⟨rfl, ?_, ry⟩ .nil, o, es, ep, ho, h2, h3, h4, h5⟩
  rw [upd_ne (ne_of hb hp (fun z => nomatch z))]
  exact hb
end
end L2

set_option Elab.async false
set_option linter.all false
set_option maxRecDepth 100000
set_option maxHeartbeats 4000000
/-! the common ground: turns and locks in the heap, defs by name -/
namespace Lt
open PySem PySem.Spec PyProof.Rows L2
/-! ### heaps -/
theorem same_new {H : Hp} {p : Addr} {o : HO} (h : H p = none) : Same H (upd H p o) := fun b x e => by
  rw [upd_ne (ne_of_none e h)]
  exact e
/-- an object that H does not know may change -/
theorem same_mut {H H' : Hp} {p : Addr} {o : HO} (e : Same H H') (h : H p = none) : Same H (upd H' p o) := fun a u ha => by
  rw [upd_ne (ne_of_none ha h)]
  exact e a u ha
/-- the tuples stay -/
def Tm (H H' : Hp) : Prop := (∀ a xs, H a = some (.tup xs) → H' a = some (.tup xs)) ∧ ∀ a o xs, H a = some (.frz o (.tup xs)) → H' a = some (.frz o (.tup xs))
theorem Tm.refl (H : Hp) : Tm H H := ⟨fun _ _ h => h, fun _ _ _ h => h⟩
theorem Tm.trans {H H1 H2 : Hp} (a : Tm H H1) (b : Tm H1 H2) : Tm H H2 := ⟨fun c x h => b.1 c x (a.1 c x h), fun c o x h => b.2 c o x (a.2 c o x h)⟩
theorem Tm.of {H H' : Hp} (e : Same H H') : Tm H H' := ⟨fun a xs h => e a _ h, fun a o xs h => e a _ h⟩
/-- a tuple to be read: its object known or not -/
abbrev RT (H : Hp) (a : Addr) (xs : List V) : Prop := Rd H a (.tup xs)
theorem RT.tm {H H' : Hp} {a : Addr} {xs : List V} (h : RT H a xs) (e : Tm H H') : RT H' a xs := by
  rcases h with h | ⟨o, h⟩
  · exact .inl (e.1 _ _ h)
  · exact .inr ⟨o, e.2 _ _ _ h⟩
theorem RT.sm {H H' : Hp} {a : Addr} {xs : List V} (h : RT H a xs) (e : Same H H') : RT H' a xs := h.tm (.of e)
theorem RT.sq {K : PySem.W.Frag} {H : Hp} {a : Addr} {xs : List V} (h : RT H a xs) : SqT K H a xs := .inl h
/-- what is no tuple may change -/
theorem Tm.mut {H : Hp} {p : Addr} {o u : HO} (h : H p = some u) (hu : ∀ xs, u ≠ .tup xs) (hf : ∀ ob xs, u ≠ .frz ob (.tup xs)) : Tm H (upd H p o) :=
  ⟨fun a xs e => by rw [upd_ne (ne_of e h (fun z => hu xs z.symm))]; exact e, fun a ob xs e => by rw [upd_ne (ne_of e h (fun z => hf ob xs z.symm))]; exact e⟩
theorem Tm.lst {H : Hp} {p : Addr} {o : HO} {ys : List V} (h : H p = some (.lst ys)) : Tm H (upd H p o) := .mut h (fun _ z => nomatch z) fun _ _ z => nomatch z
theorem Tm.dT {H : Hp} {p : Addr} {o : HO} {ys : List (List Key × V)} (h : H p = some (.dT ys)) : Tm H (upd H p o) := .mut h (fun _ z => nomatch z) fun _ _ z => nomatch z
theorem Tm.new {H : Hp} {p : Addr} {o : HO} (h : H p = none) : Tm H (upd H p o) := .of (same_new h)

/-! ### turns: tuples of numbers -/
def nI (n : Nat) : V := .int (n : Int)
def nIs (t : List Nat) : List V := t.map nI
def TN (H : Hp) (v : V) (t : List Nat) : Prop := ∃ a, v = .ref a ∧ RT H a (nIs t)
/-- one that no dict refuses as a key -/
def TK (H : Hp) (v : V) (t : List Nat) : Prop := ∃ a, v = .ref a ∧ H a = some (.tup (nIs t))
theorem TK.tn {H : Hp} {v : V} {t : List Nat} (h : TK H v t) : TN H v t := let ⟨a, e, h⟩ := h; ⟨a, e, .inl h⟩
theorem TK.tm {H H' : Hp} {v : V} {t : List Nat} (e : Tm H H') (h : TK H v t) : TK H' v t := let ⟨a, ev, ha⟩ := h; ⟨a, ev, e.1 _ _ ha⟩
/-- a tuple of turns -/
def TT (H : Hp) (v : V) (ts : List (List Nat)) : Prop := ∃ a xs, v = .ref a ∧ H a = some (.tup xs) ∧ Paired (TN H) xs ts
/-- a list of turns at a -/
def LT (H : Hp) (a : Addr) (ts : List (List Nat)) : Prop := ∃ xs, H a = some (.lst xs) ∧ Paired (TN H) xs ts
theorem TN.tm {H H' : Hp} {v : V} {t : List Nat} (e : Tm H H') (h : TN H v t) : TN H' v t := let ⟨a, ev, ha⟩ := h; ⟨a, ev, ha.tm e⟩
theorem TNs.tm {H H' : Hp} (e : Tm H H') : ∀ {xs : List V} {ts : List (List Nat)}, Paired (TN H) xs ts → Paired (TN H') xs ts
  | _, _, .nil => .nil
  | _, _, .cons r t => .cons (r.tm e) (TNs.tm e t)
theorem TT.tm {H H' : Hp} {v : V} {t : List (List Nat)} (e : Tm H H') (h : TT H v t) : TT H' v t := let ⟨a, xs, ev, ha, p⟩ := h; ⟨a, xs, ev, e.1 _ _ ha, TNs.tm e p⟩
theorem LT.same {H H' : Hp} {v : Addr} {t : List (List Nat)} (e : Same H H') (h : LT H v t) : LT H' v t := let ⟨xs, ha, p⟩ := h; ⟨xs, e _ _ ha, TNs.tm (.of e) p⟩
theorem nIs_len (t : List Nat) : (nIs t).length = t.length := List.length_map ..
theorem nIs_get (t : List Nat) (i : Nat) : (nIs t)[i]? = (t[i]?).map nI := List.getElem?_map ..
theorem nIs_int (t : List Nat) : nIs t = (t.map Int.ofNat).map V.int := by
  unfold nIs
  rw [List.map_map]
  rfl
theorem nIs_key (t : List Nat) : nIs t = (t.map fun n : Nat => (Sum.inl (Int.ofNat n) : Key)).map kV := by
  unfold nIs
  rw [List.map_map]
  rfl
theorem Paired.getL {α β : Type} {F : α → β → Prop} : ∀ {xs : List α} {ys : List β} {i : Nat} {x : α}, Paired F xs ys → xs[i]? = some x → ∃ y, ys[i]? = some y ∧ F x y
  | _, _, _, _, .nil, e => by simp at e
  | _, _, 0, _, .cons r _, e => by simp at e; subst e; exact ⟨_, rfl, r⟩
  | _, _, i + 1, x, .cons _ t, e => by
    obtain ⟨u, h1, h2⟩ := Paired.getL (i := i) (x := x) t (by simpa using e)
    exact ⟨u, by simpa using h1, h2⟩
theorem Paired.getR {α β : Type} {F : α → β → Prop} : ∀ {xs : List α} {ys : List β} {i : Nat} {y : β}, Paired F xs ys → ys[i]? = some y → ∃ x, xs[i]? = some x ∧ F x y
  | _, _, _, _, .nil, e => by simp at e
  | _, _, 0, _, .cons r _, e => by simp at e; subst e; exact ⟨_, rfl, r⟩
  | _, _, i + 1, x, .cons _ t, e => by
    obtain ⟨u, h1, h2⟩ := Paired.getR (i := i) (y := x) t (by simpa using e)
    exact ⟨u, by simpa using h1, h2⟩
theorem Paired.app {α β : Type} {F : α → β → Prop} : ∀ {xs xs' : List α} {ys ys' : List β}, Paired F xs ys → Paired F xs' ys' → Paired F (xs ++ xs') (ys ++ ys')
  | _, _, _, _, .nil, h => h
  | _, _, _, _, .cons r t, h => .cons r (Paired.app t h)
theorem Paired.one {α β : Type} {F : α → β → Prop} {x : α} {y : β} (h : F x y) : Paired F [x] [y] := .cons h .nil
theorem Paired.tk {α β : Type} {F : α → β → Prop} : ∀ (n : Nat) {xs : List α} {ys : List β}, Paired F xs ys → Paired F (xs.take n) (ys.take n)
  | 0, _, _, _ => .nil
  | _ + 1, _, _, .nil => .nil
  | n + 1, _, _, .cons r t => .cons r (Paired.tk n t)
theorem Paired.dr {α β : Type} {F : α → β → Prop} : ∀ (n : Nat) {xs : List α} {ys : List β}, Paired F xs ys → Paired F (xs.drop n) (ys.drop n)
  | 0, _, _, h => h
  | _ + 1, _, _, .nil => .nil
  | n + 1, _, _, .cons r t => Paired.dr n t

/-! ### data for == and in -/
def dN (n : Nat) : PyData := .int (n : Int)
def dT (t : List Nat) : PyData := .tuple (t.map dN)
theorem dp_nats {K : PySem.W.Frag} {H : Hp} : ∀ t : List Nat, DpAll K H (nIs t) (t.map dN)
  | [] => .nil
  | n :: t => .cons (.int _) (dp_nats t)
theorem TN.dp {K : PySem.W.Frag} {H : Hp} {v : V} {t : List Nat} (h : TN H v t) : Dp K H v (dT t) := by
  obtain ⟨a, rfl, ha⟩ := h
  exact .tup ha.sq (dp_nats t)
theorem TNs.dp {K : PySem.W.Frag} {H : Hp} : ∀ {xs : List V} {ts : List (List Nat)}, Paired (TN H) xs ts → DpAll K H xs (ts.map dT)
  | _, _, .nil => .nil
  | _, _, .cons r t => .cons r.dp (TNs.dp t)
theorem TT.dp {K : PySem.W.Frag} {H : Hp} {v : V} {ts : List (List Nat)} (h : TT H v ts) : Dp K H v (.tuple (ts.map dT)) := by
  obtain ⟨a, xs, rfl, ha, p⟩ := h
  exact .tup (SqT.of ha) (TNs.dp p)
theorem LT.dp {K : PySem.W.Frag} {H : Hp} {a : Addr} {ts : List (List Nat)} (h : LT H a ts) : Dp K H (.ref a) (.list (ts.map dT)) := by
  obtain ⟨xs, ha, p⟩ := h
  exact .lst (SqL.of ha) (TNs.dp p)
theorem eqvAll_map {α : Type} [DecidableEq α] {f : α → PyData} (h : ∀ x y, PyData.eqv (f x) (f y) = decide (x = y)) : ∀ xs ys : List α, PyData.eqvAll (xs.map f) (ys.map f) = decide (xs = ys)
  | [], [] => by simp [PyData.eqvAll]
  | [], _ :: _ => by simp [PyData.eqvAll]
  | _ :: _, [] => by simp [PyData.eqvAll]
  | x :: xs, y :: ys => by
    rw [List.map_cons, List.map_cons, PyData.eqvAll, h, eqvAll_map h xs ys]
    by_cases e1 : x = y <;> by_cases e2 : xs = ys <;> simp [e1, e2]
theorem eqv_dN (a b : Nat) : PyData.eqv (dN a) (dN b) = decide (a = b) := by
  show ((a : Int) == (b : Int)) = decide (a = b)
  by_cases e : a = b
  · subst e; simp
  · rw [decide_eq_false e]
    exact beq_eq_false_iff_ne.mpr (by omega)
theorem eqv_dT (s t : List Nat) : PyData.eqv (dT s) (dT t) = decide (s = t) := by
  show PyData.eqvAll (s.map dN) (t.map dN) = _
  exact eqvAll_map eqv_dN s t
theorem eqv_dTT (s t : List (List Nat)) : PyData.eqv (.tuple (s.map dT)) (.tuple (t.map dT)) = decide (s = t) := by
  show PyData.eqvAll (s.map dT) (t.map dT) = _
  exact eqvAll_map eqv_dT s t
theorem depth_nats : ∀ t : List Nat, PyData.depthAll (t.map dN) = 0
  | [] => rfl
  | n :: t => by
    show max (PyData.depth (dN n)) (PyData.depthAll (t.map dN)) = 0
    rw [depth_nats t]
    rfl
theorem can_nats : ∀ t : List Nat, PyData.canLayAll0 (t.map dN) = true
  | [] => rfl
  | n :: t => by
    show (PyData.canLay0 (dN n) && PyData.canLayAll0 (t.map dN)) = true
    rw [can_nats t]
    rfl
theorem depth_turns : ∀ t : List (List Nat), PyData.depthAll (t.map dT) ≤ 1
  | [] => Nat.zero_le _
  | n :: t => by
    show max (PyData.depthAll (n.map dN) + 1) (PyData.depthAll (t.map dT)) ≤ 1
    rw [depth_nats n]
    have := depth_turns t
    omega
theorem can_turns : ∀ t : List (List Nat), PyData.canLayAll0 (t.map dT) = true
  | [] => rfl
  | n :: t => by
    show (PyData.canLayAll0 (n.map dN) && PyData.canLayAll0 (t.map dT)) = true
    rw [can_turns t, can_nats n]
    rfl
theorem sh_T (t : List Nat) : SeqAt.shaped (dT t) = true := by
  show (PyData.canLayAll0 (t.map dN) && decide (PyData.depthAll (t.map dN) + 1 ≤ 64)) = true
  rw [can_nats, depth_nats]
  rfl
theorem sh_TT (t : List (List Nat)) : SeqAt.shaped (.tuple (t.map dT)) = true := by
  show (PyData.canLayAll0 (t.map dT) && decide (PyData.depthAll (t.map dT) + 1 ≤ 64)) = true
  have := depth_turns t
  rw [can_turns, decide_eq_true (by omega)]
  rfl
theorem sh_LT (t : List (List Nat)) : SeqAt.shaped (.list (t.map dT)) = true := sh_TT t
theorem any_dT (ts : List (List Nat)) (t : List Nat) : ((ts.map dT).any fun z => PyData.eqv z (dT t)) = decide (t ∈ ts) := by
  induction ts with
  | nil => simp
  | cons a ts ih =>
    rw [List.map_cons, List.any_cons, ih, eqv_dT]
    by_cases e : a = t
    · subst e; simp
    · have e' : ¬ t = a := fun z => e z.symm
      simp [e, e']

/-! ### defs by name -/
section
variable (P : Program) (w : World) (K : PySem.W.Frag) (mg : Str → Option Value) (base : Heap)
/-- the def x of the module's top keeps the promise sp -/
def Has (CX : CXT) (k : Nat) (x : Str) (ps : List Str) (sp : Sp) : Prop :=
  ∃ (f : Addr) (fd : FuncData), mg x = some (.ref f) ∧ PySem.W.keepIn K (.ref f) = true ∧ Binds K fd ps [] ∧ FnOk P w K mg base CX k f fd ps sp
/-- the def x of the module's top is the statement st -/
def Top (x : Str) (st : Stmt) (ps : List Str) : Prop := ∃ (f : Addr) (fd : FuncData), mg x = some (.ref f) ∧ Fun K x x st f fd ∧ Binds K fd ps []
end
section
variable {P : Program} {w : World} {K : PySem.W.Frag} {mg : Str → Option Value} {base : Heap}
theorem Has.mono {CX : CXT} {j k : Nat} {x : Str} {ps : List Str} {sp : Sp} (h : Has P w K mg base CX j x ps sp) (l : j ≤ k) : Has P w K mg base CX k x ps sp :=
  let ⟨f, fd, a, b, c, d⟩ := h
  ⟨f, fd, a, b, c, d.mono l⟩
theorem Has.imp {CX : CXT} {k : Nat} {x : Str} {ps : List Str} {sp sp' : Sp} (h : Has P w K mg base CX k x ps sp) (i : ∀ vs H Q E, sp' vs H Q E → sp vs H Q E) : Has P w K mg base CX k x ps sp' :=
  let ⟨f, fd, a, b, c, d⟩ := h
  ⟨f, fd, a, b, c, d.imp i⟩
/-- THE RULE for a def that raises nothing -/
theorem Top.ok {x : Str} {st : Stmt} {N ps : List Str} {k : Nat} {sp : Sp} (T : Top K mg x st ps) (S : FnScope N ps (defScope st)) (len : ∀ vs H Q E, sp vs H Q E → vs.length = ps.length)
    (hbody : ∀ (f : Addr) (cdv : Value) (A : Around) (outer : List Env) (s : Shared) (H : Hp) (vs : List V) (Q : VK) (E : XK), Room k (A.deeper (envOfC x (defScope st) s.heap.objs.size f cdv)) → sp vs H Q E →
      ∃ t, PSs (cxOf CX0 P w K mg base N x (defScope st) f cdv A outer s H E).nox (defBody st) t ∧ t { nx := fun _ H' => Q .non H', rt := Q } (start N vs) H) : Has P w K mg base CX0 (k + 1) x ps sp := by
  obtain ⟨f, fd, hm, F, b⟩ := T
  exact ⟨f, fd, hm, F.kp, b, F.ok S len fun cdv A outer s H vs Q E hr h => hbody f cdv A outer s H vs Q E hr h⟩
end
/-- a call of such a def -/
theorem pe_has {X : Cx} {k : Nat} {x : Str} {ps : List Str} {sp : Sp} {e : Expr} {es : List Expr} {t : TA} {p pos : Pos} (h : Has X.prog X.w X.K X.mg X.base CX0 k x ps sp) (hr : Room k X.A) (hg : Gl X x) (ha : PA X (e :: es) t)
    (hdb : (x == ("__debug__" : Str)) = false := by decide) (he : starEach (e :: es) X.env = (false, eval e X.env) :: starEach es X.env := by rfl) (hpl : (backTo pos (starEach es X.env)).any (·.1) = false := by rfl) :
    PE X (.Call (.Name x p) (e :: es) [] pos) (tCall sp [] E0 t) := by
  obtain ⟨f, fd, hm, hk, hb, F⟩ := h
  exact pe_call F hr hg hm hk hb .nil pass0 ha hdb he hpl
end Lt

set_option Elab.async false
set_option linter.all false
set_option maxRecDepth 100000
set_option maxHeartbeats 4000000
/-! errors of the program's own -/
namespace L2
open PySem PySem.Spec PyProof.Rows
section
variable {X : Cx} {pos : Pos}
/-- X(), X an own exception class without own __init__ -/
theorem pmk_own0 {C : Addr} {bmB : List Value} {B newId initId : String} {x : Str} {p : Pos} (F : ExcBaseFacts B newId initId bmB) (q : PySem.W.excIn X.K C bmB newId = true) (gC : X.mg x = some (.ref C))
    (kC : PySem.W.keepIn X.K (.ref C) = true) (r : Raises X (.ref C)) (hg : Gl X x) (hdb : (x == ("__debug__" : Str)) = false := by decide) :
    PMk X (.Call (.Name x p) [] [] pos) (fun _ H Q => Q (.ref C) none H) := by
  intro pins s σ H Q I h
  refine wpAny_Call_Name_kw (ld_glob I hg gC ?_ hdb)
  refine PySem.W.callWith_K0 I.kIn kC ?_
  obtain ⟨bm, N, nm, qn, bs, hdct, sn, sub, ab, col, dd, k0, k1, k2, k3, k5, mN, hC, hN, hni, T⟩ := exc_obj I.kIn q
  exact wpAny_call_exc_subT F T hC hN hni (fun h' e hm => mk_of I hm r h (I.hok.gone hm.new)) (Nat.zero_le _)
end
end L2
namespace Lt
open PySem PySem.Spec PyProof.Rows L2
/-- __init__(self, f): self.f = f -/
def spInit (K : PySem.W.Frag) (fld : Str) : Sp := fun vs H Q _ => ∃ (a C : Addr) (v : V), vs = [.ref a, v] ∧ OexC K C ∧ PySem.W.findIn K (.ref C) fld = some none ∧ H a = some (exo a C none) ∧
  ∀ dx, H dx = none → dx ≠ a → Q .non (upd (upd H dx (exd dx [(fld, v)])) a (exo a C (some dx)))
section
variable (P : Program) (w : World) (K : PySem.W.Frag) (mg : Str → Option Value) (base : Heap)
/-- an own error class with the field fld, set by its __init__ -/
structure ErrI (x fld : Str) (C : Addr) : Prop where
  oex : OexC K C
  g : mg x = some (.ref C)
  no : PySem.W.findIn K (.ref C) fld = some none
  init : ∃ fI fd, PySem.W.findIn K (.ref C) "__init__" = some (some (.ref fI)) ∧ PySem.W.typeIn K (.ref fI) = some (.type "function") ∧ Binds K fd ["self", fld] [] ∧ FnOk P w K mg base CX0 1 fI fd ["self", fld] (spInit K fld)
  xf : XfC K C
  exm : PySem.W.exmOne K (.ref C) (.ref C) = some true
/-- one without -/
structure Err0 (x : Str) (C : Addr) : Prop where
  q : PySem.W.excIn K C [.type "ValueError", .type "Exception", .type "BaseException", .type "object"] "ValueError.__new__" = true
  g : mg x = some (.ref C)
  k : PySem.W.keepIn K (.ref C) = true
  exC : PySem.W.subIn K (.ref C) (.type "BaseException") = some true
  tyC : PySem.W.typeIn K (.ref C) = some (.type "type")
  exm : PySem.W.exmOne K (.ref C) (.ref C) = some true
end
/-- an error with its field lies behind H -/
def BadF (C : Addr) (fld : Str) (v : V) (H : Hp) (E : XK) : Prop := ∀ d H', Same H H' → H' d = some (.xd [(fld, v)]) → E (.ref C) (some d) H'
/-- an error without fields -/
def Bad0 (C : Addr) (H : Hp) (E : XK) : Prop := ∀ H', Same H H' → E (.ref C) none H'
theorem BadF.same {C : Addr} {fld : Str} {v : V} {H H' : Hp} {E : XK} (h : BadF C fld v H E) (s : Same H H') : BadF C fld v H' E := fun d H2 s2 => h d H2 (s.trans s2)
theorem Bad0.same {C : Addr} {H H' : Hp} {E : XK} (h : Bad0 C H E) (s : Same H H') : Bad0 C H' E := fun H2 s2 => h H2 (s.trans s2)
theorem mk_read {K : PySem.W.Frag} {C : Addr} {fld : Str} {v : V} {H1 : Hp} {Q : XK} (oex : OexC K C) (no : PySem.W.findIn K (.ref C) fld = some none) (h : BadF C fld v H1 Q) :
    [v].length ≤ 1000 ∧ ∀ a, H1 a = none → spInit K fld (.ref a :: ([v] ++ [])) (upd H1 a (exo a C none))
      (fun u H2 => u = .non ∧ ∃ (d : Addr) (fs : List (Str × V)), H2 a = some (exo a C (some d)) ∧ H2 d = some (exd d fs) ∧ H1 d = none ∧ Q (.ref C) (some d) (upd (del H2 a) d (.xd fs))) (fun _ _ _ => False) := by
  refine ⟨by show 1 ≤ 1000; omega, fun a ha => ⟨a, C, v, rfl, oex, no, upd_same, fun dx hdx hne => ⟨rfl, dx, [(fld, v)], upd_same, ?_, ?_, ?_⟩⟩⟩
  · rw [upd_ne hne, upd_same]
  · rw [upd_ne hne] at hdx
    exact hdx
  · rw [upd_ne hne] at hdx
    refine h dx _ (fun b o e => ?_) upd_same
    have h1 : b ≠ a := ne_of_none e ha
    have h2 : b ≠ dx := ne_of_none e hdx
    rw [upd_ne h2, del_ne h1, upd_ne h1, upd_ne h2, upd_ne h1]
    exact e
section
variable {X : Cx} {P : Program} {w : World} {K : PySem.W.Frag} {mg : Str → Option Value} {base : Heap}
/-- raise X(e) -/
theorem pmk_errI {x fld : Str} {C : Addr} {e : Expr} {ta : TA} {p pos : Pos} (T : ErrI X.prog X.w X.K X.mg X.base x fld C) (hr : Room 2 X.A) (hg : Gl X x) (ha : PA X [e] ta)
    (hdb : (x == ("__debug__" : Str)) = false := by decide) (he : starEach (e :: []) X.env = (false, eval e X.env) :: starEach [] X.env := by rfl) (hpl : (backTo pos (starEach [] X.env)).any (·.1) = false := by rfl) :
    PMk X (.Call (.Name x p) [e] [] pos) (tMkO C (spInit X.K fld) [] ta) := by
  obtain ⟨fI, fd, iC, tI, b, F⟩ := T.init
  exact pmk_oex T.oex iC tI F hr b .nil pass0 hg T.g ha hdb he hpl
theorem pmk_err0 {x : Str} {C : Addr} {p pos : Pos} (T : Err0 X.K X.mg x C) (hg : Gl X x) (hdb : (x == ("__debug__" : Str)) = false := by decide) :
    PMk X (.Call (.Name x p) [] [] pos) (fun _ H Q => Q (.ref C) none H) := pmk_own0 PySem.F.excBase_ValueError T.q T.g T.k (raises_own T.exC T.tyC) hg hdb
/-- THE RULE for a def that may raise -/
theorem Top.okX {x : Str} {st : Stmt} {N ps : List Str} {k : Nat} {sp : Sp} (T : Top K mg x st ps) (S : FnScope N ps (defScope st)) (len : ∀ vs H Q E, sp vs H Q E → vs.length = ps.length)
    (hbody : ∀ (f : Addr) (cdv : Value) (A : Around) (outer : List Env) (s : Shared) (H : Hp) (vs : List V) (Q : VK) (E : XK), Room k (A.deeper (envOfC x (defScope st) s.heap.objs.size f cdv)) → sp vs H Q E →
      ∃ t, PSs (cxOf (L2.CX P w) P w K mg base N x (defScope st) f cdv A outer s H E) (defBody st) t ∧ t { nx := fun _ H' => Q .non H', rt := Q } (start N vs) H) : Has P w K mg base (L2.CX P w) (k + 1) x ps sp := by
  obtain ⟨f, fd, hm, F, b⟩ := T
  exact ⟨f, fd, hm, F.kp, b, F.okX S len fun cdv A outer s H vs Q E hr h => hbody f cdv A outer s H vs Q E hr h⟩
/-- a call of a def that may raise, in a body that lets it out -/
theorem pe_hasX {k : Nat} {x : Str} {ps : List Str} {sp : Sp} {e : Expr} {es : List Expr} {t : TA} {p pos : Pos} {E : XK} (h : Has X.prog X.w X.K X.mg X.base (L2.CX X.prog X.w) k x ps sp) (hr : Room k X.A) (hg : Gl X x) (hx : Passes (L2.CX X.prog X.w) X E) (ha : PA X (e :: es) t)
    (hdb : (x == ("__debug__" : Str)) = false := by decide) (he : starEach (e :: es) X.env = (false, eval e X.env) :: starEach es X.env := by rfl) (hpl : (backTo pos (starEach es X.env)).any (·.1) = false := by rfl) :
    PE X (.Call (.Name x p) (e :: es) [] pos) (tCall sp [] E t) := by
  obtain ⟨f, fd, hm, hk, hb, F⟩ := h
  exact pe_call F hr hg hm hk hb .nil hx ha hdb he hpl
/-- the same where what is raised is caught around -/
theorem pe_hasS {k : Nat} {x : Str} {ps : List Str} {sp : Sp} {e : Expr} {es : List Expr} {t : TA} {p pos : Pos} {E : L2.St → XK} (h : Has X.prog X.w X.K X.mg X.base (L2.CX X.prog X.w) k x ps sp) (hr : Room k X.A) (hg : Gl X x) (hx : ∀ σ, PassesAt (L2.CX X.prog X.w) X σ (E σ)) (ha : PA X (e :: es) t)
    (hdb : (x == ("__debug__" : Str)) = false := by decide) (he : starEach (e :: es) X.env = (false, eval e X.env) :: starEach es X.env := by rfl) (hpl : (backTo pos (starEach es X.env)).any (·.1) = false := by rfl) :
    PE X (.Call (.Name x p) (e :: es) [] pos) (tCallS sp E t) := by
  obtain ⟨f, fd, hm, hk, hb, F⟩ := h
  exact pe_callS F hr hg hm hk hb hx ha hdb he hpl
end
/-- no error is wished for: the same def as one that raises nothing -/
theorem pe_hasL {X : Cx} {k : Nat} {x : Str} {ps : List Str} {sp : Sp} {e : Expr} {es : List Expr} {t : TA} {p pos : Pos} (h : Has X.prog X.w X.K X.mg X.base (L2.CX X.prog X.w) k x ps sp) (hr : Room k X.A) (hg : Gl X x) (ha : PA X (e :: es) t)
    (hdb : (x == ("__debug__" : Str)) = false := by decide) (he : starEach (e :: es) X.env = (false, eval e X.env) :: starEach es X.env := by rfl) (hpl : (backTo pos (starEach es X.env)).any (·.1) = false := by rfl) :
    PE X (.Call (.Name x p) (e :: es) [] pos) (tCall sp [] E0 t) := pe_hasX h hr hg passL ha hdb he hpl
end Lt

set_option linter.all false
set_option Elab.async false
/-! permutations as lists of numbers; the turns that given ones make -/
namespace Lt
def IsP (n : Nat) (t : List Nat) : Prop := t.Perm (List.range n)
instance (n : Nat) (t : List Nat) : Decidable (IsP n t) := inferInstanceAs (Decidable (t.Perm (List.range n)))
theorem IsP.len {n : Nat} {t : List Nat} (h : IsP n t) : t.length = n := by
  have e := List.Perm.length_eq h
  rw [List.length_range] at e
  exact e
theorem IsP.nd {n : Nat} {t : List Nat} (h : IsP n t) : t.Nodup := (List.Perm.nodup_iff h).mpr List.nodup_range
theorem IsP.mem {n : Nat} {t : List Nat} (h : IsP n t) {i : Nat} : i ∈ t ↔ i < n := (List.Perm.mem_iff h).trans List.mem_range
theorem IsP.lt {n : Nat} {t : List Nat} (h : IsP n t) : ∀ i ∈ t, i < n := fun i hi => h.mem.mp hi
theorem IsP.still (n : Nat) : IsP n (List.range n) := List.Perm.refl _
def prod (x y : List Nat) : List Nat := x.map fun i => y.getD i 0
theorem prod_len (x y : List Nat) : (prod x y).length = x.length := List.length_map ..
theorem map_getD_range : ∀ (y : List Nat), (List.range y.length).map (fun i => y.getD i 0) = y := fun y => by
  apply List.ext_getElem?
  intro i
  rw [List.getElem?_map]
  by_cases h : i < y.length
  · rw [List.getElem?_range h, Option.map_some, List.getD_eq_getElem?_getD, List.getElem?_eq_getElem h, Option.getD_some]
  · rw [List.getElem?_eq_none (by rw [List.length_range]; omega), List.getElem?_eq_none (by omega), Option.map_none]
theorem IsP.prod {n : Nat} {x y : List Nat} (hx : IsP n x) (hy : IsP n y) : IsP n (prod x y) := by
  have h : (Lt.prod x y).Perm ((List.range n).map fun i => y.getD i 0) := List.Perm.map _ hx
  have e := map_getD_range y
  rw [hy.len] at e
  rw [e] at h
  exact h.trans hy
theorem prod_still_l {n : Nat} {x : List Nat} (hx : x.length = n) : prod (List.range n) x = x := by
  subst hx
  exact map_getD_range x
theorem getD_range {n i : Nat} (h : i < n) : (List.range n).getD i 0 = i := by
  rw [List.getD_eq_getElem?_getD, List.getElem?_range h, Option.getD_some]
theorem prod_still_r {n : Nat} {x : List Nat} (hx : ∀ i ∈ x, i < n) : prod x (List.range n) = x := by
  unfold prod
  refine (List.map_congr_left (g := id) fun i hi => ?_).trans (List.map_id x)
  exact getD_range (hx i hi)
theorem prod_assoc {x y z : List Nat} (hx : ∀ i ∈ x, i < y.length) : prod (prod x y) z = prod x (prod y z) := by
  unfold prod
  rw [List.map_map]
  refine List.map_congr_left fun i hi => ?_
  show z.getD (y.getD i 0) 0 = (y.map fun i => z.getD i 0).getD i 0
  rw [List.getD_eq_getElem?_getD (l := y.map _), List.getElem?_map, List.getD_eq_getElem?_getD (l := y), List.getElem?_eq_getElem (hx i hi)]
  rfl
def inv (t : List Nat) : List Nat := (List.range t.length).map fun p => t.idxOf p
theorem inv_len (t : List Nat) : (inv t).length = t.length := by
  unfold inv
  rw [List.length_map, List.length_range]
theorem map_idxOf {t : List Nat} (h : t.Nodup) : t.map (fun p => t.idxOf p) = List.range t.length := by
  apply List.ext_getElem?
  intro i
  rw [List.getElem?_map]
  by_cases hi : i < t.length
  · rw [List.getElem?_range hi, List.getElem?_eq_getElem hi, Option.map_some, h.idxOf_getElem i hi]
  · rw [List.getElem?_eq_none (by omega), List.getElem?_eq_none (by rw [List.length_range]; omega), Option.map_none]
theorem IsP.inv {n : Nat} {t : List Nat} (h : IsP n t) : IsP n (inv t) := by
  have e := map_idxOf h.nd
  rw [h.len] at e
  have h2 : ((List.range n).map fun p => t.idxOf p).Perm (t.map fun p => t.idxOf p) := List.Perm.map _ (List.Perm.symm h)
  rw [e] at h2
  unfold IsP Lt.inv
  rw [h.len]
  exact h2
theorem prod_inv_r {n : Nat} {t : List Nat} (h : IsP n t) : prod t (inv t) = List.range n := by
  have e : prod t (inv t) = t.map fun p => t.idxOf p := by
    unfold prod
    refine List.map_congr_left fun p hp => ?_
    have hl : p < t.length := by rw [h.len]; exact h.lt p hp
    show ((List.range t.length).map fun p => t.idxOf p).getD p 0 = t.idxOf p
    rw [List.getD_eq_getElem?_getD, List.getElem?_map, List.getElem?_range hl]
    rfl
  rw [e, map_idxOf h.nd, h.len]
theorem prod_inv_l {n : Nat} {t : List Nat} (h : IsP n t) : prod (inv t) t = List.range n := by
  unfold prod inv
  rw [List.map_map, h.len]
  refine (List.map_congr_left (g := id) fun p hp => ?_).trans (List.map_id _)
  have hm : p ∈ t := h.mem.mpr (List.mem_range.mp hp)
  show t.getD (t.idxOf p) 0 = p
  rw [List.getD_eq_getElem?_getD, List.getElem?_eq_getElem (List.idxOf_lt_length_of_mem hm), Option.getD_some, List.getElem_idxOf]
theorem inv_unique {n : Nat} {a b : List Nat} (ha : IsP n a) (hb : IsP n b) (h : prod a b = List.range n) : b = inv a := by
  have h1 : prod (prod (inv a) a) b = prod (inv a) (prod a b) := prod_assoc fun i hi => by rw [ha.len]; exact ha.inv.lt i hi
  rw [prod_inv_l ha, h, prod_still_l hb.len, prod_still_r ha.inv.lt] at h1
  exact h1
theorem inv_prod {n : Nat} {a b : List Nat} (ha : IsP n a) (hb : IsP n b) : inv (prod a b) = prod (inv b) (inv a) := by
  refine (inv_unique (ha.prod hb) (hb.inv.prod ha.inv) ?_).symm
  rw [prod_assoc fun i hi => by rw [hb.len]; exact ha.lt i hi]
  rw [← prod_assoc (x := b) fun i hi => by rw [hb.inv.len]; exact hb.lt i hi, prod_inv_r hb, prod_still_l ha.inv.len, prod_inv_r ha]
/-! ### the turns that makers make, one behind another -/
abbrev W := List Nat × List Nat
/-- the words behind one turn with the makers gs, the first of which stands at place p -/
def grow (t w : List Nat) : List (List Nat) → Nat → List W → List W
  | [], _, L => L
  | g :: gs, p, L => grow t w gs (p + 1) (if prod t g ∈ L.map (·.1) then L else L ++ [(prod t g, w ++ [p])])
/-- the words when the first k have been gone through -/
def qq (gs : List (List Nat)) (n : Nat) : Nat → List W
  | 0 => [(List.range n, [])]
  | k + 1 => match (qq gs n k)[k]? with
    | none => qq gs n k
    | some (t, w) => grow t w gs 0 (qq gs n k)
theorem grow_pre (t w : List Nat) : ∀ (gs : List (List Nat)) (p : Nat) (L : List W), ∃ M, grow t w gs p L = L ++ M
  | [], _, L => ⟨[], (List.append_nil L).symm⟩
  | g :: gs, p, L => by
    show ∃ M, grow t w gs (p + 1) (if prod t g ∈ L.map (·.1) then L else L ++ [(prod t g, w ++ [p])]) = L ++ M
    split
    · exact grow_pre t w gs (p + 1) L
    · obtain ⟨M, e⟩ := grow_pre t w gs (p + 1) (L ++ [(prod t g, w ++ [p])])
      exact ⟨[(prod t g, w ++ [p])] ++ M, by rw [e, List.append_assoc]⟩
theorem qq_pre (gs : List (List Nat)) (n : Nat) : ∀ k, ∃ M, qq gs n (k + 1) = qq gs n k ++ M := fun k => by
  show ∃ M, (match (qq gs n k)[k]? with
    | none => qq gs n k
    | some (t, w) => grow t w gs 0 (qq gs n k)) = qq gs n k ++ M
  split
  · exact ⟨[], (List.append_nil _).symm⟩
  · exact grow_pre _ _ _ _ _
theorem qq_pre' (gs : List (List Nat)) (n k : Nat) : ∀ j, ∃ M, qq gs n (k + j) = qq gs n k ++ M
  | 0 => ⟨[], (List.append_nil _).symm⟩
  | j + 1 => by
    obtain ⟨M, e⟩ := qq_pre' gs n k j
    obtain ⟨M', e'⟩ := qq_pre gs n (k + j)
    exact ⟨M ++ M', by rw [← List.append_assoc, ← e, ← e']; rfl⟩
theorem qq_mono (gs : List (List Nat)) (n : Nat) {k m : Nat} (h : k ≤ m) : ∃ M, qq gs n m = qq gs n k ++ M := by
  obtain ⟨M, e⟩ := qq_pre' gs n k (m - k)
  rw [show k + (m - k) = m by omega] at e
  exact ⟨M, e⟩
/-- at the end nothing more comes -/
theorem qq_end (gs : List (List Nat)) (n : Nat) {k : Nat} (h : (qq gs n k).length ≤ k) : ∀ j, qq gs n (k + j) = qq gs n k
  | 0 => rfl
  | j + 1 => by
    have ih := qq_end gs n h j
    show (match (qq gs n (k + j))[k + j]? with
      | none => qq gs n (k + j)
      | some (t, w) => grow t w gs 0 (qq gs n (k + j))) = qq gs n k
    rw [ih, List.getElem?_eq_none (by omega)]
theorem qq_end' (gs : List (List Nat)) (n : Nat) {k m : Nat} (h : (qq gs n k).length ≤ k) (hm : k ≤ m) : qq gs n m = qq gs n k := by
  have e := qq_end gs n h (m - k)
  rw [show k + (m - k) = m by omega] at e
  exact e
theorem grow_keys (t w : List Nat) : ∀ (gs : List (List Nat)) (p : Nat) (L : List W) (x : List Nat), x ∈ (grow t w gs p L).map (·.1) ↔ x ∈ L.map (·.1) ∨ ∃ g ∈ gs, x = prod t g
  | [], _, L, x => by
    show x ∈ L.map (·.1) ↔ _
    simp
  | g :: gs, p, L, x => by
    show x ∈ (grow t w gs (p + 1) (if prod t g ∈ L.map (·.1) then L else L ++ [(prod t g, w ++ [p])])).map (·.1) ↔ _
    rw [grow_keys t w gs (p + 1)]
    split
    · rename_i h
      constructor
      · rintro (h1 | ⟨g', hg, e⟩)
        · exact .inl h1
        · exact .inr ⟨g', List.mem_cons_of_mem _ hg, e⟩
      · rintro (h1 | ⟨g', hg, e⟩)
        · exact .inl h1
        · rcases List.mem_cons.mp hg with z | hg
          · subst z
            rw [e]
            exact .inl h
          · exact .inr ⟨g', hg, e⟩
    · rw [List.map_append, List.mem_append]
      constructor
      · rintro ((h1 | h1) | ⟨g', hg, e⟩)
        · exact .inl h1
        · exact .inr ⟨g, List.mem_cons_self, List.mem_singleton.mp h1⟩
        · exact .inr ⟨g', List.mem_cons_of_mem _ hg, e⟩
      · rintro (h1 | ⟨g', hg, e⟩)
        · exact .inl (.inl h1)
        · rcases List.mem_cons.mp hg with z | hg
          · subst z
            exact .inl (.inr (List.mem_singleton.mpr e))
          · exact .inr ⟨g', hg, e⟩
theorem nodup_snoc {α : Type} {l : List α} {x : α} (h : l.Nodup) (hx : x ∉ l) : (l ++ [x]).Nodup :=
  List.nodup_append.mpr ⟨h, List.pairwise_singleton _ _, fun a ha b hb e => by
    rw [List.mem_singleton.mp hb] at e
    exact hx (e ▸ ha)⟩
theorem grow_nd (t w : List Nat) : ∀ (gs : List (List Nat)) (p : Nat) (L : List W), (L.map (·.1)).Nodup → ((grow t w gs p L).map (·.1)).Nodup
  | [], _, _, h => h
  | g :: gs, p, L, h => by
    refine grow_nd t w gs (p + 1) _ ?_
    split
    · exact h
    · rename_i hx
      rw [List.map_append]
      exact nodup_snoc h hx
theorem qq_nd (gs : List (List Nat)) (n : Nat) : ∀ k, ((qq gs n k).map (·.1)).Nodup
  | 0 => List.pairwise_singleton _ _
  | k + 1 => by
    show ((match (qq gs n k)[k]? with
      | none => qq gs n k
      | some (t, w) => grow t w gs 0 (qq gs n k)).map (fun x : W => x.1)).Nodup
    split
    · exact qq_nd gs n k
    · exact grow_nd _ _ _ _ _ (qq_nd gs n k)
/-- what the makers make -/
inductive Mk (gs : List (List Nat)) (n : Nat) : List Nat → Prop
  | still : Mk gs n (List.range n)
  | step {t g : List Nat} : Mk gs n t → g ∈ gs → Mk gs n (prod t g)
theorem Mk.isP {gs : List (List Nat)} {n : Nat} (hg : ∀ g ∈ gs, IsP n g) {t : List Nat} (h : Mk gs n t) : IsP n t := by
  induction h with
  | still => exact IsP.still n
  | step _ hm ih => exact ih.prod (hg _ hm)
theorem qq_mk (gs : List (List Nat)) (n : Nat) : ∀ k, ∀ t ∈ (qq gs n k).map (·.1), Mk gs n t
  | 0, t, h => by
    rw [List.mem_singleton.mp (show t ∈ [List.range n] from h)]
    exact .still
  | k + 1, t, h => by
    have ih := qq_mk gs n k
    have h' : t ∈ (match (qq gs n k)[k]? with
      | none => qq gs n k
      | some (t, w) => grow t w gs 0 (qq gs n k)).map (fun x : W => x.1) := h
    split at h'
    · exact ih t h'
    · rename_i t0 w0 e
      rcases (grow_keys t0 w0 gs 0 _ t).mp h' with z | ⟨g, hg, z⟩
      · exact ih t z
      · rw [z]
        exact .step (ih t0 (List.mem_map.mpr ⟨_, List.mem_of_getElem? e, rfl⟩)) hg
theorem qq_head (gs : List (List Nat)) (n k : Nat) : (List.range n, ([] : List Nat)) ∈ qq gs n k := by
  obtain ⟨M, e⟩ := qq_mono gs n (Nat.zero_le k)
  rw [e]
  exact List.mem_append.mpr (.inl (List.mem_singleton.mpr rfl))
/-- where the words are all gone through, they are all that is made -/
theorem qq_full {gs : List (List Nat)} {n k : Nat} (h : (qq gs n k).length ≤ k) : ∀ t, t ∈ (qq gs n k).map (·.1) ↔ Mk gs n t := fun t => by
  refine ⟨qq_mk gs n k t, fun m => ?_⟩
  induction m with
  | still => exact List.mem_map.mpr ⟨_, qq_head gs n k, rfl⟩
  | @step t g _ hg ih =>
    obtain ⟨⟨t', w'⟩, hm, e⟩ := List.mem_map.mp ih
    have e : t' = t := e
    subst e
    obtain ⟨i, hi, ei⟩ := List.getElem_of_mem hm
    -- position i was gone through at turn i
    have hk : i + 1 ≤ k := by omega
    obtain ⟨M, eM⟩ := qq_mono gs n hk
    obtain ⟨M0, eM0⟩ := qq_mono gs n (show i ≤ i + 1 by omega)
    by_cases hq : i < (qq gs n i).length
    · have g1 : (qq gs n i)[i]? = some (t', w') := by
        have z : (qq gs n k)[i]? = some (t', w') := by rw [List.getElem?_eq_getElem hi, ei]
        rw [eM, eM0, List.append_assoc, List.getElem?_append_left hq] at z
        exact z
      have g2 : qq gs n (i + 1) = grow t' w' gs 0 (qq gs n i) := by
        show (match (qq gs n i)[i]? with
          | none => qq gs n i
          | some (t, w) => grow t w gs 0 (qq gs n i)) = _
        rw [g1]
      rw [eM, List.map_append, List.mem_append]
      refine .inl ?_
      rw [g2]
      exact (grow_keys t' w' gs 0 _ _).mpr (.inr ⟨g, hg, rfl⟩)
    · have z := qq_end' gs n (show (qq gs n i).length ≤ i by omega) (show i ≤ k by omega)
      rw [z] at hi
      exact absurd hi hq
theorem nodup_len {α : Type} [DecidableEq α] : ∀ (l D : List α), l.Nodup → (∀ x ∈ l, x ∈ D) → l.length ≤ D.length
  | [], _, _, _ => Nat.zero_le _
  | x :: l, D, hn, hs => by
    obtain ⟨h1, h2⟩ := List.nodup_cons.mp hn
    have hx : x ∈ D := hs x List.mem_cons_self
    have ih := nodup_len l (D.erase x) h2 fun y hy => by
      have hne : y ≠ x := fun e => h1 (e ▸ hy)
      exact (List.mem_erase_of_ne hne).2 (hs y (List.mem_cons_of_mem _ hy))
    have e := List.length_erase_of_mem hx
    have hp : 0 < D.length := List.length_pos_of_mem hx
    show l.length + 1 ≤ D.length
    omega
/-- few turns are made: at most m -/
def Few (gs : List (List Nat)) (n m : Nat) : Prop := ∃ D : List (List Nat), D.length ≤ m ∧ ∀ t, Mk gs n t → t ∈ D
theorem Few.le {gs : List (List Nat)} {n m : Nat} (h : Few gs n m) {l : List (List Nat)} (hn : l.Nodup) (hl : ∀ t ∈ l, Mk gs n t) : l.length ≤ m := by
  obtain ⟨D, h1, h2⟩ := h
  exact Nat.le_trans (nodup_len l D hn fun t ht => h2 t (hl t ht)) h1
theorem Few.qq {gs : List (List Nat)} {n m : Nat} (h : Few gs n m) (k : Nat) : (qq gs n k).length ≤ m := by
  have z := h.le (qq_nd gs n k) (qq_mk gs n k)
  rw [List.length_map] at z
  exact z
end Lt

set_option Elab.async false
set_option linter.all false
set_option maxRecDepth 100000
set_option maxHeartbeats 4000000
namespace Lt
open PySem PySem.Spec PyProof.Rows L2
/-- the built-in names that the module leaves as they are -/
structure Bi (mg : Str → Option Value) : Prop where
  tuple : mg "tuple" = none
  list : mg "list" = none
  range : mg "range" = none
  len : mg "len" = none
  sorted : mg "sorted" = none
  enumerate : mg "enumerate" = none
  isinstance : mg "isinstance" = none
  all : mg "all" = none
  set : mg "set" = none
  int : mg "int" = none
  bool : mg "bool" = none
  str : mg "str" = none
/-! ### comprehensions -/
section
variable {K : PySem.W.Frag} {te : TE} {vs : List Nat} {σ : L2.St} {H1 : Hp} {D : Addr} {Qd : Hp → Prop} {β : Type} {j : Nat}
/-- what a comprehension's list holds after i turns -/
def Cm (H1 : Hp) (D : Addr) (R : Hp → V → β → Prop) (ys : List β) (i : Nat) (H : Hp) : Prop := Same H1 H ∧ ∃ zs, H D = some (.lst zs) ∧ Paired (R H) zs (ys.take i) ∧ zs.length ≤ i
theorem paired_mono {α γ : Type} {R R' : α → γ → Prop} (h : ∀ a b, R a b → R' a b) : ∀ {xs : List α} {ys : List γ}, Paired R xs ys → Paired R' xs ys
  | _, _, .nil => .nil
  | _, _, .cons r t => .cons (h _ _ r) (paired_mono h t)
theorem cm_turn {R : Hp → V → β → Prop} {ys : List β} {i : Nat} {H : Hp} {σ2 : L2.St} (mono : ∀ H H' v b, Tm H H' → R H v b → R H' v b) (hD : H1 D = none) (p : Cm H1 D R ys i H) (hi : i < 100000) {b : β} (hb : ys[i]? = some b)
    (he : ∀ H, Same H1 H → ∀ Q : VK, (∀ v H', Same H H' → R H' v b → Q v H') → te σ2 H Q) :
    te σ2 H fun y H4 => ∃ acc, H4 D = some (.lst acc) ∧ acc.length < sizeLine ∧ Cm H1 D R ys (i + 1) (upd H4 D (.lst (acc ++ [y]))) := by
  obtain ⟨sm, zs, hz, pr, hl⟩ := p
  refine he H sm _ fun v H4 s4 r => ?_
  have h4 := s4 _ _ hz
  have t4 : Tm H4 (upd H4 D (.lst (zs ++ [v]))) := Tm.lst h4
  refine ⟨zs, h4, Nat.lt_of_le_of_lt hl (Nat.lt_of_lt_of_le hi (by decide)), same_mut (sm.trans s4) hD, zs ++ [v], upd_same, ?_, by rw [List.length_append]; show zs.length + 1 ≤ i + 1; omega⟩
  rw [List.take_add_one, hb]
  exact Paired.app (paired_mono (fun a b q => mono _ _ _ _ ((Tm.of s4).trans t4) q) pr) (Paired.one (mono _ _ _ _ t4 r))
theorem lc_tupM {a : Addr} {xs : List V} (R : Hp → V → β → Prop) (ys : List β) (mono : ∀ H H' v b, Tm H H' → R H v b → R H' v b) (hx : SqT K H1 a xs) (hxK : ∀ H, Same H1 H → SqT K H a xs) (hz : xs.length ≤ 100000) (hy : ys.length = xs.length) (hD : H1 D = none)
    (hw : ∀ x, wipe ((wipe σ vs).set j (some x)) vs = wipe σ vs)
    (he : ∀ (i : Nat) (x : V) (b : β), xs[i]? = some x → ys[i]? = some b → ∀ H, Same H1 H → ∀ Q : VK, (∀ v H', Same H H' → R H' v b → Q v H') → te ((wipe σ vs).set j (some x)) H Q)
    (hd : ∀ H zs, Same H1 H → H D = some (.lst zs) → Paired (R H) zs ys → Qd H) :
    ∃ W : Nat → Nat → Hp → Prop, (∃ m, W 0 m (upd H1 D (.lst []))) ∧ ∀ i m H, W i m H →
      ((Itt K a).stop i H ∧ Qd H) ∨ ((Itt K a).go i H ∧ ∃ Nx : Hp → Prop, (∀ H', Nx H' → ∃ m', m' < m ∧ W (i + 1) m' H') ∧ ∀ x H', (Itt K a).yld i H x H' → gName j x (wipe σ vs) H' fun σ2 H2 => wipe σ2 vs = wipe σ vs ∧ tYes σ2 H2 fun b H3 =>
        if b = true then te σ2 H3 fun y H4 => ∃ acc, H4 D = some (.lst acc) ∧ acc.length < sizeLine ∧ Nx (upd H4 D (.lst (acc ++ [y]))) else Nx H3) :=
  lc_tup (xs := xs) (Cm H1 D R ys) ⟨same_new hD, [], upd_same, .nil, Nat.le_refl _⟩ (fun i H _ p => hxK H p.1)
    (fun i x H hi p => ⟨hw x, iteT (B := Cm H1 D R ys (i + 1) H) (by
      have hl := (List.getElem?_eq_some_iff.mp hi).1
      have hb : ys[i]? = some (ys[i]'(by omega)) := List.getElem?_eq_getElem (by omega)
      exact cm_turn mono hD p (by omega) hb (he i x _ hi hb))⟩)
    (fun H p => by
      obtain ⟨sm, zs, h1, pr, _⟩ := p
      rw [← hy, List.take_length] at pr
      exact hd H zs sm h1 pr)
theorem lc_listM {a : Addr} {xs : List V} (R : Hp → V → β → Prop) (ys : List β) (mono : ∀ H H' v b, Tm H H' → R H v b → R H' v b) (hxK : ∀ H, Same H1 H → SqL K H a xs) (hz : xs.length ≤ 100000) (hy : ys.length = xs.length) (hD : H1 D = none)
    (hw : ∀ x, wipe ((wipe σ vs).set j (some x)) vs = wipe σ vs)
    (he : ∀ (i : Nat) (x : V) (b : β), xs[i]? = some x → ys[i]? = some b → ∀ H, Same H1 H → ∀ Q : VK, (∀ v H', Same H H' → R H' v b → Q v H') → te ((wipe σ vs).set j (some x)) H Q)
    (hd : ∀ H zs, Same H1 H → H D = some (.lst zs) → Paired (R H) zs ys → Qd H) :
    ∃ W : Nat → Nat → Hp → Prop, (∃ m, W 0 m (upd H1 D (.lst []))) ∧ ∀ i m H, W i m H →
      ((Itl K a).stop i H ∧ Qd H) ∨ ((Itl K a).go i H ∧ ∃ Nx : Hp → Prop, (∀ H', Nx H' → ∃ m', m' < m ∧ W (i + 1) m' H') ∧ ∀ x H', (Itl K a).yld i H x H' → gName j x (wipe σ vs) H' fun σ2 H2 => wipe σ2 vs = wipe σ vs ∧ tYes σ2 H2 fun b H3 =>
        if b = true then te σ2 H3 fun y H4 => ∃ acc, H4 D = some (.lst acc) ∧ acc.length < sizeLine ∧ Nx (upd H4 D (.lst (acc ++ [y]))) else Nx H3) :=
  lc_list (xs := xs) (Cm H1 D R ys) ⟨same_new hD, [], upd_same, .nil, Nat.le_refl _⟩ (fun i H _ p => hxK H p.1)
    (fun i x H hi p => ⟨hw x, iteT (B := Cm H1 D R ys (i + 1) H) (by
      have hl := (List.getElem?_eq_some_iff.mp hi).1
      have hb : ys[i]? = some (ys[i]'(by omega)) := List.getElem?_eq_getElem (by omega)
      exact cm_turn mono hD p (by omega) hb (he i x _ hi hb))⟩)
    (fun H p => by
      obtain ⟨sm, zs, h1, pr, _⟩ := p
      rw [← hy, List.take_length] at pr
      exact hd H zs sm h1 pr)
theorem lc_rangeM {n : Nat} (R : Hp → V → β → Prop) (ys : List β) (mono : ∀ H H' v b, Tm H H' → R H v b → R H' v b) (hz : n ≤ 100000) (hy : ys.length = n) (hD : H1 D = none)
    (hw : ∀ x, wipe ((wipe σ vs).set j (some x)) vs = wipe σ vs)
    (he : ∀ (i : Nat) (b : β), i < n → ys[i]? = some b → ∀ H, Same H1 H → ∀ Q : VK, (∀ v H', Same H H' → R H' v b → Q v H') → te ((wipe σ vs).set j (some (.int ((0 : Int) + (i : Nat))))) H Q)
    (hd : ∀ H zs, Same H1 H → H D = some (.lst zs) → Paired (R H) zs ys → Qd H) :
    ∃ W : Nat → Nat → Hp → Prop, (∃ m, W 0 m (upd H1 D (.lst []))) ∧ ∀ i m H, W i m H →
      ((Itr 0 n).stop i H ∧ Qd H) ∨ ((Itr 0 n).go i H ∧ ∃ Nx : Hp → Prop, (∀ H', Nx H' → ∃ m', m' < m ∧ W (i + 1) m' H') ∧ ∀ x H', (Itr 0 n).yld i H x H' → gName j x (wipe σ vs) H' fun σ2 H2 => wipe σ2 vs = wipe σ vs ∧ tYes σ2 H2 fun b H3 =>
        if b = true then te σ2 H3 fun y H4 => ∃ acc, H4 D = some (.lst acc) ∧ acc.length < sizeLine ∧ Nx (upd H4 D (.lst (acc ++ [y]))) else Nx H3) :=
  lc_range (lo := 0) (n := n) (Cm H1 D R ys) ⟨same_new hD, [], upd_same, .nil, Nat.le_refl _⟩
    (fun i H hi p => ⟨hw _, iteT (B := Cm H1 D R ys (i + 1) H) (by
      have hb : ys[i]? = some (ys[i]'(by omega)) := List.getElem?_eq_getElem (by omega)
      exact cm_turn mono hD p (by omega) hb (he i _ hi hb))⟩)
    (fun H p => by
      obtain ⟨sm, zs, h1, pr, _⟩ := p
      rw [← hy, List.take_length] at pr
      exact hd H zs sm h1 pr)
end
/-- a new tuple of numbers -/
theorem tn_of {H : Hp} {zs : List V} {p : Addr} {t : List Nat} (h : H p = some (.tup zs)) (e : zs = nIs t) : TK H (.ref p) t := ⟨p, rfl, by rw [h, e]⟩
def RN (_ : Hp) (v : V) (n : Nat) : Prop := v = nI n
theorem RN.all {H : Hp} : ∀ {zs : List V} {t : List Nat}, Paired (RN H) zs t → zs = nIs t
  | _, _, .nil => rfl
  | _, _, .cons r t => by rw [(show _ = nI _ from r), RN.all t]; rfl
end Lt

set_option Elab.async false
set_option linter.all false
set_option maxRecDepth 100000
namespace Lt
open PySem PySem.Spec PyProof.Rows L2
def topS (i : Nat) : Stmt := PySem.Challenge.pw_lockturns_k06_whole_rows.main.body.getD i (.Pass ⟨0, 0, 0, 0⟩)
abbrev s_LockError : Stmt := topS 1
abbrev s_BadLock : Stmt := topS 2
abbrev s_BadRow : Stmt := topS 3
abbrev s_TooMany : Stmt := topS 4
abbrev s_BadTurn : Stmt := topS 5
abbrev s_BadTask : Stmt := topS 6
abbrev s_BadNumber : Stmt := topS 7
abbrev s_NotPrime : Stmt := topS 8
abbrev s_is_number : Stmt := topS 11
abbrev s_are_numbers : Stmt := topS 12
abbrev s_is_permutation : Stmt := topS 13
abbrev s_still_of : Stmt := topS 14
abbrev s_product_of : Stmt := topS 15
abbrev s_words_of : Stmt := topS 16
abbrev s_all_turns : Stmt := topS 21
abbrev s_check_lock : Stmt := topS 22
abbrev s_made_words : Stmt := topS 23
abbrev s_is_turn : Stmt := topS 24
abbrev s_check_turn : Stmt := topS 25
abbrev s_prime : Stmt := topS 27
abbrev s_polynomial : Stmt := topS 31
abbrev s_degree : Stmt := topS 32
abbrev s_check_inputs : Stmt := topS 33
abbrev s_check_prime : Stmt := topS 34
abbrev s_check_table : Stmt := topS 35
abbrev s_inputs_of : Stmt := topS 36
abbrev s_part_of : Stmt := topS 37
abbrev s_factors_of : Stmt := topS 38
abbrev s_worths : Stmt := topS 41
abbrev s_written : Stmt := topS 42
abbrev s_writes : Stmt := topS 43
abbrev s_degrees : Stmt := topS 44
abbrev s_check_row : Stmt := topS 45
abbrev s_is_step : Stmt := topS 46
abbrev s_products : Stmt := topS 47
abbrev s_yes_where : Stmt := topS 48
abbrev s_law_taken : Stmt := topS 50
abbrev s_law_pick : Stmt := topS 51
abbrev s_law_alike : Stmt := topS 52
abbrev s_law_is : Stmt := topS 53
abbrev s_law_permutation : Stmt := topS 54
abbrev s_law_behind : Stmt := topS 55
abbrev s_law_span : Stmt := topS 56
abbrev s_law_known : Stmt := topS 57
abbrev s_law_lock : Stmt := topS 58
abbrev s_law_bits : Stmt := topS 59
abbrev s_law_parts : Stmt := topS 60
abbrev s_law_value : Stmt := topS 61
abbrev s_law_drawn_row : Stmt := topS 62
abbrev s_law : Stmt := topS 63
end Lt

set_option Elab.async false
set_option linter.all false
set_option maxRecDepth 100000
set_option maxHeartbeats 4000000
namespace Lt
open PySem PySem.Spec PyProof.Rows L2
section
variable {P : Program} {w : World} {K : PySem.W.Frag} {mg : Str → Option Value} {base : Heap}
/-! ### product_of -/
def spProd : Sp := fun vs H Q _ => ∃ (a b : V) (x y : List Nat), vs = [a, b] ∧ TN H a x ∧ TN H b y ∧ (∀ i ∈ x, i < y.length) ∧ x.length ≤ 1000 ∧ ∀ v H', Same H H' → TK H' v (prod x y) → Q v H'
theorem sc_product_of : FnScope ["one", "other", "place"] ["one", "other"] (defScope s_product_of) := ⟨rfl, rfl, rfl, by decide +kernel, rfl, by decide +kernel, by decide +kernel⟩
theorem has_product_of (T : Top K mg "product_of" s_product_of ["one", "other"]) (B : Bi mg) : Has P w K mg base CX0 1 "product_of" ["one", "other"] spProd := by
  refine T.ok sc_product_of (fun vs H Q E h => ?_) (fun f cdv A outer s H vs Q E hr h => ?_)
  · obtain ⟨a, b, x, y, rfl, _⟩ := h
    rfl
  · obtain ⟨a, b, x, y, rfl, ha, hb, hxy, hx, q⟩ := h
    refine ⟨_, pss_one (ps_ret (pe_tupleOf (by rfl) B.tuple (pe_lc (own := [("place", 2)]) (g := gName 2) (te := tOp (rIxT K) (tVar 1) (tVar 2)) (by rfl) sc_product_of.nd (pi_tup (pv 0)) (blkOk_by (own := [("place", 2)]) (N := ["one", "other", "place"]) (sc := defScope s_product_of) (by decide +kernel))
      (fun _ _ _ _ _ => pg_name (i := 2) sc_product_of.nd rfl (Or.inl rfl)) (fun _ _ _ _ _ => pts_nil) (fun _ _ _ _ _ => pe_ix ix_tup (pv 1) (pv 2) (fun _ _ => rfl))))), ?_⟩
    obtain ⟨pa, rfl, ea⟩ := ha
    obtain ⟨pb, rfl, eb⟩ := hb
    refine ⟨_, rfl, pa, rfl, ⟨_, ea.sq⟩, fun D hD => lc_tupM RN (prod x y) (fun _ _ _ _ _ r => r) (ea.sq) (fun H' sm => (ea.sm sm).sq) (by rw [nIs_len]; omega) (by rw [prod_len, nIs_len]) hD (fun x => rfl) (fun i v n hi hn H' sm Q' q' => ?_) (fun H' zs sm hz pr => ?_)⟩
    · rw [nIs_get] at hi
      obtain ⟨m, hm, rfl⟩ := Option.map_eq_some_iff.mp hi
      have hlt := hxy m (List.mem_of_getElem? hm)
      have e : n = y.getD m 0 := by
        have z : (prod x y)[i]? = some (y.getD m 0) := by
          unfold prod
          rw [List.getElem?_map, hm]
          rfl
        exact Option.some.inj (hn.symm.trans z)
      refine ⟨_, rfl, _, rfl, pb, _, _, nI n, rfl, rfl, (eb.sm sm).sq, atI_nat ?_, q' _ _ (Same.refl _) rfl⟩
      rw [nIs_get, e, List.getD_eq_getElem?_getD, List.getElem?_eq_getElem hlt]
      rfl
    · refine .inl ⟨D, zs, rfl, SqL.of hz, fun p hp => q _ _ (sm.trans (same_new hp)) (tn_of upd_same (RN.all pr))⟩
/-! ### still_of -/
def spStill : Sp := fun vs H Q _ => ∃ (n : Nat), vs = [nI n] ∧ n ≤ 1000 ∧ ∀ v H', Same H H' → TK H' v (List.range n) → Q v H'
theorem sc_still_of : FnScope ["size"] ["size"] (defScope s_still_of) := ⟨rfl, rfl, rfl, by decide +kernel, rfl, by decide +kernel, by decide +kernel⟩
theorem rgV_nat (n : Nat) : rgV 0 (n : Int) = nIs (List.range n) := by
  unfold rgV nIs
  have e : ((n : Int) - 0).toNat = n := by omega
  rw [e]
  refine List.map_congr_left fun i _ => ?_
  show V.int (0 + (i : Int)) = V.int (i : Int)
  rw [Int.zero_add]
theorem has_still_of (T : Top K mg "still_of" s_still_of ["size"]) (B : Bi mg) : Has P w K mg base CX0 1 "still_of" ["size"] spStill := by
  refine T.ok sc_still_of (fun vs H Q E h => ?_) (fun f cdv A outer s H vs Q E hr h => ?_)
  · obtain ⟨n, rfl, _⟩ := h
    rfl
  · obtain ⟨n, rfl, hn, q⟩ := h
    refine ⟨_, pss_one (ps_ret (pe_tupRg (by rfl) (by rfl) B.tuple (prg_1 (by rfl) B.range (pv 0)))), ?_⟩
    refine ⟨_, rfl, _, rfl, .of_le (by omega) (by omega) (by omega) (by omega), fun p hp => q _ _ (same_new hp) (tn_of upd_same (rgV_nat n))⟩
end
end Lt

set_option Elab.async false
set_option linter.all false
set_option maxRecDepth 100000
set_option maxHeartbeats 4000000
namespace Lt
open PySem PySem.Spec PyProof.Rows L2
/-! ### any plain value -/
mutual
inductive Rp (H : Hp) : V → PyData → Prop
  | non : Rp H .non .none
  | bl (b : Bool) : Rp H (.bl b) (.bool b)
  | int (i : Int) : Rp H (.int i) (.int i)
  | str (x : Str) : Rp H (.str x) (.str x)
  | lst {a : Addr} {xs : List V} {ds : List PyData} : H a = some (.lst xs) → RpAll H xs ds → Rp H (.ref a) (.list ds)
  | tup {a : Addr} {xs : List V} {ds : List PyData} : RT H a xs → RpAll H xs ds → Rp H (.ref a) (.tuple ds)
inductive RpAll (H : Hp) : List V → List PyData → Prop
  | nil : RpAll H [] []
  | cons {v : V} {vs : List V} {d : PyData} {ds : List PyData} : Rp H v d → RpAll H vs ds → RpAll H (v :: vs) (d :: ds)
end
mutual
theorem Rp.same {H H' : Hp} (e : Same H H') : ∀ (d : PyData) (v : V), Rp H v d → Rp H' v d
  | .none, _, .non => .non
  | .bool _, _, .bl b => .bl b
  | .int _, _, .int i => .int i
  | .str _, _, .str i => .str i
  | .list ds, _, .lst h a => .lst (e _ _ h) (RpAll.same e ds _ a)
  | .tuple ds, _, .tup h a => .tup (h.sm e) (RpAll.same e ds _ a)
theorem RpAll.same {H H' : Hp} (e : Same H H') : ∀ (ds : List PyData) (vs : List V), RpAll H vs ds → RpAll H' vs ds
  | [], _, .nil => .nil
  | d :: ds, _, .cons r t => .cons (Rp.same e d _ r) (RpAll.same e ds _ t)
end
mutual
theorem Rp.dp {K : PySem.W.Frag} {H : Hp} : ∀ (d : PyData) (v : V), Rp H v d → Dp K H v d
  | .none, _, .non => .non
  | .bool _, _, .bl b => .bl b
  | .int _, _, .int i => .int i
  | .str _, _, .str i => .str i
  | .list ds, _, .lst h a => .lst (SqL.of h) (RpAll.dp ds _ a)
  | .tuple ds, _, .tup h a => .tup h.sq (RpAll.dp ds _ a)
theorem RpAll.dp {K : PySem.W.Frag} {H : Hp} : ∀ (ds : List PyData) (vs : List V), RpAll H vs ds → DpAll K H vs ds
  | [], _, .nil => .nil
  | d :: ds, _, .cons r t => .cons (Rp.dp d _ r) (RpAll.dp ds _ t)
end
theorem RpAll.get {H : Hp} : ∀ {ds : List PyData} {vs : List V} {i : Nat} {v : V}, RpAll H vs ds → vs[i]? = some v → ∃ d, ds[i]? = some d ∧ Rp H v d
  | _, _, _, _, .nil, e => by simp at e
  | _, _, 0, _, .cons r _, e => by
    have e := Option.some.inj e
    subst e
    exact ⟨_, rfl, r⟩
  | _, _, i + 1, v, .cons _ t, e => by
    obtain ⟨d, h1, h2⟩ := RpAll.get (i := i) (v := v) t (by simpa using e)
    exact ⟨d, by simpa using h1, h2⟩
theorem RpAll.len {H : Hp} : ∀ {ds : List PyData} {vs : List V}, RpAll H vs ds → vs.length = ds.length
  | _, _, .nil => rfl
  | _, _, .cons _ t => by rw [List.length_cons, List.length_cons, RpAll.len t]
theorem rp_nats {H : Hp} : ∀ t : List Nat, RpAll H (nIs t) (t.map dN)
  | [] => .nil
  | n :: t => .cons (.int _) (rp_nats t)
theorem TN.rp {H : Hp} {v : V} {t : List Nat} (h : TN H v t) : Rp H v (dT t) := by
  obtain ⟨a, rfl, ha⟩ := h
  exact .tup ha (rp_nats t)
theorem TNs.rp {H : Hp} : ∀ {xs : List V} {ts : List (List Nat)}, Paired (TN H) xs ts → RpAll H xs (ts.map dT)
  | _, _, .nil => .nil
  | _, _, .cons r t => .cons r.rp (TNs.rp t)
theorem TT.rp {H : Hp} {v : V} {ts : List (List Nat)} (h : TT H v ts) : Rp H v (.tuple (ts.map dT)) := by
  obtain ⟨a, xs, rfl, ha, p⟩ := h
  exact .tup (.inl ha) (TNs.rp p)
def tyN : PyData → String
  | .none => "NoneType"
  | .bool _ => "bool"
  | .int _ => "int"
  | .str _ => "str"
  | .list _ => "list"
  | .tuple _ => "tuple"
  | .dict _ => "dict"
theorem rp_ty {K : PySem.W.Frag} {H : Hp} {v : V} {d : PyData} (h : Rp H v d) : TyX K H v (.type (tyN d)) := by
  cases h with
  | non => exact .base .non
  | bl b => exact .base (.bl b)
  | int b => exact .base (.int b)
  | str b => exact .base (.str b)
  | lst h _ => exact .base (.lst h)
  | tup h _ =>
    rcases h with h | ⟨o, h⟩
    · exact .base (.tup h)
    · exact .fTuple h
def isIntB : PyData → Bool
  | .int _ => true
  | .bool _ => true
  | _ => false
def isBl : PyData → Bool
  | .bool _ => true
  | _ => false
def isTup : PyData → Bool
  | .tuple _ => true
  | _ => false
def isLst : PyData → Bool
  | .list _ => true
  | _ => false
def isStr : PyData → Bool
  | .str _ => true
  | _ => false
def isNum : PyData → Bool
  | .int _ => true
  | _ => false
theorem kit_int : ∀ d : PyData, kitB (tyN d) "int" = some (isIntB d)
  | .none => (by decide +kernel : kitB "NoneType" "int" = some false)
  | .bool _ => (by decide +kernel : kitB "bool" "int" = some true)
  | .int _ => (by decide +kernel : kitB "int" "int" = some true)
  | .str _ => (by decide +kernel : kitB "str" "int" = some false)
  | .list _ => (by decide +kernel : kitB "list" "int" = some false)
  | .tuple _ => (by decide +kernel : kitB "tuple" "int" = some false)
  | .dict _ => (by decide +kernel : kitB "dict" "int" = some false)
theorem kit_bool : ∀ d : PyData, kitB (tyN d) "bool" = some (isBl d)
  | .none => (by decide +kernel : kitB "NoneType" "bool" = some false)
  | .bool _ => (by decide +kernel : kitB "bool" "bool" = some true)
  | .int _ => (by decide +kernel : kitB "int" "bool" = some false)
  | .str _ => (by decide +kernel : kitB "str" "bool" = some false)
  | .list _ => (by decide +kernel : kitB "list" "bool" = some false)
  | .tuple _ => (by decide +kernel : kitB "tuple" "bool" = some false)
  | .dict _ => (by decide +kernel : kitB "dict" "bool" = some false)
theorem kit_tup : ∀ d : PyData, kitB (tyN d) "tuple" = some (isTup d)
  | .none => (by decide +kernel : kitB "NoneType" "tuple" = some false)
  | .bool _ => (by decide +kernel : kitB "bool" "tuple" = some false)
  | .int _ => (by decide +kernel : kitB "int" "tuple" = some false)
  | .str _ => (by decide +kernel : kitB "str" "tuple" = some false)
  | .list _ => (by decide +kernel : kitB "list" "tuple" = some false)
  | .tuple _ => (by decide +kernel : kitB "tuple" "tuple" = some true)
  | .dict _ => (by decide +kernel : kitB "dict" "tuple" = some false)
theorem kit_lst : ∀ d : PyData, kitB (tyN d) "list" = some (isLst d)
  | .none => (by decide +kernel : kitB "NoneType" "list" = some false)
  | .bool _ => (by decide +kernel : kitB "bool" "list" = some false)
  | .int _ => (by decide +kernel : kitB "int" "list" = some false)
  | .str _ => (by decide +kernel : kitB "str" "list" = some false)
  | .list _ => (by decide +kernel : kitB "list" "list" = some true)
  | .tuple _ => (by decide +kernel : kitB "tuple" "list" = some false)
  | .dict _ => (by decide +kernel : kitB "dict" "list" = some false)
theorem kit_str : ∀ d : PyData, kitB (tyN d) "str" = some (isStr d)
  | .none => (by decide +kernel : kitB "NoneType" "str" = some false)
  | .bool _ => (by decide +kernel : kitB "bool" "str" = some false)
  | .int _ => (by decide +kernel : kitB "int" "str" = some false)
  | .str _ => (by decide +kernel : kitB "str" "str" = some true)
  | .list _ => (by decide +kernel : kitB "list" "str" = some false)
  | .tuple _ => (by decide +kernel : kitB "tuple" "str" = some false)
  | .dict _ => (by decide +kernel : kitB "dict" "str" = some false)
theorem rr_ty (n : String) : RelV (.ty n) (.type n) := rfl
section
variable {P : Program} {w : World} {K : PySem.W.Frag} {mg : Str → Option Value} {base : Heap}
/-! ### is_number -/
def spNum : Sp := fun vs H Q _ => ∃ (v : V) (d : PyData), vs = [v] ∧ Rp H v d ∧ Q (.bl (isNum d)) H
theorem sc_is_number : FnScope ["value"] ["value"] (defScope s_is_number) := ⟨rfl, rfl, rfl, by decide +kernel, rfl, by decide +kernel, by decide +kernel⟩
theorem has_is_number (T : Top K mg "is_number" s_is_number ["value"]) (B : Bi mg) : Has P w K mg base CX0 1 "is_number" ["value"] spNum := by
  refine T.ok sc_is_number (fun vs H Q E h => ?_) (fun f cdv A outer s H vs Q E hr h => ?_)
  · obtain ⟨v, d, rfl, _⟩ := h
    rfl
  · obtain ⟨v, d, rfl, hd, q⟩ := h
    refine ⟨_, pss_one (ps_ret (pe_and (pe_callB call_isi (by rfl) B.isinstance PyProof.Rows.boot_isinstance (pa_cons (pv 0) (pa_cons (pe_bltn (by rfl) B.int PyProof.Rows.boot_int (rr_ty "int")) pa_nil)))
      (pe_one (pe_not (pe_callB call_isi (by rfl) B.isinstance PyProof.Rows.boot_isinstance (pa_cons (pv 0) (pa_cons (pe_bltn (by rfl) B.bool PyProof.Rows.boot_bool (rr_ty "bool")) pa_nil))))))), ?_⟩
    refine ⟨_, rfl, v, .ty "int", _, _, isIntB d, rfl, .ty _, rp_ty hd, kit_ty (kit_int d), isIntB d, rfl, ite2 (fun h => ?_) (fun h => ?_)⟩
    · refine ⟨_, rfl, v, .ty "bool", _, _, isBl d, rfl, .ty _, rp_ty hd, kit_ty (kit_bool d), isBl d, rfl, ?_⟩
      have e : (!isBl d) = isNum d := by cases d <;> first | rfl | cases h
      show Q (.bl (!isBl d)) H
      rw [e]
      exact q
    · have e : false = isNum d := by cases d <;> first | rfl | exact absurd rfl h
      show Q (.bl false) H
      rw [e]
      exact q
end
end Lt

set_option Elab.async false
set_option linter.all false
set_option maxRecDepth 100000
set_option maxHeartbeats 4000000
namespace Lt
open PySem PySem.Spec PyProof.Rows L2
section
variable {P : Program} {w : World} {K : PySem.W.Frag} {mg : Str → Option Value} {base : Heap}
/-! ### are_numbers -/
def isNums : PyData → Bool
  | .tuple ds => ds.all isNum
  | _ => false
def spNums : Sp := fun vs H Q _ => ∃ (v : V) (d : PyData), vs = [v] ∧ Rp H v d ∧ (∀ ds, d = .tuple ds → ds.length ≤ 1000) ∧ ∀ H', Same H H' → Q (.bl (isNums d)) H'
theorem sc_are_numbers : FnScope ["value", "part"] ["value"] (defScope s_are_numbers) := ⟨rfl, rfl, rfl, by decide +kernel, rfl, by decide +kernel, by decide +kernel⟩
theorem bls_of : ∀ {zs : List V} {bs : List Bool}, Paired (fun v b => v = V.bl b) zs bs → zs = bs.map V.bl
  | _, _, .nil => rfl
  | _, _, .cons r t => by rw [r, bls_of t]; rfl
theorem has_are_numbers (T : Top K mg "are_numbers" s_are_numbers ["value"]) (B : Bi mg) (hN : Has P w K mg base CX0 1 "is_number" ["value"] spNum) : Has P w K mg base CX0 2 "are_numbers" ["value"] spNums := by
  refine T.ok sc_are_numbers (fun vs H Q E h => ?_) (fun f cdv A outer s H vs Q E hr h => ?_)
  · obtain ⟨v, d, rfl, _⟩ := h
    rfl
  · obtain ⟨v, d, rfl, hd, hl, q⟩ := h
    refine ⟨_, pss_one (ps_ret (pe_and (pe_callB call_isi (by rfl) B.isinstance PyProof.Rows.boot_isinstance (pa_cons (pv 0) (pa_cons (pe_bltn (by rfl) B.tuple PyProof.Rows.boot_tuple (rr_ty "tuple")) pa_nil)))
      (pe_one (pe_callB (cr_all (by rfl)) (by rfl) B.all PyProof.Rows.boot_all (pa_cons (pe_lc (own := [("part", 1)]) (g := gName 1) (te := tCall spNum [] E0 (tCons (tVar 1) tNil)) (by rfl) sc_are_numbers.nd (pi_tup (pv 0)) (blkOk_by (own := [("part", 1)]) (N := ["value", "part"]) (sc := defScope s_are_numbers) (by decide +kernel))
        (fun _ _ _ _ _ => pg_name (i := 1) sc_are_numbers.nd rfl (Or.inl rfl)) (fun _ _ _ _ _ => pts_nil) (fun _ _ _ _ _ => pe_has hN hr (by rfl) (pa_cons (pv 1) pa_nil))) pa_nil))))), ?_⟩
    refine ⟨_, rfl, v, .ty "tuple", _, _, isTup d, rfl, .ty _, rp_ty hd, kit_ty (kit_tup d), isTup d, rfl, ite2 (fun h => ?_) (fun h => ?_)⟩
    · cases hd with
      | @tup a xs ds ha hx =>
        have hlen := hl ds rfl
        have hxl := hx.len
        refine ⟨_, rfl, a, rfl, ⟨_, ha.sq⟩, fun D hD => lc_tupM (fun _ v b => v = V.bl b) (ds.map isNum) (fun _ _ _ _ _ r => r) (ha.sq) (fun H' sm => (ha.sm sm).sq) (by omega) (by rw [List.length_map, hxl]) hD (fun x => rfl) (fun i v n hi hn H' sm Q' q' => ?_) (fun H' zs sm hz pr => ?_)⟩
        · obtain ⟨d, e1, e2⟩ := hx.get hi
          rw [List.getElem?_map, e1] at hn
          have hn : isNum d = n := Option.some.inj hn
          exact ⟨_, rfl, v, d, rfl, Rp.same sm d _ e2, q' _ _ (Same.refl _) (by rw [hn])⟩
        · refine ⟨D, ds.map isNum, rfl, SqL.of (by rw [hz, bls_of pr]), ?_⟩
          have e : (ds.map isNum).all id = isNums (.tuple ds) := by rw [List.all_map]; rfl
          rw [e]
          exact q _ sm
      | non => cases h
      | bl => cases h
      | int => cases h
      | str => cases h
      | lst => cases h
    · have e : false = isNums d := by cases d <;> first | rfl | exact absurd rfl h
      show Q (.bl false) H
      rw [e]
      exact q _ (Same.refl _)
/-! ### is_permutation -/
def numOf : PyData → Int
  | .int i => i
  | _ => 0
def numsOf : PyData → List Int
  | .tuple ds => ds.map numOf
  | _ => []
def rangeI (n : Nat) : List Int := (List.range n).map Int.ofNat
def isPermD (d : PyData) (n : Nat) : Bool := isNums d && decide ((numsOf d).Perm (rangeI n))
def spPerm : Sp := fun vs H Q _ => ∃ (v : V) (d : PyData) (n : Nat), vs = [v, nI n] ∧ Rp H v d ∧ (∀ ds, d = .tuple ds → ds.length < 64) ∧ n < 64 ∧ ∀ H', Same H H' → Q (.bl (isPermD d n)) H'
theorem sc_is_permutation : FnScope ["value", "size"] ["value", "size"] (defScope s_is_permutation) := ⟨rfl, rfl, rfl, by decide +kernel, rfl, by decide +kernel, by decide +kernel⟩
theorem nums_vals {H : Hp} : ∀ {ds : List PyData} {xs : List V}, RpAll H xs ds → ds.all isNum = true → xs = (ds.map numOf).map V.int
  | _, _, .nil, _ => rfl
  | d :: ds, _, .cons r t, h => by
    rw [List.all_cons, Bool.and_eq_true] at h
    cases r with
    | int i => rw [nums_vals t h.2]; rfl
    | non => cases h.1
    | bl => cases h.1
    | str => cases h.1
    | lst => cases h.1
    | tup => cases h.1
theorem rgV_int (n : Nat) : rgV 0 (n : Int) = (rangeI n).map V.int := by
  unfold rgV rangeI
  have e : ((n : Int) - 0).toNat = n := by omega
  rw [e, List.map_map]
  refine List.map_congr_left fun i _ => ?_
  show V.int (0 + (i : Int)) = V.int (i : Int)
  rw [Int.zero_add]
theorem rangeI_sorted (n : Nat) : (rangeI n).Pairwise (· ≤ ·) := by
  unfold rangeI
  rw [List.pairwise_map]
  exact List.Pairwise.imp (fun {a b} h => Int.ofNat_le.mpr (Nat.le_of_lt h)) List.pairwise_lt_range
theorem dp_ints {K : PySem.W.Frag} {H : Hp} : ∀ t : List Int, DpAll K H (t.map V.int) (t.map PyData.int)
  | [] => .nil
  | n :: t => .cons (.int _) (dp_ints t)
theorem depth_ints : ∀ t : List Int, PyData.depthAll (t.map PyData.int) = 0
  | [] => rfl
  | n :: t => by
    show max (PyData.depth (.int n)) (PyData.depthAll (t.map PyData.int)) = 0
    rw [depth_ints t]
    rfl
theorem can_ints : ∀ t : List Int, PyData.canLayAll0 (t.map PyData.int) = true
  | [] => rfl
  | n :: t => by
    show (PyData.canLay0 (.int n) && PyData.canLayAll0 (t.map PyData.int)) = true
    rw [can_ints t]
    rfl
theorem sh_ints (t : List Int) : SeqAt.shaped (.list (t.map PyData.int)) = true := by
  show (PyData.canLayAll0 (t.map PyData.int) && decide (PyData.depthAll (t.map PyData.int) + 1 ≤ 64)) = true
  rw [can_ints, depth_ints]
  rfl
theorem eqv_ints (s t : List Int) : PyData.eqv (.list (s.map PyData.int)) (.list (t.map PyData.int)) = decide (s = t) := by
  show PyData.eqvAll (s.map PyData.int) (t.map PyData.int) = _
  refine eqvAll_map (fun x y => ?_) s t
  show (x == y) = decide (x = y)
  by_cases e : x = y
  · subst e; simp
  · rw [decide_eq_false e]
    exact beq_eq_false_iff_ne.mpr e
theorem has_is_permutation (T : Top K mg "is_permutation" s_is_permutation ["value", "size"]) (B : Bi mg) (hN : Has P w K mg base CX0 2 "are_numbers" ["value"] spNums) : Has P w K mg base CX0 3 "is_permutation" ["value", "size"] spPerm := by
  refine T.ok sc_is_permutation (fun vs H Q E h => ?_) (fun f cdv A outer s H vs Q E hr h => ?_)
  · obtain ⟨v, d, n, rfl, _⟩ := h
    rfl
  · obtain ⟨v, d, n, rfl, hd, hl, hn, q⟩ := h
    refine ⟨_, pss_one (ps_ret (pe_and (pe_has hN hr (by rfl) (pa_cons (pv 0) pa_nil))
      (pe_one (pe_cmpR (op_eqD hr.units) (pe_callB cr_sortIT (by rfl) B.sorted PyProof.Rows.boot_sorted (pa_cons (pv 0) pa_nil)) (pe_listRg (by rfl) (by rfl) B.list (prg_1 (by rfl) B.range (pv 1))) (nomark _))))), ?_⟩
    refine ⟨_, rfl, v, d, rfl, hd, (fun ds e => by have := hl ds e; omega), fun H1 s1 => ⟨isNums d, rfl, ite2 (fun h => ?_) (fun h => ?_)⟩⟩
    · cases hd with
      | @tup a xs ds ha hx =>
        have h : ds.all isNum = true := h
        have ex := nums_vals hx h
        have ha1 := ha.sm s1
        rw [ex] at ha1
        have hlen := hl ds rfl
        refine ⟨_, rfl, a, ds.map numOf, rfl, ha1.sq, by rw [List.length_map]; exact hlen, fun ns' p pm so hp => ?_⟩
        refine ⟨_, rfl, n, rfl, .of_le (by omega) (by omega) (by omega) (by omega), fun p2 hp2 => ?_⟩
        have e1 : upd (upd H1 p (.lst (ns'.map V.int))) p2 (.lst (rgV 0 n)) p = some (.lst (ns'.map V.int)) := by
          rw [upd_ne (fun z => by rw [← z, upd_same] at hp2; cases hp2), upd_same]
        refine ⟨.list (ns'.map PyData.int), .list ((rangeI n).map PyData.int), .lst (SqL.of e1) (dp_ints _), .lst (SqL.of (by rw [upd_same, rgV_int])) (dp_ints _), sh_ints _, sh_ints _, ?_⟩
        rw [eqv_ints]
        have e : decide (ns' = rangeI n) = isPermD (.tuple ds) n := by
          have hb : isNums (.tuple ds) = true := h
          unfold isPermD
          rw [hb, Bool.true_and]
          refine decide_eq_decide.mpr ⟨fun e => ?_, fun e => ?_⟩
          · rw [← e]
            exact pm.symm
          · exact List.Perm.eq_of_pairwise (fun x y _ _ h1 h2 => Int.le_antisymm h1 h2) so (rangeI_sorted n) (pm.trans e)
        rw [e]
        exact q _ ((s1.trans (same_new hp)).trans (same_new hp2))
      | non => cases h
      | bl => cases h
      | int => cases h
      | str => cases h
      | lst => cases h
    · have e : false = isPermD d n := by
        unfold isPermD
        have z : isNums d = false := by simpa using h
        rw [z]
        rfl
      show Q (.bl false) H1
      rw [e]
      exact q _ s1
end
end Lt

set_option Elab.async false
set_option linter.all false
set_option maxRecDepth 100000
set_option maxHeartbeats 4000000
namespace Lt
open PySem PySem.Spec PyProof.Rows L2
theorem for_enumT {K : PySem.W.Frag} {a : Addr} {xs : List V} {g : TG} {tb : TS} {D : Ends} {σ : L2.St} {H : Hp} (Pv : Nat → L2.St → Hp → Prop) (h0 : Pv 0 σ H) (hl : ∀ i σ H, i ≤ xs.length → Pv i σ H → SqT K H a xs)
    (hs : ∀ (i : Nat) (x : V) σ H T, xs[i]? = some x → Pv i σ H → H T = none → g (.ref T) σ (upd H T (.tup [nI i, x])) fun σ2 H2 => tb { D with nx := Pv (i + 1), ct := Pv (i + 1), bk := D.nx } σ2 H2) (hd : ∀ σ H, Pv xs.length σ H → D.nx σ H) :
    ∃ W : Nat → Nat → L2.St → Hp → Prop, (∃ m, W 0 m σ H) ∧ ∀ i m σ H, W i m σ H →
      ((Itet K a).stop i H ∧ D.nx σ H) ∨ ((Itet K a).go i H ∧ ∃ N : L2.St → Hp → Prop, (∀ σ' H', N σ' H' → ∃ m', m' < m ∧ W (i + 1) m' σ' H') ∧ ∀ x H', (Itet K a).yld i H x H' → g x σ H' fun σ2 H2 => tb { D with nx := N, ct := N, bk := D.nx } σ2 H2) := by
  refine ⟨fun i m σ H => m = xs.length - i ∧ i ≤ xs.length ∧ Pv i σ H, ⟨xs.length, by simp, Nat.zero_le _, h0⟩, ?_⟩
  rintro i m σ H ⟨rfl, hi, p⟩
  have q := hl i σ H hi p
  by_cases hlt : i < xs.length
  · refine .inr ⟨⟨xs, xs[i], q, by simp [hlt]⟩, Pv (i + 1), fun σ' H' p' => ⟨xs.length - (i + 1), by omega, rfl, hlt, p'⟩, fun x H' y => ?_⟩
    obtain ⟨T, z, rfl, hT, rfl, hz⟩ := y
    exact hs i z σ H T (hz xs q) p hT
  · have e : i = xs.length := by omega
    subst e
    exact .inl ⟨⟨xs, q, rfl⟩, hd σ H p⟩
section
variable {P : Program} {w : World} {K : PySem.W.Frag} {mg : Str → Option Value} {base : Heap}
/-! ### back_of -/
def spBack : Sp := fun vs H Q _ => ∃ (a : V) (t : List Nat) (n : Nat), vs = [a] ∧ TN H a t ∧ IsP n t ∧ n ≤ 1000 ∧ ∀ v H', Same H H' → TK H' v (inv t) → Q v H'
theorem rep_zero (n : Nat) : (List.replicate n [V.int 0]).flatten = nIs (List.replicate n 0) := by
  induction n with
  | zero => rfl
  | succ n ih => rw [List.replicate_succ, List.flatten_cons, ih]; rfl
theorem inv_of {n : Nat} {t acc : List Nat} (h : IsP n t) (hl : acc.length = n) (ha : ∀ (j p : Nat), t[j]? = some p → acc[p]? = some j) : acc = inv t := by
  apply List.ext_getElem?
  intro p
  by_cases hp : p < n
  · have hm : p ∈ t := h.mem.mpr hp
    have hj := List.idxOf_lt_length_of_mem hm
    have e := ha (t.idxOf p) p (by rw [List.getElem?_eq_getElem hj, List.getElem_idxOf])
    rw [e]
    unfold inv
    rw [List.getElem?_map, h.len, List.getElem?_range hp]
    rfl
  · rw [List.getElem?_eq_none (by omega), List.getElem?_eq_none (by rw [inv_len, h.len]; omega)]
theorem nIs_set (t : List Nat) (i n : Nat) : (nIs t).set i (nI n) = nIs (t.set i n) := by
  unfold nIs
  rw [List.map_set]
end
end Lt

set_option Elab.async false
set_option linter.all false
set_option maxRecDepth 100000
set_option maxHeartbeats 4000000
namespace Lt
open PySem PySem.Spec PyProof.Rows L2
/-! ### dicts from turns to words -/
def keyN (t : List Nat) : List Key := t.map fun n : Nat => (Sum.inl (Int.ofNat n) : Key)
theorem keyN_inj {s t : List Nat} (h : keyN s = keyN t) : s = t := by
  unfold keyN at h
  exact (List.map_inj_right (fun x y e => by injection e with e; exact Int.ofNat.inj e)).mp h
def DE (H : Hp) (kv : List Key × V) (tw : List Nat × List Nat) : Prop := kv.1 = keyN tw.1 ∧ TN H kv.2 tw.2
def DW (H : Hp) (d : Addr) (L : List (List Nat × List Nat)) : Prop := ∃ kvs, H d = some (.dT kvs) ∧ Paired (DE H) kvs L
theorem DEs.tm {H H' : Hp} (e : Tm H H') : ∀ {kvs : List (List Key × V)} {L : List (List Nat × List Nat)}, Paired (DE H) kvs L → Paired (DE H') kvs L
  | _, _, .nil => .nil
  | _, _, .cons r t => .cons ⟨r.1, r.2.tm e⟩ (DEs.tm e t)
theorem DW.tm {H H' : Hp} {d : Addr} {L : List (List Nat × List Nat)} (h : DW H d L) (e : Tm H H') (ed : H' d = H d) : DW H' d L := let ⟨kvs, h1, h2⟩ := h; ⟨kvs, ed.trans h1, DEs.tm e h2⟩
theorem DW.same {H H' : Hp} {d : Addr} {L : List (List Nat × List Nat)} (h : DW H d L) (e : Same H H') : DW H' d L := let ⟨kvs, h1, h2⟩ := h; ⟨kvs, e _ _ h1, DEs.tm (.of e) h2⟩
theorem dw_none {H : Hp} {t : List Nat} : ∀ {kvs : List (List Key × V)} {L : List (List Nat × List Nat)}, Paired (DE H) kvs L → t ∉ L.map (·.1) → valV kvs (keyN t) = none
  | _, _, .nil, _ => rfl
  | p :: ps, q :: qs, .cons r s, h => by
    have hne : ¬ p.1 = keyN t := fun e => h (by
      rw [List.map_cons]
      rw [r.1] at e
      rw [keyN_inj e]
      exact List.mem_cons_self)
    rw [valV_neg hne]
    exact dw_none s fun m => h (List.mem_cons_of_mem _ m)
theorem dw_some {H : Hp} {t w : List Nat} : ∀ {kvs : List (List Key × V)} {L : List (List Nat × List Nat)}, Paired (DE H) kvs L → (L.map (·.1)).Nodup → (t, w) ∈ L → ∃ v, valV kvs (keyN t) = some v ∧ TN H v w
  | _, _, .nil, _, h => by cases h
  | p :: ps, q :: qs, .cons r s, hn, h => by
    rw [List.map_cons] at hn
    obtain ⟨h1, h2⟩ := List.nodup_cons.mp hn
    rcases List.mem_cons.mp h with e | h
    · subst e
      exact ⟨p.2, valV_pos r.1, r.2⟩
    · have hne : ¬ p.1 = keyN t := fun e => h1 (by
        rw [r.1] at e
        rw [keyN_inj e]
        exact List.mem_map.mpr ⟨_, h, rfl⟩)
      rw [valV_neg hne]
      exact dw_some s h2 h
theorem dw_isSome {H : Hp} {t : List Nat} {kvs : List (List Key × V)} {L : List (List Nat × List Nat)} (p : Paired (DE H) kvs L) (hn : (L.map (·.1)).Nodup) : (valV kvs (keyN t)).isSome = decide (t ∈ L.map (·.1)) := by
  by_cases h : t ∈ L.map (·.1)
  · obtain ⟨⟨t', w⟩, hm, e⟩ := List.mem_map.mp h
    have e : t' = t := e
    subst e
    obtain ⟨v, hv, _⟩ := dw_some p hn hm
    rw [hv, decide_eq_true h]
    rfl
  · rw [dw_none p h, decide_eq_false h]
    rfl
theorem TK.key {H : Hp} {v : V} {t : List Nat} (h : TK H v t) : ∃ b, v = .ref b ∧ H b = some (.tup ((keyN t).map kV)) := by
  obtain ⟨b, e, hb⟩ := h
  exact ⟨b, e, by rw [hb, nIs_key]; rfl⟩
theorem TN.key {H : Hp} {v : V} {t : List Nat} (h : TN H v t) : ∃ b, v = .ref b ∧ RT H b ((keyN t).map kV) := by
  obtain ⟨b, e, hb⟩ := h
  refine ⟨b, e, ?_⟩
  have z : nIs t = (keyN t).map kV := by rw [nIs_key]; rfl
  rw [← z]
  exact hb
theorem LT.tm {H H' : Hp} {a : Addr} {ts : List (List Nat)} (h : LT H a ts) (e : Tm H H') (ea : H' a = H a) : LT H' a ts := let ⟨xs, h1, h2⟩ := h; ⟨xs, ea.trans h1, TNs.tm e h2⟩
/-! ### d[k], k in d: the key to be read -/
def GetR (H : Hp) (a : Addr) (kvs : List (List Key × V)) (k : List Key) (y : V) : Prop := ∃ b, y = .ref b ∧ Rd H a (.dT kvs) ∧ RT H b (k.map kV)
def tDGetR (td ty : TE) : TE := fun σ H Q => td σ H fun x H1 => ty σ H1 fun y H2 => ∃ a v kvs k b, x = .ref a ∧ y = .ref b ∧ Rd H2 a (.dT kvs) ∧ RT H2 b (k.map kV) ∧ valV kvs k = some v ∧ Q v H2
def tDInR (ty td : TE) : TE := fun σ H Q => ty σ H fun y H1 => td σ H1 fun x H2 => ∃ a kvs k b, x = .ref a ∧ y = .ref b ∧ Rd H2 a (.dT kvs) ∧ RT H2 b (k.map kV) ∧ Q (.bl (valV kvs k).isSome) H2
def tDNotInR (ty td : TE) : TE := fun σ H Q => ty σ H fun y H1 => td σ H1 fun x H2 => ∃ a kvs k b, x = .ref a ∧ y = .ref b ∧ Rd H2 a (.dT kvs) ∧ RT H2 b (k.map kV) ∧ Q (.bl (!(valV kvs k).isSome)) H2
theorem key_rd {P : Program} {w : World} {H : Hp} {h : Heap} {ks : List Key} {a : Addr} (ok : HOk P w H h) (e : RT H a (ks.map kV)) : (tupleKind (mixKind P w)).is h ks a := by
  have z : ObjOk P w H h a (.tup (ks.map kV)) := Rd.ok e ok
  obtain ⟨_, its, r, o, h1, h2, n, h3⟩ := z
  exact ⟨o, its.toArray, n, h1, h2, h3, by simpa using items_are r⟩
section
variable {X : Cx} {o i : Expr} {td ty : TE} {pos : Pos}
theorem pc_dinR (hu : X.A.units + 1 < cLine) (hi : PE X i ty) (ho : PE X o td) : PC X .In i o (tDInR ty td) := by
  refine ⟨fun pins s σ H Q I h => ?_⟩
  refine thn (hi.run pins s σ H _ I h) fun iv s1 ⟨y, H1, I1, ry, q1⟩ => thn (ho.run pins s1 σ H1 _ I1 q1) fun u s2 ⟨x, H2, I2, rx, a, kvs, k, b, ex, ey, hd, hb, q2⟩ => ?_
  subst ex ey
  obtain rfl : u = Value.ref a := rx
  obtain rfl : iv = Value.ref b := ry
  obtain ⟨z, hds, xs, rel, dd⟩ := dt_rd I2.hok hd
  refine wpAny_in_heap (tupleKind_room_in1 hu) (key_rd I2.hok hb) hds dd ?_
  have q := (rel.val k).isSome_eq
  rw [Option.isSome_map] at q
  rw [← q]
  exact ⟨.bl (valV kvs k).isSome, H2, I2.tok _, rfl, q2⟩
theorem pe_dgetR (hu : X.A.units + 1 < cLine) (ho : PE X o td) (hi : PE X i ty) (hs : NoSl i) : PE X (.Subscript o i pos) (tDGetR td ty) := by
  refine ⟨fun pins s σ H Q I h => ?_⟩
  refine subD_of PySem.F.slot_dict_getitem.lookup hs (thn (ho.run pins s σ H _ I h) fun u s1 ⟨x, H1, I1, rx, q1⟩ => thn (hi.run pins s1 σ H1 _ I1 q1) fun iv s2 ⟨y, H2, I2, ry, a, v, kvs, k, b, ex, ey, hd, hb, hv, q2⟩ => ?_)
  subst ex ey
  obtain rfl : u = Value.ref a := rx
  obtain rfl : iv = Value.ref b := ry
  obtain ⟨z, hds, xs, rel, dd⟩ := dt_rd I2.hok hd
  obtain ⟨w', hw, rw'⟩ := RelO.some_of (v := v) (o := (atKey xs k).map (·.2)) (by rw [← hv]; exact rel.val k)
  obtain ⟨p, hp, hp2⟩ := Option.map_eq_some_iff.mp hw
  have ht : s2.TypeIs (.ref a) "dict" := by
    obtain ⟨ob, _, _, h1, h2, _⟩ := dd
    exact ⟨ob, h1, h2.1⟩
  refine ⟨ht, wpAny_getItem_heap (tupleKind_room_in1 hu) (key_rd I2.hok hb) dd hp ?_⟩
  rw [hp2]
  exact ⟨v, H2, I2.tok _, rw', q2⟩
end
/-! ### the mirror's turns, maker by maker -/
theorem grow_app (t w : List Nat) : ∀ (xs ys : List (List Nat)) (p : Nat) (L : List (List Nat × List Nat)), grow t w (xs ++ ys) p L = grow t w ys (p + xs.length) (grow t w xs p L)
  | [], _, _, _ => rfl
  | x :: xs, ys, p, L => by
    show grow t w (xs ++ ys) (p + 1) _ = grow t w ys (p + (xs.length + 1)) (grow t w xs (p + 1) _)
    rw [grow_app t w xs ys (p + 1)]
    congr 1
    omega
theorem grow_next {t w : List Nat} {gs : List (List Nat)} {i : Nat} {g : List Nat} (h : gs[i]? = some g) (L : List (List Nat × List Nat)) :
    grow t w (gs.take (i + 1)) 0 L = if prod t g ∈ (grow t w (gs.take i) 0 L).map (·.1) then grow t w (gs.take i) 0 L else grow t w (gs.take i) 0 L ++ [(prod t g, w ++ [i])] := by
  have hl : i < gs.length := (List.getElem?_eq_some_iff.mp h).1
  have e : gs.take (i + 1) = gs.take i ++ [g] := by rw [List.take_add_one, h]; rfl
  rw [e, grow_app, List.length_take, Nat.min_eq_left (Nat.le_of_lt hl), Nat.zero_add]
  rfl
theorem grow_len (t w : List Nat) : ∀ (gs : List (List Nat)) (p : Nat) (L : List (List Nat × List Nat)), (grow t w gs p L).length ≤ L.length + gs.length
  | [], _, L => Nat.le_refl _
  | g :: gs, p, L => by
    have ih := grow_len t w gs (p + 1) (if prod t g ∈ L.map (·.1) then L else L ++ [(prod t g, w ++ [p])])
    show (grow t w gs (p + 1) _).length ≤ L.length + (gs.length + 1)
    split at ih
    · rename_i h
      rw [if_pos h]
      omega
    · rename_i h
      rw [if_neg h]
      rw [List.length_append] at ih
      have e : [(prod t g, w ++ [p])].length = 1 := rfl
      omega
theorem qq_len_le (gs : List (List Nat)) (n k : Nat) : ∀ i, (qq gs n (k + i)).length ≤ (qq gs n k).length + i * gs.length
  | 0 => by rw [Nat.zero_mul]; exact Nat.le_refl _
  | i + 1 => by
    have ih := qq_len_le gs n k i
    have e : (i + 1) * gs.length = i * gs.length + gs.length := Nat.succ_mul _ _
    show (match (qq gs n (k + i))[k + i]? with
      | none => qq gs n (k + i)
      | some (t, w) => grow t w gs 0 (qq gs n (k + i))).length ≤ _
    split
    · omega
    · rename_i t w _
      have := grow_len t w gs 0 (qq gs n (k + i))
      omega
/-- words[turn] + (place,) -/
theorem catA_tn {K : PySem.W.Frag} {H : Hp} {pw p : Addr} {w : List Nat} {j : Nat} {Q : VK} (hw : RT H pw (nIs w)) (hp : H p = some (.tup [nI j])) (hl : w.length ≤ 1000000) (q : ∀ v H', Same H H' → TN H' v (w ++ [j]) → Q v H') : rCatA K (.ref pw) (.ref p) H Q := by
  refine ⟨pw, p, nIs w, [nI j], rfl, rfl, hw.sq, SqT.of hp, ?_, fun e => ?_, fun _ e => (by cases e), fun _ _ p2 hp2 => ?_⟩
  · rw [nIs_len, sizeLine_eq]
    show w.length + 1 ≤ _
    omega
  · have e : w = [] := by
      cases w with
      | nil => rfl
      | cons a w => cases e
    subst e
    exact q _ _ (Same.refl _) ⟨p, rfl, .inl hp⟩
  · refine q _ _ (same_new hp2) ⟨p2, rfl, .inl ?_⟩
    rw [upd_same]
    unfold nIs
    rw [List.map_append]
    rfl
theorem grow_w (t w : List Nat) (m : Nat) : ∀ (gs : List (List Nat)) (p : Nat) (L : List (List Nat × List Nat)), w.length ≤ m → (∀ x ∈ L, x.2.length ≤ m + 1) → ∀ x ∈ grow t w gs p L, x.2.length ≤ m + 1
  | [], _, _, _, h, x, hx => h x hx
  | g :: gs, p, L, hw, h, x, hx => by
    refine grow_w t w m gs (p + 1) _ hw (fun y hy => ?_) x hx
    split at hy
    · exact h y hy
    · rcases List.mem_append.mp hy with z | z
      · exact h y z
      · rw [List.mem_singleton.mp z, List.length_append]
        show w.length + 1 ≤ m + 1
        omega
theorem qq_w (gs : List (List Nat)) (n : Nat) : ∀ k, ∀ x ∈ qq gs n k, x.2.length ≤ k
  | 0, x, h => by
    rw [List.mem_singleton.mp (show x ∈ [(List.range n, ([] : List Nat))] from h)]
    exact Nat.le_refl 0
  | k + 1, x, h => by
    have ih := qq_w gs n k
    have h' : x ∈ (match (qq gs n k)[k]? with
      | none => qq gs n k
      | some (t, w) => grow t w gs 0 (qq gs n k)) := h
    split at h'
    · exact Nat.le_succ_of_le (ih x h')
    · rename_i t w e
      exact grow_w t w k gs 0 _ (ih _ (List.mem_of_getElem? e)) (fun y hy => Nat.le_succ_of_le (ih y hy)) x h'
section
variable {P : Program} {w : World} {K : PySem.W.Frag} {mg : Str → Option Value} {base : Heap}
/-! ### bracket_of -/
def spBracket : Sp := fun vs H Q _ => ∃ (a b : V) (x y : List Nat) (n : Nat), vs = [a, b] ∧ TN H a x ∧ TN H b y ∧ IsP n x ∧ IsP n y ∧ n ≤ 1000 ∧ ∀ v H', Same H H' → TK H' v (prod (prod x y) (inv (prod y x))) → Q v H'
theorem pr_call {H : Hp} {a b : V} {x y : List Nat} {n : Nat} {Q : VK} (ha : TN H a x) (hb : TN H b y) (hx : IsP n x) (hy : IsP n y) (hn : n ≤ 1000) (q : ∀ v H', Same H H' → TK H' v (prod x y) → Q v H') : spProd [a, b] H Q E0 :=
  ⟨a, b, x, y, rfl, ha, hb, fun i hi => by rw [hy.len]; exact hx.lt i hi, by rw [hx.len]; exact hn, q⟩
/-! ### words_of -/
def Cn (mg : Str → Option Value) (x : Str) (i : Int) : Prop := ∃ t, mg x = some (.int i t)
def Wd (gs : List (List Nat)) (n : Nat) (L : List (List Nat × List Nat)) : Prop := ∃ a, L = qq gs n a ∧ a ≤ L.length ∧ (L.length = a ∨ 240 < L.length)
def spWords : Sp := fun vs H Q _ => ∃ (ms : V) (gs : List (List Nat)) (n : Nat), vs = [ms, nI n] ∧ TT H ms gs ∧ (∀ g ∈ gs, IsP n g) ∧ n ≤ 1000 ∧ gs.length ≤ 1000 ∧
  ∀ d H' L, Same H H' → H d = none → DW H' d L → Wd gs n L → Q (.ref d) H'
theorem sc_words_of : FnScope ["makers", "size", "still", "words", "level", "longer", "turn", "place", "maker", "led"] ["makers", "size"] (defScope s_words_of) := ⟨rfl, rfl, rfl, by decide +kernel, rfl, by decide +kernel, by decide +kernel⟩
/-- the state at the while: behind a positions -/
structure WS (H0 : Hp) (ms st : V) (n : Nat) (gs : List (List Nat)) (d : Addr) (a : Nat) (σ : L2.St) (H : Hp) : Prop where
  sl : ∃ lv x5 x6 x7 x8 x9, σ = [some ms, some (nI n), some st, some (.ref d), some (.ref lv), x5, x6, x7, x8, x9] ∧ LT H lv (((qq gs n a).map (·.1)).drop a)
  sm : Same H0 H
  dw : DW H d (qq gs n a)
  le : a ≤ (qq gs n a).length
  le2 : a ≤ 240
theorem qq_step {gs : List (List Nat)} {n a i : Nat} {M : List (List Nat × List Nat)} (e : qq gs n (a + i) = qq gs n a ++ M) {t w : List Nat} (h : (qq gs n a)[a + i]? = some (t, w)) : qq gs n (a + i + 1) = grow t w gs 0 (qq gs n (a + i)) := by
  have z : (qq gs n (a + i))[a + i]? = some (t, w) := by
    rw [e, List.getElem?_append_left (List.getElem?_eq_some_iff.mp h).1]
    exact h
  show (match (qq gs n (a + i))[a + i]? with
    | none => qq gs n (a + i)
    | some (t, w) => grow t w gs 0 (qq gs n (a + i))) = _
  rw [z]
theorem has_words_of (T : Top K mg "words_of" s_words_of ["makers", "size"]) (B : Bi mg) (C : Cn mg "MOST_TURNS" 240) (hS : Has P w K mg base CX0 1 "still_of" ["size"] spStill) (hP : Has P w K mg base CX0 1 "product_of" ["one", "other"] spProd) :
    Has P w K mg base CX0 2 "words_of" ["makers", "size"] spWords := by
  refine T.ok sc_words_of (fun vs H Q E h => ?_) (fun f cdv A outer s H vs Q E hr h => ?_)
  · obtain ⟨ms, gs, n, rfl, _⟩ := h
    rfl
  · obtain ⟨ms, gs, n, rfl, hms, hg, hn, hgl, q⟩ := h
    obtain ⟨tk, hC⟩ := C
    have hu := hu_of hr
    refine ⟨_, pss_cons (ps_set (i := 2) sc_words_of.nd rfl (Or.inl rfl) (pe_has hS hr (by rfl) (pa_cons (pv 1) pa_nil)))
      (pss_cons (ps_set (i := 3) sc_words_of.nd rfl (Or.inl rfl) (pe_dispT hu (pv 2) (pe_tup pa_nil)))
      (pss_cons (ps_set (i := 4) sc_words_of.nd rfl (Or.inl rfl) (pe_lst (pa_cons (pv 2) pa_nil)))
      (pss_cons (ps_while PassesOwn.never (PW.pt (pw_and (pt_truth (pv 4) (by intro _; rfl)) (pw_and1 (pt_cmpR op_le (pe_callB call_len_dT (by rfl) B.len PySem.boot_len (pa_cons (pv 3) pa_nil)) (pe_glob (v := .int 240) rfl hC ⟨_, rfl⟩) (nomark _)))))
        (pss_cons (ps_set (i := 5) sc_words_of.nd rfl (Or.inl rfl) (pe_lst pa_nil))
        (pss_cons (ps_for PassesOwn.never rfl (pi_list (pv 4)) (pg_name (i := 6) sc_words_of.nd rfl (Or.inl rfl))
          (pss_one (ps_for PassesOwn.never rfl (pi_enumT (by rfl) B.enumerate (pa_cons (pv 0) pa_nil)) (pg_tup rfl (pgs_cons (pg_name (i := 7) sc_words_of.nd rfl (Or.inl rfl)) (pgs_cons (pg_name (i := 8) sc_words_of.nd rfl (Or.inl rfl)) pgs_nil)))
            (pss_cons (ps_set (i := 9) sc_words_of.nd rfl (Or.inl rfl) (pe_has hP hr (by rfl) (pa_cons (pv 6) (pa_cons (pv 8) pa_nil))))
            (pss_one (ps_if (pt_cmp (pc_dnotin hu (pv 9) (pv 3)))
              (pss_cons (ps_dput hu (pv 3) (pv 9) (pe_op op_catA (pe_dgetR hu (pv 3) (pv 6) (fun _ _ => rfl)) (pe_tup (pa_cons (pv 7) pa_nil))) rfl)
              (pss_one (ps_expr (pe_bm PySem.F.plainAttrs_list PySem.F.slot_list_append PySem.F.type_list_append mt_append (pv 5) (pa_cons (pv 9) pa_nil)))))
              pss_nil))))))
        (pss_one (ps_set (i := 4) sc_words_of.nd rfl (Or.inl rfl) (pv 5))))))
      (pss_one (ps_ret (pv 3)))))), ?_⟩
    refine ⟨_, rfl, n, rfl, hn, fun st H1 s1 hst => ?_⟩
    refine fun d hd => ⟨_, rfl, ⟨Nat.zero_le _, fun p hp => ?_⟩⟩
    have hpd : p ≠ d := fun z => by rw [z, upd_same] at hp; cases hp
    have s2 : Same H1 (upd (upd H1 d (.dT [])) p (.tup [])) := (same_new hd).trans (same_new hp)
    obtain ⟨b, ebv, hb⟩ := (hst.tm (.of s2)).key
    subst ebv
    refine ⟨b, keyN (List.range n), rfl, by rw [upd_ne hpd.symm, upd_same], hb, ?_⟩
    refine ⟨_, rfl, by show 1 ≤ sizeLine; decide, fun lv hlv => ?_⟩
    have hd0 : H d = none := s1.free hd
    have s3 : Same H1 (upd (upd (upd H1 d (.dT [])) p (.tup [])) d (.dT [(keyN (List.range n), .ref p)])) := same_mut s2 hd
    have s4 : Same H1 (upd (upd (upd (upd H1 d (.dT [])) p (.tup [])) d (.dT [(keyN (List.range n), .ref p)])) lv (.lst [.ref b])) := s3.trans (same_new hlv)
    have hdl : d ≠ lv := fun z => by rw [← z, upd_same] at hlv; cases hlv
    have hpl : p ≠ lv := fun z => by rw [← z, upd_ne hpd, upd_same] at hlv; cases hlv
    have hst' : TN (upd (upd (upd (upd H1 d (.dT [])) p (.tup [])) d (.dT [(keyN (List.range n), .ref p)])) lv (.lst [.ref b])) (.ref b) (List.range n) := (hst.tm (.of s4)).tn
    refine ⟨fun m σ H' => ∃ a, m = 240 - a ∧ WS H ms (.ref b) n gs d a σ H', ⟨240, 0, rfl, ⟨⟨lv, none, none, none, none, none, rfl, [.ref b], upd_same, .cons hst' .nil⟩, s1.trans s4, ⟨[(keyN (List.range n), .ref p)], by rw [upd_ne hdl, upd_same], .cons ⟨rfl, p, rfl, .inl ?_⟩ .nil⟩, Nat.zero_le _, Nat.zero_le _⟩⟩, ?_⟩
    · rw [upd_ne hpl, upd_ne hpd, upd_same]
      rfl
    rintro m σ H' ⟨a, rfl, ⟨⟨lv, x5, x6, x7, x8, x9, rfl, xs, hlv', hxs⟩, sm, dw, le, le2⟩⟩
    have ret : (qq gs n a).length = a ∨ 240 < (qq gs n a).length → Q (.ref d) H' := fun h => q d H' _ sm hd0 dw ⟨a, rfl, le, h⟩
    have hxl : xs.length = (qq gs n a).length - a := by
      rw [Paired.length hxs, List.length_drop, List.length_map]
    refine ⟨_, rfl, !xs.isEmpty, .inl ⟨xs, SqL.of hlv', rfl⟩, ?_⟩
    refine ite2 (fun h => ?_) (fun h => ?_)
    rotate_left
    · refine iteF ⟨_, rfl, ret (.inl ?_)⟩
      cases xs with
      | nil => simp at hxl; omega
      | cons x xs => exact absurd rfl h
    obtain ⟨kvs, hkv, pkv⟩ := dw
    have hkl : kvs.length = (qq gs n a).length := Paired.length pkv
    refine ⟨_, rfl, d, kvs, rfl, hkv, _, _, rfl, rfl, _, rfl, ite2 (fun h2 => ?_) (fun h2 => ?_)⟩
    rotate_left
    · have h2 : ¬ ((kvs.length : Int) ≤ 240) := fun z => h2 (decide_eq_true z)
      exact ⟨_, rfl, ret (.inr (by omega))⟩
    have h2 : (kvs.length : Int) ≤ 240 := of_decide_eq_true h2
    have hpos : a < (qq gs n a).length := by
      cases xs with
      | nil => simp at h
      | cons x xs => rw [List.length_cons] at hxl; omega
    refine ⟨fun σ2 H2 => WS H ms (.ref b) n gs d (qq gs n a).length σ2 H2, fun σ2 H2 hw => ⟨240 - (qq gs n a).length, by omega, _, rfl, hw⟩, ?_⟩
    -- longer = []
    refine ⟨Nat.zero_le _, fun lg hlg => ?_⟩
    have hlg0 : H lg = none := sm.free hlg
    have sl := same_new (o := .lst []) hlg
    obtain ⟨pm, mxs, rfl, hpm, hmx⟩ := hms
    have hlvg : lv ≠ lg := ne_of_none hlv' hlg
    have hdg : d ≠ lg := ne_of_none hkv hlg
    have hlv0 : ∀ H2 : Hp, Same H' H2 → H2 lv = some (.lst xs) := fun H2 s => s _ _ hlv'
    refine ⟨_, rfl, lv, rfl, ⟨_, SqL.of (sl _ _ hlv')⟩, for_list (K := K) (a := lv) (xs := xs)
      (fun i σ2 H2 => ∃ y6 y7 y8 y9 M, σ2 = [some (.ref pm), some (nI n), some (.ref b), some (.ref d), some (.ref lv), some (.ref lg), y6, y7, y8, y9] ∧ Same H H2 ∧ qq gs n (a + i) = qq gs n a ++ M ∧ DW H2 d (qq gs n (a + i)) ∧ LT H2 lg (M.map (·.1)) ∧ H2 lv = some (.lst xs) ∧ Paired (TN H2) xs (((qq gs n a).map (·.1)).drop a))
      ⟨x6, x7, x8, x9, [], rfl, sm.trans sl, by rw [List.append_nil]; rfl, DW.same ⟨kvs, hkv, pkv⟩ sl, ⟨[], upd_same, .nil⟩, sl _ _ hlv', TNs.tm (.of sl) hxs⟩
      (fun i σ2 H2 _ ⟨_, _, _, _, _, _, _, _, _, _, h, _⟩ => SqL.of h) ?_ ?_⟩
    · rintro i x σ2 H2 hi ⟨y6, y7, y8, y9, M, rfl, sm2, eM, dw2, lt2, hlv2, hx2⟩
      obtain ⟨t, ht, htn⟩ := Paired.getL hx2 hi
      rw [List.getElem?_drop, List.getElem?_map] at ht
      obtain ⟨⟨t', w'⟩, hq, et⟩ := Option.map_eq_some_iff.mp ht
      have et : t' = t := et
      subst et
      have hstep := qq_step eM hq
      have htP : IsP n t' := Mk.isP hg (qq_mk gs n a t' (List.mem_map.mpr ⟨_, List.mem_of_getElem? hq, rfl⟩))
      refine ⟨_, rfl, pm, _, rfl, SqT.of (sm2 _ _ hpm), for_enumT (K := K) (xs := mxs)
        (fun j σ3 H3 => ∃ z7 z8 z9 M', σ3 = [some (.ref pm), some (nI n), some (.ref b), some (.ref d), some (.ref lv), some (.ref lg), some x, z7, z8, z9] ∧ Same H H3 ∧ grow t' w' (gs.take j) 0 (qq gs n (a + i)) = qq gs n a ++ M' ∧ DW H3 d (qq gs n a ++ M') ∧ LT H3 lg (M'.map (·.1)) ∧ H3 lv = some (.lst xs) ∧ Paired (TN H3) xs (((qq gs n a).map (·.1)).drop a))
        ⟨y7, y8, y9, M, rfl, sm2, eM, by rw [← eM]; exact dw2, lt2, hlv2, hx2⟩ (fun j σ3 H3 _ ⟨_, _, _, _, _, s, _⟩ => SqT.of (s _ _ hpm)) ?_ ?_⟩
      · rintro j y σ3 H3 T hj ⟨z7, z8, z9, M', rfl, sm3, eM', dw3, ⟨gz, hgz, pgz⟩, hlv3, hx3⟩ hT
        obtain ⟨g, hgj, hyg⟩ := Paired.getL hmx hj
        have hgP := hg g (List.mem_of_getElem? hgj)
        have sT := same_new (o := .tup [nI j, y]) hT
        refine ⟨T, _, rfl, SqT.of upd_same, rfl, nI j, _, rfl, y, _, rfl, rfl, ?_⟩
        obtain ⟨t2, ht2, htn3⟩ := Paired.getL hx3 hi
        rw [List.getElem?_drop, List.getElem?_map, hq] at ht2
        have ht2 : t' = t2 := Option.some.inj ht2
        subst ht2
        refine ⟨_, rfl, _, rfl, pr_call (htn3.tm (.of sT)) (hyg.tm (.of (sm3.trans sT))) htP hgP hn fun v H4 s4 hv => ?_⟩
        have s34 : Same H3 H4 := sT.trans s4
        have hvP := htP.prod hgP
        obtain ⟨b1, rfl, hb1⟩ := hv.key
        obtain ⟨kv4, hk4, pk4⟩ := dw3.same s34
        have hgz4 := s34 _ _ hgz
        have pgz4 := TNs.tm (.of s34) pgz
        have hlv4 := s34 _ _ hlv3
        have hx4 := TNs.tm (.of s34) hx3
        have hnd : ((qq gs n a ++ M').map (·.1)).Nodup := by rw [← eM']; exact grow_nd _ _ _ _ _ (qq_nd gs n (a + i))
        have hnx := grow_next (t := t') (w := w') hgj (qq gs n (a + i))
        rw [eM'] at hnx
        have sm4 : Same H H4 := sm3.trans s34
        refine ⟨_, rfl, _, rfl, d, _, rfl, DGet.t hk4 hb1, _, rfl, ?_⟩
        rw [dw_isSome pk4 hnd]
        by_cases hin : prod t' g ∈ (qq gs n a ++ M').map (·.1)
        · rw [if_pos hin] at hnx
          rw [decide_eq_true hin]
          exact iteF ⟨_, _, _, M', rfl, sm4, hnx, ⟨kv4, hk4, pk4⟩, ⟨gz, hgz4, pgz4⟩, hlv4, hx4⟩
        · rw [if_neg hin] at hnx
          rw [decide_eq_false hin]
          refine iteT ?_
          have hmem : (t', w') ∈ qq gs n a ++ M' := List.mem_append.mpr (.inl (List.mem_of_getElem? hq))
          obtain ⟨wv, hwv, hwn⟩ := dw_some pk4 hnd hmem
          obtain ⟨b2, rfl, hb2⟩ := (htn3.tm (.of s34)).key
          obtain ⟨pw, rfl, hpw⟩ := hwn
          have hwl : w'.length ≤ 240 := Nat.le_trans (qq_w gs n a _ (List.mem_of_getElem? hq)) le2
          refine ⟨_, rfl, _, rfl, d, .ref pw, kv4, _, _, rfl, rfl, .inl hk4, hb2, hwv, _, rfl, by show 1 ≤ sizeLine; decide, fun p hp => ?_⟩
          have s5 := same_new (o := .tup [nI j]) hp
          refine catA_tn (hpw.sm s5) upd_same (by omega) fun v5 H5 s6 hv5 => ?_
          have s45 := s5.trans s6
          have hk5 := s45 _ _ hk4
          have hkl4 : kv4.length = (grow t' w' (gs.take j) 0 (qq gs n (a + i))).length := by rw [Paired.length pk4, ← eM']
          have hsz : kv4.length ≤ 1000000 := by
            have h0 := grow_len t' w' (gs.take j) 0 (qq gs n (a + i))
            have h1 := qq_len_le gs n a i
            have h3 : i ≤ 240 := by
              have := (List.getElem?_eq_some_iff.mp hq).1
              omega
            have h4 : i * gs.length ≤ 240 * 1000 := Nat.mul_le_mul h3 hgl
            rw [List.length_take] at h0
            omega
          refine ⟨_, rfl, _, rfl, d, _, rfl, DPut.t hk5 (s45 _ _ hb1) (by rw [sizeLine_eq]; omega), ?_⟩
          rw [putK_new v5 (dw_none pk4 hin)]
          have t6 : Tm H5 (upd H5 d (.dT (kv4 ++ [(keyN (prod t' g), v5)]))) := Tm.dT hk5
          have hg6 : (upd H5 d (.dT (kv4 ++ [(keyN (prod t' g), v5)]))) lg = some (.lst gz) := by
            rw [upd_ne (ne_of hgz4 hk4 (fun z => nomatch z))]
            exact s45 _ _ hgz4
          have hgzl : gz.length ≤ kv4.length := by
            rw [Paired.length pgz, Paired.length pk4, List.length_map, List.length_append]
            omega
          refine ⟨_, rfl, .inl ⟨rfl, _, SqL.of hg6⟩, _, rfl, lg, _, _, rfl, rfl, hg6, by rw [sizeLine_eq]; omega, ?_⟩
          have t7 := Tm.lst (o := .lst (gz ++ [.ref b1])) hg6
          have tt := (Tm.of s45).trans (t6.trans t7)
          refine ⟨_, _, _, M' ++ [(prod t' g, w' ++ [j])], rfl, ?_, ?_, ⟨kv4 ++ [(keyN (prod t' g), v5)], ?_, ?_⟩, ⟨gz ++ [.ref b1], upd_same, ?_⟩, ?_, TNs.tm tt hx4⟩
          · exact same_mut (same_mut (sm4.trans s45) hd0) hlg0
          · rw [hnx, List.append_assoc]
          · rw [upd_ne hdg, upd_same]
          · rw [← List.append_assoc]
            exact Paired.app (DEs.tm tt pk4) (Paired.one ⟨rfl, hv5.tm (t6.trans t7)⟩)
          · rw [List.map_append]
            exact Paired.app (TNs.tm tt pgz4) (Paired.one (hv.tn.tm tt))
          · rw [upd_ne hlvg, upd_ne (ne_of hlv4 hk4 (fun z => nomatch z))]
            exact s45 _ _ hlv4
      · rintro σ3 H3 ⟨z7, z8, z9, M', rfl, sm3, eM', dw3, lt3, hlv3, hx3⟩
        have e : gs.take mxs.length = gs := by rw [Paired.length hmx, List.take_length]
        rw [e] at eM'
        refine ⟨_, _, _, _, M', rfl, sm3, ?_, ?_, lt3, hlv3, hx3⟩
        · show qq gs n (a + i + 1) = _
          rw [hstep, eM']
        · show DW H3 d (qq gs n (a + i + 1))
          rw [hstep, eM']
          exact dw3
    · rintro σ2 H2 ⟨y6, y7, y8, y9, M, rfl, sm2, eM, dw2, lt2, hlv2, hx2⟩
      have e : a + xs.length = (qq gs n a).length := by omega
      rw [e] at eM dw2
      refine ⟨_, rfl, ⟨⟨lg, _, _, _, _, _, rfl, ?_⟩, sm2, dw2, ?_, by omega⟩⟩
      · rw [eM, List.map_append, List.drop_append_of_le_length (by rw [List.length_map]; exact Nat.le_refl _), List.drop_of_length_le (by rw [List.length_map]; exact Nat.le_refl _), List.nil_append]
        exact lt2
      · rw [eM, List.length_append]
        omega
end
end Lt

set_option linter.all false
set_option Elab.async false
/-! powers of a turn; the whole of the turns -/
namespace Lt
def pw (n : Nat) (t : List Nat) : Nat → List Nat
  | 0 => List.range n
  | k + 1 => prod (pw n t k) t
theorem pw_isP {n : Nat} {t : List Nat} (h : IsP n t) : ∀ k, IsP n (pw n t k)
  | 0 => IsP.still n
  | k + 1 => (pw_isP h k).prod h
theorem pw_one {n : Nat} {t : List Nat} (h : IsP n t) : pw n t 1 = t := prod_still_l h.len
theorem pw_add {n : Nat} {t : List Nat} (h : IsP n t) (i : Nat) : ∀ k, pw n t (i + k) = prod (pw n t i) (pw n t k)
  | 0 => (prod_still_r (pw_isP h i).lt).symm
  | k + 1 => by
    show prod (pw n t (i + k)) t = prod (pw n t i) (prod (pw n t k) t)
    rw [pw_add h i k]
    exact prod_assoc fun j hj => by rw [(pw_isP h k).len]; exact (pw_isP h i).lt j hj
theorem prod_cancel {n : Nat} {a b : List Nat} (ha : IsP n a) (hb : IsP n b) (h : prod a b = a) : b = List.range n := by
  have h1 : prod (prod (inv a) a) b = prod (inv a) (prod a b) := prod_assoc fun i hi => by rw [ha.len]; exact ha.inv.lt i hi
  rw [h, prod_inv_l ha, prod_still_l hb.len] at h1
  exact h1
theorem Mk.prod {gs : List (List Nat)} {n : Nat} (hg : ∀ g ∈ gs, IsP n g) {a b : List Nat} (ha : Mk gs n a) (hb : Mk gs n b) : Mk gs n (prod a b) := by
  induction hb with
  | still => rw [prod_still_r (ha.isP hg).lt]; exact ha
  | @step t g ht hm ih =>
    rw [← prod_assoc (x := a) fun i hi => by rw [(ht.isP hg).len]; exact (ha.isP hg).lt i hi]
    exact .step ih hm
theorem Mk.pw {gs : List (List Nat)} {n : Nat} (hg : ∀ g ∈ gs, IsP n g) {t : List Nat} (h : Mk gs n t) : ∀ k, Mk gs n (pw n t k)
  | 0 => .still
  | k + 1 => (Mk.pw hg h k).prod hg h
/-- two of many places hold the same -/
theorem dup_of {α : Type} [DecidableEq α] (f : Nat → α) : ∀ m, ¬ ((List.range m).map f).Nodup → ∃ i j, i < j ∧ j < m ∧ f i = f j
  | 0, h => absurd List.Pairwise.nil h
  | m + 1, h => by
    by_cases hn : ((List.range m).map f).Nodup
    · rw [List.range_succ, List.map_append] at h
      by_cases hx : f m ∈ (List.range m).map f
      · obtain ⟨i, hi, e⟩ := List.mem_map.mp hx
        exact ⟨i, m, List.mem_range.mp hi, Nat.lt_succ_self m, e⟩
      · exact absurd (nodup_snoc hn hx) h
    · obtain ⟨i, j, h1, h2, e⟩ := dup_of f m hn
      exact ⟨i, j, h1, by omega, e⟩
theorem pw_back {gs : List (List Nat)} {n m : Nat} (hg : ∀ g ∈ gs, IsP n g) (hf : Few gs n m) {t : List Nat} (h : Mk gs n t) : ∃ N, 1 ≤ N ∧ N ≤ m ∧ pw n t N = List.range n := by
  have hnd : ¬ ((List.range (m + 1)).map (Lt.pw n t)).Nodup := fun hnd => by
    have z := hf.le hnd fun x hx => by
      obtain ⟨k, _, e⟩ := List.mem_map.mp hx
      rw [← e]
      exact h.pw hg k
    rw [List.length_map, List.length_range] at z
    omega
  obtain ⟨i, j, hij, hj, e⟩ := dup_of _ _ hnd
  have ht := h.isP hg
  refine ⟨j - i, by omega, by omega, ?_⟩
  have z := pw_add ht i (j - i)
  rw [show i + (j - i) = j by omega, ← e] at z
  exact prod_cancel (pw_isP ht i) (pw_isP ht _) z.symm
/-- the least of some numbers -/
theorem least_of {p : Nat → Prop} [DecidablePred p] : ∀ n, p n → ∃ k, k ≤ n ∧ p k ∧ ∀ j, j < k → ¬ p j := fun n => by
  induction n using Nat.strongRecOn with
  | _ n ih =>
    intro h
    by_cases hx : ∃ j, j < n ∧ p j
    · obtain ⟨j, hj, pj⟩ := hx
      obtain ⟨k, h1, h2, h3⟩ := ih j hj pj
      exact ⟨k, by omega, h2, h3⟩
    · exact ⟨n, Nat.le_refl n, h, fun j hj pj => hx ⟨j, hj, pj⟩⟩
theorem pw_least {gs : List (List Nat)} {n m : Nat} (hg : ∀ g ∈ gs, IsP n g) (hf : Few gs n m) {t : List Nat} (h : Mk gs n t) : ∃ N, 1 ≤ N ∧ N ≤ m ∧ pw n t N = List.range n ∧ ∀ j, 1 ≤ j → j < N → pw n t j ≠ List.range n := by
  obtain ⟨N, h1, h2, h3⟩ := pw_back hg hf h
  obtain ⟨k, hk1, ⟨hk2, hk3⟩, hk4⟩ := least_of (p := fun k => 1 ≤ k ∧ pw n t k = List.range n) N ⟨h1, h3⟩
  exact ⟨k, hk2, by omega, hk3, fun j hj1 hj2 e => hk4 j hj2 ⟨hj1, e⟩⟩
/-- all the words, the lock being small -/
@[irreducible] def LL (gs : List (List Nat)) (n : Nat) : List W := qq gs n 300
theorem LL_eq (gs : List (List Nat)) (n : Nat) : LL gs n = qq gs n 300 := by unfold LL; rfl
theorem LL_of {gs : List (List Nat)} {n m a : Nat} (hf : Few gs n m) (hm : m ≤ 240) (h : (qq gs n a).length = a) : qq gs n a = LL gs n := by
  have := hf.qq a
  rw [LL_eq]
  exact (qq_end' gs n (by omega) (by omega)).symm
theorem LL_len {gs : List (List Nat)} {n m : Nat} (hf : Few gs n m) : (LL gs n).length ≤ m := by
  rw [LL_eq]
  exact hf.qq 300
theorem LL_nd (gs : List (List Nat)) (n : Nat) : ((LL gs n).map (·.1)).Nodup := by
  rw [LL_eq]
  exact qq_nd gs n 300
theorem LL_mem {gs : List (List Nat)} {n m : Nat} (hf : Few gs n m) (hm : m ≤ 240) (t : List Nat) : t ∈ (LL gs n).map (·.1) ↔ Mk gs n t := by
  rw [LL_eq]
  exact qq_full (Nat.le_trans (hf.qq 300) (by omega)) t
end Lt

set_option Elab.async false
set_option linter.all false
set_option maxRecDepth 100000
set_option maxHeartbeats 4000000
namespace Lt
open PySem PySem.Spec PyProof.Rows L2
/-! ### what is a lock -/
def lenOf : PyData → Nat
  | .tuple ds => ds.length
  | _ => 0
def firstBad : List PyData → Nat → Nat → Option Nat
  | [], _, _ => none
  | d :: ds, n, i => if isPermD d n = true then firstBad ds n (i + 1) else some i
def lockBad : PyData → Option (Option Nat)
  | .tuple ds => if 1 ≤ ds.length ∧ ds.length ≤ 4 then (if isTup (ds.headD .none) = true ∧ 2 ≤ lenOf (ds.headD .none) ∧ lenOf (ds.headD .none) ≤ 9 then (firstBad ds (lenOf (ds.headD .none)) 0).map some else some (some 0)) else some none
  | _ => some none
def plV : Option Nat → V
  | none => .non
  | some i => nI i
def Sml (d : PyData) : Prop := ∀ ds, d = .tuple ds → ds.length ≤ 1000 ∧ ∀ e ∈ ds, ∀ es, e = .tuple es → es.length < 64
section
variable {P : Program} {w : World} {K : PySem.W.Frag} {mg : Str → Option Value} {base : Heap} {CL CM CT : Addr}
/-! ### check_lock -/
def spCheck (CL : Addr) : Sp := fun vs H Q E => ∃ (v : V) (d : PyData), vs = [v] ∧ Rp H v d ∧ Sml d ∧ (lockBad d = none → ∀ H', Same H H' → Q .non H') ∧ ∀ pl, lockBad d = some pl → BadF CL "place" (plV pl) H E
theorem sc_check_lock : FnScope ["lock", "place", "given"] ["lock"] (defScope s_check_lock) := ⟨rfl, rfl, rfl, by decide +kernel, rfl, by decide +kernel, by decide +kernel⟩
theorem has_check_lock (T : Top K mg "check_lock" s_check_lock ["lock"]) (B : Bi mg) (X1 : ErrI P w K mg base "BadLock" "place" CL) (C1 : Cn mg "MOST_GIVEN" 4) (C2 : Cn mg "FEWEST_PLACES" 2) (C3 : Cn mg "MOST_PLACES" 9)
    (hP : Has P w K mg base CX0 3 "is_permutation" ["value", "size"] spPerm) : Has P w K mg base (L2.CX P w) 4 "check_lock" ["lock"] (spCheck CL) := by
  refine T.okX sc_check_lock (fun vs H Q E h => ?_) (fun f cdv A outer s H vs Q E hr h => ?_)
  · obtain ⟨v, d, rfl, _⟩ := h
    rfl
  · obtain ⟨v, d, rfl, hd, hs, qg, qb⟩ := h
    obtain ⟨t1, e1⟩ := C1
    obtain ⟨t2, e2⟩ := C2
    obtain ⟨t3, e3⟩ := C3
    have hr2 : Room 2 _ := hr.mono (by decide)
    refine ⟨_, pss_cons (ps_if (PW.pt (pw_or (pt_not (pt_val (pe_callB call_isi (by rfl) B.isinstance PyProof.Rows.boot_isinstance (pa_cons (pv 0) (pa_cons (pe_bltn (by rfl) B.tuple PyProof.Rows.boot_tuple (rr_ty "tuple")) pa_nil)))))
          (pw_or1 (pt_not (pt_chain op_le op_le pe_int (pe_callB call_len_seq (by rfl) B.len PySem.boot_len (pa_cons (pv 0) pa_nil)) (pe_glob (v := .int 4) rfl e1 ⟨_, rfl⟩))))))
        (pss_one (ps_raise rfl (takes_of rfl rfl rfl rfl) (pmk_errI X1 hr2 (by rfl) (pa_cons pe_non pa_nil)))) pss_nil)
      (pss_cons (ps_if (PW.pt (pw_or (pt_not (pt_val (pe_callB call_isi (by rfl) B.isinstance PyProof.Rows.boot_isinstance (pa_cons (pe_ix ix_tup (pv 0) pe_int (fun _ _ => rfl)) (pa_cons (pe_bltn (by rfl) B.tuple PyProof.Rows.boot_tuple (rr_ty "tuple")) pa_nil)))))
          (pw_or1 (pt_not (pt_chain op_le op_le (pe_glob (v := .int 2) rfl e2 ⟨_, rfl⟩) (pe_callB call_len_seq (by rfl) B.len PySem.boot_len (pa_cons (pe_ix ix_tup (pv 0) pe_int (fun _ _ => rfl)) pa_nil)) (pe_glob (v := .int 9) rfl e3 ⟨_, rfl⟩))))))
        (pss_one (ps_raise rfl (takes_of rfl rfl rfl rfl) (pmk_errI X1 hr2 (by rfl) (pa_cons pe_int pa_nil)))) pss_nil)
      (pss_one (ps_for (passes_of rfl) rfl (pi_enumT (by rfl) B.enumerate (pa_cons (pv 0) pa_nil)) (pg_tup rfl (pgs_cons (pg_name (i := 1) sc_check_lock.nd rfl (Or.inl rfl)) (pgs_cons (pg_name (i := 2) sc_check_lock.nd rfl (Or.inl rfl)) pgs_nil)))
        (pss_one (ps_if (pt_not (pt_val (pe_has hP hr (by rfl) (pa_cons (pv 2) (pa_cons (pe_callB call_len_seq (by rfl) B.len PySem.boot_len (pa_cons (pe_ix ix_tup (pv 0) pe_int (fun _ _ => rfl)) pa_nil)) pa_nil)))))
          (pss_one (ps_raise rfl (takes_of rfl rfl rfl rfl) (pmk_errI X1 hr2 (by rfl) (pa_cons (pv 1) pa_nil)))) pss_nil))))), ?_⟩
    have bad : ∀ {pl : Option Nat} {H' : Hp}, lockBad d = some pl → Same H H' → BadF CL "place" (plV pl) H' E := fun e s => (qb _ e).same s
    by_cases hT : isTup d = true
    rotate_left
    · have e : lockBad d = some none := by cases d <;> first | rfl | exact absurd rfl hT
      have hF : isTup d = false := by simpa using hT
      refine ⟨_, rfl, v, .ty "tuple", _, _, isTup d, rfl, .ty _, rp_ty hd, kit_ty (kit_tup d), isTup d, rfl, ?_⟩
      rw [hF]
      exact mk_read X1.oex X1.no (bad e (Same.refl _))
    cases hd with
    | non => cases hT
    | bl => cases hT
    | int => cases hT
    | str => cases hT
    | lst => cases hT
    | @tup a xs ds ha hx =>
      have hxl := hx.len
      obtain ⟨hs1, hs2⟩ := hs ds rfl
      refine ⟨_, rfl, .ref a, .ty "tuple", _, _, true, rfl, .ty _, rp_ty (.tup ha hx), kit_ty (kit_tup (.tuple ds)), true, rfl, iteF ?_⟩
      have none_of : ¬ (1 ≤ ds.length ∧ ds.length ≤ 4) → lockBad (.tuple ds) = some none := fun h => by
        show (if 1 ≤ ds.length ∧ ds.length ≤ 4 then _ else _) = _
        rw [if_neg h]
      refine ⟨_, rfl, a, xs, rfl, .inr (ha.sq), 1, (xs.length : Int), rfl, rfl, _, rfl, ite2 (fun h1 => ⟨_, _, rfl, rfl, _, rfl, ite2 (fun h2 => ?_) (fun h2 => ?_)⟩) (fun h1 => ⟨_, rfl, ?_⟩)⟩
      · have h2 : ¬ ((xs.length : Int) ≤ 4) := fun z => by rw [decide_eq_true z] at h2; cases h2
        exact mk_read X1.oex X1.no (bad (none_of (by omega)) (Same.refl _))
      rotate_left
      · have h1 : ¬ ((1 : Int) ≤ (xs.length : Int)) := fun z => h1 (decide_eq_true z)
        exact mk_read X1.oex X1.no (bad (none_of (by omega)) (Same.refl _))
      have h2 : (xs.length : Int) ≤ 4 := by
        by_cases z : (xs.length : Int) ≤ 4
        · exact z
        · rw [decide_eq_false z] at h2
          exact absurd rfl h2
      have h1 : (1 : Int) ≤ (xs.length : Int) := of_decide_eq_true h1
      have hlen : 1 ≤ ds.length ∧ ds.length ≤ 4 := ⟨by omega, by omega⟩
      -- the first given turn
      cases hx with
      | nil => exact absurd hlen.1 (by decide)
      | @cons x xr dd dr r0 rr =>
      have hx : RpAll H (x :: xr) (dd :: dr) := .cons r0 rr
      have eLB : lockBad (.tuple (dd :: dr)) = if isTup dd = true ∧ 2 ≤ lenOf dd ∧ lenOf dd ≤ 9 then (firstBad (dd :: dr) (lenOf dd) 0).map some else some (some 0) := by
        show (if 1 ≤ (dd :: dr).length ∧ (dd :: dr).length ≤ 4 then _ else _) = _
        rw [if_pos hlen]
        rfl
      have zero_of : ¬ (isTup dd = true ∧ 2 ≤ lenOf dd ∧ lenOf dd ≤ 9) → lockBad (.tuple (dd :: dr)) = some (some 0) := fun h => by rw [eLB, if_neg h]
      have at0 : atI (x :: xr) 0 = some x := atI_nat (j := 0) rfl
      refine ⟨_, rfl, a, _, 0, x, rfl, rfl, ha.sq, at0, x, .ty "tuple", _, _, isTup dd, rfl, .ty _, rp_ty r0, kit_ty (kit_tup dd), isTup dd, rfl, ?_⟩
      by_cases hT2 : isTup dd = true
      rotate_left
      · have hF : isTup dd = false := by simpa using hT2
        rw [hF]
        exact mk_read (v := .int 0) X1.oex X1.no (bad (zero_of fun z => hT2 z.1) (Same.refl _))
      rw [hT2]
      refine iteF ?_
      cases r0 with
      | non => cases hT2
      | bl => cases hT2
      | int => cases hT2
      | str => cases hT2
      | lst => cases hT2
      | @tup b ys es hb hy =>
      have hyl := hy.len
      refine ⟨_, rfl, a, _, 0, .ref b, rfl, rfl, ha.sq, at0, b, ys, rfl, .inr (hb.sq), 2, (ys.length : Int), rfl, rfl, _, rfl, ite2 (fun h3 => ⟨_, _, rfl, rfl, _, rfl, ite2 (fun h4 => ?_) (fun h4 => ?_)⟩) (fun h3 => ⟨_, rfl, ?_⟩)⟩
      · have h4 : ¬ ((ys.length : Int) ≤ 9) := fun z => by rw [decide_eq_true z] at h4; cases h4
        exact mk_read (v := .int 0) X1.oex X1.no (bad (zero_of fun z => h4 (by have := z.2.2; show (ys.length : Int) ≤ 9; rw [hyl]; exact Int.ofNat_le.mpr this)) (Same.refl _))
      rotate_left
      · have h3 : ¬ ((2 : Int) ≤ (ys.length : Int)) := fun z => h3 (decide_eq_true z)
        exact mk_read (v := .int 0) X1.oex X1.no (bad (zero_of fun z => h3 (by have := z.2.1; show (2 : Int) ≤ (ys.length : Int); rw [hyl]; exact Int.ofNat_le.mpr this)) (Same.refl _))
      have h4 : (ys.length : Int) ≤ 9 := by
        by_cases z : (ys.length : Int) ≤ 9
        · exact z
        · rw [decide_eq_false z] at h4
          exact absurd rfl h4
      have h3 : (2 : Int) ≤ (ys.length : Int) := of_decide_eq_true h3
      rw [if_pos ⟨rfl, by show 2 ≤ es.length; omega, by show es.length ≤ 9; omega⟩] at eLB
      have eLB : lockBad (.tuple (.tuple es :: dr)) = (firstBad (.tuple es :: dr) es.length 0).map some := eLB
      refine ⟨_, rfl, a, _, rfl, ha.sq, for_enumT (K := K) (xs := .ref b :: xr) (fun i σ H' => ∃ y z, σ = [some (.ref a), y, z] ∧ Same H H' ∧ firstBad (.tuple es :: dr) es.length 0 = firstBad ((.tuple es :: dr).drop i) es.length i)
        ⟨none, none, rfl, Same.refl _, rfl⟩ (fun i σ H' _ ⟨_, _, _, s, _⟩ => (ha.sm s).sq) ?_ ?_⟩
      · rintro i u σ H' T hi ⟨y, z, rfl, sm, hfb⟩ hTn
        obtain ⟨du, hdu, hru⟩ := hx.get hi
        have sT := same_new (o := .tup [nI i, u]) hTn
        have sm' := sm.trans sT
        have hdrop : (PyData.tuple es :: dr).drop i = du :: (PyData.tuple es :: dr).drop (i + 1) := by
          obtain ⟨hl, e⟩ := List.getElem?_eq_some_iff.mp hdu
          rw [List.drop_eq_getElem_cons hl, e]
        rw [hdrop] at hfb
        refine ⟨T, _, rfl, SqT.of upd_same, rfl, nI i, _, rfl, u, _, rfl, rfl, ?_⟩
        refine ⟨_, rfl, _, rfl, a, _, 0, .ref b, rfl, rfl, (ha.sm sm').sq, at0, b, ys, rfl, .inr ((hb.sm sm').sq), u, du, es.length, by rw [hyl]; rfl, Rp.same sm' _ _ hru, fun es' e => ?_, by omega, fun H2 s2 => ?_⟩
        · exact hs2 du (List.mem_of_getElem? hdu) es' e
        refine ⟨isPermD du es.length, rfl, ?_⟩
        by_cases hp : isPermD du es.length = true
        · rw [hp]
          refine iteF ⟨_, _, rfl, sm'.trans s2, ?_⟩
          rw [hfb]
          show (if isPermD du es.length = true then _ else _) = _
          rw [if_pos hp]
        · have hF : isPermD du es.length = false := by simpa using hp
          rw [hF]
          refine iteT ⟨_, rfl, mk_read X1.oex X1.no (bad (pl := some i) ?_ (sm'.trans s2))⟩
          rw [eLB, hfb]
          rw [show firstBad (du :: List.drop (i + 1) (PyData.tuple es :: dr)) es.length i = some i from if_neg hp]
          rfl
      · rintro σ H' ⟨y, z, rfl, sm, hfb⟩
        refine qg ?_ H' sm
        rw [eLB, hfb, List.drop_of_length_le (by rw [hxl]; exact Nat.le_refl _)]
        rfl
end
end Lt

set_option Elab.async false
set_option linter.all false
set_option maxRecDepth 100000
set_option maxHeartbeats 4000000
namespace Lt
open PySem PySem.Spec PyProof.Rows L2
def GL (ls : List (List Nat)) (n : Nat) : Prop := 1 ≤ ls.length ∧ ls.length ≤ 4 ∧ 2 ≤ n ∧ n ≤ 9 ∧ ∀ g ∈ ls, IsP n g
/-- the argument lock: no lock, too great a one, or a lock of which k -/
def LockIn (CL CM : Addr) (v : V) (H : Hp) (E : XK) (k : List (List Nat) → Nat → Prop) : Prop := ∃ d, Rp H v d ∧ Sml d ∧ (∀ pl, lockBad d = some pl → BadF CL "place" (plV pl) H E) ∧
  (lockBad d = none → ∃ ls n, TT H v ls ∧ GL ls n ∧ (∀ L, Wd ls n L → 240 < L.length → BadF CM "most" (.int 240) H E) ∧ k ls n)
theorem LockIn.imp {CL CM : Addr} {v : V} {H : Hp} {E : XK} {k k' : List (List Nat) → Nat → Prop} (h : LockIn CL CM v H E k) (i : ∀ ls n, TT H v ls → GL ls n → k ls n → k' ls n) : LockIn CL CM v H E k' := by
  obtain ⟨d, h1, h2, h3, h4⟩ := h
  refine ⟨d, h1, h2, h3, fun e => ?_⟩
  obtain ⟨ls, n, a, b, c, q⟩ := h4 e
  exact ⟨ls, n, a, b, c, i ls n a b q⟩
theorem numsOf_dT (t : List Nat) : numsOf (dT t) = t.map Int.ofNat := by
  show (t.map dN).map numOf = _
  rw [List.map_map]
  rfl
theorem isNums_dT (t : List Nat) : isNums (dT t) = true := by
  show (t.map dN).all isNum = true
  rw [List.all_map]
  exact List.all_eq_true.mpr fun _ _ => rfl
theorem ofNat_inj : ∀ x y : Nat, Int.ofNat x = Int.ofNat y → x = y := fun _ _ e => Int.ofNat.inj e
theorem perm_ofNat {a b : List Nat} (h : (a.map Int.ofNat).Perm (b.map Int.ofNat)) : a.Perm b := by
  have z := h.map Int.toNat
  rw [List.map_map, List.map_map] at z
  have e : ∀ l : List Nat, l.map (Int.toNat ∘ Int.ofNat) = l := fun l => (List.map_congr_left (g := id) fun _ _ => rfl).trans (List.map_id l)
  rw [e, e] at z
  exact z
theorem isPermD_dT (t : List Nat) (n : Nat) : isPermD (dT t) n = decide (IsP n t) := by
  unfold isPermD
  rw [isNums_dT, Bool.true_and, numsOf_dT]
  exact decide_eq_decide.mpr ⟨fun h => perm_ofNat h, fun h => List.Perm.map _ h⟩
theorem firstBad_good {n : Nat} : ∀ (ls : List (List Nat)) (i : Nat), (∀ g ∈ ls, IsP n g) → firstBad (ls.map dT) n i = none
  | [], _, _ => rfl
  | g :: ls, i, h => by
    show (if isPermD (dT g) n = true then firstBad (ls.map dT) n (i + 1) else some i) = none
    rw [isPermD_dT, decide_eq_true (h g List.mem_cons_self), if_pos rfl]
    exact firstBad_good ls (i + 1) fun x hx => h x (List.mem_cons_of_mem _ hx)
theorem lockBad_good {ls : List (List Nat)} {n : Nat} (h : GL ls n) : lockBad (.tuple (ls.map dT)) = none := by
  obtain ⟨h1, h2, h3, h4, h5⟩ := h
  cases ls with
  | nil => exact absurd h1 (by decide)
  | cons g ls =>
    have hg := (h5 g List.mem_cons_self).len
    show (if 1 ≤ ((g :: ls).map dT).length ∧ ((g :: ls).map dT).length ≤ 4 then (if isTup (dT g) = true ∧ 2 ≤ lenOf (dT g) ∧ lenOf (dT g) ≤ 9 then (firstBad ((g :: ls).map dT) (lenOf (dT g)) 0).map some else some (some 0)) else some none) = none
    have e : lenOf (dT g) = n := by
      show (g.map dN).length = n
      rw [List.length_map, hg]
    rw [if_pos ⟨by rw [List.length_map]; exact h1, by rw [List.length_map]; exact h2⟩, e, if_pos ⟨rfl, h3, h4⟩, firstBad_good _ _ h5]
    rfl
theorem sml_good {ls : List (List Nat)} {n : Nat} (h : GL ls n) : Sml (.tuple (ls.map dT)) := by
  obtain ⟨h1, h2, h3, h4, h5⟩ := h
  intro ds e
  injection e with e
  subst e
  refine ⟨by rw [List.length_map]; omega, fun x hx es ee => ?_⟩
  obtain ⟨g, hg, rfl⟩ := List.mem_map.mp hx
  injection ee with ee
  subst ee
  rw [List.length_map, (h5 g hg).len]
  omega
theorem Few.wd {ls : List (List Nat)} {n m : Nat} (h : Few ls n m) (hm : m ≤ 240) {L : List (List Nat × List Nat)} (hL : Wd ls n L) : ∃ a, L = Lt.qq ls n a ∧ L.length = a ∧ L.length ≤ m := by
  obtain ⟨a, rfl, h1, h2⟩ := hL
  have h3 := h.qq a
  exact ⟨a, rfl, by omega, h3⟩
theorem lockIn_good {CL CM : Addr} {v : V} {H : Hp} {E : XK} {k : List (List Nat) → Nat → Prop} {ls : List (List Nat)} {n m : Nat} (ht : TT H v ls) (hg : GL ls n) (hf : Few ls n m) (hm : m ≤ 240) (q : k ls n) : LockIn CL CM v H E k :=
  ⟨_, ht.rp, sml_good hg, fun pl e => (by rw [lockBad_good hg] at e; cases e), fun _ => ⟨ls, n, ht, hg, fun L hL h => by
    obtain ⟨a, _, _, z⟩ := hf.wd hm hL
    omega, q⟩⟩
theorem TT.head {H : Hp} {v : V} {ls : List (List Nat)} {n : Nat} (h : TT H v ls) (hg : GL ls n) : ∃ a xs b, v = .ref a ∧ H a = some (.tup xs) ∧ Paired (TN H) xs ls ∧ atI xs 0 = some (.ref b) ∧ ∃ t, RT H b (nIs t) ∧ t.length = n := by
  obtain ⟨a, xs, rfl, ha, p⟩ := h
  cases p with
  | nil => exact absurd hg.1 (by decide)
  | @cons x t xr tr r rr =>
    obtain ⟨b, rfl, hb⟩ := r
    exact ⟨a, _, b, rfl, ha, .cons ⟨b, rfl, hb⟩ rr, atI_nat (j := 0) rfl, t, hb, (hg.2.2.2.2 t List.mem_cons_self).len⟩
section
variable {P : Program} {w : World} {K : PySem.W.Frag} {mg : Str → Option Value} {base : Heap} {CL CM CT : Addr}
/-! ### made_words -/
def spMade (CL CM : Addr) : Sp := fun vs H Q E => ∃ v, vs = [v] ∧ LockIn CL CM v H E (fun ls n => ∀ d H' L, Same H H' → H d = none → DW H' d L → Wd ls n L → L.length ≤ 240 → Q (.ref d) H')
theorem sc_made_words : FnScope ["lock", "made"] ["lock"] (defScope s_made_words) := ⟨rfl, rfl, rfl, by decide +kernel, rfl, by decide +kernel, by decide +kernel⟩
theorem has_made_words (T : Top K mg "made_words" s_made_words ["lock"]) (B : Bi mg) (X2 : ErrI P w K mg base "TooMany" "most" CM) (C1 : Cn mg "MOST_TURNS" 240)
    (hC : Has P w K mg base (L2.CX P w) 4 "check_lock" ["lock"] (spCheck CL)) (hW : Has P w K mg base CX0 2 "words_of" ["makers", "size"] spWords) : Has P w K mg base (L2.CX P w) 5 "made_words" ["lock"] (spMade CL CM) := by
  refine T.okX sc_made_words (fun vs H Q E h => ?_) (fun f cdv A outer s H vs Q E hr h => ?_)
  · obtain ⟨v, rfl, _⟩ := h
    rfl
  · obtain ⟨v, rfl, d, hd, hs, hb, hg⟩ := h
    obtain ⟨t1, e1⟩ := C1
    have hr2 : Room 2 _ := hr.mono (by decide)
    refine ⟨_, pss_cons (ps_expr (pe_hasX (E := E) hC hr (by rfl) (passes_call (takes_of rfl rfl rfl rfl) (fun _ _ _ _ h => h)) (pa_cons (pv 0) pa_nil)))
      (pss_cons (ps_set (i := 1) sc_made_words.nd rfl (Or.inl rfl) (pe_has hW hr2 (by rfl) (pa_cons (pv 0) (pa_cons (pe_callB call_len_seq (by rfl) B.len PySem.boot_len (pa_cons (pe_ix ix_tup (pv 0) pe_int (fun _ _ => rfl)) pa_nil)) pa_nil))))
      (pss_cons (ps_if (pt_cmpR op_gt (pe_callB call_len_dT (by rfl) B.len PySem.boot_len (pa_cons (pv 1) pa_nil)) (pe_glob (v := .int 240) rfl e1 ⟨_, rfl⟩) (nomark _))
        (pss_one (ps_raise rfl (takes_of rfl rfl rfl rfl) (pmk_errI X2 hr2 (by rfl) (pa_cons (pe_glob (v := .int 240) rfl e1 ⟨_, rfl⟩) pa_nil)))) pss_nil)
      (pss_one (ps_ret (pv 1))))), ?_⟩
    refine ⟨_, rfl, v, d, rfl, hd, hs, fun eg H1 s1 => ?_, hb⟩
    obtain ⟨ls, n, ht, hgl, hM, q⟩ := hg eg
    have ht1 := ht.tm (.of s1)
    obtain ⟨a, xs, b, rfl, ha, hp, h0, t, hbt, htl⟩ := ht1.head hgl
    refine ⟨_, rfl, _, rfl, a, xs, 0, .ref b, rfl, rfl, SqT.of ha, h0, b, _, rfl, .inr (hbt.sq), .ref a, ls, n, by rw [nIs_len, htl]; rfl, ht1, hgl.2.2.2.2, by have := hgl.2.2.2.1; omega, by have := hgl.2.1; omega, fun dd H2 L s2 hdd hdw hwd => ?_⟩
    obtain ⟨kvs, hk, pk⟩ := hdw
    have s12 := s1.trans s2
    refine ⟨_, rfl, dd, kvs, rfl, hk, _, _, rfl, rfl, _, rfl, ite2 (fun h => ?_) (fun h => ?_)⟩
    · have h : (240 : Int) < (kvs.length : Int) := of_decide_eq_true h
      have hl : kvs.length = L.length := Paired.length pk
      exact mk_read X2.oex X2.no ((hM L hwd (by omega)).same s12)
    · have h : ¬ ((240 : Int) < (kvs.length : Int)) := fun z => h (decide_eq_true z)
      have hl : kvs.length = L.length := Paired.length pk
      exact ⟨_, rfl, q dd H2 L s12 (s1.free hdd) ⟨kvs, hk, pk⟩ hwd (by omega)⟩
/-! ### is_turn, are_turns, check_turn -/
def keyI (ns : List Int) : List Key := ns.map Sum.inl
theorem keyN_I (t : List Nat) : keyN t = keyI (t.map Int.ofNat) := by
  unfold keyN keyI
  rw [List.map_map]
  rfl
theorem keyI_inj {s t : List Int} (h : keyI s = keyI t) : s = t := by
  unfold keyI at h
  exact (List.map_inj_right (fun x y e => by injection e)).mp h
abbrev numL (L : List (List Nat × List Nat)) : List (List Int) := L.map fun x : List Nat × List Nat => x.1.map Int.ofNat
theorem dw_isSomeK {H : Hp} {ns : List Int} : ∀ {kvs : List (List Key × V)} {L : List (List Nat × List Nat)}, Paired (DE H) kvs L → (valV kvs (keyI ns)).isSome = decide (ns ∈ numL L)
  | _, _, .nil => by simp [valV_nil]
  | p :: ps, q :: qs, .cons r s => by
    have ep : p.1 = keyI (q.1.map Int.ofNat) := by rw [r.1, keyN_I]
    show _ = decide (ns ∈ (q.1.map Int.ofNat) :: numL qs)
    by_cases e : p.1 = keyI ns
    · have e2 : q.1.map Int.ofNat = ns := keyI_inj (ep.symm.trans e)
      rw [valV_pos e, e2, decide_eq_true List.mem_cons_self]
      rfl
    · rw [valV_neg e, dw_isSomeK s]
      refine decide_eq_decide.mpr ⟨fun h => List.mem_cons_of_mem _ h, fun h => ?_⟩
      rcases List.mem_cons.mp h with z | z
      · rw [z] at e
        exact absurd ep e
      · exact z
def isTurnD (L : List (List Nat × List Nat)) (d : PyData) : Bool := isNums d && decide (numsOf d ∈ numL L)
theorem isTurnD_dT (L : List (List Nat × List Nat)) (t : List Nat) : isTurnD L (dT t) = decide (t ∈ L.map (·.1)) := by
  unfold isTurnD
  rw [isNums_dT, Bool.true_and, numsOf_dT]
  refine decide_eq_decide.mpr ⟨fun h => ?_, fun h => ?_⟩
  · obtain ⟨x, hx, e⟩ := List.mem_map.mp h
    rw [← (List.map_inj_right ofNat_inj).mp e]
    exact List.mem_map.mpr ⟨x, hx, rfl⟩
  · obtain ⟨x, hx, e⟩ := List.mem_map.mp h
    exact List.mem_map.mpr ⟨x, hx, by rw [e]⟩
def areTurnsD (L : List (List Nat × List Nat)) : PyData → Bool
  | .tuple ds => ds.all (isTurnD L)
  | _ => false
end
end Lt


set_option Elab.async false
set_option linter.all false
set_option maxRecDepth 100000
set_option maxHeartbeats 4000000
namespace Lt
open PySem PySem.Spec PyProof.Rows L2
section
variable {P : Program} {w : World} {K : PySem.W.Frag} {mg : Str → Option Value} {base : Heap} {CL CM CT : Addr}
def spIsTurn : Sp := fun vs H Q _ => ∃ (m : Addr) (L : List (List Nat × List Nat)) (v : V) (d : PyData), vs = [.ref m, v] ∧ DW H m L ∧ Rp H v d ∧ (∀ ds, d = .tuple ds → ds.length ≤ 1000) ∧ ∀ H', Same H H' → Q (.bl (isTurnD L d)) H'
theorem sc_is_turn : FnScope ["made", "value"] ["made", "value"] (defScope s_is_turn) := ⟨rfl, rfl, rfl, by decide +kernel, rfl, by decide +kernel, by decide +kernel⟩
theorem has_is_turn (T : Top K mg "is_turn" s_is_turn ["made", "value"]) (hN : Has P w K mg base CX0 2 "are_numbers" ["value"] spNums) : Has P w K mg base CX0 3 "is_turn" ["made", "value"] spIsTurn := by
  refine T.ok sc_is_turn (fun vs H Q E h => ?_) (fun f cdv A outer s H vs Q E hr h => ?_)
  · obtain ⟨m, L, v, d, rfl, _⟩ := h
    rfl
  · obtain ⟨m, L, v, d, rfl, hw, hd, hl, q⟩ := h
    have hu := hu_of hr
    refine ⟨_, pss_one (ps_ret (pe_and (pe_has hN hr (by rfl) (pa_cons (pv 1) pa_nil)) (pe_one (pe_cmp (pc_dinR hu (pv 1) (pv 0)) (by rfl))))), ?_⟩
    refine ⟨_, rfl, v, d, rfl, hd, hl, fun H1 s1 => ⟨isNums d, rfl, ite2 (fun h => ?_) (fun h => ?_)⟩⟩
    · cases hd with
      | @tup a xs ds ha hx =>
        have h : ds.all isNum = true := h
        have ha1 := ha.sm s1
        rw [nums_vals hx h] at ha1
        have ha2 : RT H1 a ((keyI (ds.map numOf)).map kV) := by unfold keyI; rw [kV_ints]; exact ha1
        obtain ⟨kvs, hk, pk⟩ := hw.same s1
        refine ⟨_, rfl, _, rfl, m, kvs, _, a, rfl, rfl, .inl hk, ha2, ?_⟩
        rw [dw_isSomeK pk]
        have e : decide (ds.map numOf ∈ numL L) = isTurnD L (.tuple ds) := by
          unfold isTurnD
          rw [show isNums (.tuple ds) = true from h, Bool.true_and]
          rfl
        rw [e]
        exact q _ s1
      | non => cases h
      | bl => cases h
      | int => cases h
      | str => cases h
      | lst => cases h
    · have e : false = isTurnD L d := by
        unfold isTurnD
        have z : isNums d = false := by simpa using h
        rw [z]
        rfl
      show Q (.bl false) H1
      rw [e]
      exact q _ s1
def spAreTurns : Sp := fun vs H Q _ => ∃ (m : Addr) (L : List (List Nat × List Nat)) (v : V) (d : PyData), vs = [.ref m, v] ∧ DW H m L ∧ Rp H v d ∧ Sml d ∧ ∀ H', Same H H' → Q (.bl (areTurnsD L d)) H'
end
end Lt

set_option Elab.async false
set_option linter.all false
set_option maxRecDepth 100000
set_option maxHeartbeats 1000000
namespace Lt
open PySem PySem.Spec PyProof.Rows L2
section
variable {P : Program} {w : World} {K : PySem.W.Frag} {mg : Str → Option Value} {base : Heap} {CT : Addr}
def spCheckTurn (CT : Addr) : Sp := fun vs H Q E => ∃ (m : Addr) (L : List (List Nat × List Nat)) (v : V) (d : PyData), vs = [.ref m, v] ∧ DW H m L ∧ Rp H v d ∧ (∀ ds, d = .tuple ds → ds.length ≤ 1000) ∧ (isTurnD L d = true → ∀ H', Same H H' → Q .non H') ∧ (isTurnD L d = false → Bad0 CT H E)
theorem sc_check_turn : FnScope ["made", "turn"] ["made", "turn"] (defScope s_check_turn) := ⟨rfl, rfl, rfl, by decide +kernel, rfl, by decide +kernel, by decide +kernel⟩
theorem has_check_turn (T : Top K mg "check_turn" s_check_turn ["made", "turn"]) (X3 : Err0 K mg "BadTurn" CT) (hT : Has P w K mg base CX0 3 "is_turn" ["made", "value"] spIsTurn) : Has P w K mg base (L2.CX P w) 4 "check_turn" ["made", "turn"] (spCheckTurn CT) := by
  refine T.okX sc_check_turn (fun vs H Q E h => ?_) (fun f cdv A outer s H vs Q E hr h => ?_)
  · obtain ⟨m, L, v, d, rfl, _⟩ := h
    rfl
  · obtain ⟨m, L, v, d, rfl, hw, hd, hl, qg, qb⟩ := h
    refine ⟨_, pss_one (ps_if (pt_not (pt_val (pe_has hT hr (by rfl) (pa_cons (pv 0) (pa_cons (pv 1) pa_nil)))))
      (pss_one (ps_raise rfl (takes_of rfl rfl rfl rfl) (pmk_err0 X3 (by rfl)))) pss_nil), ?_⟩
    refine ⟨_, rfl, _, rfl, m, L, v, d, rfl, hw, hd, hl, fun H1 s1 => ⟨isTurnD L d, rfl, ?_⟩⟩
    cases hb : isTurnD L d with
    | true => exact iteF (qg hb _ s1)
    | false => exact iteT (qb hb _ s1)
end
end Lt

set_option Elab.async false
set_option linter.all false
set_option maxRecDepth 100000
set_option maxHeartbeats 1000000
/-! is_step, are_bits -/
namespace Lt
open PySem PySem.Spec PyProof.Rows L2
/-- an int from 0 to k less 1 -/
def ownD (k : Nat) : PyData → Bool
  | .int i => decide (0 ≤ i) && decide (i < (k : Int))
  | _ => false
def stepD (L : List (List Nat × List Nat)) (k : Nat) : PyData → Bool
  | .tuple [a, b, c] => ownD k a && isTurnD L b && isTurnD L c
  | _ => false
/-- no long tuple within -/
def Sml3 (d : PyData) : Prop := ∀ ds, d = .tuple ds → ds.length ≤ 1000 ∧ ∀ e ∈ ds, ∀ es, e = .tuple es → es.length ≤ 1000
def bitD (d : PyData) : Bool := isNum d && decide (numOf d = 0 ∨ numOf d = 1)
def bitsD : PyData → Bool
  | .tuple ds => ds.all bitD
  | _ => false
theorem stepD_len {L : List (List Nat × List Nat)} {k : Nat} {ds : List PyData} (h : ds.length ≠ 3) : stepD L k (.tuple ds) = false := by
  match ds with
  | [] => rfl
  | [_] => rfl
  | [_, _] => rfl
  | [_, _, _] => exact absurd rfl h
  | _ :: _ :: _ :: _ :: _ => rfl
theorem three {H : Hp} {xs : List V} {ds : List PyData} (h : RpAll H xs ds) (h3 : ds.length = 3) : ∃ x1 x2 x3 a1 a2 a3, xs = [x1, x2, x3] ∧ ds = [a1, a2, a3] ∧ Rp H x1 a1 ∧ Rp H x2 a2 ∧ Rp H x3 a3 := by
  match ds, xs, h, h3 with
  | [a1, a2, a3], [x1, x2, x3], .cons r1 (.cons r2 (.cons r3 .nil)), _ => exact ⟨x1, x2, x3, a1, a2, a3, rfl, rfl, r1, r2, r3⟩
theorem stepD_no {L : List (List Nat × List Nat)} {k : Nat} {d : PyData} (h : isTup d = false) : stepD L k d = false := by
  cases d with
  | tuple ds => cases h
  | _ => rfl
theorem stepD_3 {L : List (List Nat × List Nat)} {k : Nat} {a b c : PyData} : stepD L k (.tuple [a, b, c]) = (ownD k a && isTurnD L b && isTurnD L c) := rfl
section
variable {P : Program} {w : World} {K : PySem.W.Frag} {mg : Str → Option Value} {base : Heap}
def spIsStep : Sp := fun vs H Q _ => ∃ (m : Addr) (L : List (List Nat × List Nat)) (k : Nat) (v : V) (d : PyData), vs = [.ref m, nI k, v] ∧ DW H m L ∧ Rp H v d ∧ Sml3 d ∧ ∀ H', Same H H' → Q (.bl (stepD L k d)) H'
theorem sc_is_step : FnScope ["made", "inputs", "value", "own", "no", "yes"] ["made", "inputs", "value"] (defScope s_is_step) := ⟨rfl, rfl, rfl, by decide +kernel, rfl, by decide +kernel, by decide +kernel⟩
theorem has_is_step (T : Top K mg "is_step" s_is_step ["made", "inputs", "value"]) (B : Bi mg) (hN : Has P w K mg base CX0 1 "is_number" ["value"] spNum) (hT : Has P w K mg base CX0 3 "is_turn" ["made", "value"] spIsTurn) : Has P w K mg base CX0 4 "is_step" ["made", "inputs", "value"] spIsStep := by
  refine T.ok sc_is_step (fun vs H Q E h => ?_) (fun f cdv A outer s H vs Q E hr h => ?_)
  · obtain ⟨m, L, k, v, d, rfl, _⟩ := h
    rfl
  · obtain ⟨m, L, k, v, d, rfl, hw, hd, hs, q⟩ := h
    have hr1 : Room 1 _ := hr.mono (by decide)
    refine ⟨_, pss_cons (ps_if (PW.pt (pw_or (pt_not (pt_val (pe_callB call_isi (by rfl) B.isinstance PyProof.Rows.boot_isinstance (pa_cons (pv 2) (pa_cons (pe_bltn (by rfl) B.tuple PyProof.Rows.boot_tuple (rr_ty "tuple")) pa_nil)))))
        (pw_or1 (pt_cmpR op_ne (pe_callB call_len_seq (by rfl) B.len PySem.boot_len (pa_cons (pv 2) pa_nil)) pe_int (nomark _))))) (pss_one (ps_ret pe_bl)) pss_nil)
      (pss_cons (ps_asg (pv 2) (pg_tup rfl (pgs_cons (pg_name (i := 3) sc_is_step.nd rfl (Or.inl rfl)) (pgs_cons (pg_name (i := 4) sc_is_step.nd rfl (Or.inl rfl)) (pgs_cons (pg_name (i := 5) sc_is_step.nd rfl (Or.inl rfl)) pgs_nil)))))
      (pss_one (ps_ret (pe_and (pe_has hN hr1 (by rfl) (pa_cons (pv 3) pa_nil)) (pe_and (pe_chain op_le op_lt pe_int (pv 3) (pv 1)) (pe_and (pe_has hT hr (by rfl) (pa_cons (pv 0) (pa_cons (pv 4) pa_nil))) (pe_one (pe_has hT hr (by rfl) (pa_cons (pv 0) (pa_cons (pv 5) pa_nil)))))))))), ?_⟩
    refine ⟨_, rfl, v, .ty "tuple", _, _, isTup d, rfl, .ty _, rp_ty hd, kit_ty (kit_tup d), isTup d, rfl, ?_⟩
    cases hd with
    | @tup a xs ds ha hx =>
      have hxl := hx.len
      obtain ⟨hs1, hs2⟩ := hs ds rfl
      refine iteF ⟨_, rfl, a, xs, rfl, .inr ha.sq, rfl, ?_⟩
      by_cases h3 : ds.length = 3
      · refine ⟨false, congrArg (fun b => V.bl (!b)) (decide_eq_true (by rw [hxl, h3]; rfl)), iteF ?_⟩
        obtain ⟨x1, x2, x3, a1, a2, a3, rfl, rfl, r1, r2, r3⟩ := three hx h3
        rw [stepD_3] at q
        · refine ⟨_, rfl, a, _, rfl, ha.sq, rfl, x1, _, rfl, x2, _, rfl, x3, _, rfl, rfl, ?_⟩
          have h2 := hs2 a2 (by simp)
          have h5 := hs2 a3 (by simp)
          refine ⟨_, rfl, x1, a1, rfl, r1, isNum a1, rfl, ?_⟩
          cases e1 : isNum a1 with
          | false =>
            refine iteF ?_
            have e : ownD k a1 = false := by cases a1 <;> first | rfl | cases e1
            rw [e] at q
            exact q _ (Same.refl _)
          | true =>
            refine iteT ?_
            cases r1 with
            | int i =>
              have eo : ∀ H' : Hp, Same H H' → Q (.bl (ownD k (.int i) && isTurnD L a2 && isTurnD L a3)) H' := q
              have eo' : ownD k (.int i) = (decide ((0 : Int) ≤ i) && decide (i < (k : Int))) := rfl
              rw [eo'] at eo
              refine ⟨_, rfl, 0, i, rfl, rfl, decide ((0 : Int) ≤ i), rfl, ?_⟩
              cases e0 : decide ((0 : Int) ≤ i) with
              | false =>
                rw [e0] at eo
                exact iteF ⟨false, rfl, iteF (eo _ (Same.refl _))⟩
              | true =>
                rw [e0] at eo
                refine iteT ⟨_, rfl, i, (k : Int), rfl, rfl, decide (i < (k : Int)), rfl, ?_⟩
                cases e2 : decide (i < (k : Int)) with
                | false =>
                  rw [e2] at eo
                  exact iteF (eo _ (Same.refl _))
                | true =>
                  rw [e2] at eo
                  refine iteT ⟨_, rfl, _, rfl, m, L, x2, a2, rfl, hw, r2, h2, fun H1 s1 => ⟨isTurnD L a2, rfl, ?_⟩⟩
                  cases e4 : isTurnD L a2 with
                  | false =>
                    rw [e4] at eo
                    exact iteF (eo _ s1)
                  | true =>
                    rw [e4] at eo
                    exact iteT ⟨_, rfl, _, rfl, m, L, x3, a3, rfl, hw.same s1, Rp.same s1 _ _ r3, h5, fun H2 s2 => eo _ (s1.trans s2)⟩
            | non => cases e1
            | bl => cases e1
            | str => cases e1
            | lst => cases e1
            | tup => cases e1
      · have h4 : ¬ V.int (xs.length : Int) = V.int 3 := fun z => by
          injection z with z
          omega
        refine ⟨true, congrArg (fun b => V.bl (!b)) (decide_eq_false h4), iteT ?_⟩
        rw [stepD_len h3] at q
        exact q _ (Same.refl _)
    | non =>
      rw [stepD_no rfl] at q
      exact iteT (q _ (Same.refl _))
    | bl =>
      rw [stepD_no rfl] at q
      exact iteT (q _ (Same.refl _))
    | int =>
      rw [stepD_no rfl] at q
      exact iteT (q _ (Same.refl _))
    | str =>
      rw [stepD_no rfl] at q
      exact iteT (q _ (Same.refl _))
    | lst =>
      rw [stepD_no rfl] at q
      exact iteT (q _ (Same.refl _))
/-! ### are_bits -/
def spAreBits : Sp := fun vs H Q _ => ∃ (v : V) (d : PyData), vs = [v] ∧ Rp H v d ∧ (∀ ds, d = .tuple ds → ds.length ≤ 1000) ∧ ∀ H', Same H H' → Q (.bl (bitsD d)) H'
theorem num_V {H : Hp} {v : V} {d : PyData} (h : Rp H v d) (hn : isNum d = true) : v = .int (numOf d) := by
  cases h <;> first | rfl | cases hn
theorem bitsD_nums {d : PyData} (h : isNums d = false) : bitsD d = false := by
  cases d with
  | tuple ds =>
    have h : ds.all isNum = false := h
    show ds.all bitD = false
    rw [List.all_eq_false] at h ⊢
    obtain ⟨x, hx, hn⟩ := h
    refine ⟨x, hx, fun z => hn ?_⟩
    unfold bitD at z
    rw [Bool.and_eq_true] at z
    exact z.1
  | _ => rfl
theorem nums_tup {d : PyData} (h : isNums d = true) : ∃ ds, d = .tuple ds ∧ ds.all isNum = true := by
  cases d with
  | tuple ds => exact ⟨ds, rfl, h⟩
  | _ => cases h
theorem in01 (i : Int) : inV (.int i) [.int 0, .int 1] = decide (i = 0 ∨ i = 1) := by
  show (((0 : Int) == i) || (((1 : Int) == i) || false)) = _
  rw [Bool.or_false, Bool.decide_or]
  congr 1
  · by_cases h : i = 0
    · subst h; rfl
    · rw [decide_eq_false h]; exact beq_eq_false_iff_ne.mpr (fun e => h e.symm)
  · by_cases h : i = 1
    · subst h; rfl
    · rw [decide_eq_false h]; exact beq_eq_false_iff_ne.mpr (fun e => h e.symm)
end
end Lt

set_option Elab.async false
set_option linter.all false
set_option maxRecDepth 100000
set_option maxHeartbeats 1000000
/-! class Dial -/
namespace Lt
open PySem PySem.Spec PyProof.Rows L2
def dF (m l : Addr) : List (Str × V) := [("_made", .ref m), ("_stood", .ref l)]
theorem dF_made (m l : Addr) : (dF m l).lookup ("_made" : Str) = some (.ref m) := rfl
theorem dF_stood (m l : Addr) : (dF m l).lookup ("_stood" : Str) = some (.ref l) := rfl
/-- a dial at p of the class at C: m its turns, l what it stood at -/
structure DialAt (H : Hp) (C p m l : Addr) (ls : List (List Nat)) (n : Nat) (past : List (List Nat)) : Prop where
  ins : ∃ dx, H p = some (.ins C dx (dF m l))
  made : DW H m (LL ls n)
  stood : ∃ xs, H l = some (.lst xs) ∧ Paired (TN H) xs past
  ok : ∀ t ∈ past, IsP n t
  ne : past ≠ []
theorem DialAt.same {H H' : Hp} {C p m l : Addr} {ls : List (List Nat)} {n : Nat} {past : List (List Nat)} (h : DialAt H C p m l ls n past) (s : Same H H') : DialAt H' C p m l ls n past :=
  ⟨let ⟨dx, e⟩ := h.ins; ⟨dx, s _ _ e⟩, h.made.same s, let ⟨xs, e, q⟩ := h.stood; ⟨xs, s _ _ e, TNs.tm (.of s) q⟩, h.ok, h.ne⟩
/-- its list has changed -/
theorem DialAt.put {H : Hp} {C p m l : Addr} {ls : List (List Nat)} {n : Nat} {past past' : List (List Nat)} {xs : List V} (h : DialAt H C p m l ls n past) (hx : Paired (TN H) xs past') (ok : ∀ t ∈ past', IsP n t) (ne : past' ≠ []) : DialAt (upd H l (.lst xs)) C p m l ls n past' := by
  obtain ⟨⟨dx, e⟩, hm, ⟨ys, hl, _⟩, _, _⟩ := h
  have tm : Tm H (upd H l (.lst xs)) := Tm.lst hl
  refine ⟨⟨dx, (upd_ne (ne_of e hl (fun z => nomatch z))).trans e⟩, ?_, ⟨xs, upd_same, TNs.tm tm hx⟩, ok, ne⟩
  obtain ⟨kvs, h1, h2⟩ := id hm
  exact hm.tm tm (upd_ne (ne_of h1 hl (fun z => nomatch z)))
theorem last_app {α : Type} {xs : List α} (h : xs ≠ []) : ∃ ys y, xs = ys ++ [y] := ⟨xs.dropLast, xs.getLast h, (List.dropLast_concat_getLast h).symm⟩
theorem paired_end {α β : Type} {F : α → β → Prop} : ∀ {xs : List α} {ys : List β} {y : β}, Paired F xs (ys ++ [y]) → ∃ xs' x, xs = xs' ++ [x] ∧ Paired F xs' ys ∧ F x y
  | _, [], _, .cons r .nil => ⟨[], _, rfl, .nil, r⟩
  | _, _ :: _, _, .cons r t => by
    obtain ⟨xs', x, rfl, p, q⟩ := paired_end t
    exact ⟨_ :: xs', x, rfl, .cons r p, q⟩
section
variable (P : Program) (w : World) (K : PySem.W.Frag) (mg : Str → Option Value) (base : Heap)
/-- the method m of the class at C keeps the promise sp -/
def HasM (CX : CXT) (k : Nat) (C : Addr) (m : Str) (ps : List Str) (sp : Sp) : Prop :=
  ∃ (f : Addr) (fd : FuncData), Meth K C m f ∧ Binds K fd ps [] ∧ FnOk P w K mg base CX k f fd ps sp
/-- a property of it -/
def HasP (CX : CXT) (k : Nat) (C : Addr) (m : Str) (sp : Sp) : Prop :=
  ∃ (p f : Addr) (fd : FuncData), PropOf K C m p f ∧ Binds K fd ["self"] [] ∧ FnOk P w K mg base CX k f fd ["self"] sp
/-- its __init__ -/
def HasI (CX : CXT) (k : Nat) (C : Addr) (x : Str) (ps : List Str) (sp : Sp) : Prop :=
  ∃ (f : Addr) (fd : FuncData), mg x = some (.ref C) ∧ L2.Mk K C f ∧ Binds K fd ps [] ∧ FnOk P w K mg base CX k f fd ps sp
structure MethF (C : Addr) (m q : Str) (st : Stmt) (ps : List Str) : Prop where
  f : ∃ (f : Addr) (fd : FuncData), Meth K C m f ∧ Binds K fd ps [] ∧ Fun K m q st f fd
structure PropF (C : Addr) (m q : Str) (st : Stmt) : Prop where
  f : ∃ (p f : Addr) (fd : FuncData), PropOf K C m p f ∧ Binds K fd ["self"] [] ∧ Fun K m q st f fd
structure InitF (C : Addr) (x : Str) (st : Stmt) (ps : List Str) : Prop where
  f : ∃ (f : Addr) (fd : FuncData), mg x = some (.ref C) ∧ L2.Mk K C f ∧ Binds K fd ps [] ∧ Fun K "__init__" (x ++ ".__init__") st f fd
end
section
variable {P : Program} {w : World} {K : PySem.W.Frag} {mg : Str → Option Value} {base : Heap}
theorem MethF.ok {C : Addr} {m q : Str} {st : Stmt} {N ps : List Str} {k : Nat} {sp : Sp} (T : MethF K C m q st ps) (S : FnScope N ps (defScope st)) (len : ∀ vs H Q E, sp vs H Q E → vs.length = ps.length)
    (hbody : ∀ (f : Addr) (cdv : Value) (A : Around) (outer : List Env) (s : Shared) (H : Hp) (vs : List V) (Q : VK) (E : XK), Room k (A.deeper (envOfC q (defScope st) s.heap.objs.size f cdv)) → sp vs H Q E →
      ∃ t, PSs (cxOf CX0 P w K mg base N q (defScope st) f cdv A outer s H E).nox (defBody st) t ∧ t { nx := fun _ H' => Q .non H', rt := Q } (start N vs) H) : HasM P w K mg base CX0 (k + 1) C m ps sp := by
  obtain ⟨f, fd, hm, b, F⟩ := T.f
  exact ⟨f, fd, hm, b, F.ok S len fun cdv A outer s H vs Q E hr h => hbody f cdv A outer s H vs Q E hr h⟩
theorem MethF.okX {C : Addr} {m q : Str} {st : Stmt} {N ps : List Str} {k : Nat} {sp : Sp} (T : MethF K C m q st ps) (S : FnScope N ps (defScope st)) (len : ∀ vs H Q E, sp vs H Q E → vs.length = ps.length)
    (hbody : ∀ (f : Addr) (cdv : Value) (A : Around) (outer : List Env) (s : Shared) (H : Hp) (vs : List V) (Q : VK) (E : XK), Room k (A.deeper (envOfC q (defScope st) s.heap.objs.size f cdv)) → sp vs H Q E →
      ∃ t, PSs (cxOf (L2.CX P w) P w K mg base N q (defScope st) f cdv A outer s H E) (defBody st) t ∧ t { nx := fun _ H' => Q .non H', rt := Q } (start N vs) H) : HasM P w K mg base (L2.CX P w) (k + 1) C m ps sp := by
  obtain ⟨f, fd, hm, b, F⟩ := T.f
  exact ⟨f, fd, hm, b, F.okX S len fun cdv A outer s H vs Q E hr h => hbody f cdv A outer s H vs Q E hr h⟩
theorem PropF.ok {C : Addr} {m q : Str} {st : Stmt} {N : List Str} {k : Nat} {sp : Sp} (T : PropF K C m q st) (S : FnScope N ["self"] (defScope st)) (len : ∀ vs H Q E, sp vs H Q E → vs.length = 1)
    (hbody : ∀ (f : Addr) (cdv : Value) (A : Around) (outer : List Env) (s : Shared) (H : Hp) (vs : List V) (Q : VK) (E : XK), Room k (A.deeper (envOfC q (defScope st) s.heap.objs.size f cdv)) → sp vs H Q E →
      ∃ t, PSs (cxOf CX0 P w K mg base N q (defScope st) f cdv A outer s H E).nox (defBody st) t ∧ t { nx := fun _ H' => Q .non H', rt := Q } (start N vs) H) : HasP P w K mg base CX0 (k + 1) C m sp := by
  obtain ⟨p, f, fd, hm, b, F⟩ := T.f
  exact ⟨p, f, fd, hm, b, F.ok S len fun cdv A outer s H vs Q E hr h => hbody f cdv A outer s H vs Q E hr h⟩
theorem InitF.okX {C : Addr} {x : Str} {st : Stmt} {N ps : List Str} {k : Nat} {sp : Sp} (T : InitF K mg C x st ps) (S : FnScope N ps (defScope st)) (len : ∀ vs H Q E, sp vs H Q E → vs.length = ps.length)
    (hbody : ∀ (f : Addr) (cdv : Value) (A : Around) (outer : List Env) (s : Shared) (H : Hp) (vs : List V) (Q : VK) (E : XK), Room k (A.deeper (envOfC (x ++ ".__init__") (defScope st) s.heap.objs.size f cdv)) → sp vs H Q E →
      ∃ t, PSs (cxOf (L2.CX P w) P w K mg base N (x ++ ".__init__") (defScope st) f cdv A outer s H E) (defBody st) t ∧ t { nx := fun _ H' => Q .non H', rt := Q } (start N vs) H) : HasI P w K mg base (L2.CX P w) (k + 1) C x ps sp := by
  obtain ⟨f, fd, hg, hm, b, F⟩ := T.f
  exact ⟨f, fd, hg, hm, b, F.okX S len fun cdv A outer s H vs Q E hr h => hbody f cdv A outer s H vs Q E hr h⟩
end
section
variable {X : Cx} {CX : CXT}
/-- calls of these, with what they raise -/
theorem pe_hasM {k : Nat} {C : Addr} {m : Str} {ps : List Str} {sp : Sp} {o e : Expr} {es : List Expr} {ta : TE} {t : TA} {ap pos : Pos} {E : XK} {pl : Sem Bool} (h : HasM X.prog X.w X.K X.mg X.base CX k C m ps sp) (c : Cls X.K C) (hr : Room k X.A) (hx : Passes CX X E) (ho : PE X o ta) (ha : PA X (e :: es) t)
    (he : starEach (e :: es) X.env = (false, eval e X.env) :: starEach es X.env := by rfl) (hpl : (backTo pos (starEach es X.env)).any (·.1) = false := by rfl)
    (ht : eval (.Call (.Attribute o m ap) (e :: es) [] pos) X.env = (do let ov ← eval o X.env; standAt ap.atName; let (f, first) ← holding [ov] (getMethod ov m pl); callWith pos f first (backTo pos (starEach (e :: es) X.env)) (backToKw pos (keywordEach [] X.env))) := by rfl) :
    PE X (.Call (.Attribute o m ap) (e :: es) [] pos) (tMeth C m sp [] E ta t) := by
  obtain ⟨f, fd, hm, hb, F⟩ := h
  exact pe_meth ho c hm F hr hb .nil hx ha he hpl ht
theorem pe_hasM0 {k : Nat} {C : Addr} {m : Str} {ps : List Str} {sp : Sp} {o : Expr} {ta : TE} {ap pos : Pos} {E : XK} {pl : Sem Bool} (h : HasM X.prog X.w X.K X.mg X.base CX k C m ps sp) (c : Cls X.K C) (hr : Room k X.A) (hx : Passes CX X E) (ho : PE X o ta)
    (ht : eval (.Call (.Attribute o m ap) [] [] pos) X.env = (do let ov ← eval o X.env; standAt ap.atName; let (f, first) ← holding [ov] (getMethod ov m pl); callWith pos f first (backTo pos (starEach [] X.env)) (backToKw pos (keywordEach [] X.env))) := by rfl) :
    PE X (.Call (.Attribute o m ap) [] [] pos) (tMeth C m sp [] E ta tNil) := by
  obtain ⟨f, fd, hm, hb, F⟩ := h
  exact pe_meth0 ho c hm F hr hb .nil hx ht
theorem pe_hasP {k : Nat} {C : Addr} {m : Str} {sp : Sp} {o : Expr} {ta : TE} {pos : Pos} {E : XK} (h : HasP X.prog X.w X.K X.mg X.base CX k C m sp) (c : Cls X.K C) (hr : Room (k + 1) X.A) (hx : Passes CX X.nox E) (ho : PE X o ta)
    (hab : attributeBase o m X.env (eval o X.env) = eval o X.env := by rfl) : PE X (.Attribute o m pos) (tProp C sp [] E ta) := by
  obtain ⟨p, f, fd, hm, hb, F⟩ := h
  exact pe_prop ho c hm F hr hb .nil hx hab
theorem pe_hasI {k : Nat} {C : Addr} {x : Str} {ps : List Str} {sp : Sp} {e : Expr} {es : List Expr} {t : TA} {p pos : Pos} {E : XK} (h : HasI X.prog X.w X.K X.mg X.base CX k C x ps sp) (hr : Room (k + 1) X.A) (hg : Gl X x) (hx : Passes CX X E) (ha : PA X (e :: es) t)
    (hdb : (x == ("__debug__" : Str)) = false := by decide) (he : starEach (e :: es) X.env = (false, eval e X.env) :: starEach es X.env := by rfl) (hpl : (backTo pos (starEach es X.env)).any (·.1) = false := by rfl) : PE X (.Call (.Name x p) (e :: es) [] pos) (tMake C sp [] E t) := by
  obtain ⟨f, fd, hm, hk, hb, F⟩ := h
  exact pe_make hk F hr hg hm hb .nil hx ha hdb he hpl
end
end Lt

set_option Elab.async false
set_option linter.all false
set_option maxRecDepth 100000
set_option maxHeartbeats 1000000
namespace Lt
open PySem PySem.Spec PyProof.Rows L2
/-! ### the row of draws -/
/-- all but the object at r is as it was -/
def StepR (r : Addr) (H H' : Hp) : Prop := ∀ a o, a ≠ r → H a = some o → H' a = some o
theorem StepR.refl (r : Addr) (H : Hp) : StepR r H H := fun _ _ _ h => h
theorem StepR.trans {r : Addr} {H H1 H2 : Hp} (a : StepR r H H1) (b : StepR r H1 H2) : StepR r H H2 := fun c o hc h => b c o hc (a c o hc h)
theorem StepR.of {r : Addr} {H H' : Hp} (e : Same H H') : StepR r H H' := fun a o _ h => e a o h
theorem StepR.put (r : Addr) (H : Hp) (o : HO) : StepR r H (upd H r o) := fun a u h e => by rw [upd_ne h]; exact e
structure Row4 (K : PySem.W.Frag) (H : Hp) (r sc : Addr) (ns : List Int) (a b c : Int) : Prop where
  at_ : H r = some (.lst [.ref sc, .int a, .int b, .int c])
  sc : SqL K H sc (ns.map V.int)
  a0 : 0 ≤ a
  b0 : 0 ≤ b
  b1 : b < 2147483647
def RowAt (K : PySem.W.Frag) (H : Hp) (r sc : Addr) (ns : List Int) : Prop := ∃ a b c, Row4 K H r sc ns a b c
theorem StepR.tm {K : PySem.W.Frag} {r sc : Addr} {ns : List Int} {H H' : Hp} (s : StepR r H H') (h : RowAt K H r sc ns) : Tm H H' := by
  obtain ⟨x, b, c, R⟩ := h
  exact ⟨fun a xs e => s a _ (ne_of e R.at_ (fun z => nomatch z)) e, fun a o xs e => s a _ (ne_of e R.at_ (fun z => nomatch z)) e⟩
theorem sq_upd {K : PySem.W.Frag} {H : Hp} {r sc x : Addr} {o : HO} {ns : List Int} {ys : List V} (hr : H r = some (.lst (.ref x :: ys))) (h : SqL K H sc (ns.map V.int)) : SqL K (upd H r o) sc (ns.map V.int) := by
  have key : ∀ u, H sc = some u → u = .lst (ns.map V.int) ∨ (∃ ob, u = .frz ob (.lst (ns.map V.int))) → upd H r o sc = some u := fun u hu hc => by
    refine (upd_ne (ne_of hu hr fun z => ?_)).trans hu
    rcases hc with e | ⟨ob, e⟩
    · rw [e] at z
      injection z with z
      cases ns with
      | nil => cases z
      | cons n ns => cases z
    · rw [e] at z
      cases z
  rcases h with (h | ⟨ob, h⟩) | h
  · exact .inl (.inl (key _ h (.inl rfl)))
  · exact .inl (.inr ⟨ob, key _ h (.inr ⟨ob, rfl⟩)⟩)
  · exact .inr h
theorem Row4.put {K : PySem.W.Frag} {H : Hp} {r sc : Addr} {ns : List Int} {a b c a' b' c' : Int} (h : Row4 K H r sc ns a b c) (h1 : 0 ≤ a') (h2 : 0 ≤ b') (h3 : b' < 2147483647) : Row4 K (upd H r (.lst [.ref sc, .int a', .int b', .int c'])) r sc ns a' b' c' :=
  ⟨upd_same, sq_upd h.at_ h.sc, h1, h2, h3⟩
theorem RowAt.step {K : PySem.W.Frag} {H H' : Hp} {r sc : Addr} {ns : List Int} (h : RowAt K H r sc ns) (s : Same H H') : RowAt K H' r sc ns := by
  obtain ⟨a, b, c, R⟩ := h
  exact ⟨a, b, c, s _ _ R.at_, Same.seq s R.sc, R.a0, R.b0, R.b1⟩
theorem RowAt.sq {K : PySem.W.Frag} {H : Hp} {r sc : Addr} {ns : List Int} (h : RowAt K H r sc ns) : SqL K H sc (ns.map V.int) := let ⟨_, _, _, R⟩ := h; R.sc
theorem RowAt.ne {K : PySem.W.Frag} {H : Hp} {r sc l : Addr} {ns : List Int} (h : RowAt K H r sc ns) (hl : H l = none) : r ≠ l := let ⟨_, _, _, R⟩ := h; ne_of_none R.at_ hl
/-- an object that was not there at H0, where the row stood, may change -/
theorem RowAt.mut {K : PySem.W.Frag} {H0 H : Hp} {r sc l : Addr} {o : HO} {ns : List Int} (h0 : RowAt K H0 r sc ns) (hl : H0 l = none) (h : RowAt K H r sc ns) : RowAt K (upd H l o) r sc ns := by
  have hr := h0.ne hl
  have s0 := h0.sq
  obtain ⟨a, b, c, R⟩ := h
  refine ⟨a, b, c, (upd_ne hr).trans R.at_, ?_, R.a0, R.b0, R.b1⟩
  rcases s0 with (s0 | ⟨ob, s0⟩) | s0
  · have hne : sc ≠ l := ne_of_none s0 hl
    rcases R.sc with (z | ⟨ob, z⟩) | z
    · exact .inl (.inl ((upd_ne hne).trans z))
    · exact .inl (.inr ⟨ob, (upd_ne hne).trans z⟩)
    · exact .inr z
  · have hne : sc ≠ l := ne_of_none s0 hl
    rcases R.sc with (z | ⟨ob, z⟩) | z
    · exact .inl (.inl ((upd_ne hne).trans z))
    · exact .inl (.inr ⟨ob, (upd_ne hne).trans z⟩)
    · exact .inr z
  · exact .inr s0
theorem StepR.mut {r l : Addr} {H0 H : Hp} {o : HO} (s : StepR r H0 H) (hl : H0 l = none) : StepR r H0 (upd H l o) := fun a u ha e => by
  rw [upd_ne (ne_of_none e hl)]
  exact s a u ha e
theorem StepR.free {r l : Addr} {H0 H : Hp} (s : StepR r H0 H) (hr : r ≠ l) (hl : H l = none) : H0 l = none := by
  cases e : H0 l with
  | none => rfl
  | some o =>
    rw [s l o (Ne.symm hr) e] at hl
    cases hl
section
variable {P : Program} {w : World} {K : PySem.W.Frag} {mg : Str → Option Value} {base : Heap}
def spTaken (K : PySem.W.Frag) : Sp := fun vs H Q _ => ∃ (r sc : Addr) (ns : List Int) (m : Nat), vs = [.ref r, nI m] ∧ RowAt K H r sc ns ∧ 1 ≤ m ∧ m ≤ 1000 ∧ ∀ x H', x < m → StepR r H H' → RowAt K H' r sc ns → Q (nI x) H'
theorem sc_law_taken : FnScope ["row", "many", "found", "cell"] ["row", "many"] (defScope s_law_taken) := ⟨rfl, rfl, rfl, by decide +kernel, rfl, by decide +kernel, by decide +kernel⟩
theorem fmod_nat {i : Int} {m : Nat} (h : 1 ≤ m) : ∃ x : Nat, x < m ∧ Int.fmod i (m : Int) = (x : Int) := by
  have h0 : (0 : Int) < (m : Int) := by omega
  rw [Int.fmod_eq_emod_of_nonneg i (Int.le_of_lt h0)]
  have h1 := Int.emod_nonneg i (show (m : Int) ≠ 0 by omega)
  have h2 := Int.emod_lt_of_pos i h0
  exact ⟨(i % m).toNat, by omega, by omega⟩
theorem has_law_taken (T : Top K mg "_law_taken" s_law_taken ["row", "many"]) (B : Bi mg) : Has P w K mg base CX0 1 "_law_taken" ["row", "many"] (spTaken K) := by
  refine T.ok sc_law_taken (fun vs H Q E h => ?_) (fun f cdv A outer s H vs Q E hr h => ?_)
  · obtain ⟨r, sc, ns, m, rfl, _⟩ := h
    rfl
  · obtain ⟨r, sc, ns, m, rfl, ⟨a, b, c, R⟩, hm1, hm2, q⟩ := h
    refine ⟨_, pss_cons (ps_if (pt_cmpR op_gt (pe_ix ix_list (pv 0) pe_int (fun _ _ => rfl)) pe_int (nomark _))
        (pss_cons (ps_set (i := 2) sc_law_taken.nd rfl (Or.inl rfl) (pe_op op_modN (pe_callTy call_int1 (by rfl) B.int PyProof.Rows.boot_int (pa_cons (pe_ix ix_list (pv 0) pe_int (fun _ _ => rfl)) pa_nil)) (pv 1)))
        (pss_cons (ps_asg (pe_op op_fdivN (pe_ix ix_list (pv 0) pe_int (fun _ _ => rfl)) (pv 1)) (pg_sub (pv 0) pe_int set_list))
        (pss_one (ps_ret (pv 2))))) pss_nil)
      (pss_cons (ps_asg (pe_op op_add (pe_ix ix_list (pv 0) pe_int (fun _ _ => rfl)) pe_int) (pg_sub (pv 0) pe_int set_list))
      (pss_cons (ps_if (pt_cmpR op_gt (pe_ix ix_list (pv 0) pe_int (fun _ _ => rfl)) (pe_callB call_len_seq (by rfl) B.len PySem.boot_len (pa_cons (pe_ix ix_list (pv 0) pe_int (fun _ _ => rfl)) pa_nil)) (nomark _))
        (pss_cons (ps_asg (pe_op op_modN (pe_callTy call_int1 (by rfl) B.int PyProof.Rows.boot_int (pa_cons (pe_op op_add (pe_op op_mul (pe_ix ix_list (pv 0) pe_int (fun _ _ => rfl)) pe_int) pe_int) pa_nil)) pe_int) (pg_sub (pv 0) pe_int set_list))
        (pss_one (ps_ret (pe_op op_modN (pe_callTy call_int1 (by rfl) B.int PyProof.Rows.boot_int (pa_cons (pe_op op_fdivN (pe_ix ix_list (pv 0) pe_int (fun _ _ => rfl)) pe_int) pa_nil)) (pv 1))))) pss_nil)
      (pss_cons (ps_set (i := 3) sc_law_taken.nd rfl (Or.inl rfl) (pe_ix ix_list (pe_ix ix_list (pv 0) pe_int (fun _ _ => rfl)) (pe_op op_sub (pe_ix ix_list (pv 0) pe_int (fun _ _ => rfl)) pe_int) (fun _ _ => rfl)))
      (pss_cons (ps_asg (pe_op op_modN (pe_callTy call_int1 (by rfl) B.int PyProof.Rows.boot_int (pa_cons (pe_op op_add (pe_op op_add (pe_op op_mul (pe_ix ix_list (pv 0) pe_int (fun _ _ => rfl)) pe_int) (pv 3)) pe_int) pa_nil)) pe_int) (pg_sub (pv 0) pe_int set_list))
      (pss_cons (ps_if (pt_cmpR op_ge (pv 3) (pe_op op_pow pe_int pe_int) (nomark _))
        (pss_one (ps_asg (pe_op op_fdivN (pv 3) (pv 1)) (pg_sub (pv 0) pe_int set_list))) pss_nil)
      (pss_one (ps_ret (pe_op op_modN (pe_callTy call_int1 (by rfl) B.int PyProof.Rows.boot_int (pa_cons (pv 3) pa_nil)) (pv 1))))))))), ?_⟩
    have hm0 : (m : Int) ≠ 0 := by omega
    have hmb : ((m : Int)).natAbs < 1073741824 := by omega
    have rd : ∀ {H a b c}, Row4 K H r sc ns a b c → SqL K H r [.ref sc, .int a, .int b, .int c] := fun R => SqL.of R.at_
    have a00 := R.a0
    have b00 := R.b0
    have b11 := R.b1
    have fin : ∀ i H', StepR r H H' → RowAt K H' r sc ns → Q (.int (Int.fmod i m)) H' := fun i H' st ra => by
      obtain ⟨x, hx, ex⟩ := fmod_nat (i := i) hm1
      rw [ex]
      exact q x H' hx st ra
    refine ⟨_, rfl, r, _, 3, .int c, rfl, rfl, rd R, rfl, c, 0, rfl, rfl, _, rfl, ite2 (fun hc => ?_) (fun hc => ?_)⟩
    · refine ⟨_, rfl, r, _, 3, .int c, rfl, rfl, rd R, rfl, .inl ⟨_, rfl, _, rfl, c, m, rfl, rfl, hm0, ?_⟩⟩
      refine ⟨_, rfl, r, _, 3, .int c, rfl, rfl, rd R, rfl, _, rfl, c, m, rfl, rfl, ⟨hm0, hmb⟩, _, rfl, r, _, 3, 3, rfl, rfl, R.at_, rfl, ?_⟩
      exact ⟨_, rfl, fin c _ (StepR.put _ _ _) ⟨a, b, _, R.put a00 b00 b11⟩⟩
    · have R1 := R.put (a' := a + 1) (b' := b) (c' := c) (by omega) b00 b11
      refine ⟨_, rfl, r, _, 1, .int a, rfl, rfl, rd R, rfl, a, 1, rfl, rfl, _, rfl, r, _, 1, 1, rfl, rfl, R.at_, rfl, ?_⟩
      refine ⟨_, rfl, r, _, 1, .int (a + 1), rfl, rfl, rd R1, rfl, _, rfl, r, _, 0, .ref sc, rfl, rfl, rd R1, rfl, sc, ns.map V.int, rfl, .inl R1.sc, a + 1, _, rfl, rfl, _, rfl, ite2 (fun h2 => ?_) (fun h2 => ?_)⟩
      · obtain ⟨y, hy, ey⟩ := fmod_nat (i := b * 48271 + 11) (m := 2147483647) (by decide)
        have ey' : Int.fmod (b * 48271 + 11) 2147483647 = (y : Int) := ey
        have R2 := R1.put (a' := a + 1) (b' := Int.fmod (b * 48271 + 11) 2147483647) (c' := c) (by omega) (by omega) (by omega)
        refine ⟨_, rfl, r, _, 2, .int b, rfl, rfl, rd R1, rfl, b, 48271, rfl, rfl, .inl ⟨by omega, by omega⟩, b * 48271, 11, rfl, rfl, .inl ⟨_, rfl, b * 48271 + 11, 2147483647, rfl, rfl, (show (2147483647 : Int) ≠ 0 by decide), _, rfl, r, _, 2, 2, rfl, rfl, R1.at_, rfl, ?_⟩⟩
        refine ⟨_, rfl, r, _, 2, .int _, rfl, rfl, rd R2, rfl, _, 7, rfl, rfl, ⟨by decide, by decide⟩, .inl ⟨_, rfl, _, rfl, _, m, rfl, rfl, hm0, ?_⟩⟩
        exact fin _ _ ((StepR.put _ _ _).trans (StepR.put _ _ _)) ⟨_, _, _, R2⟩
      · have h2 : ¬ (((ns.map V.int).length : Int) < a + 1) := fun z => h2 (decide_eq_true z)
        rw [List.length_map] at h2
        have hlt : a.toNat < ns.length := by omega
        have hat : atI (ns.map V.int) (a + 1 - 1) = some (.int ns[a.toNat]) := by
          have e : a + 1 - 1 = ((a.toNat : Nat) : Int) := by omega
          rw [e]
          refine atI_nat ?_
          rw [List.getElem?_map, List.getElem?_eq_getElem hlt]
          rfl
        generalize ns[a.toNat] = z at hat
        refine ⟨_, rfl, r, _, 0, .ref sc, rfl, rfl, rd R1, rfl, _, rfl, r, _, 1, .int (a + 1), rfl, rfl, rd R1, rfl, a + 1, 1, rfl, rfl, sc, _, a + 1 - 1, .int z, rfl, rfl, R1.sc, hat, ?_⟩
        obtain ⟨y, hy, ey⟩ := fmod_nat (i := b * 48271 + z + 11) (m := 2147483647) (by decide)
        have ey' : Int.fmod (b * 48271 + z + 11) 2147483647 = (y : Int) := ey
        have R2 := R1.put (a' := a + 1) (b' := Int.fmod (b * 48271 + z + 11) 2147483647) (c' := c) (by omega) (by omega) (by omega)
        refine ⟨_, rfl, r, _, 2, .int b, rfl, rfl, rd R1, rfl, b, 48271, rfl, rfl, .inl ⟨by omega, by omega⟩, _, rfl, b * 48271, z, rfl, rfl, b * 48271 + z, 11, rfl, rfl, .inl ⟨_, rfl, b * 48271 + z + 11, 2147483647, rfl, rfl, (show (2147483647 : Int) ≠ 0 by decide), _, rfl, r, _, 2, 2, rfl, rfl, R1.at_, rfl, ?_⟩⟩
        refine ⟨_, rfl, 10, 18, rfl, rfl, ⟨by decide, by decide, by decide⟩, z, _, rfl, rfl, _, rfl, ite2 (fun h3 => ?_) (fun h3 => ?_)⟩
        · refine ⟨_, rfl, _, rfl, z, m, rfl, rfl, ⟨hm0, hmb⟩, _, rfl, r, _, 3, 3, rfl, rfl, R2.at_, rfl, ?_⟩
          refine ⟨_, rfl, .inl ⟨_, rfl, _, rfl, _, m, rfl, rfl, hm0, ?_⟩⟩
          exact fin _ _ (((StepR.put _ _ _).trans (StepR.put _ _ _)).trans (StepR.put _ _ _)) ⟨_, _, _, R2.put (by omega) (by omega) (by omega)⟩
        · refine ⟨_, rfl, .inl ⟨_, rfl, _, rfl, _, m, rfl, rfl, hm0, ?_⟩⟩
          exact fin _ _ ((StepR.put _ _ _).trans (StepR.put _ _ _)) ⟨_, _, _, R2⟩
end
end Lt

set_option Elab.async false
set_option linter.all false
set_option maxRecDepth 100000
set_option maxHeartbeats 2000000
/-! lambdas in a body: made (with defaults or without), held by a name, called -/
namespace LmX
open PySem PySem.Spec PyProof.Rows L2 LamX NdefX
/-- the words of a lambda; the body stands beside -/
abbrev lmFd (F : NF) (e : Expr) (dV doc pm ctv : Value) : FuncData := PySem.W.kdv_fn F.name F.qual F.params (.expr e) F.scope F.cl dV doc pm (.ref F.c) ctv
def LmO (f : Addr) (F : NF) (e : Expr) (dV : Value) : HO :=
  .ext fun h => ∃ (od : Option Addr) (sl : Array (Option Value)) (doc pm ctv : Value), h.get? f = some (⟨.type "function", od, .func (lmFd F e dV doc pm ctv), sl⟩ : Obj)
theorem lmO_at {P : Program} {w : World} {H : Hp} {h : Heap} {f : Addr} {F : NF} {e : Expr} {dV : Value} (ok : HOk P w H h) (x : H f = some (LmO f F e dV)) :
    ∃ (od : Option Addr) (sl : Array (Option Value)) (doc pm ctv : Value), h.get? f = some (⟨.type "function", od, .func (lmFd F e dV doc pm ctv), sl⟩ : Obj) := (ok f _ x).1
abbrev lmF (q : Str) (params : Arguments) (scope : Scope) (cells : List (Str × Addr)) (c : Addr) : NF := ⟨"<lambda>", q, params, [], scope, cloFrom cells scope.names [], c⟩
section
variable {X : Cx} {pins : List (Addr × Obj)} {σ : L2.St} {H : Hp} {s : Shared}
theorem lm_laid {F : NF} {e : Expr} {dV doc pm ctv : Value} {t' : Nat} (I : Inv X pins σ H s) :
    Inv X pins σ (upd H s.heap.objs.size (LmO s.heap.objs.size F e dV)) { s with heap := s.heap.push { cls := .type "function", data := .func (lmFd F e dV doc pm ctv) }, toks := t' } := by
  have g : (s.heap.push ({ cls := .type "function", data := .func (lmFd F e dV doc pm ctv) } : Obj)).get? s.heap.objs.size = some { cls := .type "function", data := .func (lmFd F e dV doc pm ctv) } := Heap.get?_push_size _ rfl
  exact I.laid (fun _ _ q => Heap.get?_push_of_some _ q) (Nat.le_refl _) ⟨⟨none, #[], doc, pm, ctv, g⟩, ⟨_, g⟩, fun _ _ ⟨od, sl, d, p, t, z⟩ k => ⟨od, sl, d, p, t, k _ z⟩⟩
theorem lm_tail {T : List (Addr × Str)} {c P : Addr} {params : Arguments} {body : Expr} {scope : Scope} {pos : Pos} {dV : Value} {E Q : Value → Shared → Prop} (I : Inv X pins σ H s) (B : TabB X.base X.mg c P) (hc : X.env.code = .ref c)
    (hm : (P, X.env.qual ++ "<lambda>") ∈ T) (hu : ∀ p ∈ T, p.1 = P → p.2 = X.env.qual ++ "<lambda>") (hT : Tabs T H) (hf : ∀ y ∈ scope.names, y.2 = .free → ∃ c, X.env.cells.lookup y.1 = some c)
    (h : ∀ (f c' : Addr) (H1 : Hp) (s' : Shared), Inv X pins σ H1 s' → ExtN H H1 → Tabs T H1 → H f = none → H1 f = some (LmO f (lmF (X.env.qual ++ "<lambda>") params scope X.env.cells c') body dV) → H1 c' = some (CodeO c' (X.env.qual ++ "<lambda>")) → Q (.ref f) s') :
    wpAny (model X.prog X.w) X.A (makeTail "<lambda>" (X.env.qual ++ "<lambda>") params (.expr body) scope X.env dV .none none pos pos.line) Q E s := by
  obtain ⟨ps, tP, tr, am⟩ := hT _ hm
  have bmP := B.bm.keeps I.bk
  have gP : s.heap.get? P = some { cls := .none, data := .fields ps } := I.hok P _ tP
  rcases hk : codeAmong pos ps.toList with _ | cv
  · refine PySem.W.kdv_makeTail (closure_ok hf) I.ok.glob (I.mod.glob.keeps I.bk) hc (B.code.keeps I.bk) gP tr hk B.gP bmP fun c' ctv doc h' tk kx kge klt ⟨c2, oc, vs, t, e2, o2, d2, v2⟩ kt => ?_
    cases e2
    have frC : H c' = none := I.hok.fresh kge
    have J := inv_table (t' := tk) (more := #[rawInt pos.line, rawInt pos.col, .ref c']) I tP (fun b o nb q => kx b o nb q) kt kge ⟨oc, vs, t, o2, d2, v2⟩
    have ext : ExtN H (upd (upd H P (.tbl (ps ++ #[rawInt pos.line, rawInt pos.col, .ref c']))) c' (CodeO c' (X.env.qual ++ "<lambda>"))) := fun b o q nt => by
      have nP : b ≠ P := fun z => nt ps (Option.some.inj ((q.symm.trans (z ▸ rfl)).trans tP))
      exact (upd_ne (ne_of_none q frC)).trans ((upd_ne nP).trans q)
    have tabs : Tabs T (upd (upd H P (.tbl (ps ++ #[rawInt pos.line, rawInt pos.col, .ref c']))) c' (CodeO c' (X.env.qual ++ "<lambda>"))) := fun p hp => by
      have lst : (ps ++ #[rawInt pos.line, rawInt pos.col, .ref c']).toList = ps.toList ++ [rawInt pos.line, rawInt pos.col, .ref c'] := Array.toList_append ..
      rcases Classical.em (p.1 = P) with hb | hb
      · rw [hu p hp hb, hb]
        refine ⟨_, (upd_ne (ne_of_none tP frC)).trans upd_same, lst ▸ PySem.TriplesOk_snoc _ _ _ _ tr, fun p' cw hw => ?_⟩
        rcases among_app _ tr (lst ▸ hw) with z | z
        · exact (am p' cw z).imp fun c0 q => ⟨q.1, ext _ _ q.2 codeO_ne⟩
        · exact ⟨c', z, upd_same⟩
      · obtain ⟨qs, a1, a2, a3⟩ := hT p hp
        exact ⟨qs, (upd_ne (ne_of_none a1 frC)).trans ((upd_ne hb).trans a1), a2, fun p' cw hw => (a3 p' cw hw).imp fun c0 q => ⟨q.1, ext _ _ q.2 codeO_ne⟩⟩
    have new := J.hok.fresh (Nat.le_refl _)
    refine h h'.objs.size c' _ _ (lm_laid (F := lmF (X.env.qual ++ "<lambda>") params scope X.env.cells c') (t' := tk) J) (fun b o q nt => ?_) (tabs.ext fun b o q => ?_) (I.hok.fresh (Nat.le_trans kge (Nat.le_of_lt klt))) upd_same ?_
    · exact (upd_ne (ne_of_none (ext b o q nt) new)).trans (ext b o q nt)
    · exact (upd_ne (ne_of_none q new)).trans q
    · exact (upd_ne (Nat.ne_of_lt klt)).trans upd_same
  · obtain ⟨c', e, hco⟩ := am pos cv hk
    subst e
    refine PySem.W.kdv_makeTailHit (closure_ok hf) I.ok.glob (I.mod.glob.keeps I.bk) hc (B.code.keeps I.bk) gP tr hk bmP fun ctv doc h' tk kx ksz => ?_
    have J : Inv X pins σ H { s with heap := h', toks := tk } := I.kept kx
    have new : H h'.objs.size = none := J.hok.fresh (Nat.le_refl _)
    have st : ∀ b o, H b = some o → upd H h'.objs.size (LmO h'.objs.size (lmF (X.env.qual ++ "<lambda>") params scope X.env.cells c') body dV) b = some o := fun b o q => (upd_ne (ne_of_none q new)).trans q
    exact h h'.objs.size c' _ _ (lm_laid (F := lmF (X.env.qual ++ "<lambda>") params scope X.env.cells c') (t' := tk) J) (fun b o q _ => st b o q) (hT.ext st) new upd_same (st _ _ hco)
end
/-- lambda: body -/
def tLm0 (T : List (Addr × Str)) (mk : Addr → NF) (e : Expr) : TE := fun _ H Q => Tabs T H ∧ ∀ (f c' : Addr) (H1 : Hp), ExtN H H1 → Tabs T H1 → H f = none → H1 f = some (LmO f (mk c') e .none) → H1 c' = some (CodeO c' (mk c').qual) → Q (.ref f) H1
/-- lambda x=d: body -/
def tLm1 (T : List (Addr × Str)) (mk : Addr → NF) (e : Expr) (td : TE) : TE := fun σ H Q => td σ H fun v H0 => Tabs T H0 ∧ ∀ (p f c' : Addr) (H1 : Hp), ExtN H0 H1 → Tabs T H1 → H0 f = none → H1 f = some (LmO f (mk c') e (.ref p)) → H1 p = some (.tup [v]) → H1 c' = some (CodeO c' (mk c').qual) → Q (.ref f) H1
section
variable {X : Cx} {T : List (Addr × Str)} {c P : Addr} {params : Arguments} {body : Expr} {scope : Scope} {pos : Pos}
theorem lm_has (ok : X.Ok) (hf : ∀ y ∈ scope.names, y.2 = .free → X.env.scope.names.lookup y.1 = some .cell ∨ X.env.scope.names.lookup y.1 = some .free) : ∀ y ∈ scope.names, y.2 = .free → ∃ c, X.env.cells.lookup y.1 = some c :=
  fun y hy e => (hf y hy e).elim (fun z => ok.has _ (.inl z)) fun z => ok.has _ (.inr z)
theorem pe_lm0 (B : TabB X.base X.mg c P) (hc : X.env.code = .ref c) (hm : (P, X.env.qual ++ "<lambda>") ∈ T) (hu : ∀ p ∈ T, p.1 = P → p.2 = X.env.qual ++ "<lambda>")
    (hf : ∀ y ∈ scope.names, y.2 = .free → X.env.scope.names.lookup y.1 = some .cell ∨ X.env.scope.names.lookup y.1 = some .free) (hd : defaultsOf params X.env = ([], [])) :
    PE X (.Lambda params body scope pos) (tLm0 T (lmF (X.env.qual ++ "<lambda>") params scope X.env.cells) body) := by
  refine ⟨fun pins s σ H Q I h => PySem.W.kla_eval hd ?_⟩
  rw [makeFunction_eq]
  simp only [List.zip_nil_right, List.filterMap_nil, List.isEmpty_nil, if_true, pure_bind]
  exact lm_tail I B hc hm hu h.1 (lm_has I.ok hf) fun f c' H1 s' J k1 k2 k3 k4 k5 => ⟨V.ref f, H1, J, rfl, h.2 f c' H1 k1 k2 k3 k4 k5⟩
theorem pe_lm1 {d : Expr} {td : TE} (B : TabB X.base X.mg c P) (hc : X.env.code = .ref c) (hm : (P, X.env.qual ++ "<lambda>") ∈ T) (hu : ∀ p ∈ T, p.1 = P → p.2 = X.env.qual ++ "<lambda>")
    (hf : ∀ y ∈ scope.names, y.2 = .free → X.env.scope.names.lookup y.1 = some .cell ∨ X.env.scope.names.lookup y.1 = some .free) (hd : params.defaults = [d]) (hk : params.kw_defaults = []) (pd : PE X d td) :
    PE X (.Lambda params body scope pos) (tLm1 T (lmF (X.env.qual ++ "<lambda>") params scope X.env.cells) body td) := by
  refine ⟨fun pins s σ H Q I h => PySem.W.kdv_lam (by rw [hd]; rfl) hk ?_⟩
  rw [hd]
  refine PySem.W.kdv_all1 (thn (pd.run pins s σ H _ I h) fun u s1 ⟨v, H0, J, r, hT, q⟩ => PySem.W.kdv_all0 ?_)
  rw [makeFunction_eq]
  simp only [List.zip_nil_right, List.filterMap_nil, List.isEmpty_nil, List.isEmpty_cons, if_true, Bool.false_eq_true, if_false, pure_bind]
  refine wpAny_bind (wpAny_newTextTuple ?_)
  have fr : H0 s1.heap.objs.size = none := J.hok.fresh (Nat.le_refl _)
  have J2 := J.laid (t' := s1.toks) (h' := s1.heap.push { cls := .type "tuple", data := .seq [u].toArray }) (fun _ _ q => Heap.get?_push_of_some _ q) (Nat.le_refl _) (show ObjOk X.prog X.w _ _ _ (.tup [v]) from ⟨by rw [sizeLine_eq]; exact Nat.le_of_ble_eq_true rfl, [u], .cons r .nil, IsTup.new _ _⟩)
  have st : ∀ b o, H0 b = some o → upd H0 s1.heap.objs.size (.tup [v]) b = some o := fun b o e => (upd_ne (ne_of_none e fr)).trans e
  refine lm_tail J2 B hc hm hu (hT.ext st) (lm_has J2.ok hf) fun f c' H1 s' J3 k1 k2 k3 k4 k5 => ⟨V.ref f, H1, J3, rfl, q _ f c' H1 (fun b o e nt => k1 b o (st b o e) nt) k2 ?_ k4 (k1 _ _ upd_same fun _ z => by cases z) k5⟩
  unfold upd at k3
  split at k3
  · cases k3
  · exact k3
/-- x(), x a name that holds a function -/
theorem pe_ap0 {R : Addr → TE} {i : Nat} {x : Str} {p : Pos} (hrun : ∀ (f : Addr) (pins : List (Addr × Obj)) (s : Shared) (σ : L2.St) (H : Hp) (Q : VK), Inv X pins σ H s → R f σ H Q → PySem.W.FnAt f s.heap ∧ wpAny (model X.prog X.w) X.A (call (.ref f) []) (EP X pins σ Q) X.xe s)
    (hN : X.N[i]? = some x) (hv : Vis X.env.scope x) (hd : (x == ("__debug__" : Str)) = false := by decide) (hcd : (x == ("__classdict__" : Str)) = false := by decide) :
    PE X (.Call (.Name x p) [] [] pos) (fun σ H Q => ∃ f, σ[i]? = some (some (.ref f)) ∧ R f σ H Q) := by
  refine ⟨fun pins s σ H Q I ⟨f, hs, hR⟩ => wpAny_Call_Name_kw (thn ((pe_var (pos := p) hN hv hd hcd).run pins s σ H (fun v H1 => v = .ref f ∧ H1 = H) I ⟨.ref f, hs, rfl, rfl⟩) fun u s1 ⟨v, H1, J, r, e1, e2⟩ => ?_)⟩
  subst e1 e2
  obtain rfl : u = Value.ref f := r
  obtain ⟨fa, rn⟩ := hrun f pins s1 σ _ Q J hR
  exact PySem.W.callWith_F0 fa rn
/-- a lambda's run -/
theorem lm_run {CX : CXT} {pins : List (Addr × Obj)} {s : Shared} {σ : L2.St} {H : Hp} {Q : VK} {E : XK} {k : Nat} {f : Addr} {F : NF} {e : Expr} {dV : Value} {N ps fr : List Str} {us : List Value} {vs : List V} {js : List Nat} {tb : TE} (I : Inv X pins σ H s)
    (S : NScope N ps fr F.scope) (hf : H f = some (LmO f F e dV)) (hc : H F.c = some (CodeO F.c F.qual)) (hb : ∀ doc pm ctv, BindsTo s (lmFd F e dV doc pm ctv) ⟨[], []⟩ (ps.zip us)) (r : Vals vs us) (hl : vs.length = ps.length) (cp : Caps X F.cl fr js)
    (hr : Room (k + 1) X.A) (hx : PassesAt CX X σ E) (hbody : Room k (X.A.deeper (envF F f s.heap.objs.size)) → PE (ncx CX X.prog X.w X.K X.mg X.base N F f X.A X.stack s H E) e tb) (ht : tb (startF N vs (js.map (slotAt σ))) H Q) :
    PySem.W.FnAt f s.heap ∧ wpAny (model X.prog X.w) X.A (call (.ref f) []) (EP X pins σ Q) X.xe s := by
  obtain ⟨od, sl, doc, pm, ctv, ho⟩ := lmO_at I.hok hf
  refine ⟨⟨_, od, _, sl, ho⟩, ?_⟩
  have C := cells_of I cp
  have rc : codeAny (model X.prog X.w) X.A (.call (.ref f) ⟨[], []⟩) (CR CX X.stack X.prog X.w H s Q E) s := by
    refine PySem.W.kla_callFunE hr.depth ho rfl S.co S.gen rfl (codeO_at I.hok hc) (hb doc pm ctv _ _ _ _ ?_)
    refine wpAny_newFunctionEnv S.nocell (fun ⟨n, _⟩ hy => S.par n (List.of_mem_zip hy).1) (fun h₁ hns hsb => ⟨I.nolimit.fresh _ hsb, ?_⟩) S.kind
    show codeAny _ _ (.expr e (envF F f s.heap.objs.size)) _ _
    have kp : ∀ b o, s.heap.get? b = some o → h₁.get? b = some o := fun b o q => hsb.extBut b o (Nat.ne_of_lt (Heap.lt_size q)) (Heap.get?_push_of_some _ q)
    have J := inv_startN (CX := CX) (E := E) (f := f) (tk := s.toks + (ps.zip us).length) S hr.hd I.env0 hl r C hns kp
    refine PySem.W.kla_codeExpr (wpAny_mono ((hbody (hr.deeper _)).run [] _ _ H Q J ht) (fun v s' ⟨w', H', J', rv, q⟩ => ?_) fun e s' q => q)
    exact ⟨w', H', J'.os, J'.bare, J'.base, J'.hok, rv, q⟩
  refine wpAny_call (codeAny_mono rc fun o s' q => ?_)
  rcases o with e | fl
  · exact hx pins H s e s' I q
  · cases fl with
    | ret u => exact I.after q
    | next => exact q.elim
    | brk => exact q.elim
    | cont => exact q.elim
end
end LmX

set_option Elab.async false
set_option linter.all false
set_option maxRecDepth 100000
set_option maxHeartbeats 4000000
/-! several clauses «except X as n», one name n for all -/
namespace MaX
open PySem PySem.Spec PyProof.Rows L2
abbrev Cl := Value × (Addr → Value → Option Addr → TS)
/-- what the clauses wish of an error of the body -/
def wMA (K : PySem.W.Frag) (i : Nat) (Wo : WX) (D : Ends) : List Cl → WX
  | [] => Wo
  | u :: r => wAs K u.1 i u.2 (wMA K i Wo D r) D
inductive HAs (X : Cx) (n : Str) : List ExceptHandler → List Cl → Prop
  | nil : HAs X n [] []
  | cons {x : Str} {c : Value} {ts : Addr → Value → Option Addr → TS} {b : Stmt} {bs : List Stmt} {np q : Pos} {hds : List ExceptHandler} {l : List Cl} (hc : Names X x c)
      (su : ∀ (a : Addr) (o : Obj) (k : Value) (d : Option Addr) (pn : List (Addr × Obj)), Zc k d o → (∃ vs, o.data = .fields vs) → PSs (X.suite a ((a, o) :: pn)) (b :: bs) (ts a k d)) (r : HAs X n hds l) :
      HAs X n (.ExceptHandler (some (.Name x np)) (some n) (b :: bs) q :: hds) ((c, ts) :: l)
section
variable {X : Cx} {n : Str} {i : Nat} {bd : List Stmt} {h0 : ExceptHandler} {hds : List ExceptHandler} {l : List Cl} {p : Pos} {tb : WX → TS} {Wo : WX}
theorem ps_try_asM (hs : X.stack = X.env :: X.outer) (hf : X.env.frame = some X.env.locals) (hN : X.N.Nodup) (hi : X.N[i]? = some n) (hn : X.env.kindOf n = some .local) (tk : Takes X Wo)
    (hb : ∀ (W : WX) (pn : List (Addr × Obj)) (xe : Value → Shared → Prop), Takes (X.tr pn xe) W → PassesOwn (model X.prog X.w) X.A X.env xe → PSs (X.tr pn xe) bd (tb W)) (hh : HAs X n (h0 :: hds) l) :
    PS X (.Try bd (h0 :: hds) [] [] p) (fun D σ H => tb (wMA X.K i Wo D l) D σ H) := by
  refine ⟨fun pi s σ H D I h => wpAny_Try_except ?_⟩
  have ok := I.ok
  have frm : X.A.frames = some (X.env :: X.outer) := ok.frames.trans (congrArg some hs)
  have lo : Loc X.env.scope n := .inl hn
  refine wpAny_mono ((hb (wMA X.K i Wo D l) (X.pn ++ pi) (fun er s1 => wpAny (model X.prog X.w) X.A (noteFrame er X.env) (fun _ s2 => wpAny (model X.prog X.w) X.A (setFlight er none) (fun _ s3 => wpAny (model X.prog X.w) X.A (handleBy er X.env (h0 :: hds)) (SP X pi D) X.xe s3) X.xe s2) X.xe s1)
    (fun u t xx => ?_) PassesOwn.looking).run [] s σ H D (I.toTry _) h) (fun fl s1 hsp => ?_) (fun _ _ he => he)
  · obtain ⟨a, B, sJ, qs, σ1, H1, k, d, rfl, J0, nb, up, sk, na, os, ag, w⟩ := xx
    have J := J0.ofTry (X := X) ok
    have sk1 : Sky B (X.env :: X.outer) a (Zc k d) X.env.locals t.heap := hs ▸ sk
    show wpAny _ X.A (noteFrame (.ref a) X.env) _ _ _
    refine Sky.land Zc.steady frm hf sk1 fun h3 f3 u3 => ?_
    have J3 : Inv X pi σ1 H1 { t with heap := h3 } := J.landed nb f3.1 (up.trans u3) os ag
    obtain ⟨o3, v3, e3, z3, d3⟩ := f3.there
    have nfr : a ∉ frs (X.env :: X.outer) := fun hm => by
      obtain ⟨_, o', e', g⟩ := f3.2.2.1.mem hm
      cases e3.symm.trans e'
      exact g _ d3
    have nL : a ≠ X.env.locals := fun z => nfr (List.mem_filterMap.mpr ⟨X.env, .head _, hf.trans (congrArg some z.symm)⟩)
    have nF : a ∉ X.fs := fun hm => let ⟨e, he, g⟩ := List.mem_filterMap.mp hm; nfr (List.mem_filterMap.mpr ⟨e, .tail _ he, g⟩)
    have S3 := J3.suite e3 d3 na nL nF
    have go : ∀ {hs' : List ExceptHandler} {l' : List Cl}, HAs X n hs' l' → wMA X.K i Wo D l' k d σ1 H1 → wpAny (model X.prog X.w) X.A (handleBy (.ref a) X.env hs') (SP X pi D) X.xe { t with heap := h3 } := by
      intro hs' l' hk
      induction hk with
      | nil =>
        refine fun w => wpAny_handleBy_nil ?_
        obtain ⟨_, _, _, o, vs, T, _, _, he, _, hd, g1, _⟩ := id f3
        unfold PySem.passOn
        refine wpAny_bind (wpAny_field he hd g1 ?_)
        have nn : ¬ ((Value.ref T == Value.none) = true) := by simp
        rw [if_neg nn]
        have fin : wpAny (model X.prog X.w) X.A (setFlight (.ref a) X.env.frame) (fun _ s4 => wpAny (model X.prog X.w) X.A (throw (.ref a) : Sem Flow) (SP X pi D) X.xe s4) X.xe { t with heap := h3 } := hf ▸ HandSPX.setFlight_upZ f3 fun h4 g4 u4 => wpAny_throw (tk _ _ ⟨a, B, sJ, pi, σ1, H1, k, d, rfl, J, nb, (up.trans u3).trans u4, .inr (.inr (hs ▸ g4)), na, os, ag, w⟩)
        first | exact wpAny_bind fin | exact wpAny_bind (wpAny_pure (wpAny_bind fin))
      | @cons x c ts b bs np q hds2 l2 hc su r ih =>
        rintro ⟨bb, hb1, yes, no⟩
        refine wpAny_handleBy_cons (codeAny_handlers_test ?_) (fun q => nomatch q)
        have LM := PySem.W.exm_one (M := model X.prog X.w) (e := a) J3.kIn (fun A Q E s g q => wpAny_typeOf_ref (g _ _ e3) (z3.1.symm ▸ q)) hb1
        have tst : ∀ {Q : Value → Shared → Prop} {E : Value → Shared → Prop}, Q c { t with heap := h3 } → wpAny (model X.prog X.w) (X.A.mark (some (.ref a))) (eval (.Name x np) X.env) Q E { t with heap := h3 } := fun {Q E} g => by
          rcases hc with ⟨hg, dbg, hm | ⟨hm, hv, nnm⟩⟩
          · exact ld_glob (X := X.suite a ((a, o3) :: (X.pn ++ pi))) S3 hg hm g dbg
          · exact ld_blt (X := X.suite a ((a, o3) :: (X.pn ++ pi))) S3 hg hm hv g nnm dbg
        refine tst (LM.here ?_)
        cases bb with
        | false => exact ih (no rfl)
        | true =>
          refine codeAny_handlers_suite_as (HandSPX.lands_againZ f3 fun h4 f4 u4 => ?_)
          have J4 : Inv X pi σ1 H1 { t with heap := h4 } := J.landed nb f4.1 ((up.trans u3).trans u4) os ag
          obtain ⟨o4, v4, e4, z4, d4⟩ := f4.there
          refine store_ok (X := X.suite a ((a, o4) :: (X.pn ++ pi))) (v := .ref a) (J4.suite e4 d4 na nL nF) hN hi lo rfl (fun s5 S5 => ?_) (.inr hn)
          refine wpAny_mono ((su a o4 k d (X.pn ++ pi) z4 ⟨_, d4⟩).run [] s5 _ H1 _ S5 (yes rfl a na)) (fun f s6 g6 => ?_) (fun _ _ z => z.elim)
          have fin : ∀ {σ6 : L2.St} {H6 : Hp} {Q : Shared → Prop}, Inv (X.suite a ((a, o4) :: (X.pn ++ pi))) [] σ6 H6 s6 → (∀ s7, Inv X pi (σ6.set i none) H6 s7 → Q s7) →
              wpAny (model X.prog X.w) X.A (do bindName X.env n .none; unbindBehindTheSuite X.env n q) (fun _ s7 => Q s7) X.xe s6 := fun {_ _ _} S6 hq => gone_ok (S6.unsuite ok) hN hi hn hq
          cases f with
          | next => exact let ⟨_, _, S6, g⟩ := g6; fin S6 fun s7 J7 => ⟨_, _, J7, g⟩
          | brk => exact let ⟨_, _, S6, g⟩ := g6; fin S6 fun s7 J7 => ⟨_, _, J7, g⟩
          | cont => exact let ⟨_, _, S6, g⟩ := g6; fin S6 fun s7 J7 => ⟨_, _, J7, g⟩
          | ret u => exact let ⟨_, _, _, S6, rv, g⟩ := g6; fin S6 fun s7 J7 => ⟨_, _, _, J7, rv, g⟩
    exact go hh w
  · cases fl with
    | next => exact let ⟨σ', H', J', g⟩ := hsp; wpAny_execs_nil ⟨σ', H', J'.ofTry ok, g⟩
    | brk => exact let ⟨σ', H', J', g⟩ := hsp; ⟨σ', H', J'.ofTry ok, g⟩
    | cont => exact let ⟨σ', H', J', g⟩ := hsp; ⟨σ', H', J'.ofTry ok, g⟩
    | ret u => exact let ⟨v, σ', H', J', rv, g⟩ := hsp; ⟨v, σ', H', J'.ofTry ok, rv, g⟩
end
end MaX

set_option Elab.async false
set_option linter.all false
set_option maxRecDepth 100000
set_option maxHeartbeats 2000000
/-! lambdas of a law, the loop over them -/
namespace Lt
open PySem PySem.Spec PyProof.Rows L2 NdefX LamX LmX MaX
def lamP : Expr → Arguments
  | .Lambda a _ _ _ => a
  | _ => ⟨[], [], none, [], [], none, []⟩
def lamS : Expr → Scope
  | .Lambda _ _ s _ => s
  | _ => { kind := .function, names := [], isGenerator := false, isCoroutine := false, more := [] }
def lamB : Expr → Expr
  | .Lambda _ b _ _ => b
  | e => e
def noX : Expr := .Constant .none 0 ⟨0, 0, 0, 0⟩
/-- the i-th of a list, the first argument of a call, the right side of a sum -/
def itemX (i : Nat) : Expr → Expr
  | .List es _ => es.getD i noX
  | .Tuple es _ _ => es.getD i noX
  | _ => noX
def argX (i : Nat) : Expr → Expr
  | .Call _ es _ _ => es.getD i noX
  | _ => noX
def rightX : Expr → Expr
  | .BinOp _ _ r _ => r
  | _ => noX
/-- the value of an assignment, of an expression's statement, what a for goes over -/
def valX : Stmt → Expr
  | .Assign _ v _ => v
  | .Expr v _ => v
  | .For _ it _ _ _ => it
  | .If t _ _ _ => t
  | .Return (some v) _ => v
  | _ => noX
abbrev q_lam : Str := "law.<locals>." ++ "<lambda>"
theorem lmO_is {f : Addr} {F : NF} {e : Expr} {dV : Value} : (∀ xs, LmO f F e dV ≠ .lst xs) ∧ (∀ ps, LmO f F e dV ≠ .tbl ps) := ⟨fun xs z => (by unfold LmO at z; cases z), fun xs z => (by unfold LmO at z; cases z)⟩
theorem codeO_is {c : Addr} {q : Str} : (∀ xs, CodeO c q ≠ .lst xs) ∧ (∀ ps, CodeO c q ≠ .tbl ps) := ⟨fun xs z => (by unfold CodeO at z; cases z), fun xs z => (by unfold CodeO at z; cases z)⟩
theorem extN_tm {H H' : Hp} (e : ExtN H H') : Tm H H' := ⟨fun _ _ h => e _ _ h (fun _ z => nomatch z), fun _ _ _ h => e _ _ h (fun _ z => nomatch z)⟩
theorem extN_of {H H' : Hp} (e : Same H H') : ExtN H H' := fun a o h _ => e a o h
theorem RowAt.extN {K : PySem.W.Frag} {H H' : Hp} {r sc : Addr} {ns : List Int} (h : RowAt K H r sc ns) (e : ExtN H H') : RowAt K H' r sc ns := by
  obtain ⟨a, b, c, R⟩ := h
  refine ⟨a, b, c, e _ _ R.at_ (fun _ z => nomatch z), ?_, R.a0, R.b0, R.b1⟩
  rcases R.sc with (z | ⟨ob, z⟩) | z
  · exact .inl (.inl (e _ _ z (fun _ z => nomatch z)))
  · exact .inl (.inr ⟨ob, e _ _ z (fun _ z => nomatch z)⟩)
  · exact .inr z
theorem stepR_tml {l : Addr} {H H' : Hp} {xs : List V} (s : StepR l H H') (h : H l = some (.lst xs)) : Tm H H' :=
  ⟨fun a ys e => s a _ (ne_of e h (fun z => nomatch z)) e, fun a o ys e => s a _ (ne_of e h (fun z => nomatch z)) e⟩
/-- all but what is at a and at b stays -/
def Kp2 (a b : Addr) (H H' : Hp) : Prop := ∀ c o, c ≠ a → c ≠ b → H c = some o → H' c = some o
theorem Kp2.refl (a b : Addr) (H : Hp) : Kp2 a b H H := fun _ _ _ _ h => h
theorem Kp2.trans {a b : Addr} {H H1 H2 : Hp} (x : Kp2 a b H H1) (y : Kp2 a b H1 H2) : Kp2 a b H H2 := fun c o h1 h2 h => y c o h1 h2 (x c o h1 h2 h)
theorem Kp2.of {a b : Addr} {H H' : Hp} (e : Same H H') : Kp2 a b H H' := fun c o _ _ h => e c o h
theorem Kp2.l {a b : Addr} {H H' : Hp} (e : StepR a H H') : Kp2 a b H H' := fun c o h _ => e c o h
theorem Kp2.r {a b : Addr} {H H' : Hp} (e : StepR b H H') : Kp2 a b H H' := fun c o _ h => e c o h
theorem Kp2.tm {a b : Addr} {H H' : Hp} {xs ys : List V} (s : Kp2 a b H H') (h1 : H a = some (.lst xs)) (h2 : H b = some (.lst ys)) : Tm H H' :=
  ⟨fun c zs e => s c _ (ne_of e h1 (fun z => nomatch z)) (ne_of e h2 (fun z => nomatch z)) e, fun c o zs e => s c _ (ne_of e h1 (fun z => nomatch z)) (ne_of e h2 (fun z => nomatch z)) e⟩
/-- what is no list stays -/
theorem Kp2.at_ {a b c : Addr} {H H' : Hp} {xs ys : List V} {o : HO} (s : Kp2 a b H H') (h1 : H a = some (.lst xs)) (h2 : H b = some (.lst ys)) (h : H c = some o) (n : ∀ zs, o ≠ .lst zs) : H' c = some o :=
  s c o (ne_of h h1 (n _)) (ne_of h h2 (n _)) h
/-- a list elsewhere may change -/
theorem RowAt.far {K : PySem.W.Frag} {H H' : Hp} {l r sc : Addr} {ns : List Int} (h : RowAt K H r sc ns) (hr : r ≠ l) (hs : sc ≠ l) (s : StepR l H H') : RowAt K H' r sc ns := by
  obtain ⟨a, b, c, R⟩ := h
  refine ⟨a, b, c, s _ _ hr R.at_, ?_, R.a0, R.b0, R.b1⟩
  rcases R.sc with (z | ⟨ob, z⟩) | z
  · exact .inl (.inl (s _ _ hs z))
  · exact .inl (.inr ⟨ob, s _ _ hs z⟩)
  · exact .inr z
/-- .. or the script stands in what the top has written -/
theorem RowAt.far' {K : PySem.W.Frag} {H0 H H' : Hp} {l r sc : Addr} {ns : List Int} (h0 : RowAt K H0 r sc ns) (hl : H0 l = none) (h : RowAt K H r sc ns) (s : StepR l H H') : RowAt K H' r sc ns := by
  have hr := h0.ne hl
  have s0 := h0.sq
  obtain ⟨a, b, c, R⟩ := h
  refine ⟨a, b, c, s _ _ hr R.at_, ?_, R.a0, R.b0, R.b1⟩
  rcases s0 with (s0 | ⟨ob, s0⟩) | s0
  · have hs : sc ≠ l := ne_of_none s0 hl
    rcases R.sc with (z | ⟨ob, z⟩) | z
    · exact .inl (.inl (s _ _ hs z))
    · exact .inl (.inr ⟨ob, s _ _ hs z⟩)
    · exact .inr z
  · have hs : sc ≠ l := ne_of_none s0 hl
    rcases R.sc with (z | ⟨ob, z⟩) | z
    · exact .inl (.inl (s _ _ hs z))
    · exact .inl (.inr ⟨ob, s _ _ hs z⟩)
    · exact .inr z
  · exact .inr s0
theorem dflt_of {X : Cx} {pins : List (Addr × Obj)} {σ : L2.St} {H : Hp} {s : Shared} {p : Addr} {v : V} (I : Inv X pins σ H s) (h : H p = some (.tup [v])) : ∃ u o n, RelV v u ∧ s.heap.get? p = some o ∧ o.data = .seq #[u] n := by
  obtain ⟨_, its, r, o, ho, _, n, hd⟩ := I.hok p _ h
  cases r with
  | cons r t =>
    cases t
    exact ⟨_, o, n, r, ho, hd⟩
theorem exm_not {K : PySem.W.Frag} {S T : Addr} (h1 : PySem.W.subIn K (.ref S) (.type "BaseException") = some true) (h2 : PySem.W.isClsIn K S = true) (h3 : PySem.W.typeIn K (.ref S) = some (.type "type")) (h4 : PySem.W.subIn K (.ref T) (.ref S) = some false) : PySem.W.exmOne K (.ref T) (.ref S) = some false := by
  have i2 : (PySem.W.clsIn K S).isSome = true := h2
  have a : (if ((PySem.W.clsIn K S).isSome && PySem.W.typeIn K (.ref S) == some (.type "type")) = true then PySem.W.subIn K (.ref T) (.ref S) else none) = some false := by
    rw [if_pos (by rw [i2, h3]; rfl)]
    exact h4
  have b : (PySem.W.subIn K (.ref S) (.type "BaseException") == some true) = true := by
    rw [h1]
    rfl
  exact (if_pos b).trans a
theorem Tabs.rowX {K : PySem.W.Frag} {H H' : Hp} {r sc : Addr} {ns : List Int} {T : List (Addr × Str)} (ra : RowAt K H r sc ns) (s : StepR r H H') (h : Tabs T H) : Tabs T H' := fun p hp => by
  obtain ⟨x, y, z, R⟩ := ra
  obtain ⟨ps, h1, h2, h3⟩ := h p hp
  refine ⟨ps, s _ _ (ne_of h1 R.at_ (fun z => nomatch z)) h1, h2, fun pos cv hc => ?_⟩
  obtain ⟨c, e1, e2⟩ := h3 pos cv hc
  exact ⟨c, e1, s _ _ (ne_of e2 R.at_ (codeO_is.1 _)) e2⟩
end Lt

set_option Elab.async false
set_option linter.all false
set_option maxRecDepth 100000
set_option maxHeartbeats 2000000
namespace Lt
open PySem PySem.Spec PyProof.Rows L2 NdefX LamX LmX
/-- a name of a text -/
def Cs (mg : Str → Option Value) (x z : Str) : Prop := ∃ t, mg x = some (.str z t)
/-- a name of a tuple of texts -/
def Ct (K : PySem.W.Frag) (mg : Str → Option Value) (x : Str) (zs : List Str) : Prop := ∃ J : Addr, mg x = some (.ref J) ∧ ∀ H, SqT K H J (zs.map V.str)
def clsB : Stmt → List Stmt
  | .ClassDef _ _ _ b _ _ _ _ _ _ _ => b
  | _ => []
def initS (st : Stmt) : Stmt := (clsB st).getD 0 (.Pass ⟨0, 0, 0, 0⟩)
section
variable {P : Program} {w : World} {K : PySem.W.Frag} {mg : Str → Option Value} {base : Heap}
/-- a class's own line: an error is what «except» of its class names -/
theorem exm_own {S : Addr} (h1 : PySem.W.subIn K (.ref S) (.type "BaseException") = some true) (h2 : PySem.W.isClsIn K S = true) (h3 : PySem.W.typeIn K (.ref S) = some (.type "type")) (h4 : PySem.W.subIn K (.ref S) (.ref S) = some true) : PySem.W.exmOne K (.ref S) (.ref S) = some true := by
  have i2 : (PySem.W.clsIn K S).isSome = true := h2
  have a : (if ((PySem.W.clsIn K S).isSome && PySem.W.typeIn K (.ref S) == some (.type "type")) = true then PySem.W.subIn K (.ref S) (.ref S) else none) = some true := by
    rw [if_pos (by rw [i2, h3]; rfl)]
    exact h4
  have b : (PySem.W.subIn K (.ref S) (.type "BaseException") == some true) = true := by
    rw [h1]
    rfl
  exact (if_pos b).trans a
structure ErrFs (K : PySem.W.Frag) (mg : Str → Option Value) (x fld : Str) (C : Addr) (st : Stmt) : Prop where
  g : mg x = some (.ref C)
  cls : ∃ nm q N bs bm sn sub ab col dd k0 k1 k2 k3 k5, K.lookup C = some (excClassObj nm q C N bs bm true sn sub ab col dd k0 k1 k2 k3 k5 "ValueError.__new__") ∧ PySem.HandSPX.refsVE bm = true
  sa : PySem.W.findIn K (.ref C) "__setattr__" = some (some (.builtin "object.__setattr__"))
  ga : PySem.W.findIn K (.ref C) "__getattribute__" = some (some (.builtin "BaseException.__getattribute__"))
  gg : PySem.W.findIn K (.ref C) "__getattr__" = some none
  no : PySem.W.findIn K (.ref C) fld = some none
  kC : PySem.W.keepIn K (.ref C) = true
  eC : PySem.W.subIn K (.ref C) (.type "BaseException") = some true
  tC : PySem.W.typeIn K (.ref C) = some (.type "type")
  hC : PySem.W.hasDictIn K C = true
  iC : PySem.W.isClsIn K C = true
  sC : PySem.W.subIn K (.ref C) (.ref C) = some true
  init : ∃ fI fd, PySem.W.findIn K (.ref C) "__init__" = some (some (.ref fI)) ∧ PySem.W.typeIn K (.ref fI) = some (.type "function") ∧ Binds K fd ["self", fld] [] ∧ Fun K "__init__" (x ++ ".__init__") (initS st) fI fd
theorem ErrFs.errI {x fld : Str} {C : Addr} {st : Stmt} (F : ErrFs K mg x fld C st) (ok : ∀ {fI fd}, Fun K "__init__" (x ++ ".__init__") (initS st) fI fd → FnOk P w K mg base CX0 1 fI fd ["self", fld] (spInit K fld)) : ErrI P w K mg base x fld C := by
  obtain ⟨fI, fd, h1, h2, h3, h4⟩ := F.init
  exact ⟨⟨F.cls, F.sa, F.eC, F.tC, F.kC⟩, F.g, F.no, ⟨fI, fd, h1, h2, h3, ok h4⟩, ⟨F.ga, F.gg, F.eC, F.hC⟩, exm_own F.eC F.iC F.tC F.sC⟩
end
theorem top_mk {K : PySem.W.Frag} {h : Heap} {mg : Str → Option Value} {x : Str} {st : Stmt} {ps : List Str} {f : Addr} {oc kV doc pm cdv ct : Value} {od an : Option Addr} {osl : Array (Option Value)} (X : K.In h) (G : h.Ns mainGlobals mg)
    (a : PySem.W.nsIn K mainGlobals x = some (some (.ref f))) (l : K.lookup f = some ⟨oc, od, .func (PySem.W.fnOf x x (defArgs st) (defBody st) (defScope st) .none kV doc pm an cdv ct), osl⟩) (c : PySem.W.codeIn K cdv x = true) (k : PySem.W.keepIn K (.ref f) = true)
    (hb : ∀ (kV doc pm : Value) (an : Option Addr) (cdv ct : Value) (us : List Value), us.length = ps.length → bindArgs (PySem.W.fnOf x x (defArgs st) (defBody st) (defScope st) .none kV doc pm an cdv ct) ⟨us, []⟩ = pure (ps.zip us)) : Top K mg x st ps :=
  ⟨f, _, PySem.W.mg_of X G a, fun_mk l c k, (fun_mk l c k).binds hb⟩
abbrev TopX {K : PySem.W.Frag} {h : Heap} (_ : K.In h) (mg : Str → Option Value) (x : Str) (st : Stmt) (ps : List Str) : Prop := Top K mg x st ps
abbrev CtX {K : PySem.W.Frag} {h : Heap} (_ : K.In h) (mg : Str → Option Value) (x : Str) (zs : List Str) : Prop := Ct K mg x zs
abbrev ErrX {K : PySem.W.Frag} {h : Heap} (_ : K.In h) (mg : Str → Option Value) (x fld : Str) (C : Addr) (st : Stmt) : Prop := ErrFs K mg x fld C st
abbrev NoX {K : PySem.W.Frag} {h : Heap} (_ : K.In h) (mg : Str → Option Value) (x : Str) (C : Addr) : Prop := Err0 K mg x C
theorem cn_mk {K : PySem.W.Frag} {h : Heap} {mg : Str → Option Value} {x : Str} {i : Int} {v : Value} (X : K.In h) (G : h.Ns mainGlobals mg) (a : PySem.W.nsIn K mainGlobals x = some (some v)) (b : ∃ t, v = .int i t) : Cn mg x i := by
  obtain ⟨t, rfl⟩ := b
  exact ⟨t, PySem.W.mg_of X G a⟩
theorem cs_mk {K : PySem.W.Frag} {h : Heap} {mg : Str → Option Value} {x z : Str} {v : Value} (X : K.In h) (G : h.Ns mainGlobals mg) (a : PySem.W.nsIn K mainGlobals x = some (some v)) (b : ∃ t, v = .str z t) : Cs mg x z := by
  obtain ⟨t, rfl⟩ := b
  exact ⟨t, PySem.W.mg_of X G a⟩
theorem ct_mk {K : PySem.W.Frag} {h : Heap} {mg : Str → Option Value} {x : Str} {zs : List Str} {J : Addr} {o : Obj} (X : K.In h) (G : h.Ns mainGlobals mg) (a : PySem.W.nsIn K mainGlobals x = some (some (.ref J))) (l : K.lookup J = some o)
    (b : ∃ (its : Array Value) (n : Nat), o.cls = .type "tuple" ∧ o.data = .seq its n ∧ its.size ≤ sizeLine ∧ Vals (zs.map V.str) its.toList) : Ct K mg x zs := by
  obtain ⟨its, n, h1, h2, h3, h4⟩ := b
  exact ⟨J, PySem.W.mg_of X G a, fun H => .inr ⟨o, its, n, l, h1, h2, h3, h4⟩⟩
theorem init_mk {K : PySem.W.Frag} {x fld : Str} {C fI : Addr} {st : Stmt} {oc kV doc pm cdv ct : Value} {od an : Option Addr} {osl : Array (Option Value)} (a : PySem.W.findIn K (.ref C) "__init__" = some (some (.ref fI))) (t : PySem.W.typeIn K (.ref fI) = some (.type "function"))
    (l : K.lookup fI = some ⟨oc, od, .func (PySem.W.fnOf "__init__" (x ++ ".__init__") (defArgs (initS st)) (defBody (initS st)) (defScope (initS st)) .none kV doc pm an cdv ct), osl⟩) (c : PySem.W.codeIn K cdv (x ++ ".__init__") = true) (k : PySem.W.keepIn K (.ref fI) = true)
    (hb : ∀ (kV doc pm : Value) (an : Option Addr) (cdv ct : Value) (us : List Value), us.length = (["self", fld] : List Str).length → bindArgs (PySem.W.fnOf "__init__" (x ++ ".__init__") (defArgs (initS st)) (defBody (initS st)) (defScope (initS st)) .none kV doc pm an cdv ct) ⟨us, []⟩ = pure ((["self", fld] : List Str).zip us)) :
    ∃ fI fd, PySem.W.findIn K (.ref C) "__init__" = some (some (.ref fI)) ∧ PySem.W.typeIn K (.ref fI) = some (.type "function") ∧ Binds K fd ["self", fld] [] ∧ Fun K "__init__" (x ++ ".__init__") (initS st) fI fd :=
  ⟨fI, _, a, t, (fun_mk l c k).binds hb, fun_mk l c k⟩
theorem err_mk {K : PySem.W.Frag} {h : Heap} {mg : Str → Option Value} {x fld : Str} {C N : Addr} {st : Stmt} {nm q : Str} {bs bm sub : List Value} {sn : List Str} {ab : Bool} {col : Option Bool} {dd : Option Addr} {k0 k1 k2 k3 k5 : Option Value} (X : K.In h) (G : h.Ns mainGlobals mg)
    (a : PySem.W.nsIn K mainGlobals x = some (some (.ref C))) (xL : K.lookup C = some (excClassObj nm q C N bs bm true sn sub ab col dd k0 k1 k2 k3 k5 "ValueError.__new__")) (rv : PySem.HandSPX.refsVE bm = true)
    (sa : PySem.W.findIn K (.ref C) "__setattr__" = some (some (.builtin "object.__setattr__"))) (ga : PySem.W.findIn K (.ref C) "__getattribute__" = some (some (.builtin "BaseException.__getattribute__"))) (gg : PySem.W.findIn K (.ref C) "__getattr__" = some none) (no : PySem.W.findIn K (.ref C) fld = some none)
    (kC : PySem.W.keepIn K (.ref C) = true) (eC : PySem.W.subIn K (.ref C) (.type "BaseException") = some true) (tC : PySem.W.typeIn K (.ref C) = some (.type "type")) (hC : PySem.W.hasDictIn K C = true) (iC : PySem.W.isClsIn K C = true) (sC : PySem.W.subIn K (.ref C) (.ref C) = some true)
    {fI : Addr} {oc kV doc pm cdv ct : Value} {od an : Option Addr} {osl : Array (Option Value)} (i1 : PySem.W.findIn K (.ref C) "__init__" = some (some (.ref fI))) (i2 : PySem.W.typeIn K (.ref fI) = some (.type "function"))
    (i3 : K.lookup fI = some ⟨oc, od, .func (PySem.W.fnOf "__init__" (x ++ ".__init__") (defArgs (initS st)) (defBody (initS st)) (defScope (initS st)) .none kV doc pm an cdv ct), osl⟩) (i4 : PySem.W.codeIn K cdv (x ++ ".__init__") = true) (i5 : PySem.W.keepIn K (.ref fI) = true)
    (hb : ∀ (kV doc pm : Value) (an : Option Addr) (cdv ct : Value) (us : List Value), us.length = (["self", fld] : List Str).length → bindArgs (PySem.W.fnOf "__init__" (x ++ ".__init__") (defArgs (initS st)) (defBody (initS st)) (defScope (initS st)) .none kV doc pm an cdv ct) ⟨us, []⟩ = pure ((["self", fld] : List Str).zip us)) : ∃ C, ErrFs K mg x fld C st :=
  ⟨C, PySem.W.mg_of X G a, ⟨_, _, _, _, _, _, _, _, _, _, _, _, _, _, _, xL, rv⟩, sa, ga, gg, no, kC, eC, tC, hC, iC, sC, init_mk i1 i2 i3 i4 i5 hb⟩
theorem no_mk {K : PySem.W.Frag} {h : Heap} {mg : Str → Option Value} {x : Str} {C : Addr} (X : K.In h) (G : h.Ns mainGlobals mg) (a : PySem.W.nsIn K mainGlobals x = some (some (.ref C)))
    (qx : PySem.W.excIn K C [.type "ValueError", .type "Exception", .type "BaseException", .type "object"] "ValueError.__new__" = true) (kC : PySem.W.keepIn K (.ref C) = true) (eC : PySem.W.subIn K (.ref C) (.type "BaseException") = some true) (tC : PySem.W.typeIn K (.ref C) = some (.type "type")) (iC : PySem.W.isClsIn K C = true)
    (sC : PySem.W.subIn K (.ref C) (.ref C) = some true) : ∃ C, Err0 K mg x C := ⟨C, qx, PySem.W.mg_of X G a, kC, eC, tC, exm_own eC iC tC sC⟩
abbrev ErrE {K : PySem.W.Frag} {h : Heap} (_ : K.In h) (mg : Str → Option Value) (x fld : Str) (st : Stmt) : Prop := ∃ C, ErrFs K mg x fld C st
abbrev NoE {K : PySem.W.Frag} {h : Heap} (_ : K.In h) (mg : Str → Option Value) (x : Str) : Prop := ∃ C, Err0 K mg x C

/-! ### methods, properties, __init__ -/
theorem meth_mk {K : PySem.W.Frag} {C f : Addr} {m q : Str} {st : Stmt} {ps : List Str} {oc kV doc pm cdv ct : Value} {od an : Option Addr} {osl : Array (Option Value)} (a : PySem.W.findIn K (.ref C) m = some (some (.ref f))) (i : PySem.W.isFn K (.ref f) = true)
    (l : K.lookup f = some ⟨oc, od, .func (PySem.W.fnOf m q (defArgs st) (defBody st) (defScope st) .none kV doc pm an cdv ct), osl⟩) (c : PySem.W.codeIn K cdv q = true) (k : PySem.W.keepIn K (.ref f) = true)
    (hb : ∀ (kV doc pm : Value) (an : Option Addr) (cdv ct : Value) (us : List Value), us.length = ps.length → bindArgs (PySem.W.fnOf m q (defArgs st) (defBody st) (defScope st) .none kV doc pm an cdv ct) ⟨us, []⟩ = pure (ps.zip us)) : MethF K C m q st ps :=
  ⟨⟨f, _, ⟨a, i, k⟩, (fun_mk l c k).binds hb, fun_mk l c k⟩⟩
theorem prop_mk {K : PySem.W.Frag} {C p f : Addr} {m q : Str} {st : Stmt} {rest : List Value} {oc kV doc pm cdv ct : Value} {od an : Option Addr} {osl : Array (Option Value)} (a : PySem.W.findIn K (.ref C) m = some (some (.ref p)))
    (g : PySem.W.specialIn K (.ref p) "__get__" = some (some (.builtin "property.__get__"))) (t : PySem.W.takesIn K (.ref p) = some true) (rc : PySem.W.recIn K p "property" = some (.ref f :: rest))
    (l : K.lookup f = some ⟨oc, od, .func (PySem.W.fnOf m q (defArgs st) (defBody st) (defScope st) .none kV doc pm an cdv ct), osl⟩) (c : PySem.W.codeIn K cdv q = true) (k : PySem.W.keepIn K (.ref f) = true)
    (hb : ∀ (kV doc pm : Value) (an : Option Addr) (cdv ct : Value) (us : List Value), us.length = (["self"] : List Str).length → bindArgs (PySem.W.fnOf m q (defArgs st) (defBody st) (defScope st) .none kV doc pm an cdv ct) ⟨us, []⟩ = pure ((["self"] : List Str).zip us)) : PropF K C m q st :=
  ⟨⟨p, f, _, ⟨a, g, t, rest, rc⟩, (fun_mk l c k).binds hb, fun_mk l c k⟩⟩
theorem cinit_mk {K : PySem.W.Frag} {mg : Str → Option Value} {C f : Addr} {x : Str} {st : Stmt} {ps : List Str} {oc kV doc pm cdv ct : Value} {od an : Option Addr} {osl : Array (Option Value)} (g : mg x = some (.ref C)) (mk : PySem.W.makesIn K C = true) (kc : PySem.W.keepIn K (.ref C) = true) (a : PySem.W.findIn K (.ref C) "__init__" = some (some (.ref f))) (i : PySem.W.isFn K (.ref f) = true)
    (l : K.lookup f = some ⟨oc, od, .func (PySem.W.fnOf "__init__" (x ++ ".__init__") (defArgs st) (defBody st) (defScope st) .none kV doc pm an cdv ct), osl⟩) (c : PySem.W.codeIn K cdv (x ++ ".__init__") = true) (k : PySem.W.keepIn K (.ref f) = true)
    (hb : ∀ (kV doc pm : Value) (an : Option Addr) (cdv ct : Value) (us : List Value), us.length = ps.length → bindArgs (PySem.W.fnOf "__init__" (x ++ ".__init__") (defArgs st) (defBody st) (defScope st) .none kV doc pm an cdv ct) ⟨us, []⟩ = pure (ps.zip us)) : InitF K mg C x st ps :=
  ⟨⟨f, _, g, ⟨mk, a, i, kc⟩, (fun_mk l c k).binds hb, fun_mk l c k⟩⟩
/-- the class at C stands under x -/
structure ClsA (K : PySem.W.Frag) (mg : Str → Option Value) (x : Str) (C : Addr) : Prop where
  g : mg x = some (.ref C)
  cl : Cls K C
  mks : PySem.W.makesIn K C = true
  kc : PySem.W.keepIn K (.ref C) = true
theorem cls_mk {K : PySem.W.Frag} {h : Heap} {mg : Str → Option Value} {x : Str} {C : Addr} (X : K.In h) (G : h.Ns mainGlobals mg) (a : PySem.W.nsIn K mainGlobals x = some (some (.ref C)))
    (pg : PySem.W.plainGet K C Str.empty = true) (hd : PySem.W.hasDictIn K C = true) (po : PySem.W.plainOver K C = true) (sa : PySem.W.findIn K (.ref C) "__setattr__" = some (some (.builtin "object.__setattr__"))) (mk : PySem.W.makesIn K C = true) (kc : PySem.W.keepIn K (.ref C) = true) : ∃ C, ClsA K mg x C :=
  ⟨C, ⟨PySem.W.mg_of X G a, ⟨pg, hd, po, sa⟩, mk, kc⟩⟩
theorem one_ref {K : PySem.W.Frag} {h : Heap} {mg : Str → Option Value} {x : Str} {C D : Addr} (X : K.In h) (G : h.Ns mainGlobals mg) (g : mg x = some (.ref C)) (a : PySem.W.nsIn K mainGlobals x = some (some (.ref D))) : D = C := by
  have e := (PySem.W.mg_of X G a).symm.trans g
  cases e
  rfl
theorem noattr_mk {K : PySem.W.Frag} {h : Heap} {mg : Str → Option Value} {x f : Str} {C D : Addr} (X : K.In h) (G : h.Ns mainGlobals mg) (g : mg x = some (.ref C)) (a : PySem.W.nsIn K mainGlobals x = some (some (.ref D))) (n : PySem.W.findIn K (.ref D) f = some none) : NoAttr K C f := one_ref X G g a ▸ n
theorem meth_at {K : PySem.W.Frag} {h : Heap} {mg : Str → Option Value} {x : Str} {C D f : Addr} {m q : Str} {st : Stmt} {ps : List Str} {oc kV doc pm cdv ct : Value} {od an : Option Addr} {osl : Array (Option Value)} (X : K.In h) (G : h.Ns mainGlobals mg) (g : mg x = some (.ref C)) (a0 : PySem.W.nsIn K mainGlobals x = some (some (.ref D)))
    (a : PySem.W.findIn K (.ref D) m = some (some (.ref f))) (i : PySem.W.isFn K (.ref f) = true) (l : K.lookup f = some ⟨oc, od, .func (PySem.W.fnOf m q (defArgs st) (defBody st) (defScope st) .none kV doc pm an cdv ct), osl⟩) (c : PySem.W.codeIn K cdv q = true) (k : PySem.W.keepIn K (.ref f) = true)
    (hb : ∀ (kV doc pm : Value) (an : Option Addr) (cdv ct : Value) (us : List Value), us.length = ps.length → bindArgs (PySem.W.fnOf m q (defArgs st) (defBody st) (defScope st) .none kV doc pm an cdv ct) ⟨us, []⟩ = pure (ps.zip us)) : MethF K C m q st ps := one_ref X G g a0 ▸ meth_mk a i l c k hb
theorem prop_at {K : PySem.W.Frag} {h : Heap} {mg : Str → Option Value} {x : Str} {C D p f : Addr} {m q : Str} {st : Stmt} {rest : List Value} {oc kV doc pm cdv ct : Value} {od an : Option Addr} {osl : Array (Option Value)} (X : K.In h) (G : h.Ns mainGlobals mg) (g : mg x = some (.ref C)) (a0 : PySem.W.nsIn K mainGlobals x = some (some (.ref D)))
    (a : PySem.W.findIn K (.ref D) m = some (some (.ref p))) (gt : PySem.W.specialIn K (.ref p) "__get__" = some (some (.builtin "property.__get__"))) (t : PySem.W.takesIn K (.ref p) = some true) (rc : PySem.W.recIn K p "property" = some (.ref f :: rest))
    (l : K.lookup f = some ⟨oc, od, .func (PySem.W.fnOf m q (defArgs st) (defBody st) (defScope st) .none kV doc pm an cdv ct), osl⟩) (c : PySem.W.codeIn K cdv q = true) (k : PySem.W.keepIn K (.ref f) = true)
    (hb : ∀ (kV doc pm : Value) (an : Option Addr) (cdv ct : Value) (us : List Value), us.length = (["self"] : List Str).length → bindArgs (PySem.W.fnOf m q (defArgs st) (defBody st) (defScope st) .none kV doc pm an cdv ct) ⟨us, []⟩ = pure ((["self"] : List Str).zip us)) : PropF K C m q st := one_ref X G g a0 ▸ prop_mk a gt t rc l c k hb
theorem cinit_at {K : PySem.W.Frag} {h : Heap} {mg : Str → Option Value} {C D f : Addr} {x : Str} {st : Stmt} {ps : List Str} {oc kV doc pm cdv ct : Value} {od an : Option Addr} {osl : Array (Option Value)} (X : K.In h) (G : h.Ns mainGlobals mg) (A : ClsA K mg x C) (a0 : PySem.W.nsIn K mainGlobals x = some (some (.ref D))) (a : PySem.W.findIn K (.ref D) "__init__" = some (some (.ref f))) (i : PySem.W.isFn K (.ref f) = true)
    (l : K.lookup f = some ⟨oc, od, .func (PySem.W.fnOf "__init__" (x ++ ".__init__") (defArgs st) (defBody st) (defScope st) .none kV doc pm an cdv ct), osl⟩) (c : PySem.W.codeIn K cdv (x ++ ".__init__") = true) (k : PySem.W.keepIn K (.ref f) = true)
    (hb : ∀ (kV doc pm : Value) (an : Option Addr) (cdv ct : Value) (us : List Value), us.length = ps.length → bindArgs (PySem.W.fnOf "__init__" (x ++ ".__init__") (defArgs st) (defBody st) (defScope st) .none kV doc pm an cdv ct) ⟨us, []⟩ = pure (ps.zip us)) : InitF K mg C x st ps := cinit_mk A.g A.mks A.kc (one_ref X G A.g a0 ▸ a) i l c k hb
abbrev NoAttrX {K : PySem.W.Frag} {h : Heap} (_ : K.In h) (C : Addr) (f : Str) : Prop := NoAttr K C f
abbrev ExmNoX {K : PySem.W.Frag} {h : Heap} (_ : K.In h) (C D : Addr) : Prop := PySem.W.exmOne K (.ref C) (.ref D) = some false
abbrev ClsE {K : PySem.W.Frag} {h : Heap} (_ : K.In h) (mg : Str → Option Value) (x : Str) : Prop := ∃ C, ClsA K mg x C
abbrev InitFX {K : PySem.W.Frag} {h : Heap} (_ : K.In h) (mg : Str → Option Value) (C : Addr) (x : Str) (st : Stmt) (ps : List Str) : Prop := InitF K mg C x st ps
abbrev PropFX {K : PySem.W.Frag} {h : Heap} (_ : K.In h) (C : Addr) (m q : Str) (st : Stmt) : Prop := PropF K C m q st
abbrev MethFX {K : PySem.W.Frag} {h : Heap} (_ : K.In h) (C : Addr) (m q : Str) (st : Stmt) (ps : List Str) : Prop := MethF K C m q st ps
/-- one error is no other -/
theorem exm_no {K : PySem.W.Frag} {h : Heap} {mg : Str → Option Value} {x y : Str} {C1 C2 S T : Addr} (X : K.In h) (G : h.Ns mainGlobals mg) (e1 : mg x = some (.ref C1)) (e2 : mg y = some (.ref C2)) (a1 : PySem.W.nsIn K mainGlobals x = some (some (.ref T))) (a2 : PySem.W.nsIn K mainGlobals y = some (some (.ref S)))
    (h1 : PySem.W.subIn K (.ref S) (.type "BaseException") = some true) (h2 : PySem.W.isClsIn K S = true) (h3 : PySem.W.typeIn K (.ref S) = some (.type "type")) (h4 : PySem.W.subIn K (.ref T) (.ref S) = some false) : PySem.W.exmOne K (.ref C1) (.ref C2) = some false := by
  rw [← one_ref X G e1 a1, ← one_ref X G e2 a2]
  exact exm_not h1 h2 h3 h4
/-! ### a law with lambdas -/
def spLam (K : PySem.W.Frag) (Pt : Addr) : Sp := fun vs H Q _ => ∃ (l : Addr) (ns : List Int), vs = [.ref l] ∧ SqL K H l (ns.map V.int) ∧ Tabs [(Pt, q_lam)] H ∧ ∀ H', Q (.bl true) H'
theorem lam_fn {P : Program} {w : World} {K : PySem.W.Frag} {mg : Str → Option Value} {base : Heap} {c Pt : Addr} {lvl : Nat} {N : List Str} {st : Stmt} (S : FnScope N ["script"] (defScope st)) {fa : Addr} {oc dV kV doc pm ct : Value} {an od : Option Addr} {osl : Array (Option Value)}
    (lk : K.lookup fa = some ⟨oc, od, .func (PySem.W.fnOf "law" "law" (defArgs st) (defBody st) (defScope st) dV kV doc pm an (.ref c) ct), osl⟩) (hcd : PySem.W.codeIn K (.ref c) "law" = true)
    (hall : ∀ (A : Around) (outer : List Env) (s0 : Shared) (H0 : Hp) (E0' : XK), Room lvl (cxOf CX0 P w K mg base N "law" (defScope st) fa (.ref c) A outer s0 H0 E0').A → ∃ t, PSs (cxOf CX0 P w K mg base N "law" (defScope st) fa (.ref c) A outer s0 H0 E0') (defBody st) t ∧ ∀ (D : Ends) (H : Hp) (vs : List V) (Q : VK), D.rt = Q → spLam K Pt vs H Q C8.E0 → t D (start N vs) H) :
    FnOk P w K mg base CX0 (lvl + 1) fa (PySem.W.fnOf "law" "law" (defArgs st) (defBody st) (defScope st) dV kV doc pm an (.ref c) ct) ["script"] (spLam K Pt) := by
  refine fn_of lk hcd S (fun vs H Q E h => ?_) fun A outer s H vs Q E hr h => ?_
  · obtain ⟨l, ns, rfl, _⟩ := h
    rfl
  · obtain ⟨t, ht, qt⟩ := hall A outer s H E hr
    exact ⟨t, ht, qt _ H vs Q rfl h⟩
theorem lam_at {l : PySem.W.OpenLaw} {w : World} {K : PySem.W.Frag} {h : Heap} {mg : Str → Option Value} {lvl : Nat} {fa f c Pt : Addr} {oc kV doc pm ct e : Value} {an od dd : Option Addr} {osl sl : Array (Option Value)} {vs : Array Value} {N : List Str} {st : Stmt} (S : FnScope N ["script"] (defScope st)) (X : K.In h) (hfa : mg "law" = some (.ref fa)) (own : OwnTab K fa h)
    (G : h.Ns mainGlobals mg) (a : PySem.W.nsIn K mainGlobals "law" = some (some (.ref f)))
    (lk : K.lookup f = some ⟨oc, od, .func (PySem.W.fnOf "law" "law" (defArgs st) (defBody st) (defScope st) .none kV doc pm an (.ref c) ct), osl⟩) (hcd : PySem.W.codeIn K (.ref c) "law" = true)
    (lc : K.lookup c = some ⟨e, dd, .fields vs, sl⟩) (lp : vs[11]? = some (.ref Pt)) (hh : ∀ K' : PySem.W.Frag, K'.lookup c = some ⟨e, dd, .fields vs, sl⟩ → PySem.W.codeHdIn K' c Pt = true) (np : K.lookup Pt = none) (hb : ∀ s u, BindsTo s (PySem.W.fnOf "law" "law" (defArgs st) (defBody st) (defScope st) .none kV doc pm an (.ref c) ct) ⟨[u], []⟩ [("script", u)])
    (hall : ∀ (base : Heap), TabB base mg c Pt → ∀ (A : Around) (outer : List Env) (s0 : Shared) (H0 : Hp) (E0' : XK), Room lvl (cxOf CX0 l.prog w K mg base N "law" (defScope st) f (.ref c) A outer s0 H0 E0').A → ∃ t, PSs (cxOf CX0 l.prog w K mg base N "law" (defScope st) f (.ref c) A outer s0 H0 E0') (defBody st) t ∧ ∀ (D : Ends) (H : Hp) (vs : List V) (Q : VK), D.rt = Q → spLam K Pt vs H Q C8.E0 → t D (start N vs) H) :
    LawAtS l w K CX0 (lvl + 1) 63 "script" mg fa h := by
  have ef := hfa.symm.trans (PySem.W.mg_of X G a)
  cases ef
  refine ⟨_, [(c, Pt)], spLam K Pt, fun p hp => ?_, fun p hp => ?_, fun p hp => ?_, hb, fun H a ns _ _ hH hS => ⟨a, ns, rfl, hS, fun p hp => ?_, fun _ => rfl⟩, fun base _ _ hB => lam_fn S lk hcd (hall base (hB _ List.mem_cons_self))⟩
  · rw [List.mem_singleton.mp hp]
    exact own c Pt _ _ e dd vs sl lk rfl rfl lc lp
  · rw [List.mem_singleton.mp hp]
    exact np
  · rw [List.mem_singleton.mp hp]
    exact PySem.W.codeHd_of_K X (hh K lc)
  · rw [List.mem_singleton.mp hp]
    exact TabS.nil (hH _ List.mem_cons_self)
end Lt

set_option Elab.async false
set_option linter.all false
set_option maxRecDepth 100000
set_option maxHeartbeats 1000000
/-! formulas: words, what may stand, and the parser -/
namespace Lt
open PySem PySem.Spec PyProof.Rows L2
abbrev Tok := Nat × Str
def wNot : Str := "not"
def wOp : Str := "("
def wCl : Str := ")"
def wVoid : Str := ""
def joins : List Str := ["and", "or", "xor"]
inductive Nd
  | E
  | W
  | C
deriving DecidableEq
/-- what is wanted behind a word, none where it cannot stand -/
def stp (ns : List Str) : List Nd → Str → Option (List Nd)
  | [], _ => none
  | .E :: r, w => if w = wNot then some (.E :: r) else if w = wOp then some (.E :: .W :: .E :: .C :: r) else if w ∈ ns then some r else none
  | .W :: r, w => if w ∈ joins then some r else none
  | .C :: r, w => if w = wCl then some r else none
theorem stp_E {ns : List Str} {r : List Nd} {w : Str} : stp ns (.E :: r) w = if w = wNot then some (.E :: r) else if w = wOp then some (.E :: .W :: .E :: .C :: r) else if w ∈ ns then some r else none := rfl
theorem stp_W {ns : List Str} {r : List Nd} {w : Str} : stp ns (.W :: r) w = if w ∈ joins then some r else none := rfl
theorem stp_C {ns : List Str} {r : List Nd} {w : Str} : stp ns (.C :: r) w = if w = wCl then some r else none := rfl
/-- how many words stand, and what is wanted then -/
def mach (ns : List Str) : List Nd → List Str → Nat × List Nd
  | u, [] => (0, u)
  | u, w :: ws => match stp ns u w with
    | none => (0, u)
    | some u' => ((mach ns u' ws).1 + 1, (mach ns u' ws).2)
theorem mach_none {ns : List Str} {u : List Nd} {w : Str} {ws : List Str} (h : stp ns u w = none) : mach ns u (w :: ws) = (0, u) := by
  unfold mach
  rw [h]
theorem mach_some {ns : List Str} {u u' : List Nd} {w : Str} {ws : List Str} (h : stp ns u w = some u') : mach ns u (w :: ws) = ((mach ns u' ws).1 + 1, (mach ns u' ws).2) := by
  rw [mach, h]
/-- the parser: the words behind a formula, or the place of the word that cannot stand -/
def prs (ns : List Str) : Nat → Nat → List Tok → Except Nat (List Tok)
  | 0, _, _ => .error 0
  | _ + 1, _, [] => .error 0
  | f + 1, ar, (p, w) :: r =>
    if 20 < ar then .error p else if w ∈ ns then .ok r else if w = wNot then prs ns f (ar + 1) r else if w ≠ wOp then .error p else
      match prs ns f (ar + 1) r with
      | .error e => .error e
      | .ok [] => .error 0
      | .ok ((p2, w2) :: r2) => if w2 ∉ joins then .error p2 else
        match prs ns f (ar + 1) r2 with
        | .error e => .error e
        | .ok [] => .error 0
        | .ok ((p4, w4) :: r4) => if w4 ≠ wCl then .error p4 else .ok r4
def isOpen (w : Str) : Bool := decide (w = wNot) || decide (w = wOp)
def opens (ts : List Tok) : Nat := (ts.filter fun t => isOpen t.2).length
theorem opens_cons (t : Tok) (ts : List Tok) : opens (t :: ts) = (if isOpen t.2 = true then 1 else 0) + opens ts := by
  unfold opens
  rw [List.filter_cons]
  by_cases h : isOpen t.2 = true
  · rw [if_pos h, if_pos h, List.length_cons, Nat.add_comm]
  · rw [if_neg h, if_neg h, Nat.zero_add]
/-- behind all words stands the void one -/
def Ends1 (ts : List Tok) : Prop := ∃ r e, ts = r ++ [(e, wVoid)]
theorem Ends1.tl {t : Tok} {ts : List Tok} (h : Ends1 (t :: ts)) (ne : t.2 ≠ wVoid) : Ends1 ts := by
  obtain ⟨r, e, hr⟩ := h
  cases r with
  | nil =>
    injection hr with h1 _
    rw [h1] at ne
    exact absurd rfl ne
  | cons a r =>
    injection hr with _ h2
    exact ⟨r, e, h2⟩
theorem Ends1.ne {ts : List Tok} (h : Ends1 ts) : ts ≠ [] := by
  obtain ⟨r, e, rfl⟩ := h
  simp
/-- the names of inputs -/
structure Nms (ns : List Str) : Prop where
  noNot : wNot ∉ ns
  noOp : wOp ∉ ns
  noVoid : wVoid ∉ ns
theorem words_ne : wNot ≠ wVoid ∧ wOp ≠ wVoid ∧ wCl ≠ wVoid ∧ wVoid ∉ joins ∧ wNot ≠ wOp := by decide +kernel
/-- what the parser says, put against what may stand -/
def Agr (ns : List Str) (u : List Nd) (ts : List Tok) : Except Nat (List Tok) → Prop
  | .error p => ∃ t, ts[(mach ns (.E :: u) (ts.map (·.2))).1]? = some t ∧ t.1 = p ∧ (mach ns (.E :: u) (ts.map (·.2))).2 ≠ []
  | .ok r => Ends1 r ∧ ∃ k, r = ts.drop k ∧ opens r ≤ opens ts ∧ mach ns (.E :: u) (ts.map (·.2)) = (k + (mach ns u (r.map (·.2))).1, (mach ns u (r.map (·.2))).2)
theorem drop_get {α : Type} {l r : List α} {k n : Nat} {x : α} (h : r = l.drop k) (g : r[n]? = some x) : l[k + n]? = some x := by
  rw [h, List.getElem?_drop] at g
  exact g
theorem drop_tl {α : Type} {l r : List α} {k : Nat} {x : α} (h : x :: r = l.drop k) : r = l.drop (k + 1) := by
  have e : (l.drop k).tail = r := by rw [← h]; rfl
  rw [← e, List.tail_drop]
theorem m1 (x : Tok) (r : List Tok) : (x :: r).map (·.2) = x.2 :: r.map (·.2) := rfl
theorem isOpen_not {w : Str} (h : w = wNot) : isOpen w = true := by unfold isOpen; rw [decide_eq_true h]; rfl
theorem isOpen_op {w : Str} (h : w = wOp) : isOpen w = true := by unfold isOpen; rw [decide_eq_true h, Bool.or_true]
/-- the parser and what may stand -/
theorem prs_mach {ns : List Str} (N : Nms ns) : ∀ (f ar : Nat) (ts : List Tok) (u : List Nd), Ends1 ts → opens ts < f → ar + opens ts ≤ 20 → Agr ns u ts (prs ns f ar ts)
  | 0, _, _, _, _, h, _ => absurd h (Nat.not_lt_zero _)
  | f + 1, ar, [], _, h, _, _ => absurd rfl h.ne
  | f + 1, ar, (p, w) :: r, u, he, ho, ha => by
    rw [opens_cons] at ho ha
    rw [prs, if_neg (show ¬ 20 < ar by omega)]
    by_cases h1 : w ∈ ns
    · rw [if_pos h1]
      have n1 : w ≠ wNot := fun e => N.noNot (e ▸ h1)
      have n2 : w ≠ wOp := fun e => N.noOp (e ▸ h1)
      have n3 : w ≠ wVoid := fun e => N.noVoid (e ▸ h1)
      refine ⟨he.tl n3, 1, rfl, by rw [opens_cons]; omega, ?_⟩
      rw [m1, mach_some (u' := u) (by rw [stp_E, if_neg n1, if_neg n2, if_pos h1]), Nat.add_comm]
    · rw [if_neg h1]
      by_cases h2 : w = wNot
      · rw [if_pos h2]
        have hop := isOpen_not h2
        rw [if_pos hop] at ho ha
        have ih := prs_mach N f (ar + 1) r u (he.tl (by rw [h2]; exact words_ne.1)) (by omega) (by omega)
        have st : mach ns (.E :: u) (((p, w) :: r).map (·.2)) = ((mach ns (.E :: u) (r.map (·.2))).1 + 1, (mach ns (.E :: u) (r.map (·.2))).2) := by
          rw [m1, mach_some (u' := .E :: u) (by rw [stp_E, if_pos h2])]
        cases hp : prs ns f (ar + 1) r with
        | error e =>
          rw [hp] at ih
          obtain ⟨t, h3, h4, h5⟩ := ih
          refine ⟨t, ?_, h4, ?_⟩
          · rw [st]; exact h3
          · rw [st]; exact h5
        | ok r1 =>
          rw [hp] at ih
          obtain ⟨h3, k, h4, h5, h6⟩ := ih
          refine ⟨h3, k + 1, h4, by rw [opens_cons, if_pos hop]; omega, ?_⟩
          rw [st, h6]
          exact Prod.ext (Nat.add_right_comm _ _ _) rfl
      · rw [if_neg h2]
        by_cases h3 : w = wOp
        · rw [if_neg (fun z => z h3)]
          have hop := isOpen_op h3
          rw [if_pos hop] at ho ha
          have e1 := he.tl (show w ≠ wVoid by rw [h3]; exact words_ne.2.1)
          have ih := prs_mach N f (ar + 1) r (.W :: .E :: .C :: u) e1 (by omega) (by omega)
          have st : mach ns (.E :: u) (((p, w) :: r).map (·.2)) = ((mach ns (.E :: .W :: .E :: .C :: u) (r.map (·.2))).1 + 1, (mach ns (.E :: .W :: .E :: .C :: u) (r.map (·.2))).2) := by
            rw [m1, mach_some (u' := .E :: .W :: .E :: .C :: u) (by rw [stp_E, if_neg h2, if_pos h3])]
          cases hp : prs ns f (ar + 1) r with
          | error e =>
            rw [hp] at ih
            obtain ⟨t, h4, h5, h6⟩ := ih
            refine ⟨t, ?_, h5, ?_⟩
            · rw [st]; exact h4
            · rw [st]; exact h6
          | ok r1 =>
            rw [hp] at ih
            obtain ⟨e2, k, h4, h5, h6⟩ := ih
            rw [h6] at st
            cases r1 with
            | nil => exact absurd rfl e2.ne
            | cons t2 r2 =>
              obtain ⟨p2, w2⟩ := t2
              dsimp only
              by_cases h7 : w2 ∈ joins
              · rw [if_neg (fun z => z h7)]
                have e3 := e2.tl (show w2 ≠ wVoid from fun e => words_ne.2.2.2.1 (e ▸ h7))
                have o3 : opens r2 ≤ opens ((p2, w2) :: r2) := by rw [opens_cons]; omega
                have ih2 := prs_mach N f (ar + 1) r2 (.C :: u) e3 (by omega) (by omega)
                rw [m1 (p2, w2) r2, mach_some (u' := .E :: .C :: u) (by rw [stp_W, if_pos h7])] at st
                have k2 := drop_tl h4
                cases hp2 : prs ns f (ar + 1) r2 with
                | error e =>
                  rw [hp2] at ih2
                  obtain ⟨t, h8, h9, h10⟩ := ih2
                  refine ⟨t, ?_, h9, ?_⟩
                  · rw [st]
                    have := drop_get k2 h8
                    show ((p, w) :: r)[k + (_ + 1) + 1]? = _
                    rw [List.getElem?_cons_succ, ← Nat.add_assoc, Nat.add_right_comm]
                    exact this
                  · rw [st]; exact h10
                | ok r3 =>
                  rw [hp2] at ih2
                  obtain ⟨e4, k3, h8, h9, h10⟩ := ih2
                  rw [h10] at st
                  cases r3 with
                  | nil => exact absurd rfl e4.ne
                  | cons t4 r4 =>
                    obtain ⟨p4, w4⟩ := t4
                    dsimp only
                    have k4 : (p4, w4) :: r4 = r.drop (k + 1 + k3) := by rw [h8, k2, List.drop_drop]
                    by_cases h11 : w4 = wCl
                    · rw [if_neg (fun z => z h11)]
                      rw [m1 (p4, w4) r4, mach_some (u' := u) (by rw [stp_C, if_pos h11])] at st
                      have o4 : opens r4 ≤ opens ((p4, w4) :: r4) := by rw [opens_cons]; omega
                      refine ⟨e4.tl (show w4 ≠ wVoid by rw [h11]; exact words_ne.2.2.1), k + 1 + k3 + 1 + 1, drop_tl k4, by rw [opens_cons]; omega, ?_⟩
                      rw [st]
                      refine Prod.ext ?_ rfl
                      show k + (k3 + (_ + 1) + 1) + 1 = k + 1 + k3 + 1 + 1 + _
                      omega
                    · rw [if_pos h11]
                      rw [m1 (p4, w4) r4, mach_none (by rw [stp_C, if_neg h11])] at st
                      refine ⟨(p4, w4), ?_, rfl, ?_⟩
                      · rw [st]
                        have := drop_get (n := 0) k4 rfl
                        show ((p, w) :: r)[k + (k3 + 0 + 1) + 1]? = _
                        rw [List.getElem?_cons_succ, show k + (k3 + 0 + 1) = k + 1 + k3 + 0 by omega]
                        exact this
                      · rw [st]; exact List.cons_ne_nil _ _
              · rw [if_pos h7]
                rw [m1 (p2, w2) r2, mach_none (by rw [stp_W, if_neg h7])] at st
                refine ⟨(p2, w2), ?_, rfl, ?_⟩
                · rw [st]
                  have := drop_get (n := 0) h4 rfl
                  show ((p, w) :: r)[k + 0 + 1]? = _
                  rw [List.getElem?_cons_succ]
                  exact this
                · rw [st]; exact List.cons_ne_nil _ _
        · rw [if_pos h3]
          have st : mach ns (.E :: u) (((p, w) :: r).map (·.2)) = (0, .E :: u) := by
            rw [m1, mach_none (by rw [stp_E, if_neg h2, if_neg h3, if_neg h1])]
          refine ⟨(p, w), ?_, rfl, ?_⟩
          · rw [st]; rfl
          · rw [st]; exact List.cons_ne_nil _ _
end Lt

set_option Elab.async false
set_option linter.all false
set_option maxRecDepth 100000
set_option maxHeartbeats 1000000
/-! the words of a text -/
namespace Lt
open PySem PySem.Spec PyProof.Rows L2
def runS : Str := "abcdefghijklmnopqrstuvwxyz0123456789"
/-- text[a:b] -/
def cut (T : List Nat) (a b : Nat) : Str := ⟨((T.drop a).take (b - a)).toArray⟩
def flush (T : List Nat) (st : List Tok × Nat) (p : Nat) : List Tok := if st.2 < p then st.1 ++ [(st.2, cut T st.2 p)] else st.1
def lexStep (T : List Nat) (st : List Tok × Nat) (p c : Nat) : List Tok × Nat :=
  if c ∈ runS.cps.toList then st else (if c = 32 then flush T st p else flush T st p ++ [(p, ⟨#[c]⟩)], p + 1)
def lexFrom (T : List Nat) : List Tok × Nat → Nat → List Nat → List Tok × Nat
  | st, _, [] => st
  | st, p, c :: cs => lexFrom T (lexStep T st p c) (p + 1) cs
theorem lex_nil {T : List Nat} {st : List Tok × Nat} {p : Nat} : lexFrom T st p [] = st := by rw [lexFrom]
theorem lex_cons {T : List Nat} {st : List Tok × Nat} {p c : Nat} {cs : List Nat} : lexFrom T st p (c :: cs) = lexFrom T (lexStep T st p c) (p + 1) cs := by rw [lexFrom]
theorem lex_app {T : List Nat} : ∀ {a b : List Nat} {st : List Tok × Nat} {p : Nat}, lexFrom T st p (a ++ b) = lexFrom T (lexFrom T st p a) (p + a.length) b
  | [], b, st, p => by rw [List.nil_append, lex_nil]; rfl
  | c :: a, b, st, p => by
    rw [List.cons_append, lex_cons, lex_cons, lex_app (a := a), List.length_cons, Nat.add_assoc, Nat.add_comm 1 a.length]
theorem flush_at {T : List Nat} {F : List Tok} {p : Nat} : flush T (F, p) p = F := by
  unfold flush
  rw [if_neg (Nat.lt_irrefl _)]
theorem lex_sp {T : List Nat} {st : List Tok × Nat} {p : Nat} : lexFrom T st p [32] = (flush T st p, p + 1) := by
  rw [lex_cons, lex_nil]
  unfold lexStep
  rw [if_neg (show (32 : Nat) ∉ runS.cps.toList by decide +kernel), if_pos rfl]
theorem lex_sps {T : List Nat} : ∀ {n : Nat} {st : List Tok × Nat} {p : Nat}, lexFrom T st p (List.replicate (n + 1) 32) = (flush T st p, p + (n + 1))
  | 0, st, p => lex_sp
  | n + 1, st, p => by
    rw [show List.replicate (n + 1 + 1) 32 = [32] ++ List.replicate (n + 1) 32 from rfl, lex_app, lex_sp, lex_sps, List.length_singleton, flush_at, Nat.add_assoc p, Nat.add_comm 1]
theorem lex_run {T : List Nat} : ∀ {w : List Nat} {st : List Tok × Nat} {p : Nat}, (∀ c ∈ w, c ∈ runS.cps.toList) → lexFrom T st p w = st
  | [], st, p, _ => lex_nil
  | c :: w, st, p, h => by
    rw [lex_cons]
    unfold lexStep
    rw [if_pos (h c (List.mem_cons_self ..)), lex_run fun x hx => h x (List.mem_cons_of_mem _ hx)]
def wX0 : Str := "X0"
/-- the program's words of one word of the law -/
def flat (t : Tok) : List Tok := if t.2 = wX0 then [(t.1, ("X" : Str)), (t.1 + 1, ("0" : Str))] else [t]
/-- what words there are -/
def WdT (w : Str) : Prop := (w.cps.toList ≠ [] ∧ ∀ c ∈ w.cps.toList, c ∈ runS.cps.toList) ∨ (∃ c, w = ⟨#[c]⟩ ∧ c ∉ runS.cps.toList ∧ c ≠ 32) ∨ w = wX0
theorem cut_at {A w B : List Nat} : cut (A ++ w ++ B) A.length (A.length + w.length) = ⟨w.toArray⟩ := by
  unfold cut
  rw [List.append_assoc, List.drop_left, Nat.add_sub_cancel_left, List.take_left]
theorem lex_word {A B : List Nat} {w : Str} {F : List Tok} (h : WdT w) :
    let T := A ++ w.cps.toList ++ B
    flush T (lexFrom T (F, A.length) A.length w.cps.toList) (A.length + w.cps.toList.length) = F ++ flat (A.length, w) := by
  dsimp only
  rcases h with ⟨h1, h2⟩ | ⟨c, rfl, h1, h2⟩ | rfl
  · rw [lex_run h2]
    unfold flush
    rw [if_pos (Nat.lt_add_of_pos_right (List.length_pos_iff.mpr h1)), cut_at]
    unfold flat
    have n : w ≠ wX0 := fun e => by
      subst e
      exact absurd (h2 88 (by decide +kernel)) (by decide +kernel)
    rw [if_neg n]
  · show flush (A ++ [c] ++ B) (lexFrom (A ++ [c] ++ B) (F, A.length) A.length [c]) (A.length + 1) = _
    rw [lex_cons, lex_nil]
    unfold lexStep
    rw [if_neg h1, if_neg h2, flush_at, flush_at]
    unfold flat
    have n : (⟨#[c]⟩ : Str) ≠ wX0 := fun e => by
      have h5 : (1 : Nat) = wX0.cps.size := congrArg (fun z : Str => z.cps.size) e
      exact absurd h5 (by decide +kernel)
    rw [if_neg n]
  · have e0 : wX0.cps.toList = [88, 48] := by decide +kernel
    rw [e0]
    rw [lex_cons, lex_cons, lex_nil]
    have s1 : lexStep (A ++ [88, 48] ++ B) (F, A.length) A.length 88 = (F ++ [(A.length, ⟨#[88]⟩)], A.length + 1) := by
      unfold lexStep
      rw [if_neg (show (88 : Nat) ∉ runS.cps.toList by decide +kernel), if_neg (by decide), flush_at]
    rw [s1]
    have s2 : lexStep (A ++ [88, 48] ++ B) (F ++ [(A.length, ⟨#[88]⟩)], A.length + 1) (A.length + 1) 48 = (F ++ [(A.length, ⟨#[88]⟩)], A.length + 1) := by
      unfold lexStep
      rw [if_pos (show (48 : Nat) ∈ runS.cps.toList by decide +kernel)]
    rw [s2]
    unfold flush flat
    rw [if_pos rfl, if_pos (show A.length + 1 < A.length + [88, 48].length from Nat.lt_succ_self _)]
    have c1 := cut_at (A := A ++ [88]) (w := [48]) (B := B)
    have e1 : A ++ [88] ++ [48] ++ B = A ++ [88, 48] ++ B := by simp
    rw [e1, List.length_append] at c1
    show F ++ [(A.length, ⟨#[88]⟩)] ++ [(A.length + 1, cut (A ++ [88, 48] ++ B) (A.length + [88].length) (A.length + [88].length + [48].length))] = _
    rw [c1, List.append_assoc]
    have x1 : ("X" : Str) = ⟨#[88]⟩ := by decide +kernel
    have x2 : ("0" : Str) = ⟨[48].toArray⟩ := by decide +kernel
    rw [x1, x2]
    rfl
/-- a text as the law makes it, and its words with their places -/
inductive Bt : List Nat → List Tok → Prop
  | nil : Bt [] []
  | snoc {T : List Nat} {P : List Tok} {w : Str} {n : Nat} : Bt T P → WdT w → Bt (T ++ List.replicate (n + 1) 32 ++ w.cps.toList) (P ++ [(T.length + (n + 1), w)])
theorem Bt.lex {T : List Nat} {P : List Tok} (h : Bt T P) : ∀ R, flush (T ++ R) (lexFrom (T ++ R) ([], 0) 0 T) T.length = P.flatMap flat := by
  induction h with
  | nil => intro R; rw [lex_nil]; rfl
  | @snoc T P w n h hw ih =>
    intro R
    rw [lex_app, lex_app, lex_sps]
    have e1 : T ++ List.replicate (n + 1) 32 ++ w.cps.toList ++ R = T ++ (List.replicate (n + 1) 32 ++ w.cps.toList ++ R) := by simp only [List.append_assoc]
    have e2 := ih (List.replicate (n + 1) 32 ++ w.cps.toList ++ R)
    rw [← e1] at e2
    rw [Nat.zero_add, e2]
    have l1 : (T ++ List.replicate (n + 1) 32).length = T.length + (n + 1) := by rw [List.length_append, List.length_replicate]
    have := lex_word (A := T ++ List.replicate (n + 1) 32) (B := R) (F := P.flatMap flat) hw
    dsimp only at this
    rw [l1] at this
    rw [Nat.zero_add, l1, List.length_append, l1, this, List.flatMap_append]
    rw [List.flatMap_cons, List.flatMap_nil, List.append_nil]
/-- and with one more space behind, or none -/
theorem Bt.all {T : List Nat} {P : List Tok} (h : Bt T P) (m : Nat) (hm : m < 2) : flush (T ++ List.replicate m 32) (lexFrom (T ++ List.replicate m 32) ([], 0) 0 (T ++ List.replicate m 32)) (T ++ List.replicate m 32).length = P.flatMap flat := by
  match m, hm with
  | 0, _ =>
    have := h.lex []
    rw [show List.replicate 0 32 = [] from rfl, List.append_nil] at *
    exact this
  | 1, _ =>
    have := h.lex [32]
    show flush (T ++ [32]) (lexFrom (T ++ [32]) ([], 0) 0 (T ++ [32])) (T ++ [32]).length = _
    rw [lex_app, lex_sp, Nat.zero_add, this, List.length_append]
    exact flush_at
/-! ### the law's words and the program's -/
/-- X0 and its first sign can't stand, nor the void word -/
theorem stp_bad {ns : List Str} (h1 : wX0 ∉ ns) : ∀ u, stp ns u wX0 = none
  | [] => rfl
  | .E :: r => by rw [stp_E, if_neg (by decide +kernel), if_neg (by decide +kernel), if_neg h1]
  | .W :: r => by rw [stp_W, if_neg (by decide +kernel)]
  | .C :: r => by rw [stp_C, if_neg (by decide +kernel)]
theorem stp_badX {ns : List Str} (h1 : ("X" : Str) ∉ ns) : ∀ u, stp ns u ("X" : Str) = none
  | [] => rfl
  | .E :: r => by rw [stp_E, if_neg (by decide +kernel), if_neg (by decide +kernel), if_neg h1]
  | .W :: r => by rw [stp_W, if_neg (by decide +kernel)]
  | .C :: r => by rw [stp_C, if_neg (by decide +kernel)]
theorem stp_void {ns : List Str} (h1 : wVoid ∉ ns) : ∀ u, stp ns u wVoid = none
  | [] => rfl
  | .E :: r => by rw [stp_E, if_neg (by decide +kernel), if_neg (by decide +kernel), if_neg h1]
  | .W :: r => by rw [stp_W, if_neg (by decide +kernel)]
  | .C :: r => by rw [stp_C, if_neg (by decide +kernel)]
/-- the words as the program has them -/
def toks (P : List Tok) (e : Nat) : List Tok := P.flatMap flat ++ [(e, wVoid)]
theorem toks_cons {t : Tok} {P : List Tok} {e : Nat} : toks (t :: P) e = flat t ++ toks P e := by
  unfold toks
  rw [List.flatMap_cons, List.append_assoc]
theorem toks_mach {ns : List Str} (N : Nms ns) (h1 : wX0 ∉ ns) (h2 : ("X" : Str) ∉ ns) (e : Nat) : ∀ (P : List Tok) (u : List Nd),
    mach ns u ((toks P e).map (·.2)) = mach ns u (P.map (·.2)) ∧
    (mach ns u (P.map (·.2))).1 ≤ P.length ∧
    ∀ t, (toks P e)[(mach ns u (P.map (·.2))).1]? = some t →
      if (mach ns u (P.map (·.2))).1 < P.length then P[(mach ns u (P.map (·.2))).1]?.map (·.1) = some t.1 ∧ (mach ns u (P.map (·.2))).1 < (toks P e).length - 1
      else t.1 = e ∧ (mach ns u (P.map (·.2))).1 = (toks P e).length - 1
  | [], u => by
    have a : mach ns u ((toks [] e).map (·.2)) = (0, u) := mach_none (stp_void N.noVoid u)
    have b : mach ns u (([] : List Tok).map (·.2)) = (0, u) := by rw [List.map_nil, mach]
    refine ⟨a.trans b.symm, by rw [b]; exact Nat.le_refl _, fun t ht => ?_⟩
    rw [b] at ht ⊢
    rw [if_neg (show ¬ ((0 : Nat), u).1 < ([] : List Tok).length from Nat.lt_irrefl _)]
    injection ht with ht
    exact ⟨by rw [← ht], rfl⟩
  | t0 :: P, u => by
    cases hs : stp ns u t0.2 with
    | none =>
      have b : mach ns u ((t0 :: P).map (·.2)) = (0, u) := mach_none hs
      rw [b]
      rw [toks_cons]
      unfold flat
      by_cases hx : t0.2 = wX0
      · rw [if_pos hx]
        refine ⟨mach_none (stp_badX h2 u), Nat.zero_le _, fun t ht => ?_⟩
        injection ht with ht
        rw [if_pos (show ((0 : Nat), u).1 < (t0 :: P).length from Nat.succ_pos _)]
        refine ⟨by rw [← ht]; rfl, ?_⟩
        show 0 < ([_, _] ++ toks P e).length - 1
        rw [List.length_append]
        exact Nat.lt_of_lt_of_le Nat.zero_lt_one (by simp only [List.length_cons, List.length_nil]; omega)
      · rw [if_neg hx]
        refine ⟨mach_none hs, Nat.zero_le _, fun t ht => ?_⟩
        injection ht with ht
        rw [if_pos (show ((0 : Nat), u).1 < (t0 :: P).length from Nat.succ_pos _)]
        refine ⟨by rw [← ht]; rfl, ?_⟩
        unfold toks
        simp only [List.length_append, List.length_cons, List.length_nil]
        omega
    | some u' =>
      have hx : t0.2 ≠ wX0 := fun z => by rw [z, stp_bad h1] at hs; cases hs
      obtain ⟨i1, i2, i3⟩ := toks_mach N h1 h2 e P u'
      have b : mach ns u ((t0 :: P).map (·.2)) = ((mach ns u' (P.map (·.2))).1 + 1, (mach ns u' (P.map (·.2))).2) := mach_some hs
      have ft : toks (t0 :: P) e = t0 :: toks P e := by rw [toks_cons]; unfold flat; rw [if_neg hx]; rfl
      rw [b, ft]
      refine ⟨by rw [m1, mach_some hs, i1], Nat.succ_le_succ i2, fun t ht => ?_⟩
      have ht' : (toks P e)[(mach ns u' (P.map (·.2))).1]? = some t := ht
      have i4 := i3 t ht'
      have pos : 0 < (toks P e).length := by unfold toks; simp only [List.length_append, List.length_cons, List.length_nil]; omega
      by_cases hl : (mach ns u' (P.map (·.2))).1 < P.length
      · rw [if_pos hl] at i4
        rw [if_pos (show (mach ns u' (P.map (·.2))).1 + 1 < (t0 :: P).length from Nat.succ_lt_succ hl)]
        refine ⟨i4.1, ?_⟩
        have := i4.2
        simp only [List.length_cons]
        omega
      · rw [if_neg hl] at i4
        rw [if_neg (show ¬ (mach ns u' (P.map (·.2))).1 + 1 < (t0 :: P).length from fun z => hl (Nat.lt_of_succ_lt_succ z))]
        refine ⟨i4.1, ?_⟩
        have := i4.2
        simp only [List.length_cons]
        omega
end Lt

set_option Elab.async false
set_option linter.all false
set_option maxRecDepth 100000
set_option maxHeartbeats 4000000
/-! enumerate over a str, in a for -/
namespace L2
open PySem PySem.Spec PyProof.Rows
/-- the signs of a str, each in a new pair with its place -/
def Ites (x : Str) : It :=
  ⟨fun i _ => i < x.cps.size, fun i H v H' => ∃ T c, v = .ref T ∧ H T = none ∧ H' = upd H T (.tup [.int (i : Nat), .str ⟨#[c]⟩]) ∧ x.cps[i]? = some c, fun i _ => x.cps.size = i⟩
theorem turn_enumS {P : Program} {w : World} {K : PySem.W.Frag} {elts : List Expr} {kk : Nat} {tpos : Pos} (x : Str) (t : Tok) (e it : Addr) :
    Turn P w K (.Tuple elts kk tpos) (Ites x) [e, it] e (fun i h => (∃ old, IsEnum h e it ((i : Nat) : Int) old) ∧ h.IsStrIter it (strIterType x) x t i ∧ e ≠ it) where
  mem := by simp
  obj := fun i h st b hb => by
    obtain ⟨⟨old, he⟩, ⟨o, ho, hc, hd⟩, _⟩ := st
    have e' : b = e ∨ b = it := by simpa using hb
    rcases e' with z | z
    · rw [z]; exact ⟨_, he, fun v q => nomatch q⟩
    · rw [z]; exact ⟨o, ho, fun v q => by rw [hd] at q; cases q⟩
  keep := fun i h h' st k => let ⟨⟨old, he⟩, ⟨o, ho, r⟩, hne⟩ := st; ⟨⟨old, k e (by simp) _ he⟩, ⟨o, k it (by simp) o ho, r⟩, hne⟩
  item := by
    intro X hP hw hK hc i pins s σ H E I hf st hg
    subst hP hw hK
    obtain ⟨⟨old, he⟩, hit, hne⟩ := st
    have hel : e < s.heap.objs.size := Heap.lt_size he
    have hil : it < s.heap.objs.size := by obtain ⟨_, q, _⟩ := hit; exact Heap.lt_size q
    refine wpAny_pyNext_enum_itemD (Draws.text (prog := X.prog) (w := X.w) (A := X.A.in1) (I.ok.hd hc) it x t) he hit (show i < x.cps.size from hg) hne (by simp [hne]) fun x' h' tk hP ho hst' hT hsz hk => ?_
    obtain ⟨c, u, hcx, ex⟩ := hP
    subst ex
    have hit' := hst'
    refine ⟨_, rfl, wpAny_letOwnedTupleGo_enum (s := { s with heap := h', toks := tk + 1 }) ho fun h'' he' sb => ?_⟩
    have hT2 : h''.get? s.heap.objs.size = some { cls := .type "tuple", data := .seq #[.int i tk, .str ⟨#[c]⟩ u] } := (sb.2 _ (Nat.ne_of_gt hel)).trans hT
    have new : ObjOk X.prog X.w (upd H s.heap.objs.size (.tup [.int (i : Nat), .str ⟨#[c]⟩])) h'' s.heap.objs.size (.tup [.int (i : Nat), .str ⟨#[c]⟩]) :=
      ⟨by show 2 ≤ sizeLine; decide, [.int i tk, .str ⟨#[c]⟩ u], .cons ⟨_, rfl⟩ (.cons ⟨_, rfl⟩ .nil), ⟨_, hT2, rfl, _, rfl⟩⟩
    have I1 : Inv X pins σ (upd H s.heap.objs.size (.tup [.int (i : Nat), .str ⟨#[c]⟩])) { s with heap := h'', toks := tk + 1 } :=
      I.turnedNew (ch := [e, it]) (fun b ob hb q => (sb.2 b (fun z => hb (by simp [z]))).trans (hk b ob (fun z => hb (by simp [z])) (fun z => hb (by simp [z])) q)) hf (Nat.le_refl _) new
    refine ⟨.ref s.heap.objs.size, _, I1, rfl, ⟨_, c, rfl, I.hok.fresh (Nat.le_refl _), rfl, hcx⟩, ⟨⟨.str ⟨#[c]⟩ u, ?_⟩, ?_, hne⟩, fun b hb => ?_⟩
    · have e1 : ((i + 1 : Nat) : Int) = (i : Int) + 1 := by omega
      rw [e1]; exact he'
    · obtain ⟨o, ho', r⟩ := hit'
      exact ⟨o, (sb.2 it (Ne.symm hne)).trans ho', r⟩
    · have hb' : b < s.heap.objs.size := by
        have e' : b = e ∨ b = it := by simpa using hb
        rcases e' with z | z
        · rw [z]; exact hel
        · rw [z]; exact hil
      rw [upd_ne (Nat.ne_of_lt hb')]
      exact (hf b hb).1
  done := by
    intro X hP hw hK hc i pins s σ H E I hf st hg
    subst hP hw hK
    obtain ⟨⟨old, he⟩, hit, hne⟩ := st
    obtain ⟨f0, f1, f2, f3, f4, f5⟩ := hf it (by simp)
    have hn : x.cps.size = i := hg
    exact wpAny_pyNext_enum_endD (Draws.text (prog := X.prog) (w := X.w) (A := X.A.in1) (I.ok.hd hc) it x t) he (show s.heap.IsStrIter it (strIterType x) x t x.cps.size by rw [hn]; exact hit) fun h' eb => ⟨rfl, I.turned (t' := s.toks) (fun b o hb q => eb b o hb q) f0 f1 f3 f4 f5⟩
  self := fun A i s Q E st h => let ⟨⟨_, he⟩, _⟩ := st; wpAny_pyIter_enum he h
def iEnumS (ta : TA) : TI := fun σ H R => ta σ H fun vs H1 => ∃ x, vs = [.str x] ∧ R (Ites x) H1
theorem pi_enumS {X : Cx} {e : Expr} {ta : TA} {p pos tpos : Pos} {elts : List Expr} {kk : Nat} (hg : Gl X "enumerate") (hm : X.mg "enumerate" = none) (ha : PA X [e] ta) (hs : starEach [e] X.env = [(false, eval e X.env)] := by rfl) :
    PI X (.Tuple elts kk tpos) (.Call (.Name "enumerate" p) [e] [] pos) (iEnumS ta) := by
  refine ⟨fun pins s σ H R I h => ?_⟩
  refine Call_ (ld_blt I hg hm boot_enumerate (PyProof.Rows.callWith_type1 (thn (ha.run pos pins s σ H _ I h) fun us s1 ⟨vs, H1, I1, r1, q1⟩ => ?_) hs rfl))
  obtain ⟨x, ex, q⟩ := q1
  subst ex
  cases r1 with
  | cons r rr =>
    cases rr
    obtain ⟨t, rfl⟩ := r
    refine LtR.enum1_begins (begins_text x t) trivial fun h' he hit hsz hk => wpAny_pyIter_enum he ?_
    have I2 : Inv X pins σ H1 { s1 with heap := h' } := I1.kept (t' := s1.toks) hk
    refine ⟨s1.heap.objs.size + 1, [s1.heap.objs.size + 1, s1.heap.objs.size], _, _, H1, rfl, I2, turn_enumS x t (s1.heap.objs.size + 1) s1.heap.objs.size, ⟨⟨.none, he⟩, ⟨_, hit, rfl, rfl⟩, Nat.succ_ne_self _⟩, fun b hb => ?_, q⟩
    have e' : b = s1.heap.objs.size + 1 ∨ b = s1.heap.objs.size := by simpa using hb
    have hle : s1.heap.objs.size ≤ b := by
      rcases e' with z | z
      · rw [z]; exact Nat.le_add_right _ _
      · rw [z]; exact Nat.le_refl _
    exact I1.fpOk hle (I1.hok.fresh hle)
end L2

set_option Elab.async false
set_option linter.all false
set_option maxRecDepth 100000
set_option maxHeartbeats 1000000
/-! placed_words -/
namespace Lt
open PySem PySem.Spec PyProof.Rows L2
theorem for_enumS {x : Str} {g : TG} {tb : TS} {D : Ends} {σ : L2.St} {H : Hp} (Pv : Nat → L2.St → Hp → Prop) (h0 : Pv 0 σ H)
    (hs : ∀ (i c : Nat) σ H T, x.cps[i]? = some c → Pv i σ H → H T = none → g (.ref T) σ (upd H T (.tup [nI i, .str ⟨#[c]⟩])) fun σ2 H2 => tb { D with nx := Pv (i + 1), ct := Pv (i + 1), bk := D.nx } σ2 H2) (hd : ∀ σ H, Pv x.cps.size σ H → D.nx σ H) :
    ∃ W : Nat → Nat → L2.St → Hp → Prop, (∃ m, W 0 m σ H) ∧ ∀ i m σ H, W i m σ H →
      ((Ites x).stop i H ∧ D.nx σ H) ∨ ((Ites x).go i H ∧ ∃ N : L2.St → Hp → Prop, (∀ σ' H', N σ' H' → ∃ m', m' < m ∧ W (i + 1) m' σ' H') ∧ ∀ y H', (Ites x).yld i H y H' → g y σ H' fun σ2 H2 => tb { D with nx := N, ct := N, bk := D.nx } σ2 H2) := by
  refine ⟨fun i m σ H => m = x.cps.size - i ∧ i ≤ x.cps.size ∧ Pv i σ H, ⟨x.cps.size, by simp, Nat.zero_le _, h0⟩, ?_⟩
  rintro i m σ H ⟨rfl, hi, p⟩
  by_cases hlt : i < x.cps.size
  · refine .inr ⟨hlt, Pv (i + 1), fun σ' H' p' => ⟨x.cps.size - (i + 1), by omega, rfl, hlt, p'⟩, fun y H' yl => ?_⟩
    obtain ⟨T, c, rfl, hT, rfl, hc⟩ := yl
    exact hs i c σ H T hc p hT
  · have e : x.cps.size = i := by omega
    refine .inl ⟨e, hd σ H ?_⟩
    rw [e]
    exact p
/-- a name of the module, by its value -/
theorem pe_gc2 {X : Cx} {x : Str} {v : V} {pos : Pos} (hg : Gl X x) (h : ∃ u, X.mg x = some u ∧ RelV v u) (hd : (x == ("__debug__" : Str)) = false := by decide) : PE X (.Name x pos) (tC v) := by
  obtain ⟨u, hm, r⟩ := h
  exact pe_glob hg hm r hd
/-- a placed word -/
def RTk (H : Hp) (v : V) (t : Tok) : Prop := ∃ a, v = .ref a ∧ H a = some (.tup [nI t.1, .str t.2])
theorem RTk.tm {H H' : Hp} {v : V} {t : Tok} (e : Tm H H') (h : RTk H v t) : RTk H' v t := let ⟨a, e1, h⟩ := h; ⟨a, e1, e.1 _ _ h⟩
theorem RTks.tm {H H' : Hp} (e : Tm H H') : ∀ {xs : List V} {ts : List Tok}, Paired (RTk H) xs ts → Paired (RTk H') xs ts
  | _, _, .nil => .nil
  | _, _, .cons r t => .cons (r.tm e) (RTks.tm e t)
def LTk (H : Hp) (l : Addr) (ts : List Tok) : Prop := ∃ xs, H l = some (.lst xs) ∧ Paired (RTk H) xs ts
theorem LTk.same {H H' : Hp} {l : Addr} {ts : List Tok} (e : Same H H') (h : LTk H l ts) : LTk H' l ts := let ⟨xs, h1, h2⟩ := h; ⟨xs, e _ _ h1, RTks.tm (.of e) h2⟩
/-- the words of a text, behind them the void one -/
def lexWords (x : Str) : List Tok := toks' (flush x.cps.toList (lexFrom x.cps.toList ([], 0) 0 x.cps.toList) x.cps.toList.length) x.cps.toList.length
  where toks' (F : List Tok) (e : Nat) : List Tok := F ++ [(e, wVoid)]
theorem flush_len {T : List Nat} {st : List Tok × Nat} {p : Nat} : (flush T st p).length ≤ st.1.length + 1 := by
  unfold flush
  split
  · rw [List.length_append]; exact Nat.le_refl _
  · exact Nat.le_succ _
theorem lexStep_len {T : List Nat} {st : List Tok × Nat} {p c : Nat} : (lexStep T st p c).1.length ≤ st.1.length + 2 := by
  unfold lexStep
  have := flush_len (T := T) (st := st) (p := p)
  split
  · omega
  · dsimp only
    split
    · omega
    · rw [List.length_append, List.length_singleton]; omega
theorem lexFrom_len {T : List Nat} : ∀ {cs : List Nat} {st : List Tok × Nat} {p : Nat}, (lexFrom T st p cs).1.length ≤ st.1.length + 2 * cs.length
  | [], st, p => by rw [lex_nil]; exact Nat.le_refl _
  | c :: cs, st, p => by
    rw [lex_cons]
    have := lexFrom_len (T := T) (cs := cs) (st := lexStep T st p c) (p := p + 1)
    have := lexStep_len (T := T) (st := st) (p := p) (c := c)
    rw [List.length_cons]
    omega
theorem lexStep_at {T : List Nat} {st : List Tok × Nat} {p c : Nat} (h : st.2 ≤ p) : (lexStep T st p c).2 ≤ p + 1 := by
  unfold lexStep
  split
  · omega
  · exact Nat.le_refl _
theorem lexFrom_at {T : List Nat} : ∀ {cs : List Nat} {st : List Tok × Nat} {p : Nat}, st.2 ≤ p → (lexFrom T st p cs).2 ≤ p + cs.length
  | [], st, p, h => by rw [lex_nil]; exact h
  | c :: cs, st, p, h => by
    rw [lex_cons, List.length_cons]
    have := lexFrom_at (T := T) (cs := cs) (st := lexStep T st p c) (p := p + 1) (lexStep_at h)
    omega
theorem lex_take {T : List Nat} {i c : Nat} (h : T[i]? = some c) (st : List Tok × Nat) : lexFrom T st 0 (T.take (i + 1)) = lexStep T (lexFrom T st 0 (T.take i)) i c := by
  have hlt := (List.getElem?_eq_some_iff.mp h).1
  have e : T.take (i + 1) = T.take i ++ [c] := by
    rw [List.take_add_one, h]
    rfl
  rw [e, lex_app, lex_cons, lex_nil, List.length_take, Nat.min_eq_left (Nat.le_of_lt hlt), Nat.zero_add]
theorem cutS_nat (x : Str) (a b : Nat) (hb : b ≤ x.length) : L2.cutS x (some (a : Int)) (some (b : Int)) = cut x.cps.toList a b := by
  unfold L2.cutS cut
  rw [HT.sIx_nat, HT.sIx_nat, Nat.min_eq_left hb]
  by_cases ha : a ≤ x.length
  · rw [Nat.min_eq_left ha]
  · have h1 : x.cps.toList.length = x.length := Array.length_toList
    rw [Nat.min_eq_right (by omega), List.drop_eq_nil_of_le (by omega), List.drop_eq_nil_of_le (by omega), List.take_nil, List.take_nil]
theorem cutS_end (x : Str) (a : Nat) : L2.cutS x (some (a : Int)) none = cut x.cps.toList a x.cps.toList.length := by
  have h1 : x.cps.toList.length = x.length := Array.length_toList
  rw [h1, ← cutS_nat x a x.length (Nat.le_refl _)]
  unfold L2.cutS
  rw [HT.sIx_nat _ _ x.length, HT.sIx_none, Nat.min_self]
theorem add_tok {H H' : Hp} {l Tp : Addr} {vs : List V} {ts : List Tok} (t : Tok) (h0 : H l = none) (st : Same H H') (hv : H' l = some (.lst vs)) (pr : Paired (RTk H') vs ts) (hT : H' Tp = none) :
    (upd H' Tp (.tup [nI t.1, .str t.2])) l = some (.lst vs) ∧ Same H (upd (upd H' Tp (.tup [nI t.1, .str t.2])) l (.lst (vs ++ [.ref Tp]))) ∧
    Paired (RTk (upd (upd H' Tp (.tup [nI t.1, .str t.2])) l (.lst (vs ++ [.ref Tp])))) (vs ++ [.ref Tp]) (ts ++ [t]) := by
  have sT := same_new (o := .tup [nI t.1, .str t.2]) hT
  have h1 := sT _ _ hv
  refine ⟨h1, same_mut (st.trans sT) h0, Paired.app (RTks.tm ((Tm.of sT).trans (Tm.lst h1)) pr) (.cons ⟨Tp, rfl, ?_⟩ .nil)⟩
  rw [upd_ne (ne_of_none hv hT).symm]
  exact upd_same
theorem code_eq (c : Nat) : decide (V.str ⟨#[c]⟩ = V.str (" " : Str)) = decide (c = 32) := decide_eq_decide.mpr ⟨fun h => by
    injection h with h
    have e : (" " : Str) = ⟨#[32]⟩ := by decide +kernel
    rw [e] at h
    injection h with h
    injection h with h
    injection h with h,
  fun h => by rw [h]; exact congrArg V.str (by decide +kernel)⟩
section
variable {P : Program} {w : World} {K : PySem.W.Frag} {mg : Str → Option Value} {base : Heap}
def spWordsT : Sp := fun vs H Q _ => ∃ (x : Str), vs = [.str x] ∧ x.length ≤ 1000 ∧ ∀ l H', Same H H' → LTk H' l (lexWords x) → Q (.ref l) H'
end
end Lt

set_option Elab.async false
set_option linter.all false
set_option maxRecDepth 100000
set_option maxHeartbeats 1000000
/-! expected, tree_from -/
namespace Lt
open PySem PySem.Spec PyProof.Rows L2
theorem flat_strs (ws : List Str) : (ws.map V.str).all flatV = true := by
  rw [List.all_map]
  exact List.all_eq_true.mpr fun _ _ => rfl
theorem inV_strs (w : Str) (ws : List Str) : inV (.str w) (ws.map V.str) = decide (w ∈ ws) := by
  unfold inV
  rw [List.any_map]
  induction ws with
  | nil => rfl
  | cons a ws ih =>
    rw [List.any_cons, ih]
    show ((a == w) || _) = _
    by_cases h : a = w
    · subst h
      rw [beq_self_eq_true, Bool.true_or, decide_eq_true (List.mem_cons_self ..)]
    · rw [beq_eq_false_iff_ne.mpr h, Bool.false_or]
      exact decide_eq_decide.mpr ⟨fun m => List.mem_cons_of_mem _ m, fun m => by
        rcases List.mem_cons.mp m with e | m
        · exact absurd e.symm h
        · exact m⟩
theorem LTk.get {H : Hp} {l : Addr} {ts : List Tok} (h : LTk H l ts) {i : Nat} {t : Tok} (g : ts[i]? = some t) : ∃ xs T, H l = some (.lst xs) ∧ xs[i]? = some (.ref T) ∧ H T = some (.tup [nI t.1, .str t.2]) := by
  obtain ⟨xs, h1, h2⟩ := h
  obtain ⟨v, h3, a, rfl, h4⟩ := Paired.getR h2 g
  exact ⟨xs, a, h1, h3, h4⟩
section
variable {P : Program} {w : World} {K : PySem.W.Frag} {mg : Str → Option Value} {base : Heap} {CB : Addr}
def spExpected (K : PySem.W.Frag) (CB : Addr) : Sp := fun vs H Q E => ∃ (l W : Addr) (at_ : Nat) (ts : List Tok) (p : Nat) (z : Str) (ws : List Str), vs = [.ref l, nI at_, .ref W] ∧ LTk H l ts ∧ ts[at_]? = some (p, z) ∧ SqT K H W (ws.map V.str) ∧ (z ∈ ws → Q (.str z) H) ∧ (z ∉ ws → BadF CB "place" (nI p) H E)
end
end Lt

set_option Elab.async false
set_option linter.all false
set_option maxRecDepth 100000
set_option maxHeartbeats 1000000
/-! tree_from -/
namespace Lt
open PySem PySem.Spec PyProof.Rows L2
/-- a formula's tree over m inputs -/
inductive TreV (H : Hp) (m : Nat) : Nat → V → Prop
  | leaf {d i : Nat} : i < m → TreV H m d (nI i)
  | neg {d : Nat} {a : Addr} {v : V} : H a = some (.tup [.str wNot, v]) → TreV H m d v → TreV H m (d + 1) (.ref a)
  | two {d : Nat} {a : Addr} {j : Str} {v u : V} : H a = some (.tup [.str j, v, u]) → j ∈ joins → TreV H m d v → TreV H m d u → TreV H m (d + 1) (.ref a)
theorem TreV.same {H H' : Hp} {m d : Nat} {v : V} (e : Same H H') (h : TreV H m d v) : TreV H' m d v := by
  induction h with
  | leaf h => exact .leaf h
  | neg h _ ih => exact .neg (e _ _ h) ih
  | two h j _ _ i1 i2 => exact .two (e _ _ h) j i1 i2
theorem word_eq (a b : Str) : decide (V.str a = V.str b) = decide (a = b) := decide_eq_decide.mpr ⟨fun h => by injection h, fun h => by rw [h]⟩
theorem Ends1.get {ts : List Tok} {k : Nat} (h : Ends1 (ts.drop k)) : ∃ t, ts[k]? = some t := by
  have := List.length_pos_iff.mpr h.ne
  rw [List.length_drop] at this
  exact ⟨ts[k], List.getElem?_eq_getElem (by omega)⟩
theorem drop_at {ts : List Tok} {k : Nat} {t : Tok} (h : ts[k]? = some t) : ts.drop k = t :: ts.drop (k + 1) := by
  obtain ⟨hl, e⟩ := List.getElem?_eq_some_iff.mp h
  rw [← e, List.drop_eq_getElem_cons hl]
theorem first_ix {w : Str} : ∀ {ns : List Str}, w ∈ ns → ∃ j, j < ns.length ∧ ns[j]? = some w ∧ ∀ (m : Nat) (z : Str), m < j → ns[m]? = some z → z ≠ w
  | a :: ns, h => by
    by_cases e : a = w
    · exact ⟨0, Nat.succ_pos _, by rw [e]; rfl, fun m z hm => absurd hm (Nat.not_lt_zero _)⟩
    · have h' : w ∈ ns := by
        rcases List.mem_cons.mp h with z | z
        · exact absurd z.symm e
        · exact z
      obtain ⟨j, h1, h2, h3⟩ := first_ix h'
      refine ⟨j + 1, Nat.succ_lt_succ h1, h2, fun m z hm hz => ?_⟩
      cases m with
      | zero =>
        injection hz with hz
        rw [← hz]
        exact e
      | succ m => exact h3 m z (Nat.lt_of_succ_lt_succ hm) hz
section
variable {P : Program} {w : World} {K : PySem.W.Frag} {mg : Str → Option Value} {base : Heap} {CB : Addr}
def spTree (CB : Addr) (f : Nat) : Sp := fun vs H Q E => ∃ (n l : Addr) (at_ ar : Nat) (ns : List Str) (ts : List Tok), vs = [.ref n, .ref l, nI at_, nI ar] ∧ H n = some (.lst (ns.map V.str)) ∧ LTk H l ts ∧ Nms ns ∧
  Ends1 (ts.drop at_) ∧ opens (ts.drop at_) < f ∧ ar + opens (ts.drop at_) ≤ 20 ∧
  (∀ p, prs ns f ar (ts.drop at_) = .error p → BadF CB "place" (nI p) H E) ∧
  (∀ r, prs ns f ar (ts.drop at_) = .ok r → ∀ (a : Addr) (v : V) (k : Nat) (H' : Hp), Same H H' → H' a = some (.tup [v, nI k]) → TreV H' ns.length f v → ts.drop k = r → Q (.ref a) H')
/-- the names that tree_from reads -/
structure GlT (K : PySem.W.Frag) (mg : Str → Option Value) : Prop where
  most : ∃ u, mg "MOST_AROUND" = some u ∧ RelV (.int 20) u
  join : ∃ J : Addr, mg "JOINERS" = some (.ref J) ∧ ∀ H, SqT K H J (joins.map V.str)
end
end Lt

set_option Elab.async false
set_option linter.all false
set_option maxRecDepth 100000
set_option maxHeartbeats 1000000
/-! check_inputs, formula_tree -/
namespace Lt
open PySem PySem.Spec PyProof.Rows L2
/-- the name of an input -/
def xN (i : Nat) : Str := Str.empty ++ ("x" : Str) ++ Str.ofString (toString ((i : Nat) : Int))
def nmL (m : Nat) : List Str := (List.range m).map xN
theorem lexWords_ends (x : Str) : Ends1 (lexWords x) := ⟨_, _, rfl⟩
def RStr (_ : Hp) (v : V) (z : Str) : Prop := v = .str z
theorem RStr.all {H : Hp} : ∀ {zs : List V} {t : List Str}, Paired (RStr H) zs t → zs = t.map V.str
  | _, _, .nil => rfl
  | _, _, .cons r t => by rw [(show _ = V.str _ from r), RStr.all t]; rfl
theorem log_small {i : Nat} (h : i < 1000) : ((i : Nat) : Int).natAbs.log2 < 1920 := by
  rw [Int.natAbs_natCast]
  by_cases z : i = 0
  · subst z; decide +kernel
  · exact (Nat.log2_lt z).mpr (Nat.lt_of_lt_of_le h (by decide +kernel))
def tXn : TE := fun σ H Q => tJs [tC (.str "x"), tFmt (tVar 6)] Str.empty σ H fun out H1 => Q (.str out) H1
theorem xN_len : ∀ i, i < 6 → (Str.empty ++ ("x" : Str)).length ≤ 16777216 ∧ (xN i).length ≤ 16777216 := by decide +kernel
section
variable {P : Program} {w : World} {K : PySem.W.Frag} {mg : Str → Option Value} {base : Heap} {CB CN CS : Addr}
def spCheckIn : Sp := fun vs H Q _ => ∃ m : Nat, vs = [nI m] ∧ 1 ≤ m ∧ m ≤ 6 ∧ Q .non H
theorem sc_check_inputs : FnScope ["inputs"] ["inputs"] (defScope s_check_inputs) := ⟨rfl, rfl, rfl, by decide +kernel, rfl, by decide +kernel, by decide +kernel⟩
theorem has_check_inputs (T : Top K mg "check_inputs" s_check_inputs ["inputs"]) (G : ∃ u, mg "MOST_INPUTS" = some u ∧ RelV (.int 6) u) (X0 : Err0 K mg "BadNumber" CN) (hN : Has P w K mg base CX0 1 "is_number" ["value"] spNum) : Has P w K mg base (L2.CX P w) 3 "check_inputs" ["inputs"] spCheckIn := by
  refine T.okX sc_check_inputs (fun vs H Q E h => ?_) (fun f cdv A outer s H vs Q E hr h => ?_)
  · obtain ⟨m, rfl, _⟩ := h
    rfl
  · obtain ⟨m, rfl, h1, h6, q⟩ := h
    have hr1 : Room 1 _ := hr.mono (by decide)
    refine ⟨_, pss_one (ps_if (PW.pt (pw_or (pt_not (pt_val (pe_has hN hr1 (by rfl) (pa_cons (pv 0) pa_nil)))) (pw_or1 (pt_not (pt_chain op_le op_le pe_int (pv 0) (pe_gc2 (by rfl) G)))))) (pss_one (ps_raise rfl (takes_of rfl rfl rfl rfl) (pmk_err0 X0 (by rfl)))) pss_nil), ?_⟩
    refine ⟨_, rfl, nI m, .int m, rfl, .int _, true, rfl, iteF ⟨_, rfl, 1, (m : Int), rfl, rfl, true, congrArg V.bl (decide_eq_true (show (1 : Int) ≤ (m : Int) by omega)), iteT ⟨(m : Int), 6, rfl, rfl, true, congrArg V.bl (decide_eq_true (show (m : Int) ≤ 6 by omega)), iteF q⟩⟩⟩
def spFT (CB : Addr) : Sp := fun vs H Q E => ∃ (m : Nat) (x : Str), vs = [nI m, .str x] ∧ 1 ≤ m ∧ m ≤ 6 ∧ x.length ≤ 1000 ∧ Nms (nmL m) ∧ opens (lexWords x) ≤ 20 ∧
  (∀ p, prs (nmL m) 21 0 (lexWords x) = .error p → BadF CB "place" (nI p) H E) ∧
  (∀ r, prs (nmL m) 21 0 (lexWords x) = .ok r → (r.length < 2 → ∀ v H', Same H H' → TreV H' m 21 v → Q v H') ∧ ∀ t r', r = t :: r' → 2 ≤ r.length → BadF CB "place" (nI t.1) H E)
end
end Lt

set_option Elab.async false
set_option linter.all false
set_option maxRecDepth 100000
set_option maxHeartbeats 1000000
/-! tree_from of a formula that stands: the tree itself (for k04) -/
namespace Lt
open PySem PySem.Spec PyProof.Rows L2
inductive Fm
  | x (i : Nat)
  | no (f : Fm)
  | two (j : Str) (f g : Fm)
def Fm.spell : Fm → List Str
  | .x i => [xN i]
  | .no f => wNot :: f.spell
  | .two j f g => wOp :: (f.spell ++ (j :: (g.spell ++ [wCl])))
def Fm.deep : Fm → Nat
  | .x _ => 0
  | .no f => f.deep + 1
  | .two _ f g => max f.deep g.deep + 1
/-- over m inputs, joined by and, or, xor -/
def Fm.Ok (m : Nat) : Fm → Prop
  | .x i => i < m
  | .no f => f.Ok m
  | .two j f g => j ∈ joins ∧ f.Ok m ∧ g.Ok m
/-- the tree in the heap -/
def Fm.At (H : Hp) : Fm → V → Prop
  | .x i, v => v = nI i
  | .no f, v => ∃ a u, v = .ref a ∧ H a = some (.tup [.str wNot, u]) ∧ f.At H u
  | .two j f g, v => ∃ a u t, v = .ref a ∧ H a = some (.tup [.str j, u, t]) ∧ f.At H u ∧ g.At H t
theorem Fm.At.same {H H' : Hp} (e : Same H H') : ∀ {f : Fm} {v : V}, f.At H v → f.At H' v
  | .x _, _, h => h
  | .no _, _, ⟨a, u, h1, h2, h3⟩ => ⟨a, u, h1, e _ _ h2, Fm.At.same e h3⟩
  | .two _ _ _, _, ⟨a, u, t, h1, h2, h3, h4⟩ => ⟨a, u, t, h1, e _ _ h2, Fm.At.same e h3, Fm.At.same e h4⟩
theorem xN_inj : ∀ i, i < 6 → ∀ j, j < 6 → xN i = xN j → i = j := by decide +kernel
theorem nm_get {m i : Nat} (h : i < m) : (nmL m)[i]? = some (xN i) := by
  unfold nmL
  rw [List.getElem?_map, List.getElem?_range h]
  rfl
theorem nms_okE : ∀ m, m ≤ 6 → (wNot ∉ nmL m ∧ wOp ∉ nmL m ∧ wVoid ∉ nmL m) ∧ wX0 ∉ nmL m ∧ ("X" : Str) ∉ nmL m := by decide +kernel
section
variable {P : Program} {w : World} {K : PySem.W.Frag} {mg : Str → Option Value} {base : Heap} {CB : Addr}
def spTreeE (fu : Nat) : Sp := fun vs H Q _ => ∃ (n l : Addr) (at_ ar m : Nat) (ts : List Tok) (f : Fm) (rest : List Str), vs = [.ref n, .ref l, nI at_, nI ar] ∧ H n = some (.lst ((nmL m).map V.str)) ∧ m ≤ 6 ∧ LTk H l ts ∧ f.Ok m ∧ f.deep < fu ∧ ar + f.deep ≤ 20 ∧
  (ts.drop at_).map (·.2) = f.spell ++ rest ∧
  (∀ (a : Addr) (v : V) (k : Nat) (H' : Hp), Same H H' → H' a = some (.tup [v, nI k]) → f.At H' v → k = at_ + f.spell.length → Q (.ref a) H')
theorem tok_at {ts : List Tok} {k : Nat} {w0 : Str} {r : List Str} (h : (ts.drop k).map (·.2) = w0 :: r) : ∃ p, ts[k]? = some (p, w0) ∧ (ts.drop (k + 1)).map (·.2) = r := by
  cases hd : ts.drop k with
  | nil => rw [hd] at h; cases h
  | cons t ts' =>
    rw [hd] at h
    injection h with h1 h2
    refine ⟨t.1, ?_, ?_⟩
    · have := drop_get (n := 0) hd.symm rfl
      rw [← h1]
      exact this
    · have e := drop_tl hd.symm
      rw [← e]
      exact h2
end
end Lt

set_option Elab.async false
set_option linter.all false
set_option maxRecDepth 100000
set_option maxHeartbeats 1000000
/-! a comprehension over enumerate of a tuple -/
namespace Lt
open PySem PySem.Spec PyProof.Rows L2
theorem lc_enumM {K : PySem.W.Frag} {te : TE} {g : TG} {vs : List Nat} {σ : L2.St} {H1 : Hp} {D : Addr} {Qd : Hp → Prop} {β : Type} {j1 j2 : Nat} {a : Addr} {xs : List V} (R : Hp → V → β → Prop) (ys : List β)
    (mono : ∀ H H' v b, Tm H H' → R H v b → R H' v b) (hxK : ∀ H, Same H1 H → SqT K H a xs) (hz : xs.length ≤ 100000) (hy : ys.length = xs.length) (hD : H1 D = none)
    (hg : ∀ T x (i : Nat) σ H Q, H T = some (.tup [nI i, x]) → Q ((σ.set j1 (some (nI i))).set j2 (some x)) H → g (.ref T) σ H Q)
    (hw : ∀ x y, wipe (((wipe σ vs).set j1 x).set j2 y) vs = wipe σ vs)
    (he : ∀ (i : Nat) (x : V) (b : β), xs[i]? = some x → ys[i]? = some b → ∀ H, Same H1 H → ∀ Q : VK, (∀ v H', Same H H' → R H' v b → Q v H') → te (((wipe σ vs).set j1 (some (nI i))).set j2 (some x)) H Q)
    (hd : ∀ H zs, Same H1 H → H D = some (.lst zs) → Paired (R H) zs ys → Qd H) :
    ∃ W : Nat → Nat → Hp → Prop, (∃ m, W 0 m (upd H1 D (.lst []))) ∧ ∀ i m H, W i m H →
      ((Itet K a).stop i H ∧ Qd H) ∨ ((Itet K a).go i H ∧ ∃ Nx : Hp → Prop, (∀ H', Nx H' → ∃ m', m' < m ∧ W (i + 1) m' H') ∧ ∀ x H', (Itet K a).yld i H x H' → g x (wipe σ vs) H' fun σ2 H2 => wipe σ2 vs = wipe σ vs ∧ tYes σ2 H2 fun b H3 =>
        if b = true then te σ2 H3 fun y H4 => ∃ acc, H4 D = some (.lst acc) ∧ acc.length < sizeLine ∧ Nx (upd H4 D (.lst (acc ++ [y]))) else Nx H3) := by
  refine ⟨fun i m H => m = xs.length - i ∧ i ≤ xs.length ∧ Cm H1 D R ys i H, ⟨xs.length, by simp, Nat.zero_le _, same_new hD, [], upd_same, .nil, Nat.le_refl _⟩, ?_⟩
  rintro i m H ⟨rfl, hi, p⟩
  have q := hxK H p.1
  by_cases hlt : i < xs.length
  · refine .inr ⟨⟨xs, xs[i], q, by simp [hlt]⟩, Cm H1 D R ys (i + 1), fun H' p' => ⟨xs.length - (i + 1), by omega, rfl, hlt, p'⟩, fun y H' yl => ?_⟩
    obtain ⟨T, x, rfl, hT, rfl, hx⟩ := yl
    have hx := hx xs q
    have sT := same_new (o := .tup [V.int (i : Nat), x]) hT
    refine hg T x i _ _ _ upd_same ⟨hw _ _, iteT (B := Cm H1 D R ys (i + 1) (upd H T (.tup [V.int (i : Nat), x]))) ?_⟩
    have hb : ys[i]? = some (ys[i]'(by omega)) := List.getElem?_eq_getElem (by omega)
    obtain ⟨sm, zs, h1, pr, hl⟩ := p
    exact cm_turn mono hD ⟨sm.trans sT, zs, sT _ _ h1, paired_mono (fun a b r => mono _ _ _ _ (Tm.of sT) r) pr, hl⟩ (by omega) hb (he i x _ hx hb)
  · have e : i = xs.length := by omega
    subst e
    refine .inl ⟨⟨xs, q, rfl⟩, ?_⟩
    obtain ⟨sm, zs, h1, pr, _⟩ := p
    rw [← hy, List.take_length] at pr
    exact hd H zs sm h1 pr
end Lt

set_option Elab.async false
set_option linter.all false
set_option maxRecDepth 100000
set_option maxHeartbeats 1000000
/-! input_table, bits_of, worth_of -/
namespace Lt
open PySem PySem.Spec PyProof.Rows L2
def itab (m own : Nat) : List Nat := (List.range (2 ^ m)).map fun p => p / 2 ^ own % 2
theorem itab_len (m own : Nat) : (itab m own).length = 2 ^ m := by unfold itab; rw [List.length_map, List.length_range]
theorem itab_le {m own b : Nat} (h : b ∈ itab m own) : b ≤ 1 := by
  unfold itab at h
  obtain ⟨p, _, rfl⟩ := List.mem_map.mp h
  omega
/-- the numbers whose sum is a table's -/
def bitL (bs : List Nat) : List Int := (List.range bs.length).map fun i => (bs.getD i 0 : Int) * 2 ^ i
def RI (_ : Hp) (v : V) (n : Int) : Prop := v = .int n
theorem RI.all {H : Hp} : ∀ {zs : List V} {t : List Int}, Paired (RI H) zs t → zs = t.map V.int
  | _, _, .nil => rfl
  | _, _, .cons r t => by rw [(show _ = V.int _ from r), RI.all t]; rfl
theorem pow6 {m : Nat} (h : m ≤ 6) : 2 ^ m ≤ 64 := Nat.le_trans (Nat.pow_le_pow_right (by decide) h) (by decide)
section
variable {P : Program} {w : World} {K : PySem.W.Frag} {mg : Str → Option Value} {base : Heap}
def spITab : Sp := fun vs H Q _ => ∃ (m own : Nat), vs = [nI m, nI own] ∧ m ≤ 6 ∧ ∀ v H', Same H H' → TK H' v (itab m own) → Q v H'
def spBits : Sp := fun vs H Q _ => ∃ (v : V) (bs : List Nat), vs = [v] ∧ TK H v bs ∧ bs.length ≤ 64 ∧ (∀ b ∈ bs, b ≤ 1) ∧ ∀ H', Same H H' → Q (.int (bitL bs).sum) H'
def spWorth (m f : Nat) : Sp := fun vs H Q _ => ∃ (v : V) (l : Addr) (ns : List Int) (e : Int) (d : Nat), vs = [v, .ref l, .int e] ∧ TreV H m d v ∧ d < f ∧ H l = some (.lst (ns.map V.int)) ∧ ns.length = m ∧ ∀ i : Int, Q (.int i) H
end
end Lt

set_option Elab.async false
set_option linter.all false
set_option maxRecDepth 100000
set_option maxHeartbeats 1000000
/-! worth_of, exactly (for k04) -/
namespace Lt
open PySem PySem.Spec PyProof.Rows L2
def worthI (ns : List Int) (e : Int) : Fm → Int
  | .x i => ns.getD i 0
  | .no f => Builtin.bitXor e (worthI ns e f)
  | .two j f g => if j = ("and" : Str) then Builtin.bitAnd (worthI ns e f) (worthI ns e g) else if j = ("or" : Str) then Builtin.bitOr (worthI ns e f) (worthI ns e g) else Builtin.bitXor (worthI ns e f) (worthI ns e g)
section
variable {P : Program} {w : World} {K : PySem.W.Frag} {mg : Str → Option Value} {base : Heap}
def spWorthE (fu : Nat) : Sp := fun vs H Q _ => ∃ (v : V) (l : Addr) (ns : List Int) (e : Int) (g : Fm), vs = [v, .ref l, .int e] ∧ g.At H v ∧ g.deep < fu ∧ g.Ok ns.length ∧ H l = some (.lst (ns.map V.int)) ∧ Q (.int (worthI ns e g)) H
end
end Lt

set_option Elab.async false
set_option linter.all false
set_option maxRecDepth 100000
set_option maxHeartbeats 1000000
/-! the words of a text, without their places; what a formula comes to -/
namespace Lt
open PySem PySem.Spec PyProof.Rows L2
def isRun (c : Nat) : Bool := decide (c ∈ runS.cps.toList)
def flW (cur : List Nat) : List Str := if cur = [] then [] else [⟨cur.toArray⟩]
/-- the words that end within, and the run behind -/
def lexS : List Nat → List Nat → List Str × List Nat
  | cur, [] => ([], cur)
  | cur, c :: cs => if isRun c then lexS (cur ++ [c]) cs else (flW cur ++ (if c = 32 then [] else [⟨#[c]⟩]) ++ (lexS [] cs).1, (lexS [] cs).2)
theorem lexS_app : ∀ (a b cur : List Nat), lexS cur (a ++ b) = ((lexS cur a).1 ++ (lexS (lexS cur a).2 b).1, (lexS (lexS cur a).2 b).2)
  | [], b, cur => rfl
  | c :: a, b, cur => by
    rw [List.cons_append, lexS, lexS]
    by_cases h : isRun c = true
    · rw [if_pos h, if_pos h, lexS_app a b]
    · rw [if_neg h, if_neg h, lexS_app a b]
      simp only [List.append_assoc]
theorem lexS_run : ∀ {w cur : List Nat}, (∀ c ∈ w, isRun c = true) → lexS cur w = ([], cur ++ w)
  | [], cur, _ => by rw [List.append_nil]; rfl
  | c :: w, cur, h => by
    rw [lexS, if_pos (h c List.mem_cons_self), lexS_run fun x hx => h x (List.mem_cons_of_mem _ hx), List.append_assoc]
    rfl
theorem lexS_sps : ∀ n : Nat, lexS [] (List.replicate n 32) = ([], [])
  | 0 => rfl
  | n + 1 => by
    rw [List.replicate_succ, lexS, if_neg (by decide +kernel), lexS_sps n]
    rfl
theorem lexS_sp (cur : List Nat) (n : Nat) : lexS cur (List.replicate (n + 1) 32) = (flW cur, []) := by
  rw [List.replicate_succ, lexS, if_neg (by decide +kernel), lexS_sps n]
  simp
theorem isRun_iff {c : Nat} : isRun c = true ↔ c ∈ runS.cps.toList := by unfold isRun; exact decide_eq_true_iff
/-- the placed words' words -/
theorem lex_words {T : List Nat} : ∀ (rest done : List Nat) (st : List Tok × Nat) (cur : List Nat), T = done ++ rest → st.2 ≤ done.length → done.drop st.2 = cur →
    (flush T (lexFrom T st done.length rest) (done.length + rest.length)).map (·.2) = st.1.map (·.2) ++ ((lexS cur rest).1 ++ flW (lexS cur rest).2)
  | [], done, st, cur, hT, hl, hc => by
    rw [lex_nil, List.length_nil, Nat.add_zero]
    unfold flush
    show _ = _ ++ ([] ++ flW cur)
    rw [List.nil_append]
    unfold flW
    by_cases h : st.2 < done.length
    · rw [if_pos h, if_neg (by rw [← hc]; intro z; have := congrArg List.length z; rw [List.length_drop, List.length_nil] at this; omega), List.map_append]
      congr 1
      show [cut T st.2 done.length] = _
      unfold cut
      rw [hT, List.append_nil, hc, List.take_of_length_le (by rw [← hc, List.length_drop]; exact Nat.le_refl _)]
    · rw [if_neg h, if_pos (by rw [← hc]; exact List.drop_eq_nil_of_le (by omega)), List.append_nil]
  | c :: rest, done, st, cur, hT, hl, hc => by
    rw [lex_cons]
    have hT2 : T = (done ++ [c]) ++ rest := by rw [hT]; simp
    have l2 : (done ++ [c]).length = done.length + 1 := by simp
    have hcut : cut T st.2 done.length = ⟨cur.toArray⟩ := by
      unfold cut
      rw [hT, List.drop_append_of_le_length hl, hc, List.take_append_of_le_length (by rw [← hc, List.length_drop]; exact Nat.le_refl _), List.take_of_length_le (by rw [← hc, List.length_drop]; exact Nat.le_refl _)]
    have hfl : (flush T st done.length).map (·.2) = st.1.map (·.2) ++ flW cur := by
      unfold flush flW
      by_cases h : st.2 < done.length
      · rw [if_pos h, if_neg (by rw [← hc]; intro z; have := congrArg List.length z; rw [List.length_drop, List.length_nil] at this; omega), List.map_append]
        show _ ++ [cut T st.2 done.length] = _
        rw [hcut]
      · rw [if_neg h, if_pos (by rw [← hc]; exact List.drop_eq_nil_of_le (by omega)), List.append_nil]
    rw [lexS]
    by_cases h : c ∈ runS.cps.toList
    · rw [if_pos (isRun_iff.mpr h)]
      unfold lexStep
      rw [if_pos h]
      have := lex_words (T := T) rest (done ++ [c]) st (cur ++ [c]) hT2 (by rw [l2]; omega) (by rw [List.drop_append_of_le_length hl, hc])
      rw [l2] at this
      rw [List.length_cons, ← Nat.add_assoc, Nat.add_right_comm]
      exact this
    · rw [if_neg (fun z => h (isRun_iff.mp z))]
      unfold lexStep
      rw [if_neg h]
      have := lex_words (T := T) rest (done ++ [c]) (if c = 32 then flush T st done.length else flush T st done.length ++ [(done.length, ⟨#[c]⟩)], done.length + 1) [] hT2 (by rw [l2]; exact Nat.le_refl _) (by
        show (done ++ [c]).drop (done.length + 1) = []
        exact List.drop_eq_nil_of_le (by rw [l2]; exact Nat.le_refl _))
      rw [l2] at this
      rw [List.length_cons, ← Nat.add_assoc, Nat.add_right_comm, this]
      by_cases h32 : c = 32
      · simp only [if_pos h32]
        rw [hfl]
        simp only [List.append_assoc, List.nil_append]
      · simp only [if_neg h32]
        rw [List.map_append, hfl]
        simp only [List.append_assoc, List.map_cons, List.map_nil]
theorem lexWords_map (x : Str) : (lexWords x).map (·.2) = (lexS [] x.cps.toList).1 ++ flW (lexS [] x.cps.toList).2 ++ [wVoid] := by
  unfold lexWords lexWords.toks'
  rw [List.map_append]
  have := lex_words (T := x.cps.toList) x.cps.toList [] ([], 0) [] rfl (Nat.le_refl _) rfl
  rw [List.length_nil, Nat.zero_add] at this
  rw [this]
  rfl
/-! ### what a formula comes to -/
def evF : Fm → Nat → Nat
  | .x i, t => t / 2 ^ i % 2
  | .no f, t => 1 - evF f t
  | .two j f g, t => if j = ("and" : Str) then evF f t * evF g t else if j = ("or" : Str) then max (evF f t) (evF g t) else (evF f t + evF g t) % 2
theorem evF_le : ∀ (f : Fm) (t : Nat), evF f t ≤ 1
  | .x i, t => Nat.le_of_lt_succ (Nat.mod_lt _ (by decide))
  | .no f, t => Nat.sub_le ..
  | .two j f g, t => by
    have h1 := evF_le f t
    have h2 := evF_le g t
    unfold evF
    split
    · exact Nat.le_trans (Nat.mul_le_mul h1 h2) (by decide)
    · split
      · omega
      · omega
def tabF (m : Nat) (f : Fm) : List Nat := (List.range (2 ^ m)).map (evF f)
theorem tabF_len (m : Nat) (f : Fm) : (tabF m f).length = 2 ^ m := by unfold tabF; rw [List.length_map, List.length_range]
theorem tabF_le {m : Nat} {f : Fm} {b : Nat} (h : b ∈ tabF m f) : b ≤ 1 := by
  unfold tabF at h
  obtain ⟨t, _, rfl⟩ := List.mem_map.mp h
  exact evF_le f t
/-- the number of a table -/
def numB : List Nat → Nat
  | [] => 0
  | b :: bs => b + 2 * numB bs
theorem bitL_num : ∀ bs : List Nat, (bitL bs).sum = ((numB bs : Nat) : Int)
  | [] => rfl
  | b :: bs => by
    have e : bitL (b :: bs) = (b : Int) :: (bitL bs).map (fun z => 2 * z) := by
      unfold bitL
      rw [List.length_cons, List.range_succ_eq_map, List.map_cons, List.map_map, List.map_map]
      congr 1
      · show ((b : Nat) : Int) * 2 ^ 0 = _
        simp
      · refine List.map_congr_left fun i _ => ?_
        show (((b :: bs).getD (i + 1) 0 : Nat) : Int) * 2 ^ (i + 1) = 2 * (((bs.getD i 0 : Nat) : Int) * 2 ^ i)
        rw [List.getD_cons_succ, Int.pow_succ]
        have : ∀ a b : Int, a * (b * 2) = 2 * (a * b) := fun a b => by rw [← Int.mul_assoc, Int.mul_comm]
        exact this _ _
    have s : ∀ l : List Int, (l.map (fun z => 2 * z)).sum = 2 * l.sum := fun l => by
      induction l with
      | nil => rfl
      | cons a l ih => rw [List.map_cons, List.sum_cons, List.sum_cons, ih]; omega
    rw [e, List.sum_cons, s, bitL_num bs]
    show _ = ((b + 2 * numB bs : Nat) : Int)
    omega
theorem numB_bit : ∀ (bs : List Nat) (p : Nat), (∀ b ∈ bs, b ≤ 1) → numB bs / 2 ^ p % 2 = bs.getD p 0
  | [], p, _ => by simp [numB]
  | b :: bs, 0, h => by
    have := h b List.mem_cons_self
    show (b + 2 * numB bs) / 1 % 2 = b
    omega
  | b :: bs, p + 1, h => by
    have hb := h b List.mem_cons_self
    rw [List.getD_cons_succ, ← numB_bit bs p fun x hx => h x (List.mem_cons_of_mem _ hx), Nat.pow_succ, Nat.mul_comm, ← Nat.div_div_eq_div_mul]
    congr 2
    show (b + 2 * numB bs) / 2 = numB bs
    omega
theorem bit_xor (a b p : Nat) : (a ^^^ b) / 2 ^ p % 2 = (a / 2 ^ p % 2 + b / 2 ^ p % 2) % 2 := by
  have e := Nat.testBit_xor a b p
  rw [Nat.testBit_eq_decide_div_mod_eq, Nat.testBit_eq_decide_div_mod_eq, Nat.testBit_eq_decide_div_mod_eq] at e
  have h1 := Nat.mod_lt (a / 2 ^ p) (show 2 > 0 by decide)
  have h2 := Nat.mod_lt (b / 2 ^ p) (show 2 > 0 by decide)
  have h3 := Nat.mod_lt ((a ^^^ b) / 2 ^ p) (show 2 > 0 by decide)
  generalize a / 2 ^ p % 2 = x at *
  generalize b / 2 ^ p % 2 = y at *
  generalize (a ^^^ b) / 2 ^ p % 2 = z at *
  have hx : x = 0 ∨ x = 1 := by omega
  have hy : y = 0 ∨ y = 1 := by omega
  have hz : z = 0 ∨ z = 1 := by omega
  rcases hx with rfl | rfl <;> rcases hy with rfl | rfl <;> rcases hz with rfl | rfl <;> first | rfl | cases e
theorem bit_and (a b p : Nat) : (a &&& b) / 2 ^ p % 2 = (a / 2 ^ p % 2) * (b / 2 ^ p % 2) := by
  have e := Nat.testBit_and a b p
  rw [Nat.testBit_eq_decide_div_mod_eq, Nat.testBit_eq_decide_div_mod_eq, Nat.testBit_eq_decide_div_mod_eq] at e
  have h1 := Nat.mod_lt (a / 2 ^ p) (show 2 > 0 by decide)
  have h2 := Nat.mod_lt (b / 2 ^ p) (show 2 > 0 by decide)
  have h3 := Nat.mod_lt ((a &&& b) / 2 ^ p) (show 2 > 0 by decide)
  generalize a / 2 ^ p % 2 = x at *
  generalize b / 2 ^ p % 2 = y at *
  generalize (a &&& b) / 2 ^ p % 2 = z at *
  have hx : x = 0 ∨ x = 1 := by omega
  have hy : y = 0 ∨ y = 1 := by omega
  have hz : z = 0 ∨ z = 1 := by omega
  rcases hx with rfl | rfl <;> rcases hy with rfl | rfl <;> rcases hz with rfl | rfl <;> first | rfl | cases e
theorem bit_or (a b p : Nat) : (a ||| b) / 2 ^ p % 2 = max (a / 2 ^ p % 2) (b / 2 ^ p % 2) := by
  have e := Nat.testBit_or a b p
  rw [Nat.testBit_eq_decide_div_mod_eq, Nat.testBit_eq_decide_div_mod_eq, Nat.testBit_eq_decide_div_mod_eq] at e
  have h1 := Nat.mod_lt (a / 2 ^ p) (show 2 > 0 by decide)
  have h2 := Nat.mod_lt (b / 2 ^ p) (show 2 > 0 by decide)
  have h3 := Nat.mod_lt ((a ||| b) / 2 ^ p) (show 2 > 0 by decide)
  generalize a / 2 ^ p % 2 = x at *
  generalize b / 2 ^ p % 2 = y at *
  generalize (a ||| b) / 2 ^ p % 2 = z at *
  have hx : x = 0 ∨ x = 1 := by omega
  have hy : y = 0 ∨ y = 1 := by omega
  have hz : z = 0 ∨ z = 1 := by omega
  rcases hx with rfl | rfl <;> rcases hy with rfl | rfl <;> rcases hz with rfl | rfl <;> first | rfl | cases e
end Lt

set_option Elab.async false
set_option linter.all false
set_option maxRecDepth 100000
set_option maxHeartbeats 1000000
/-! table_of -/
namespace Lt
open PySem PySem.Spec PyProof.Rows L2
def leafL (m : Nat) : List Int := (List.range m).map fun own => (bitL (itab m own)).sum
section
variable {P : Program} {w : World} {K : PySem.W.Frag} {mg : Str → Option Value} {base : Heap} {CB : Addr}
def spTab (CB : Addr) : Sp := fun vs H Q E => ∃ (m : Nat) (x : Str), vs = [nI m, .str x] ∧ 1 ≤ m ∧ m ≤ 6 ∧ x.length ≤ 1000 ∧ Nms (nmL m) ∧ opens (lexWords x) ≤ 20 ∧
  (∀ p, prs (nmL m) 21 0 (lexWords x) = .error p → BadF CB "place" (nI p) H E) ∧
  (∀ r, prs (nmL m) 21 0 (lexWords x) = .ok r → (r.length < 2 → ∀ v H', Same H H' → Q v H') ∧ ∀ t r', r = t :: r' → 2 ≤ r.length → BadF CB "place" (nI t.1) H E)
end
end Lt

set_option Elab.async false
set_option linter.all false
set_option maxRecDepth 100000
set_option maxHeartbeats 1000000
/-! formula_tree and table_of, exactly -/
namespace Lt
open PySem PySem.Spec PyProof.Rows L2
theorem leafL_get {m i : Nat} (h : i < m) : (leafL m).getD i 0 = ((numB (itab m i) : Nat) : Int) := by
  unfold leafL
  rw [List.getD_eq_getElem?_getD, List.getElem?_map, List.getElem?_range h]
  exact bitL_num _
theorem pow_bit {K p : Nat} (h : p < K) : (2 ^ K - 1) / 2 ^ p % 2 = 1 := by
  have e := Nat.testBit_two_pow_sub_one K p
  rw [Nat.testBit_eq_decide_div_mod_eq, decide_eq_true h] at e
  exact of_decide_eq_true e
/-- a formula's number, bit by bit -/
theorem worth_bits (m : Nat) : ∀ f : Fm, f.Ok m → ∃ W : Nat, worthI (leafL m) (((2 ^ (2 ^ m) - 1 : Nat)) : Int) f = (W : Int) ∧ ∀ p, p < 2 ^ m → W / 2 ^ p % 2 = evF f p
  | .x i, ok => ⟨numB (itab m i), leafL_get ok, fun p hp => by
      rw [numB_bit _ _ fun b hb => itab_le hb]
      unfold itab
      rw [List.getD_eq_getElem?_getD, List.getElem?_map, List.getElem?_range hp]
      rfl⟩
  | .no f, ok => by
    obtain ⟨W, h1, h2⟩ := worth_bits m f ok
    refine ⟨(2 ^ (2 ^ m) - 1) ^^^ W, ?_, fun p hp => ?_⟩
    · rw [worthI, h1, Bits.bitXor_pp (Int.natCast_nonneg _) (Int.natCast_nonneg _), Int.toNat_natCast, Int.toNat_natCast]
    · rw [bit_xor, h2 p hp, pow_bit hp]
      show _ = 1 - evF f p
      have := evF_le f p
      omega
  | .two j f g, ok => by
    obtain ⟨hj, ok1, ok2⟩ := ok
    obtain ⟨V, h1, h2⟩ := worth_bits m f ok1
    obtain ⟨W, h3, h4⟩ := worth_bits m g ok2
    rw [worthI]
    unfold evF
    by_cases e1 : j = ("and" : Str)
    · refine ⟨V &&& W, ?_, fun p hp => ?_⟩
      · rw [if_pos e1, h1, h3, PyProof.Rows.bitAnd_pp (Int.natCast_nonneg _) (Int.natCast_nonneg _), Int.toNat_natCast, Int.toNat_natCast]
      · rw [if_pos e1, bit_and, h2 p hp, h4 p hp]
    · by_cases e2 : j = ("or" : Str)
      · refine ⟨V ||| W, ?_, fun p hp => ?_⟩
        · rw [if_neg e1, if_pos e2, h1, h3, Bits.bitOr_pp (Int.natCast_nonneg _) (Int.natCast_nonneg _), Int.toNat_natCast, Int.toNat_natCast]
        · rw [if_neg e1, if_pos e2, bit_or, h2 p hp, h4 p hp]
      · refine ⟨V ^^^ W, ?_, fun p hp => ?_⟩
        · rw [if_neg e1, if_neg e2, h1, h3, Bits.bitXor_pp (Int.natCast_nonneg _) (Int.natCast_nonneg _), Int.toNat_natCast, Int.toNat_natCast]
        · rw [if_neg e1, if_neg e2, bit_xor, h2 p hp, h4 p hp]
section
variable {P : Program} {w : World} {K : PySem.W.Frag} {mg : Str → Option Value} {base : Heap} {CB CS : Addr}
def spFTE : Sp := fun vs H Q E => ∃ (m : Nat) (x : Str) (f : Fm), vs = [nI m, .str x] ∧ 1 ≤ m ∧ m ≤ 6 ∧ x.length ≤ 1000 ∧ f.Ok m ∧ f.deep ≤ 20 ∧ (lexWords x).map (·.2) = f.spell ++ [wVoid] ∧ ∀ v H', Same H H' → f.At H' v → Q v H'
def spTabE : Sp := fun vs H Q E => ∃ (m : Nat) (x : Str) (f : Fm), vs = [nI m, .str x] ∧ 1 ≤ m ∧ m ≤ 6 ∧ x.length ≤ 1000 ∧ f.Ok m ∧ f.deep ≤ 20 ∧ (lexWords x).map (·.2) = f.spell ++ [wVoid] ∧ ∀ v H', Same H H' → TK H' v (tabF m f) → Q v H'
end
end Lt

set_option Elab.async false
set_option linter.all false
set_option maxRecDepth 100000
set_option maxHeartbeats 1000000
namespace Lt
open PySem PySem.Spec PyProof.Rows L2
section
variable {P : Program} {w : World} {K : PySem.W.Frag} {mg : Str → Option Value} {base : Heap}
/-! ### _law_pick, _law_is -/
def spPick (K : PySem.W.Frag) : Sp := fun vs H Q _ => ∃ (r l sc : Addr) (ns : List Int) (xs : List V), vs = [.ref r, .ref l] ∧ RowAt K H r sc ns ∧ H l = some (.lst xs) ∧ l ≠ r ∧ 1 ≤ xs.length ∧ xs.length ≤ 1000 ∧ ∀ x H', x ∈ xs → StepR r H H' → RowAt K H' r sc ns → Q x H'
theorem sc_law_pick : FnScope ["row", "things"] ["row", "things"] (defScope s_law_pick) := ⟨rfl, rfl, rfl, by decide +kernel, rfl, by decide +kernel, by decide +kernel⟩
theorem has_law_pick (T : Top K mg "_law_pick" s_law_pick ["row", "things"]) (B : Bi mg) (hT : Has P w K mg base CX0 1 "_law_taken" ["row", "many"] (spTaken K)) : Has P w K mg base CX0 2 "_law_pick" ["row", "things"] (spPick K) := by
  refine T.ok sc_law_pick (fun vs H Q E h => ?_) (fun f cdv A outer s H vs Q E hr h => ?_)
  · obtain ⟨r, l, sc, ns, xs, rfl, _⟩ := h
    rfl
  · obtain ⟨r, l, sc, ns, xs, rfl, ra, hl, hne, h1, h2, q⟩ := h
    refine ⟨_, pss_one (ps_ret (pe_ix ix_list (pv 1) (pe_has hT hr (by rfl) (pa_cons (pv 0) (pa_cons (pe_callB call_len_seq (by rfl) B.len PySem.boot_len (pa_cons (pv 1) pa_nil)) pa_nil))) (fun _ _ => rfl))), ?_⟩
    refine ⟨_, rfl, _, rfl, _, rfl, l, xs, rfl, .inl (SqL.of hl), r, sc, ns, xs.length, rfl, ra, h1, h2, fun x H' hx st ra' => ?_⟩
    exact ⟨l, xs, (x : Int), xs[x], rfl, rfl, SqL.of (st l _ hne hl), atI_nat (List.getElem?_eq_getElem hx), q _ H' (List.getElem_mem hx) st ra'⟩
end
end Lt

set_option Elab.async false
set_option linter.all false
set_option maxRecDepth 100000
set_option maxHeartbeats 1000000
/-! the law's formulas: _law_tree, _law_spelled -/
namespace Lt
open PySem PySem.Spec PyProof.Rows L2
/-- the law's name of an input -/
def xL (i : Nat) : Str := ("x" : Str) ++ Str.ofString (toString ((i : Nat) : Int))
theorem xL_xN : ∀ i, i < 6 → xL i = xN i := by decide +kernel
/-- a tree of the law's, and its words -/
inductive LTr (H : Hp) (m : Nat) : Nat → V → List Str → Prop
  | leaf {d i : Nat} {a : Addr} : H a = some (.tup [.str "x", nI i]) → i < m → LTr H m d (.ref a) [xL i]
  | neg {d : Nat} {a : Addr} {v : V} {ws : List Str} : H a = some (.tup [.str wNot, v]) → LTr H m d v ws → LTr H m (d + 1) (.ref a) (wNot :: ws)
  | two {d : Nat} {a : Addr} {j : Str} {v u : V} {ws us : List Str} : H a = some (.tup [.str j, v, u]) → j ∈ joins → LTr H m d v ws → LTr H m d u us → LTr H m (d + 1) (.ref a) ([wOp] ++ ws ++ [j] ++ us ++ [wCl])
theorem LTr.tm {H H' : Hp} {m d : Nat} {v : V} {ws : List Str} (e : Tm H H') (h : LTr H m d v ws) : LTr H' m d v ws := by
  induction h with
  | leaf h i => exact .leaf (e.1 _ _ h) i
  | neg h _ ih => exact .neg (e.1 _ _ h) ih
  | two h j _ _ i1 i2 => exact .two (e.1 _ _ h) j i1 i2
theorem Str_len (a b : Str) : (a ++ b).length = a.length + b.length := by
  show (a.cps ++ b.cps).size = _
  rw [Array.size_append]
  rfl
theorem ltr_len {H : Hp} {m d : Nat} {v : V} {ws : List Str} (h : LTr H m d v ws) : ws.length + 3 ≤ 2 ^ (d + 2) := by
  induction h with
  | @leaf d i a h hi =>
    have : 2 ^ 2 ≤ 2 ^ (d + 2) := Nat.pow_le_pow_right (by decide) (by omega)
    show 1 + 3 ≤ _
    omega
  | @neg d a v ws h _ ih =>
    have : 2 ^ (d + 1 + 2) = 2 * 2 ^ (d + 2) := by rw [Nat.pow_succ, Nat.mul_comm]
    rw [List.length_cons]
    omega
  | @two d a j v u ws us h j' _ _ i1 i2 =>
    have : 2 ^ (d + 1 + 2) = 2 * 2 ^ (d + 2) := by rw [Nat.pow_succ, Nat.mul_comm]
    simp only [List.length_append, List.length_cons, List.length_nil]
    omega
section
variable {P : Program} {w : World} {K : PySem.W.Frag} {mg : Str → Option Value} {base : Heap}
def spLTree (K : PySem.W.Frag) (f : Nat) : Sp := fun vs H Q _ => ∃ (r sc : Addr) (ns : List Int) (m d : Nat), vs = [.ref r, nI m, nI d] ∧ RowAt K H r sc ns ∧ 1 ≤ m ∧ m ≤ 6 ∧ d < f ∧ d ≤ 10 ∧ ∀ v ws H', StepR r H H' → RowAt K H' r sc ns → LTr H' m d v ws → Q v H'
def spSpell (f : Nat) : Sp := fun vs H Q _ => ∃ (z v : V) (m d : Nat) (ws : List Str), vs = [z, v] ∧ LTr H m d v ws ∧ m ≤ 6 ∧ d < f ∧ d ≤ 10 ∧ ∀ l H', Same H H' → H' l = some (.lst (ws.map V.str)) → Q (.ref l) H'
end
end Lt

set_option Elab.async false
set_option linter.all false
set_option maxRecDepth 100000
set_option maxHeartbeats 1000000
/-! _law_first -/
namespace Lt
open PySem PySem.Spec PyProof.Rows L2
theorem for_enumLT {K : PySem.W.Frag} {a : Addr} {xs : List V} {g : TG} {tb : TS} {D : Ends} {σ : L2.St} {H : Hp} (Pv : Nat → L2.St → Hp → Prop) (h0 : Pv 0 σ H) (hl : ∀ i σ H, i ≤ xs.length → Pv i σ H → SqL K H a xs)
    (hs : ∀ (i : Nat) (x : V) σ H T, xs[i]? = some x → Pv i σ H → H T = none → g (.ref T) σ (upd H T (.tup [nI i, x])) fun σ2 H2 => tb { D with nx := Pv (i + 1), ct := Pv (i + 1), bk := D.nx } σ2 H2) (hd : ∀ σ H, Pv xs.length σ H → D.nx σ H) :
    ∃ W : Nat → Nat → L2.St → Hp → Prop, (∃ m, W 0 m σ H) ∧ ∀ i m σ H, W i m σ H →
      ((Ite K a).stop i H ∧ D.nx σ H) ∨ ((Ite K a).go i H ∧ ∃ N : L2.St → Hp → Prop, (∀ σ' H', N σ' H' → ∃ m', m' < m ∧ W (i + 1) m' σ' H') ∧ ∀ x H', (Ite K a).yld i H x H' → g x σ H' fun σ2 H2 => tb { D with nx := N, ct := N, bk := D.nx } σ2 H2) := by
  refine ⟨fun i m σ H => m = xs.length - i ∧ i ≤ xs.length ∧ Pv i σ H, ⟨xs.length, by simp, Nat.zero_le _, h0⟩, ?_⟩
  rintro i m σ H ⟨rfl, hi, p⟩
  have q := hl i σ H hi p
  by_cases hlt : i < xs.length
  · refine .inr ⟨⟨xs, xs[i], q, by simp [hlt]⟩, Pv (i + 1), fun σ' H' p' => ⟨xs.length - (i + 1), by omega, rfl, hlt, p'⟩, fun x H' y => ?_⟩
    obtain ⟨T, z, rfl, hT, rfl, hz⟩ := y
    exact hs i z σ H T (hz xs q) p hT
  · have e : i = xs.length := by omega
    subst e
    exact .inl ⟨⟨xs, q, Nat.le_refl _⟩, hd σ H p⟩
def ndS : Nd → Str
  | .E => "E"
  | .W => "W"
  | .C => ")"
theorem dp_strs {K : PySem.W.Frag} {H : Hp} : ∀ ss : List Str, DpAll K H (ss.map V.str) (ss.map PyData.str)
  | [] => .nil
  | s :: ss => .cons (.str s) (dp_strs ss)
theorem depth_strs : ∀ ss : List Str, PyData.depthAll (ss.map PyData.str) = 0
  | [] => rfl
  | s :: ss => by
    show max (PyData.depth (.str s)) (PyData.depthAll (ss.map PyData.str)) = 0
    rw [depth_strs ss]
    rfl
theorem can_nds : ∀ u : List Nd, PyData.canLayAll0 ((u.map ndS).map PyData.str) = true
  | [] => rfl
  | n :: u => by
    show (PyData.canLay0 (.str (ndS n)) && PyData.canLayAll0 ((u.map ndS).map PyData.str)) = true
    rw [can_nds u, Bool.and_true]
    cases n <;> decide +kernel
theorem sh_nds (u : List Nd) : SeqAt.shaped (.list ((u.map ndS).map PyData.str)) = true := by
  show (PyData.canLayAll0 ((u.map ndS).map PyData.str) && decide (PyData.depthAll ((u.map ndS).map PyData.str) + 1 ≤ 64)) = true
  rw [can_nds, depth_strs]
  rfl
theorem eqv_nil (ss : List Str) : PyData.eqv (.list (ss.map PyData.str)) (.list []) = decide (ss = []) := by
  cases ss with
  | nil => rfl
  | cons s ss => rfl
theorem cut_tl (x : V) (xs : List V) : cutV (x :: xs) (some 1) none = xs := by
  unfold cutV
  rw [show (1 : Int) = ((1 : Nat) : Int) from rfl, HT.sIx_nat, HT.sIx_none, List.length_cons, Nat.min_eq_left (by omega)]
  show List.take (xs.length + 1 - 1) xs = xs
  rw [Nat.add_sub_cancel, List.take_length]
/-- what the law says of words -/
def dueAt (ns : List Str) (ws : List Str) : V := if (mach ns [.E] ws).1 < ws.length then nI (mach ns [.E] ws).1 else if (mach ns [.E] ws).2 = [] then .non else nI ws.length
section
variable {P : Program} {w : World} {K : PySem.W.Frag} {mg : Str → Option Value} {base : Heap}
def spFirst : Sp := fun vs H Q _ => ∃ (l : Addr) (m : Nat) (ws : List Str), vs = [.ref l, nI m] ∧ H l = some (.lst (ws.map V.str)) ∧ m ≤ 6 ∧ ws.length ≤ 1000 ∧ ∀ H', Same H H' → Q (dueAt (nmL m) ws) H'
end
end Lt

set_option Elab.async false
set_option linter.all false
set_option maxRecDepth 100000
set_option maxHeartbeats 1000000
/-! the law's words -/
namespace Lt
open PySem PySem.Spec PyProof.Rows L2
def sps (n : Nat) : Str := ⟨(List.replicate n 32).toArray⟩
theorem mul_sp : ∀ n : Nat, n ≤ 2 → Txt.mul (" " : Str) (n : Int) = sps n := by decide +kernel
theorem mulOk_sp (n : Nat) (h : n ≤ 2) : MulOk (" " : Str) (n : Int) := by
  have : n = 0 ∨ n = 1 ∨ n = 2 := by omega
  rcases this with rfl | rfl | rfl
  · exact ⟨by decide +kernel, fun h => absurd (by decide) h, fun h => absurd (by decide) h⟩
  · exact ⟨by decide +kernel, fun _ h => absurd h (by decide +kernel), fun _ h => absurd h (by decide +kernel)⟩
  · exact ⟨by decide +kernel, fun _ _ => by decide +kernel, fun _ _ => by decide +kernel⟩
def rSp : R2 := fun x y H Q => ∃ n : Nat, x = .str " " ∧ y = .int (n : Int) ∧ n ≤ 2 ∧ Q (.str (sps n)) H
theorem op_sp {X : Cx} : OpR X (binaryOp .Mult) rSp := by
  intro pins s σ H x y v u Q I rx ry h
  obtain ⟨n, rfl, rfl, hn, q⟩ := h
  obtain ⟨t, rfl⟩ := rx
  obtain ⟨t', rfl⟩ := ry
  refine SB.mul (mulOk_sp n hn) fun t' k => ⟨.str (sps n), H, I.tok _, ⟨t', ?_⟩, q⟩
  rw [mul_sp n hn]
/-- all words that the law can write -/
def allW : List Str := ["not", "and", "or", "xor", "(", ")", "x9", "x", "nor", "x00", "0", "+", "X0", xL 0, xL 1, xL 2, xL 3, xL 4, xL 5]
def wdB (w : Str) : Bool := (decide (w.cps.toList ≠ []) && w.cps.toList.all fun c => decide (c ∈ runS.cps.toList)) || (decide (w.cps.size = 1) && w.cps.toList.all fun c => decide (c ∉ runS.cps.toList) && decide (c ≠ 32)) || decide (w = wX0)
theorem wd_of {w : Str} (h : wdB w = true) : WdT w := by
  unfold wdB at h
  rw [Bool.or_eq_true, Bool.or_eq_true, Bool.and_eq_true, Bool.and_eq_true] at h
  rcases h with (⟨h1, h2⟩ | ⟨h1, h2⟩) | h
  · exact .inl ⟨of_decide_eq_true h1, fun c hc => of_decide_eq_true (List.all_eq_true.mp h2 c hc)⟩
  · obtain ⟨⟨a⟩⟩ := w
    have h1 : a.length = 1 := of_decide_eq_true h1
    match a, h1 with
    | [c], _ =>
      have h3 := List.all_eq_true.mp h2 c List.mem_cons_self
      rw [Bool.and_eq_true] at h3
      exact .inr (.inl ⟨c, rfl, of_decide_eq_true h3.1, of_decide_eq_true h3.2⟩)
  · exact .inr (.inr (of_decide_eq_true h))
theorem allW_ok : ∀ w ∈ allW, wdB w = true ∧ w.length ≤ 3 := by decide +kernel
theorem allW_x : ∀ i, i < 6 → xL i ∈ allW := by decide +kernel
def opW (ws : List Str) : Nat := (ws.filter isOpen).length
theorem opW_app (a b : List Str) : opW (a ++ b) = opW a + opW b := by unfold opW; rw [List.filter_append, List.length_append]
theorem opW_one (w : Str) : opW [w] ≤ 1 := by unfold opW; exact List.length_filter_le _ _
theorem opW_td (ws : List Str) (i : Nat) : opW (ws.take i) + opW (ws.drop i) = opW ws := by rw [← opW_app, List.take_append_drop]
theorem opW_dr (ws : List Str) (i : Nat) : opW (ws.drop (i + 1)) ≤ opW (ws.drop i) := by
  have := opW_td (ws.drop i) 1
  rw [List.drop_drop] at this
  omega
theorem xL_open : ∀ i, i < 6 → isOpen (xL i) = false := by decide +kernel
theorem ltr_all {H : Hp} {m d : Nat} {v : V} {ws : List Str} (hm : m ≤ 6) (h : LTr H m d v ws) : opW ws + 1 ≤ 2 ^ d ∧ ∀ w ∈ ws, w ∈ allW := by
  induction h with
  | @leaf d i a h hi =>
    have h1 : 1 ≤ 2 ^ d := Nat.one_le_two_pow
    refine ⟨?_, fun w hw => ?_⟩
    · have : opW [xL i] = 0 := by unfold opW; rw [List.filter_cons, xL_open i (by omega)]; rfl
      omega
    · rw [List.mem_singleton.mp hw]
      exact allW_x i (by omega)
  | @neg d a v ws h _ ih =>
    have : 2 ^ (d + 1) = 2 * 2 ^ d := by rw [Nat.pow_succ, Nat.mul_comm]
    have h1 : 1 ≤ 2 ^ d := Nat.one_le_two_pow
    have h2 := opW_app [wNot] ws
    have h3 := opW_one wNot
    refine ⟨?_, fun w hw => ?_⟩
    · show opW ([wNot] ++ ws) + 1 ≤ _
      omega
    · rcases List.mem_cons.mp hw with rfl | hw
      · exact by decide +kernel
      · exact ih.2 w hw
  | @two d a j v u ws us h hj _ _ i1 i2 =>
    have : 2 ^ (d + 1) = 2 * 2 ^ d := by rw [Nat.pow_succ, Nat.mul_comm]
    have h3 := opW_one wOp
    have h4 : opW [j] = 0 := by
      have : ∀ j ∈ joins, opW [j] = 0 := by decide +kernel
      exact this j hj
    have h5 : opW [wCl] = 0 := by decide +kernel
    refine ⟨?_, fun w hw => ?_⟩
    · simp only [opW_app]
      omega
    · simp only [List.mem_append, List.mem_singleton] at hw
      rcases hw with (((rfl | hw) | rfl) | hw) | rfl
      · exact by decide +kernel
      · exact i1.2 w hw
      · have : ∀ j ∈ joins, j ∈ allW := by decide +kernel
        exact this _ hj
      · exact i2.2 w hw
      · exact by decide +kernel
theorem open_no : ¬ isOpen ("X" : Str) = true ∧ ¬ isOpen ("0" : Str) = true ∧ ¬ isOpen wVoid = true := by decide +kernel
theorem opens_flat : ∀ P : List Tok, opens (P.flatMap flat) ≤ opW (P.map (·.2))
  | [] => Nat.le_refl _
  | t :: P => by
    have ih := opens_flat P
    rw [List.flatMap_cons, List.map_cons]
    have h1 := opW_app [t.2] (P.map (·.2))
    have h2 : opens (flat t ++ P.flatMap flat) = opens (flat t) + opens (P.flatMap flat) := by unfold opens; rw [List.filter_append, List.length_append]
    have h3 : opens (flat t) ≤ opW [t.2] := by
      unfold flat
      split
      · have e : opens [(t.1, ("X" : Str)), (t.1 + 1, ("0" : Str))] = 0 := by
          unfold opens
          rw [List.filter_cons, List.filter_cons, if_neg open_no.1, if_neg open_no.2.1]
          rfl
        omega
      · unfold opens opW
        rw [List.filter_cons, List.filter_cons]
        split <;> exact Nat.le_refl _
    show _ ≤ opW ([t.2] ++ P.map (·.2))
    omega
theorem opens_toks (P : List Tok) (e : Nat) : opens (toks P e) ≤ opW (P.map (·.2)) := by
  have h := opens_flat P
  have h2 : opens (toks P e) = opens (P.flatMap flat) + opens [(e, wVoid)] := by unfold toks opens; rw [List.filter_append, List.length_append]
  have h3 : opens [(e, wVoid)] = 0 := by unfold opens; rw [List.filter_cons, if_neg open_no.2.2]; rfl
  omega
theorem nms_ok : ∀ m, m ≤ 6 → (wNot ∉ nmL m ∧ wOp ∉ nmL m ∧ wVoid ∉ nmL m) ∧ wX0 ∉ nmL m ∧ ("X" : Str) ∉ nmL m := by decide +kernel
theorem lex_bt {T : List Nat} {P : List Tok} (h : Bt T P) (n : Nat) (hn : n < 2) {x : Str} (hx : x.cps.toList = T ++ List.replicate n 32) : lexWords x = toks P x.length := by
  have e : x.cps.toList.length = x.length := Array.length_toList
  unfold lexWords lexWords.toks'
  rw [hx, h.all n hn, ← hx, e]
  rfl
/-- what the program does with the law's text -/
theorem prog_law {m : Nat} (hm : m ≤ 6) {T : List Nat} {P : List Tok} (h : Bt T P) (n : Nat) (hn : n < 2) {x : Str} (hx : x.cps.toList = T ++ List.replicate n 32) (ho : opW (P.map (·.2)) ≤ 20) :
    let k := (mach (nmL m) [.E] (P.map (·.2))).1
    let u := (mach (nmL m) [.E] (P.map (·.2))).2
    let due : Option Nat := if k < P.length then P[k]?.map (·.1) else if u = [] then none else some x.length
    (∀ p, prs (nmL m) 21 0 (lexWords x) = .error p → due = some p) ∧
    (∀ r, prs (nmL m) 21 0 (lexWords x) = .ok r → (r.length < 2 → due = none) ∧ ∀ t r', r = t :: r' → 2 ≤ r.length → due = some t.1) := by
  dsimp only
  obtain ⟨⟨a1, a2, a3⟩, a4, a5⟩ := nms_ok m hm
  have N : Nms (nmL m) := ⟨a1, a2, a3⟩
  have eL := lex_bt h n hn hx
  have hop := opens_toks P x.length
  have A := prs_mach N 21 0 (lexWords x) [] (lexWords_ends x) (by rw [eL]; omega) (by rw [eL]; omega)
  obtain ⟨b1, b2, b3⟩ := toks_mach N a4 a5 x.length P [.E]
  rw [eL] at A ⊢
  refine ⟨fun p hp => ?_, fun r hp => ?_⟩
  · rw [hp] at A
    obtain ⟨t, c1, c2, c3⟩ := A
    rw [b1] at c1 c3
    have b4 := b3 t c1
    by_cases hl : (mach (nmL m) [.E] (P.map (·.2))).1 < P.length
    · rw [if_pos hl] at b4 ⊢
      rw [b4.1, c2]
    · rw [if_neg hl] at b4 ⊢
      rw [if_neg c3, ← b4.1, c2]
  · rw [hp] at A
    obtain ⟨c0, k, c1, _, c2⟩ := A
    have c3 : mach (nmL m) [] (r.map (·.2)) = (0, []) := by
      cases r with
      | nil => exact absurd rfl c0.ne
      | cons t r => exact mach_none rfl
    rw [c3, b1] at c2
    have ek : (mach (nmL m) [.E] (P.map (·.2))).1 = k := by rw [c2]; rfl
    have eu : (mach (nmL m) [.E] (P.map (·.2))).2 = [] := by rw [c2]
    have hr : r.length = (toks P x.length).length - k := by rw [c1, List.length_drop]
    have hpos := List.length_pos_iff.mpr c0.ne
    obtain ⟨t0, r0, er⟩ : ∃ t r', r = t :: r' := by
      cases r with
      | nil => exact absurd rfl c0.ne
      | cons t r => exact ⟨t, r, rfl⟩
    have hg : (toks P x.length)[k]? = some t0 := by
      rw [er] at c1
      exact drop_get (n := 0) c1 rfl
    rw [ek] at b3 ⊢
    have b4 := b3 t0 hg
    refine ⟨fun h2 => ?_, fun t r' e h2 => ?_⟩
    · by_cases hl : k < P.length
      · rw [if_pos hl] at b4
        have := b4.2
        omega
      · rw [if_neg hl, if_pos eu]
    · have et : t = t0 := by rw [er] at e; injection e with e _; exact e.symm
      by_cases hl : k < P.length
      · rw [if_pos hl] at b4 ⊢
        rw [b4.1, et]
      · rw [if_neg hl] at b4
        have := b4.2
        omega
end Lt

set_option Elab.async false
set_option linter.all false
set_option maxRecDepth 100000
set_option maxHeartbeats 2000000
/-! comprehensions whose parts draw from the row -/
namespace Lt
open PySem PySem.Spec PyProof.Rows L2
section
variable {K : PySem.W.Frag} {te : TE} {vs : List Nat} {σ : L2.St} {H1 : Hp} {D r sc : Addr} {ns : List Int} {Qd : Hp → Prop} {β : Type} {j : Nat}
def Cd (K : PySem.W.Frag) (r sc : Addr) (ns : List Int) (H1 : Hp) (D : Addr) (R : Hp → V → β → Prop) (ok : β → Prop) (i : Nat) (H : Hp) : Prop :=
  StepR r H1 H ∧ RowAt K H r sc ns ∧ ∃ zs bs, H D = some (.lst zs) ∧ Paired (R H) zs bs ∧ bs.length = i ∧ ∀ b ∈ bs, ok b
theorem cd_zero {R : Hp → V → β → Prop} {ok : β → Prop} (ra : RowAt K H1 r sc ns) (hD : H1 D = none) : Cd K r sc ns H1 D R ok 0 (upd H1 D (.lst [])) :=
  ⟨.of (same_new hD), ra.step (same_new hD), [], [], upd_same, .nil, rfl, fun _ h => nomatch h⟩
theorem cd_turn {R : Hp → V → β → Prop} {ok : β → Prop} {i : Nat} {H : Hp} {σ2 : L2.St} (mono : ∀ H H' v b, Tm H H' → R H v b → R H' v b) (ra1 : RowAt K H1 r sc ns) (hD : H1 D = none) (p : Cd K r sc ns H1 D R ok i H) (hi : i < 100000)
    (he : ∀ H, StepR r H1 H → RowAt K H r sc ns → ∀ Q : VK, (∀ v H' b, StepR r H H' → RowAt K H' r sc ns → R H' v b → ok b → Q v H') → te σ2 H Q) :
    te σ2 H fun y H4 => ∃ acc, H4 D = some (.lst acc) ∧ acc.length < sizeLine ∧ Cd K r sc ns H1 D R ok (i + 1) (upd H4 D (.lst (acc ++ [y]))) := by
  obtain ⟨st, ra, zs, bs, hz, pr, hl, hok⟩ := p
  refine he H st ra _ fun v H4 b st4 ra4 hr hb => ?_
  have hDr : D ≠ r := (ra1.ne hD).symm
  have h4 := st4 _ _ hDr hz
  have t4 : Tm H4 (upd H4 D (.lst (zs ++ [v]))) := Tm.lst h4
  have hzl := Paired.length pr
  refine ⟨zs, h4, by rw [hzl, hl]; exact Nat.lt_of_lt_of_le hi (by decide), (st.trans st4).mut hD, RowAt.mut ra1 hD ra4, zs ++ [v], bs ++ [b], upd_same, ?_, by rw [List.length_append, hl]; rfl, fun c hc => ?_⟩
  · exact Paired.app (paired_mono (fun a b q => mono _ _ _ _ ((st4.tm ra).trans t4) q) pr) (Paired.one (mono _ _ _ _ t4 hr))
  · rcases List.mem_append.mp hc with h | h
    · exact hok c h
    · rw [List.mem_singleton.mp h]
      exact hb
/-- over a range -/
theorem lc_rangeS {n : Nat} (R : Hp → V → β → Prop) (ok : β → Prop) (mono : ∀ H H' v b, Tm H H' → R H v b → R H' v b) (ra : RowAt K H1 r sc ns) (hz : n ≤ 100000) (hD : H1 D = none)
    (hw : ∀ x, wipe ((wipe σ vs).set j (some x)) vs = wipe σ vs)
    (he : ∀ (i : Nat), i < n → ∀ H, StepR r H1 H → RowAt K H r sc ns → ∀ Q : VK, (∀ v H' b, StepR r H H' → RowAt K H' r sc ns → R H' v b → ok b → Q v H') → te ((wipe σ vs).set j (some (.int ((0 : Int) + (i : Nat))))) H Q)
    (hd : ∀ H zs bs, StepR r H1 H → RowAt K H r sc ns → H D = some (.lst zs) → Paired (R H) zs bs → bs.length = n → (∀ b ∈ bs, ok b) → Qd H) :
    ∃ W : Nat → Nat → Hp → Prop, (∃ m, W 0 m (upd H1 D (.lst []))) ∧ ∀ i m H, W i m H →
      ((Itr 0 n).stop i H ∧ Qd H) ∨ ((Itr 0 n).go i H ∧ ∃ Nx : Hp → Prop, (∀ H', Nx H' → ∃ m', m' < m ∧ W (i + 1) m' H') ∧ ∀ x H', (Itr 0 n).yld i H x H' → gName j x (wipe σ vs) H' fun σ2 H2 => wipe σ2 vs = wipe σ vs ∧ tYes σ2 H2 fun b H3 =>
        if b = true then te σ2 H3 fun y H4 => ∃ acc, H4 D = some (.lst acc) ∧ acc.length < sizeLine ∧ Nx (upd H4 D (.lst (acc ++ [y]))) else Nx H3) :=
  lc_range (lo := 0) (n := n) (Cd K r sc ns H1 D R ok) (cd_zero ra hD)
    (fun i H hi p => ⟨hw _, iteT (B := Cd K r sc ns H1 D R ok (i + 1) H) (cd_turn mono ra hD p (by omega) (he i hi))⟩)
    (fun H p => by
      obtain ⟨st, ra', zs, bs, h1, pr, hl, hok⟩ := p
      exact hd H zs bs st ra' h1 pr hl hok)
/-- over a list that stays -/
theorem lc_listS {a : Addr} {xs : List V} (R : Hp → V → β → Prop) (ok : β → Prop) (mono : ∀ H H' v b, Tm H H' → R H v b → R H' v b) (ra : RowAt K H1 r sc ns) (hx : H1 a = some (.lst xs)) (har : a ≠ r) (hz : xs.length ≤ 100000) (hD : H1 D = none)
    (hw : ∀ x, wipe ((wipe σ vs).set j (some x)) vs = wipe σ vs)
    (he : ∀ (i : Nat) (x : V), xs[i]? = some x → ∀ H, StepR r H1 H → RowAt K H r sc ns → ∀ Q : VK, (∀ v H' b, StepR r H H' → RowAt K H' r sc ns → R H' v b → ok b → Q v H') → te ((wipe σ vs).set j (some x)) H Q)
    (hd : ∀ H zs bs, StepR r H1 H → RowAt K H r sc ns → H D = some (.lst zs) → Paired (R H) zs bs → bs.length = xs.length → (∀ b ∈ bs, ok b) → Qd H) :
    ∃ W : Nat → Nat → Hp → Prop, (∃ m, W 0 m (upd H1 D (.lst []))) ∧ ∀ i m H, W i m H →
      ((Itl K a).stop i H ∧ Qd H) ∨ ((Itl K a).go i H ∧ ∃ Nx : Hp → Prop, (∀ H', Nx H' → ∃ m', m' < m ∧ W (i + 1) m' H') ∧ ∀ x H', (Itl K a).yld i H x H' → gName j x (wipe σ vs) H' fun σ2 H2 => wipe σ2 vs = wipe σ vs ∧ tYes σ2 H2 fun b H3 =>
        if b = true then te σ2 H3 fun y H4 => ∃ acc, H4 D = some (.lst acc) ∧ acc.length < sizeLine ∧ Nx (upd H4 D (.lst (acc ++ [y]))) else Nx H3) :=
  lc_list (xs := xs) (Cd K r sc ns H1 D R ok) (cd_zero ra hD) (fun i H _ p => SqL.of (p.1 _ _ har hx))
    (fun i x H hi p => ⟨hw x, iteT (B := Cd K r sc ns H1 D R ok (i + 1) H) (by
      have hl := (List.getElem?_eq_some_iff.mp hi).1
      exact cd_turn mono ra hD p (by omega) (he i x hi))⟩)
    (fun H p => by
      obtain ⟨st, ra', zs, bs, h1, pr, hl, hok⟩ := p
      exact hd H zs bs st ra' h1 pr hl hok)
end
theorem rn_mono : ∀ (H H' : Hp) (v : V) (b : Nat), Tm H H' → RN H v b → RN H' v b := fun _ _ _ _ _ r => r
end Lt

set_option Elab.async false
set_option linter.all false
set_option maxRecDepth 100000
set_option maxHeartbeats 1000000
/-! k04: the law's trees and texts -/
namespace Lt
open PySem PySem.Spec PyProof.Rows L2
/-- the law's tree -/
def Fm.LAt (H : Hp) : Fm → V → Prop
  | .x i, v => ∃ a, v = .ref a ∧ H a = some (.tup [.str "x", nI i])
  | .no f, v => ∃ a u, v = .ref a ∧ H a = some (.tup [.str wNot, u]) ∧ f.LAt H u
  | .two j f g, v => ∃ a u t, v = .ref a ∧ H a = some (.tup [.str j, u, t]) ∧ f.LAt H u ∧ g.LAt H t
theorem Fm.LAt.tm {H H' : Hp} (e : Tm H H') : ∀ {f : Fm} {v : V}, f.LAt H v → f.LAt H' v
  | .x _, _, ⟨a, h1, h2⟩ => ⟨a, h1, e.1 _ _ h2⟩
  | .no _, _, ⟨a, u, h1, h2, h3⟩ => ⟨a, u, h1, e.1 _ _ h2, Fm.LAt.tm e h3⟩
  | .two _ _ _, _, ⟨a, u, t, h1, h2, h3, h4⟩ => ⟨a, u, t, h1, e.1 _ _ h2, Fm.LAt.tm e h3, Fm.LAt.tm e h4⟩
def spellOf (x : Str) : List Str := (lexS [] x.cps.toList).1 ++ flW (lexS [] x.cps.toList).2
theorem cps_app (a b : Str) : (a ++ b).cps.toList = a.cps.toList ++ b.cps.toList := Array.toList_append
theorem Str_assoc (a b c : Str) : a ++ b ++ c = a ++ (b ++ c) := by
  show (⟨(a.cps ++ b.cps) ++ c.cps⟩ : Str) = ⟨a.cps ++ (b.cps ++ c.cps)⟩
  rw [Array.append_assoc]
theorem sps_cps (n : Nat) : (sps n).cps.toList = List.replicate n 32 := rfl
theorem xN_run : ∀ i, i < 6 → ((xN i).cps.toList.all isRun = true ∧ (xN i).cps.toList ≠ []) := by decide +kernel
theorem lex_gap (n : Nat) (z : List Nat) : lexS [] (List.replicate n 32 ++ z) = lexS [] z := by
  rw [lexS_app, lexS_sps, List.nil_append]
theorem flW_run {w : Str} (h : w.cps.toList ≠ []) : flW w.cps.toList = [w] := by
  unfold flW
  rw [if_neg h]
theorem tx_leaf (g : Nat) {i : Nat} (hi : i < 6) : spellOf (sps g ++ xN i) = [xN i] := by
  unfold spellOf
  obtain ⟨h1, h2⟩ := xN_run i hi
  rw [cps_app, sps_cps, lex_gap, lexS_run fun c hc => List.all_eq_true.mp h1 c hc, List.nil_append, List.nil_append, flW_run h2]
theorem not_cps : ("not " : Str).cps.toList = wNot.cps.toList ++ [32] := by decide +kernel
theorem not_run : wNot.cps.toList.all isRun = true ∧ wNot.cps.toList ≠ [] := by decide +kernel
theorem lex_wsp {w : Str} (h1 : w.cps.toList.all isRun = true) (h2 : w.cps.toList ≠ []) (z : List Nat) : lexS [] (w.cps.toList ++ ([32] ++ z)) = (w :: (lexS [] z).1, (lexS [] z).2) := by
  rw [lexS_app, lexS_run fun c hc => List.all_eq_true.mp h1 c hc, lexS_app, show ([32] : List Nat) = List.replicate (0 + 1) 32 from rfl, lexS_sp, List.nil_append, List.nil_append, flW_run h2]
  rfl
theorem tx_not (g : Nat) (x : Str) : spellOf (sps g ++ ("not " : Str) ++ x) = wNot :: spellOf x := by
  unfold spellOf
  rw [cps_app, cps_app, sps_cps, List.append_assoc, lex_gap, not_cps, List.append_assoc, lex_wsp not_run.1 not_run.2]
  rfl
theorem op_cps : wOp.cps.toList = [40] ∧ wCl.cps.toList = [41] ∧ wOp = ⟨#[40]⟩ ∧ wCl = ⟨#[41]⟩ ∧ isRun 40 = false ∧ isRun 41 = false := by decide +kernel
theorem join_run {j : Str} (h : j ∈ joins) : j.cps.toList.all isRun = true ∧ j.cps.toList ≠ [] := by
  have : ∀ j ∈ joins, j.cps.toList.all isRun = true ∧ j.cps.toList ≠ [] := by decide +kernel
  exact this j h
theorem lexS_op (z : List Nat) : lexS [] ([40] ++ z) = (wOp :: (lexS [] z).1, (lexS [] z).2) := by
  show lexS [] (40 :: z) = _
  rw [lexS, if_neg (by rw [op_cps.2.2.2.2.1]; decide), op_cps.2.2.1]
  rfl
theorem tx_two (g : Nat) {j : Str} (hj : j ∈ joins) (x y : Str) : spellOf (sps g ++ wOp ++ x ++ (" " : Str) ++ j ++ (" " : Str) ++ y ++ sps g ++ wCl) = wOp :: (spellOf x ++ (j :: (spellOf y ++ [wCl]))) := by
  unfold spellOf
  obtain ⟨r1, r2⟩ := join_run hj
  have sp : (" " : Str).cps.toList = [32] := by decide +kernel
  simp only [cps_app, sps_cps, sp, op_cps.1, op_cps.2.1, List.append_assoc]
  rw [lex_gap, lexS_op, lexS_app]
  generalize lexS [] x.cps.toList = A
  obtain ⟨A1, A2⟩ := A
  have h32 : ∀ z, lexS A2 ([32] ++ z) = (flW A2 ++ (lexS [] z).1, (lexS [] z).2) := fun z => by
    rw [lexS_app, show ([32] : List Nat) = List.replicate (0 + 1) 32 from rfl, lexS_sp]
  simp only [h32]
  rw [lex_wsp r1 r2, lexS_app]
  generalize lexS [] y.cps.toList = C
  obtain ⟨C1, C2⟩ := C
  have hcl : ∀ cur, lexS cur [41] = (flW cur ++ [wCl], []) := fun cur => by
    rw [lexS, if_neg (by rw [op_cps.2.2.2.2.2]; decide), op_cps.2.2.2.1]
    show (flW cur ++ (if 41 = 32 then [] else [⟨#[41]⟩]) ++ [], []) = _
    rw [if_neg (by decide), List.append_nil]
  have hgc : lexS C2 (List.replicate g 32 ++ [41]) = (flW C2 ++ [wCl], []) := by
    cases g with
    | zero => exact hcl C2
    | succ g => rw [lexS_app, lexS_sp]; dsimp only; rw [hcl []]; rfl
  simp only [hgc]
  show wOp :: (A1 ++ (flW A2 ++ j :: (C1 ++ (flW C2 ++ [wCl])))) ++ flW [] = _
  simp [flW]
def capT (d : Nat) : Nat := 15 * 2 ^ d - 11
theorem capT_s (d : Nat) : 11 + 2 * capT d ≤ capT (d + 1) ∧ 6 + capT d ≤ capT (d + 1) ∧ 4 ≤ capT d := by
  unfold capT
  have := Nat.one_le_two_pow (n := d)
  rw [Nat.pow_succ]
  omega
section
variable {P : Program} {w : World} {K : PySem.W.Frag} {mg : Str → Option Value} {base : Heap}
def spLT (K : PySem.W.Frag) (fu : Nat) : Sp := fun vs H Q _ => ∃ (r sc : Addr) (ns : List Int) (m d : Nat), vs = [.ref r, nI m, nI d] ∧ RowAt K H r sc ns ∧ 1 ≤ m ∧ m ≤ 6 ∧ d < fu ∧ d ≤ 10 ∧
  ∀ (v : V) (H' : Hp) (f : Fm), f.Ok m → f.deep ≤ d → StepR r H H' → RowAt K H' r sc ns → f.LAt H' v → Q v H'
/-! ### _law_text -/
def spLTxt (K : PySem.W.Frag) (fu : Nat) : Sp := fun vs H Q _ => ∃ (r sc : Addr) (ns : List Int) (m d : Nat) (v : V) (f : Fm), vs = [.ref r, v] ∧ RowAt K H r sc ns ∧ m ≤ 6 ∧ f.Ok m ∧ f.deep ≤ d ∧ d < fu ∧ d ≤ 10 ∧ f.LAt H v ∧
  ∀ x H', StepR r H H' → RowAt K H' r sc ns → spellOf x = f.spell → x.length ≤ capT d → Q (.str x) H'
theorem sps_len (n : Nat) : (sps n).length = n := by
  show (List.replicate n 32).toArray.size = n
  rw [List.size_toArray, List.length_replicate]
theorem wlen1 : ("(" : Str).length = 1 ∧ (")" : Str).length = 1 ∧ (" " : Str).length = 1 ∧ ("not " : Str).length = 4 ∧ ("x" : Str).length = 1 := by decide +kernel
theorem join_len {j : Str} (h : j ∈ joins) : j.length ≤ 3 := by
  have : ∀ j ∈ joins, j.length ≤ 3 := by decide +kernel
  exact this j h
theorem xd_len : ∀ i, i < 6 → (Str.ofString (toString ((i : Nat) : Int))).length = 1 ∧ (("x" : Str) ++ Str.ofString (toString ((i : Nat) : Int))) = xN i := by decide +kernel
end
end Lt

set_option Elab.async false
set_option linter.all false
set_option maxRecDepth 100000
set_option maxHeartbeats 1000000
/-! the law's rows of bits, what its trees come to -/
namespace Lt
open PySem PySem.Spec PyProof.Rows L2
def bitsR (n t : Nat) : List Nat := (List.range n).map fun i => t / 2 ^ i % 2
def rowsB (n : Nat) : List (List Nat) := (List.range (2 ^ n)).map (bitsR n)
theorem bitsR_len (n t : Nat) : (bitsR n t).length = n := by unfold bitsR; rw [List.length_map, List.length_range]
theorem bitsR_le {n t b : Nat} (h : b ∈ bitsR n t) : b ≤ 1 := by
  unfold bitsR at h
  obtain ⟨i, _, rfl⟩ := List.mem_map.mp h
  omega
theorem bitsR_get {n t i : Nat} (h : i < n) : (bitsR n t)[i]? = some (t / 2 ^ i % 2) := by
  unfold bitsR
  rw [List.getElem?_map, List.getElem?_range h]
  rfl
theorem rowsB_len (n : Nat) : (rowsB n).length = 2 ^ n := by unfold rowsB; rw [List.length_map, List.length_range]
theorem rowsB_get {n t : Nat} (h : t < 2 ^ n) : (rowsB n)[t]? = some (bitsR n t) := by
  unfold rowsB
  rw [List.getElem?_map, List.getElem?_range h]
  rfl
theorem bitsR_succ (n t : Nat) : bitsR (n + 1) t = bitsR n t ++ [t / 2 ^ n % 2] := by
  unfold bitsR
  rw [List.range_succ, List.map_append]
  rfl
theorem bitsR_high (n t : Nat) : bitsR n (2 ^ n + t) = bitsR n t := by
  unfold bitsR
  refine List.map_congr_left fun i hi => ?_
  have hi := List.mem_range.mp hi
  obtain ⟨d, rfl⟩ : ∃ d, n = i + (d + 1) := ⟨n - i - 1, by omega⟩
  rw [Nat.pow_add, Nat.mul_add_div (Nat.two_pow_pos i), Nat.pow_succ]
  omega
theorem rowsB_succ (n : Nat) : rowsB (n + 1) = (rowsB n).map (· ++ [0]) ++ (rowsB n).map (· ++ [1]) := by
  unfold rowsB
  have e : 2 ^ (n + 1) = 2 ^ n + 2 ^ n := by rw [Nat.pow_succ]; omega
  rw [e, List.range_add, List.map_append, List.map_map, List.map_map, List.map_map]
  congr 1
  · refine List.map_congr_left fun t ht => ?_
    have ht := List.mem_range.mp ht
    show bitsR (n + 1) t = bitsR n t ++ [0]
    rw [bitsR_succ, Nat.div_eq_of_lt ht]
  · refine List.map_congr_left fun t ht => ?_
    have ht := List.mem_range.mp ht
    show bitsR (n + 1) (2 ^ n + t) = bitsR n t ++ [1]
    rw [bitsR_succ, bitsR_high, Nat.add_div_left _ (Nat.two_pow_pos n), Nat.div_eq_of_lt ht]
theorem bitsR_zero (n t : Nat) : bitsR n t = [] ↔ n = 0 := by
  constructor
  · intro h
    have := congrArg List.length h
    rw [bitsR_len] at this
    exact this
  · intro h
    subst h
    rfl
section
variable {P : Program} {w : World} {K : PySem.W.Frag} {mg : Str → Option Value} {base : Heap}
def LKb (H : Hp) (p : Addr) (ts : List (List Nat)) : Prop := ∃ xs, H p = some (.lst xs) ∧ Paired (TK H) xs ts
theorem TKbs.tm {H H' : Hp} (e : Tm H H') : ∀ {xs : List V} {ts : List (List Nat)}, Paired (TK H) xs ts → Paired (TK H') xs ts
  | _, _, .nil => .nil
  | _, _, .cons r t => .cons (r.tm e) (TKbs.tm e t)
theorem LKb.same {H H' : Hp} {p : Addr} {ts : List (List Nat)} (h : LKb H p ts) (s : Same H H') : LKb H' p ts := let ⟨xs, a, b⟩ := h; ⟨xs, s _ _ a, TKbs.tm (.of s) b⟩
def spLBits : Sp := fun vs H Q _ => ∃ m : Nat, vs = [nI m] ∧ m ≤ 6 ∧ ∀ p H', Same H H' → H p = none → LKb H' p (rowsB m) → Q (.ref p) H'
theorem sc_law_bits : FnScope ["inputs", "found", "turn", "bits"] ["inputs"] (defScope s_law_bits) := ⟨rfl, rfl, rfl, by decide +kernel, rfl, by decide +kernel, by decide +kernel⟩
theorem rows_cap {n : Nat} (h : n ≤ 6) : (rowsB n).length ≤ 64 := by rw [rowsB_len]; exact pow6 h
/-- one side: bits and one more -/
theorem bits_side {j : Nat} {te : TE} {vs : List Nat} {σ : L2.St} {H1 : Hp} {D fl : Addr} {Qd : Hp → Prop} {n b : Nat} {xs : List V} (hx : H1 fl = some (.lst xs)) (px : Paired (TK H1) xs (rowsB n)) (hn : n ≤ 6) (hD : H1 D = none)
    (hw : ∀ x, wipe ((wipe σ vs).set j (some x)) vs = wipe σ vs)
    (hte : ∀ (x : V) (a : Addr) (t : List Nat) (H : Hp) (Q : VK), x = .ref a → H a = some (.tup (nIs t)) → t.length ≤ 10 → (∀ v H', Same H H' → TK H' v (t ++ [b]) → Q v H') → te ((wipe σ vs).set j (some x)) H Q)
    (hd : ∀ H zs, Same H1 H → H D = some (.lst zs) → Paired (TK H) zs ((rowsB n).map (· ++ [b])) → Qd H) :
    ∃ W : Nat → Nat → Hp → Prop, (∃ m, W 0 m (upd H1 D (.lst []))) ∧ ∀ i m H, W i m H →
      ((Itl K fl).stop i H ∧ Qd H) ∨ ((Itl K fl).go i H ∧ ∃ Nx : Hp → Prop, (∀ H', Nx H' → ∃ m', m' < m ∧ W (i + 1) m' H') ∧ ∀ x H', (Itl K fl).yld i H x H' → gName j x (wipe σ vs) H' fun σ2 H2 => wipe σ2 vs = wipe σ vs ∧ tYes σ2 H2 fun b H3 =>
        if b = true then te σ2 H3 fun y H4 => ∃ acc, H4 D = some (.lst acc) ∧ acc.length < sizeLine ∧ Nx (upd H4 D (.lst (acc ++ [y]))) else Nx H3) := by
  have hxl := Paired.length px
  have h64 := rows_cap hn
  refine lc_listM (xs := xs) (fun H v t => TK H v t) ((rowsB n).map (· ++ [b])) (fun H H' v t e r => TK.tm e r) (fun H s => SqL.of (s _ _ hx)) (by omega) (by rw [List.length_map, hxl]) hD hw (fun i x t hi ht H s Q q => ?_) hd
  obtain ⟨t0, h0, a, rfl, ha⟩ := Paired.getL px hi
  rw [List.getElem?_map, h0] at ht
  have ht : t0 ++ [b] = t := Option.some.inj ht
  subst ht
  have hl : t0.length ≤ 10 := by
    obtain ⟨t', _, e⟩ := List.mem_map.mp (List.mem_of_getElem? h0)
    rw [← e, bitsR_len]
    omega
  exact hte _ a t0 H _ rfl (s _ _ ha) hl q
theorem has_law_bits (T : Top K mg "_law_bits" s_law_bits ["inputs"]) (B : Bi mg) : Has P w K mg base CX0 1 "_law_bits" ["inputs"] spLBits := by
  refine T.ok sc_law_bits (fun vs H Q E h => ?_) (fun f cdv A outer s H vs Q E hr h => ?_)
  · obtain ⟨m, rfl, _⟩ := h
    rfl
  · obtain ⟨m, rfl, hm, q⟩ := h
    refine ⟨_, pss_cons (ps_set (i := 1) sc_law_bits.nd rfl (Or.inl rfl) (pe_lst (pa_cons (pe_tup pa_nil) pa_nil)))
      (pss_cons (ps_for PassesOwn.never rfl (pi_range1 (by rfl) B.range (pa_cons (pv 0) pa_nil)) (pg_name (i := 2) sc_law_bits.nd rfl (Or.inl rfl))
        (pss_one (ps_set (i := 1) sc_law_bits.nd rfl (Or.inl rfl) (pe_op op_cat
          (pe_lc (own := [("bits", 3)]) (g := gName 3) (te := tOp (rCatA K) (tVar 3) (tTup (tCons (tC (.int 0)) tNil))) (by rfl) sc_law_bits.nd (pi_list (pv 1)) (blkOk_by (own := [("bits", 3)]) (N := ["inputs", "found", "turn", "bits"]) (sc := defScope s_law_bits) (by decide +kernel))
            (fun _ _ _ _ _ => pg_name (i := 3) sc_law_bits.nd rfl (Or.inl rfl)) (fun _ _ _ _ _ => pts_nil) (fun _ _ _ _ _ => pe_op op_catA (pv 3) (pe_tup (pa_cons pe_int pa_nil))))
          (pe_lc (own := [("bits", 3)]) (g := gName 3) (te := tOp (rCatA K) (tVar 3) (tTup (tCons (tC (.int 1)) tNil))) (by rfl) sc_law_bits.nd (pi_list (pv 1)) (blkOk_by (own := [("bits", 3)]) (N := ["inputs", "found", "turn", "bits"]) (sc := defScope s_law_bits) (by decide +kernel))
            (fun _ _ _ _ _ => pg_name (i := 3) sc_law_bits.nd rfl (Or.inl rfl)) (fun _ _ _ _ _ => pts_nil) (fun _ _ _ _ _ => pe_op op_catA (pv 3) (pe_tup (pa_cons pe_int pa_nil))))))))
      (pss_one (ps_ret (pv 1)))), ?_⟩
    refine ⟨Nat.zero_le _, fun t0 ht0 => ⟨by show 1 ≤ sizeLine; decide, fun l0 hl0 => ?_⟩⟩
    have s1 := same_new (o := .tup []) ht0
    have s2 := same_new (o := .lst [V.ref t0]) hl0
    have s12 := s1.trans s2
    have cat : ∀ (b : Nat) (x : V) (a : Addr) (t : List Nat) (H : Hp) (Q : VK), x = .ref a → H a = some (.tup (nIs t)) → t.length ≤ 10 → (∀ v H', Same H H' → TK H' v (t ++ [b]) → Q v H') → ∀ (p : Addr), H p = none → rCatA K x (.ref p) (upd H p (.tup [V.int (b : Int)])) Q := by
      intro b x a t H Q ex ha hl q p hp
      subst ex
      have s3 := same_new (o := .tup [V.int (b : Int)]) hp
      refine ⟨a, p, nIs t, [V.int (b : Int)], rfl, rfl, SqT.of (s3 _ _ ha), SqT.of upd_same, by rw [sizeLine_eq, nIs_len]; show t.length + 1 ≤ _; omega, fun e => ?_, fun _ e => (by cases e), fun _ _ p2 hp2 => q _ _ (s3.trans (same_new hp2)) ⟨p2, rfl, ?_⟩⟩
      · have : t = [] := by
          cases t with
          | nil => rfl
          | cons => cases e
        subst this
        exact q _ _ s3 ⟨p, rfl, upd_same⟩
      · rw [upd_same]
        unfold nIs
        rw [List.map_append]
        rfl
    refine ⟨_, rfl, (m : Int), rfl, by omega, by omega, for_range (lo := 0) (n := (m : Int).toNat) (fun i σ H' => ∃ l y2 y3, σ = [some (nI m), some (.ref l), y2, y3] ∧ Same H H' ∧ H l = none ∧ LKb H' l (rowsB i))
      ⟨l0, none, none, rfl, s12, s1.free hl0, [V.ref t0], upd_same, .cons ⟨t0, rfl, s2 _ _ upd_same⟩ .nil⟩ ?_ ?_⟩
    · rintro i σ H' hi ⟨l, y2, y3, rfl, sm, hl, xs, hx, px⟩
      have hi6 : i ≤ 6 := by omega
      have px' : Paired (TK H') xs (rowsB i) := px
      refine ⟨_, rfl, l, rfl, ⟨_, SqL.of hx⟩, fun D1 hD1 => bits_side (b := 0) hx px' hi6 hD1 (fun x => rfl) (fun x a t H Q ex ha hl q => ?_) (fun H2 zs s2 hz pz => ?_)⟩
      · subst ex
        exact ⟨_, rfl, by show 1 ≤ sizeLine; decide, fun p hp => cat 0 _ a t H Q rfl ha hl q p hp⟩
      · have hx2 := s2 _ _ hx
        have px2 := TKbs.tm (.of s2) px'
        refine ⟨_, rfl, l, rfl, ⟨_, SqL.of hx2⟩, fun D2 hD2 => bits_side (b := 1) hx2 px2 hi6 hD2 (fun x => rfl) (fun x a t H Q ex ha hl q => ?_) (fun H3 zs3 s3 hz3 pz3 => ?_)⟩
        · subst ex
          exact ⟨_, rfl, by show 1 ≤ sizeLine; decide, fun p hp => cat 1 _ a t H Q rfl ha hl q p hp⟩
        · have hz2 := s3 _ _ hz
          have pz2 := TKbs.tm (.of s3) pz
          have e1 := Paired.length pz2
          have e2 := Paired.length pz3
          rw [List.length_map] at e1 e2
          have h64 := rows_cap hi6
          refine ⟨_, _, _, _, rfl, rfl, hz2, hz3, by rw [sizeLine_eq]; omega, fun p hp => ?_⟩
          have s4 := same_new (o := .lst (zs ++ zs3)) hp
          have sA := (sm.trans (s2.trans s3)).trans s4
          refine ⟨p, _, y3, rfl, sA, (sm.trans (s2.trans s3)).free hp, zs ++ zs3, upd_same, ?_⟩
          rw [rowsB_succ]
          exact Paired.app (TKbs.tm (.of s4) pz2) (TKbs.tm (.of s4) pz3)
    · rintro σ H' ⟨l, y2, y3, rfl, sm, hl, lk⟩
      exact ⟨_, rfl, q l H' sm hl lk⟩
end
end Lt

set_option Elab.async false
set_option linter.all false
set_option maxRecDepth 100000
set_option maxHeartbeats 1000000
/-! what the law's tree comes to on a row of bits -/
namespace Lt
open PySem PySem.Spec PyProof.Rows L2
def evL : Fm → List Nat → Nat
  | .x i, bs => bs.getD i 0
  | .no f, bs => 1 - evL f bs
  | .two j f g, bs => if j = ("and" : Str) then evL f bs * evL g bs else if j = ("or" : Str) then max (evL f bs) (evL g bs) else (evL f bs + evL g bs) % 2
theorem evL_bits {m t : Nat} : ∀ {f : Fm}, f.Ok m → evL f (bitsR m t) = evF f t
  | .x i, h => by
    have h : i < m := h
    show (bitsR m t).getD i 0 = t / 2 ^ i % 2
    rw [List.getD_eq_getElem?_getD, bitsR_get h]
    rfl
  | .no f, h => by
    show 1 - evL f _ = 1 - evF f t
    rw [evL_bits (f := f) h]
  | .two j f g, h => by
    obtain ⟨_, h1, h2⟩ := h
    unfold evL evF
    rw [evL_bits h1, evL_bits h2]
theorem evL_le {bs : List Nat} (hb : ∀ x ∈ bs, x ≤ 1) : ∀ f : Fm, evL f bs ≤ 1
  | .x i => by
    show bs.getD i 0 ≤ 1
    by_cases h : i < bs.length
    · rw [List.getD_eq_getElem?_getD, List.getElem?_eq_getElem h]
      exact hb _ (List.getElem_mem h)
    · rw [List.getD_eq_getElem?_getD, List.getElem?_eq_none (by omega)]
      exact Nat.zero_le _
  | .no f => Nat.sub_le ..
  | .two j f g => by
    have h1 := evL_le hb f
    have h2 := evL_le hb g
    unfold evL
    split
    · exact Nat.le_trans (Nat.mul_le_mul h1 h2) (by decide)
    · split
      · omega
      · omega
section
variable {X : Cx}
theorem op_modN2 : OpR X (binaryOp .Mod) (fun x y H Q => ∃ n m : Nat, x = .int (n : Int) ∧ y = .int (m : Int) ∧ 1 ≤ m ∧ Q (.int ((n % m : Nat) : Int)) H) := by
  intro pins s σ H x y v u Q I rx ry h
  obtain ⟨n, m, rfl, rfl, hm, q⟩ := h
  refine op_modN pins s σ H _ _ v u Q I rx ry ⟨_, _, rfl, rfl, by omega, ?_⟩
  have e : Int.fmod (n : Int) (m : Int) = ((n % m : Nat) : Int) := by rw [Int.fmod_eq_emod_of_nonneg _ (by omega), Int.natCast_emod]
  show Q (.int (Int.fmod (n : Int) (m : Int))) H
  rw [e]
  exact q
end
theorem val3 {j : Str} (hj : j ∈ joins) (u1 u2 u3 : V) : valV (mergeK [] [(.inr "and", u1), (.inr "or", u2), (.inr "xor", u3)]) (.inr j) = some (if j = ("and" : Str) then u1 else if j = ("or" : Str) then u2 else u3) := by
  have a1 : ("and" : Str) ≠ "or" := by decide +kernel
  have a2 : ("and" : Str) ≠ "xor" := by decide +kernel
  have a3 : ("or" : Str) ≠ "xor" := by decide +kernel
  have a4 : ("or" : Str) ≠ "and" := by decide +kernel
  have a5 : ("xor" : Str) ≠ "and" := by decide +kernel
  have a6 : ("xor" : Str) ≠ "or" := by decide +kernel
  have e : mergeK [] [((.inr "and" : Key), u1), (.inr "or", u2), (.inr "xor", u3)] = [(.inr "and", u1), (.inr "or", u2), (.inr "xor", u3)] := by
    simp only [mergeK, List.foldl_cons, List.foldl_nil, putK, List.any_nil, List.any_cons, Bool.false_eq_true, if_false, List.nil_append, Sum.inr.injEq, a1, a2, a3, decide_false, Bool.or_false, List.cons_append, List.singleton_append]
  rw [e]
  unfold valV
  unfold joins at hj
  rcases List.mem_cons.mp hj with rfl | hj
  · simp
  · rcases List.mem_cons.mp hj with rfl | hj
    · simp [a1, a4]
    · rcases List.mem_cons.mp hj with rfl | hj
      · simp [a2, a3, a5, a6]
      · cases hj
section
variable {P : Program} {w : World} {K : PySem.W.Frag} {mg : Str → Option Value} {base : Heap}
def spLW (fu : Nat) : Sp := fun vs H Q _ => ∃ (m : Nat) (b : Addr) (bs : List Nat) (v : V) (f : Fm), vs = [v, .ref b] ∧ bs.length = m ∧ (∀ x ∈ bs, x ≤ 1) ∧ H b = some (.tup (nIs bs)) ∧ f.Ok m ∧ f.deep < fu ∧ f.LAt H v ∧ ∀ H', Same H H' → Q (nI (evL f bs)) H'
end
end Lt

set_option Elab.async false
set_option linter.all false
set_option maxRecDepth 100000
set_option maxHeartbeats 1000000
/-! a comprehension with a test, over whatever is walked -/
namespace Lt
open PySem PySem.Spec PyProof.Rows L2
def Cf {β : Type} (H1 : Hp) (D : Addr) (R : Hp → V → β → Prop) (ys : List β) (i : Nat) (H : Hp) : Prop := Same H1 H ∧ ∃ zs, H D = some (.lst zs) ∧ Paired (R H) zs ys ∧ zs.length ≤ i
theorem lc_genF {J : It} {g : TG} {tt : L2.TT} {te : TE} {vs : List Nat} {σ : L2.St} {H1 : Hp} {D : Addr} {Qd : Hp → Prop} {β : Type} {n : Nat} (R : Hp → V → β → Prop) (p : Nat → Bool) (f : Nat → β) (mono : ∀ H H' v b, Tm H H' → R H v b → R H' v b) (hz : n ≤ 100000) (hD : H1 D = none)
    (hgo : ∀ i H, i < n → Same H1 H → J.go i H) (hst : ∀ H, Same H1 H → J.stop n H)
    (hs : ∀ i H x H', i < n → Same H1 H → J.yld i H x H' → Same H H' ∧ ∃ σ2, (∀ Kk : L2.St → Hp → Prop, Kk σ2 H' → g x (wipe σ vs) H' Kk) ∧ wipe σ2 vs = wipe σ vs ∧ (∀ Q, (∀ H3, Same H' H3 → Q (p i) H3) → tt σ2 H' Q) ∧
      (p i = true → ∀ H3, Same H' H3 → ∀ Q : VK, (∀ v H4, Same H3 H4 → R H4 v (f i) → Q v H4) → te σ2 H3 Q))
    (hd : ∀ H zs, Same H1 H → H D = some (.lst zs) → Paired (R H) zs (((List.range n).filter p).map f) → Qd H) :
    ∃ W : Nat → Nat → Hp → Prop, (∃ m, W 0 m (upd H1 D (.lst []))) ∧ ∀ i m H, W i m H →
      (J.stop i H ∧ Qd H) ∨ (J.go i H ∧ ∃ Nx : Hp → Prop, (∀ H', Nx H' → ∃ m', m' < m ∧ W (i + 1) m' H') ∧ ∀ x H', J.yld i H x H' → g x (wipe σ vs) H' fun σ2 H2 => wipe σ2 vs = wipe σ vs ∧ tt σ2 H2 fun b H3 =>
        if b = true then te σ2 H3 fun y H4 => ∃ acc, H4 D = some (.lst acc) ∧ acc.length < sizeLine ∧ Nx (upd H4 D (.lst (acc ++ [y]))) else Nx H3) := by
  refine ⟨fun i m H => m = n - i ∧ i ≤ n ∧ Cf H1 D R (((List.range i).filter p).map f) i H, ⟨n, by simp, Nat.zero_le _, same_new hD, [], upd_same, .nil, Nat.le_refl _⟩, ?_⟩
  rintro i m H ⟨rfl, hi, c⟩
  obtain ⟨sm, zs, h1, pr, hl⟩ := c
  by_cases hlt : i < n
  · refine .inr ⟨hgo i H hlt sm, Cf H1 D R (((List.range (i + 1)).filter p).map f) (i + 1), fun H' p' => ⟨n - (i + 1), by omega, rfl, hlt, p'⟩, fun x H' y => ?_⟩
    obtain ⟨s', σ2, hg, hw, ht, he⟩ := hs i H x H' hlt sm y
    refine hg _ ⟨hw, ht _ fun H3 s3 => ?_⟩
    have s13 := s'.trans s3
    cases hp : p i with
    | false =>
      rw [if_neg (by decide)]
      refine ⟨sm.trans s13, zs, s13 _ _ h1, ?_, by omega⟩
      rw [List.range_succ, List.filter_append]
      show Paired (R H3) zs ((List.filter p (List.range i) ++ List.filter p [i]).map f)
      rw [List.filter_cons_of_neg (by rw [hp]; decide), List.filter_nil, List.append_nil]
      exact paired_mono (fun a b r => mono _ _ _ _ (Tm.of s13) r) pr
    | true =>
      rw [if_pos rfl]
      refine he hp H3 s3 _ fun v H4 s4 r => ?_
      have s14 := s13.trans s4
      have h4 := s14 _ _ h1
      have t4 : Tm H4 (upd H4 D (.lst (zs ++ [v]))) := Tm.lst h4
      refine ⟨zs, h4, Nat.lt_of_le_of_lt hl (Nat.lt_of_lt_of_le (Nat.lt_of_lt_of_le hlt hz) (by decide)), same_mut (sm.trans s14) hD, zs ++ [v], upd_same, ?_, by rw [List.length_append]; show zs.length + 1 ≤ i + 1; omega⟩
      rw [List.range_succ, List.filter_append]
      show Paired _ _ ((List.filter p (List.range i) ++ List.filter p [i]).map f)
      rw [List.filter_cons_of_pos hp, List.filter_nil, List.map_append]
      exact Paired.app (paired_mono (fun a b q => mono _ _ _ _ ((Tm.of s14).trans t4) q) pr) (Paired.one (mono _ _ _ _ t4 r))
  · have e : i = n := by omega
    subst e
    exact .inl ⟨hst H sm, hd H zs sm h1 pr⟩
/-- over a range -/
theorem lc_rangeF {j : Nat} {tt : L2.TT} {te : TE} {vs : List Nat} {σ : L2.St} {H1 : Hp} {D : Addr} {Qd : Hp → Prop} {β : Type} {n : Nat} (R : Hp → V → β → Prop) (p : Nat → Bool) (f : Nat → β) (mono : ∀ H H' v b, Tm H H' → R H v b → R H' v b) (hz : n ≤ 100000) (hD : H1 D = none)
    (hw : ∀ x, wipe ((wipe σ vs).set j (some x)) vs = wipe σ vs)
    (ht : ∀ i H, i < n → Same H1 H → ∀ Q, (∀ H3, Same H H3 → Q (p i) H3) → tt ((wipe σ vs).set j (some (.int ((0 : Int) + (i : Nat))))) H Q)
    (he : ∀ i H, i < n → p i = true → Same H1 H → ∀ Q : VK, (∀ v H4, Same H H4 → R H4 v (f i) → Q v H4) → te ((wipe σ vs).set j (some (.int ((0 : Int) + (i : Nat))))) H Q)
    (hd : ∀ H zs, Same H1 H → H D = some (.lst zs) → Paired (R H) zs (((List.range n).filter p).map f) → Qd H) :
    ∃ W : Nat → Nat → Hp → Prop, (∃ m, W 0 m (upd H1 D (.lst []))) ∧ ∀ i m H, W i m H →
      ((Itr 0 n).stop i H ∧ Qd H) ∨ ((Itr 0 n).go i H ∧ ∃ Nx : Hp → Prop, (∀ H', Nx H' → ∃ m', m' < m ∧ W (i + 1) m' H') ∧ ∀ x H', (Itr 0 n).yld i H x H' → gName j x (wipe σ vs) H' fun σ2 H2 => wipe σ2 vs = wipe σ vs ∧ tt σ2 H2 fun b H3 =>
        if b = true then te σ2 H3 fun y H4 => ∃ acc, H4 D = some (.lst acc) ∧ acc.length < sizeLine ∧ Nx (upd H4 D (.lst (acc ++ [y]))) else Nx H3) :=
  lc_genF (J := Itr 0 n) R p f mono hz hD (fun i H hi _ => hi) (fun H _ => Nat.le_refl _) (fun i H x H' hi sm y => by
    obtain ⟨rfl, rfl⟩ := y
    exact ⟨Same.refl _, _, fun Kk q => q, hw _, fun Q q => ht i _ hi sm Q q, fun hp H3 s3 Q q => he i H3 hi hp (sm.trans s3) Q q⟩) hd
/-- over enumerate of a tuple -/
theorem lc_enumF {K : PySem.W.Frag} {g : TG} {tt : L2.TT} {te : TE} {vs : List Nat} {σ : L2.St} {H1 : Hp} {D a : Addr} {Qd : Hp → Prop} {β : Type} {j1 j2 : Nat} {xs : List V} (R : Hp → V → β → Prop) (p : Nat → Bool) (f : Nat → β) (mono : ∀ H H' v b, Tm H H' → R H v b → R H' v b)
    (hx : ∀ H, Same H1 H → SqT K H a xs) (hz : xs.length ≤ 100000) (hD : H1 D = none)
    (hg : ∀ T x (i : Nat) σ H Q, H T = some (.tup [nI i, x]) → Q ((σ.set j1 (some (nI i))).set j2 (some x)) H → g (.ref T) σ H Q)
    (hw : ∀ x y, wipe (((wipe σ vs).set j1 x).set j2 y) vs = wipe σ vs)
    (ht : ∀ i x H, xs[i]? = some x → Same H1 H → ∀ Q, (∀ H3, Same H H3 → Q (p i) H3) → tt (((wipe σ vs).set j1 (some (nI i))).set j2 (some x)) H Q)
    (he : ∀ i x H, xs[i]? = some x → p i = true → Same H1 H → ∀ Q : VK, (∀ v H4, Same H H4 → R H4 v (f i) → Q v H4) → te (((wipe σ vs).set j1 (some (nI i))).set j2 (some x)) H Q)
    (hd : ∀ H zs, Same H1 H → H D = some (.lst zs) → Paired (R H) zs (((List.range xs.length).filter p).map f) → Qd H) :
    ∃ W : Nat → Nat → Hp → Prop, (∃ m, W 0 m (upd H1 D (.lst []))) ∧ ∀ i m H, W i m H →
      ((Itet K a).stop i H ∧ Qd H) ∨ ((Itet K a).go i H ∧ ∃ Nx : Hp → Prop, (∀ H', Nx H' → ∃ m', m' < m ∧ W (i + 1) m' H') ∧ ∀ x H', (Itet K a).yld i H x H' → g x (wipe σ vs) H' fun σ2 H2 => wipe σ2 vs = wipe σ vs ∧ tt σ2 H2 fun b H3 =>
        if b = true then te σ2 H3 fun y H4 => ∃ acc, H4 D = some (.lst acc) ∧ acc.length < sizeLine ∧ Nx (upd H4 D (.lst (acc ++ [y]))) else Nx H3) :=
  lc_genF (J := Itet K a) (n := xs.length) R p f mono hz hD (fun i H hi s => ⟨xs, xs[i], hx H s, by simp [hi]⟩) (fun H s => ⟨xs, hx H s, rfl⟩) (fun i H x H' hi sm y => by
    obtain ⟨T, x, rfl, hT, rfl, hx2⟩ := y
    have hx2 := hx2 xs (hx H sm)
    have sT := same_new (o := .tup [V.int (i : Nat), x]) hT
    exact ⟨sT, _, fun Kk q => hg T x i _ _ _ upd_same q, hw _ _, fun Q q => ht i x _ hx2 (sm.trans sT) Q q, fun hp H3 s3 Q q => he i x H3 hx2 hp ((sm.trans sT).trans s3) Q q⟩) hd
end Lt

set_option Elab.async false
set_option linter.all false
set_option maxRecDepth 100000
set_option maxHeartbeats 1000000
/-! tasks.py: what is checked, the inputs and the parts of a table -/
namespace Lt
open PySem PySem.Spec PyProof.Rows L2
/-- a module's tuple of numbers -/
def Cti (K : PySem.W.Frag) (mg : Str → Option Value) (x : Str) (ns : List Int) : Prop := ∃ J : Addr, mg x = some (.ref J) ∧ ∀ H, SqT K H J (ns.map V.int)
def outD (d : PyData) : Prop := isNum d = false ∨ ∃ i, d = .int i ∧ ¬ ((1 : Int) ≤ i ∧ i ≤ 6)
def bitD01 (d : PyData) : Bool := isNum d && decide (numOf d = 0 ∨ numOf d = 1)
def tabLens : List Int := [2, 4, 8, 16, 32, 64]
def isTask : PyData → Bool
  | .tuple ds => ds.all bitD01 && tabLens.contains (ds.length : Int)
  | _ => false
/-- the inputs of a place -/
def insOf (t : Nat) : List Nat := (List.range 6).filter fun i => t / 2 ^ i % 2 == 1
section
variable {P : Program} {w : World} {K : PySem.W.Frag} {mg : Str → Option Value} {base : Heap} {CN CT : Addr}
def spCheckI (CN : Addr) : Sp := fun vs H Q E => ∃ (v : V) (d : PyData), vs = [v] ∧ Rp H v d ∧ ((∃ m : Nat, d = .int m ∧ 1 ≤ m ∧ m ≤ 6 ∧ Q .non H) ∨ (outD d ∧ Bad0 CN H E))
theorem has_check_inputs2 (T : Top K mg "check_inputs" s_check_inputs ["inputs"]) (G : ∃ u, mg "MOST_INPUTS" = some u ∧ RelV (.int 6) u) (X0 : Err0 K mg "BadNumber" CN) (hN : Has P w K mg base CX0 1 "is_number" ["value"] spNum) : Has P w K mg base (L2.CX P w) 3 "check_inputs" ["inputs"] (spCheckI CN) := by
  refine T.okX sc_check_inputs (fun vs H Q E h => ?_) (fun f cdv A outer s H vs Q E hr h => ?_)
  · obtain ⟨v, d, rfl, _⟩ := h
    rfl
  · obtain ⟨v, d, rfl, hd, cs⟩ := h
    have hr1 : Room 1 _ := hr.mono (by decide)
    refine ⟨_, pss_one (ps_if (PW.pt (pw_or (pt_not (pt_val (pe_has hN hr1 (by rfl) (pa_cons (pv 0) pa_nil)))) (pw_or1 (pt_not (pt_chain op_le op_le pe_int (pv 0) (pe_gc2 (by rfl) G)))))) (pss_one (ps_raise rfl (takes_of rfl rfl rfl rfl) (pmk_err0 X0 (by rfl)))) pss_nil), ?_⟩
    rcases cs with ⟨m, rfl, h1, h6, q⟩ | ⟨out, bad⟩
    · cases hd
      refine ⟨_, rfl, nI m, .int m, rfl, .int _, true, rfl, iteF ⟨_, rfl, 1, (m : Int), rfl, rfl, true, congrArg V.bl (decide_eq_true (show (1 : Int) ≤ (m : Int) by omega)), iteT ⟨(m : Int), 6, rfl, rfl, true, congrArg V.bl (decide_eq_true (show (m : Int) ≤ 6 by omega)), iteF q⟩⟩⟩
    · have go : E (.ref CN) none H := bad H (Same.refl _)
      rcases out with hn | ⟨i, rfl, hi⟩
      · exact ⟨_, rfl, v, d, rfl, hd, isNum d, rfl, by rw [hn]; exact iteT (iteT go)⟩
      · cases hd
        refine ⟨_, rfl, .int i, .int i, rfl, .int _, true, rfl, iteF ⟨_, rfl, 1, i, rfl, rfl, decide ((1 : Int) ≤ i), rfl, ?_⟩⟩
        by_cases h1 : (1 : Int) ≤ i
        · rw [decide_eq_true h1]
          exact iteT ⟨i, 6, rfl, rfl, false, congrArg V.bl (decide_eq_false fun z => hi ⟨h1, z⟩), iteT go⟩
        · rw [decide_eq_false h1]
          exact iteF ⟨false, rfl, iteT go⟩
def spCheckP (CN : Addr) : Sp := fun vs H Q E => ∃ v, vs = [v] ∧ flatV v = true ∧ ((inV v ([2, 3, 5, 7].map V.int) = true ∧ Q .non H) ∨ (inV v ([2, 3, 5, 7].map V.int) = false ∧ Bad0 CN H E))
theorem sc_check_prime : FnScope ["prime"] ["prime"] (defScope s_check_prime) := ⟨rfl, rfl, rfl, by decide +kernel, rfl, by decide +kernel, by decide +kernel⟩
theorem has_check_prime (T : Top K mg "check_prime" s_check_prime ["prime"]) (G : Cti K mg "PRIMES" [2, 3, 5, 7]) (X0 : Err0 K mg "BadNumber" CN) : Has P w K mg base (L2.CX P w) 1 "check_prime" ["prime"] (spCheckP CN) := by
  obtain ⟨J, hJ, sq⟩ := G
  refine T.okX sc_check_prime (fun vs H Q E h => ?_) (fun f cdv A outer s H vs Q E hr h => ?_)
  · obtain ⟨v, rfl, _⟩ := h
    rfl
  · obtain ⟨v, rfl, fv, cs⟩ := h
    refine ⟨_, pss_one (ps_if (pt_cmpR op_notIn_seq (pv 0) (pe_glob (v := .ref J) (by rfl) hJ rfl) (by rfl)) (pss_one (ps_raise rfl (takes_of rfl rfl rfl rfl) (pmk_err0 X0 (by rfl)))) pss_nil), ?_⟩
    rcases cs with ⟨hin, q⟩ | ⟨hin, bad⟩
    · exact ⟨_, rfl, J, _, rfl, .inr (sq H), fv, rfl, false, by rw [hin]; rfl, iteF q⟩
    · exact ⟨_, rfl, J, _, rfl, .inr (sq H), fv, rfl, true, by rw [hin]; rfl, iteT (bad H (Same.refl _))⟩
def spCheckT (CT : Addr) : Sp := fun vs H Q E => ∃ (v : V) (d : PyData), vs = [v] ∧ Rp H v d ∧ (∀ ds, d = .tuple ds → ds.length ≤ 1000) ∧ ((isTask d = true ∧ ∀ H', Same H H' → Q .non H') ∨ (isTask d = false ∧ Bad0 CT H E))
theorem sc_check_table : FnScope ["table", "bit", "inputs"] ["table"] (defScope s_check_table) := ⟨rfl, rfl, rfl, by decide +kernel, rfl, by decide +kernel, by decide +kernel⟩
theorem isTab_no {d : PyData} (h : isNums d = false) : isTask d = false := by
  cases d with
  | tuple ds =>
    have h : ds.all isNum = false := h
    show (ds.all bitD01 && _) = false
    rw [List.all_eq_false] at h
    obtain ⟨x, hx, hn⟩ := h
    have : ds.all bitD01 = false := by
      rw [List.all_eq_false]
      refine ⟨x, hx, fun z => hn ?_⟩
      unfold bitD01 at z
      rw [Bool.and_eq_true] at z
      exact z.1
    rw [this]
    rfl
  | _ => rfl
theorem in01' (i : Int) : inV (.int i) [.int 0, .int 1] = decide (i = 0 ∨ i = 1) := by
  show (((0 : Int) == i) || (((1 : Int) == i) || false)) = _
  rw [Bool.or_false, Bool.decide_or]
  congr 1
  · by_cases h : i = 0
    · subst h; rfl
    · rw [decide_eq_false h]; exact beq_eq_false_iff_ne.mpr (fun e => h e.symm)
  · by_cases h : i = 1
    · subst h; rfl
    · rw [decide_eq_false h]; exact beq_eq_false_iff_ne.mpr (fun e => h e.symm)
theorem num_V' {H : Hp} {v : V} {d : PyData} (h : Rp H v d) (hn : isNum d = true) : v = .int (numOf d) := by
  cases h <;> first | rfl | cases hn
theorem nums_tup' {d : PyData} (h : isNums d = true) : ∃ ds, d = .tuple ds ∧ ds.all isNum = true := by
  cases d with
  | tuple ds => exact ⟨ds, rfl, h⟩
  | _ => cases h
theorem inV_lens : ∀ (ns : List Int) (i : Int), inV (.int i) (ns.map V.int) = ns.contains i
  | [], i => rfl
  | n :: ns, i => by
    show ((n == i) || inV (.int i) (ns.map V.int)) = _
    rw [inV_lens ns i, List.contains_cons]
    congr 1
    exact Bool.beq_comm
theorem bls_of' {H : Hp} : ∀ {zs : List V} {bs : List Bool}, Paired (fun v b => v = V.bl b) zs bs → zs = bs.map V.bl
  | _, _, .nil => rfl
  | _, _, .cons r t => by rw [(show _ = V.bl _ from r), bls_of' (H := H) t]; rfl
theorem has_check_table (T : Top K mg "check_table" s_check_table ["table"]) (B : Bi mg) (G : ∃ u, mg "MOST_INPUTS" = some u ∧ RelV (.int 6) u) (X0 : Err0 K mg "BadTask" CT) (hN : Has P w K mg base CX0 2 "are_numbers" ["value"] spNums) : Has P w K mg base (L2.CX P w) 3 "check_table" ["table"] (spCheckT CT) := by
  refine T.okX sc_check_table (fun vs H Q E h => ?_) (fun f cdv A outer s H vs Q E hr h => ?_)
  · obtain ⟨v, d, rfl, _⟩ := h
    rfl
  · obtain ⟨v, d, rfl, hd, hl, cs⟩ := h
    refine ⟨_, pss_cons (ps_if (PW.pt (pw_or (pt_not (pt_val (pe_has hN hr (by rfl) (pa_cons (pv 0) pa_nil)))) (pw_or1 (pt_not (pt_val
        (pe_callB (cr_all (by rfl)) (by rfl) B.all PyProof.Rows.boot_all (pa_cons (pe_lc (own := [("bit", 1)]) (g := gName 1) (te := tOp (rIn K false) (tVar 1) (tTup (tCons (tC (.int 0)) (tCons (tC (.int 1)) tNil)))) (by rfl) sc_check_table.nd (pi_tup (pv 0)) (blkOk_by (own := [("bit", 1)]) (N := ["table", "bit", "inputs"]) (sc := defScope s_check_table) (by decide +kernel))
        (fun _ _ _ _ _ => pg_name (i := 1) sc_check_table.nd rfl (Or.inl rfl)) (fun _ _ _ _ _ => pts_nil) (fun _ _ _ _ _ => pe_cmpR op_in_seq (pv 1) (pe_tup (pa_cons pe_int (pa_cons pe_int pa_nil))) (by rfl))) pa_nil)))))))
        (pss_one (ps_raise rfl (takes_of rfl rfl rfl rfl) (pmk_err0 X0 (by rfl)))) pss_nil)
      (pss_one (ps_if (pt_cmpR op_notIn_seq (pe_callB call_len_seq (by rfl) B.len PySem.boot_len (pa_cons (pv 0) pa_nil)) (pe_lc (own := [("inputs", 2)]) (g := gName 2) (te := tOp (rI CPow fun i j => .int (i * 2 ^ j.toNat)) (tC (.int 1)) (tVar 2)) (by rfl) sc_check_table.nd (pi_range2 (by rfl) B.range (pa_cons pe_int (pa_cons (pe_op op_add (pe_gc2 (by rfl) G) pe_int) pa_nil))) (blkOk_by (own := [("inputs", 2)]) (N := ["table", "bit", "inputs"]) (sc := defScope s_check_table) (by decide +kernel))
        (fun _ _ _ _ _ => pg_name (i := 2) sc_check_table.nd rfl (Or.inl rfl)) (fun _ _ _ _ _ => pts_nil) (fun _ _ _ _ _ => pe_op op_shl pe_int (pv 2))) (by rfl))
        (pss_one (ps_raise rfl (takes_of rfl rfl rfl rfl) (pmk_err0 X0 (by rfl)))) pss_nil)), ?_⟩
    have bad : isTask d = false → ∀ H', Same H H' → E (.ref CT) none H' := fun z => by
      rcases cs with ⟨y, _⟩ | ⟨_, b⟩
      · rw [z] at y; cases y
      · exact b
    have good : isTask d = true → ∀ H', Same H H' → Q .non H' := fun z => by
      rcases cs with ⟨_, b⟩ | ⟨y, _⟩
      · exact b
      · rw [z] at y; cases y
    refine ⟨_, rfl, v, d, rfl, hd, hl, fun H1 s1 => ⟨isNums d, rfl, ?_⟩⟩
    cases e1 : isNums d with
    | false => exact iteT (iteT (bad (isTab_no e1) _ s1))
    | true =>
      obtain ⟨ds, rfl, hall⟩ := nums_tup' e1
      refine iteF ?_
      cases hd with
      | @tup a xs ds ha hx =>
        have hlen := hl ds rfl
        have hxl := hx.len
        have ha1 := ha.sm s1
        refine ⟨_, rfl, a, rfl, ⟨_, ha1.sq⟩, fun D hD => lc_tupM (fun _ v b => v = V.bl b) (ds.map bitD01) (fun _ _ _ _ _ r => r) (ha1.sq) (fun H' sm => (ha1.sm sm).sq) (by omega) (by rw [List.length_map, hxl]) hD (fun x => rfl) (fun i v n hi hn H' sm Q' q' => ?_) (fun H' zs sm hz pr => ?_)⟩
        · obtain ⟨d, e1, e2⟩ := hx.get hi
          rw [List.getElem?_map, e1] at hn
          have hn : bitD01 d = n := Option.some.inj hn
          have hd := List.all_eq_true.mp hall d (List.mem_of_getElem? e1)
          have hv := num_V' e2 hd
          subst hv
          refine ⟨_, rfl, by show 2 ≤ sizeLine; decide, fun p hp => ⟨p, _, rfl, .inr (SqT.of upd_same), rfl, rfl, q' _ _ (same_new hp) ?_⟩⟩
          rw [← hn]
          unfold bitD01
          rw [hd, Bool.true_and]
          exact congrArg V.bl (in01' _)
        · refine ⟨D, ds.map bitD01, rfl, SqL.of (by rw [hz, bls_of' (H := H') pr]), (ds.map bitD01).all id, rfl, ?_⟩
          have e : (ds.map bitD01).all id = ds.all bitD01 := by rw [List.all_map]; rfl
          rw [e]
          have sB := s1.trans sm
          cases e5 : ds.all bitD01 with
          | false =>
            refine iteT (bad ?_ _ sB)
            show (ds.all bitD01 && _) = false
            rw [e5]
            rfl
          | true =>
            refine iteF ?_
            refine ⟨_, rfl, a, xs, rfl, .inr (ha1.sm sm).sq, 6, 1, rfl, rfl, 1, 6 + 1, rfl, ⟨by decide, by decide, by decide, by decide⟩, fun D2 hD2 => lc_genF (J := Itr 1 ((6 + 1 : Int) - 1).toNat) (n := 6) RI (fun _ => true) (fun i => 2 ^ (i + 1)) (fun _ _ _ _ _ r => r) (by decide) hD2 (fun i H hi _ => (show i < 6 from hi)) (fun H _ => (show 6 ≤ 6 from Nat.le_refl _)) (fun i H2 x H3 hi sm2 y => ?_) (fun H2 zs2 sm2 hz2 pr2 => ?_)⟩
            · obtain ⟨rfl, rfl⟩ := y
              refine ⟨Same.refl _, _, fun Kk q => q, rfl, fun Q q => q _ (Same.refl _), fun _ H3 s3 Q q => ?_⟩
              refine ⟨_, rfl, 1, (1 : Int) + (i : Nat), rfl, rfl, ⟨by omega, by omega, by decide⟩, q _ _ (Same.refl _) ?_⟩
              show V.int _ = V.int _
              congr 1
              have e : ((1 : Int) + (i : Nat)).toNat = i + 1 := by omega
              rw [e, Int.one_mul]
            · have e2 : zs2 = tabLens.map V.int := by
                rw [RI.all pr2]
                rfl
              refine ⟨D2, _, rfl, .inl (SqL.of hz2), rfl, by rw [e2]; rfl, !(tabLens.contains (ds.length : Int)), ?_, ?_⟩
              · rw [e2, inV_lens, hxl]
                rfl
              · have sC := sB.trans sm2
                have e3 : isTask (.tuple ds) = tabLens.contains (ds.length : Int) := by
                  show (ds.all bitD01 && _) = _
                  rw [e5]
                  rfl
                rw [e3] at bad good
                cases e6 : tabLens.contains (ds.length : Int) with
                | false => exact iteT (bad e6 _ sC)
                | true => exact iteF (good e6 _ sC)
end
end Lt

set_option Elab.async false
set_option linter.all false
set_option maxRecDepth 100000
set_option maxHeartbeats 4000000
/-! sorted of data that are alike, any length -/
namespace Lt
open PySem PySem.Spec PyProof.Rows L2
open PySem.W (EachIs AllAlike Sortable dataLe)
theorem each_of_paired {α β γ : Type} {R : α → β → Prop} {S : γ → α → Prop} : ∀ {xs : List α} {us : List γ} {bs : List β}, Paired R xs bs → Paired (fun x u => S u x) xs us → EachIs (fun u b => ∃ x, S u x ∧ R x b) us bs
  | _, _, _, .nil, .nil => .nil
  | _, _, _, .cons r t, .cons s u => .cons ⟨_, s, r⟩ (each_of_paired t u)
theorem each_mono {α β : Type} {R S : α → β → Prop} (h : ∀ a b, R a b → S a b) : ∀ {us : List α} {bs : List β}, EachIs R us bs → EachIs S us bs
  | _, _, .nil => .nil
  | _, _, .cons r t => .cons (h _ _ r) (each_mono h t)
/-- what the machine's list holds -/
theorem each_back {β : Type} {R : V → β → Prop} (hr : ∀ v b, R v b → ∃ p, v = .ref p) : ∀ {us : List Value} {bs : List β}, EachIs (fun u b => ∃ v, RelV v u ∧ R v b) us bs → ∃ vs, Vals vs us ∧ Paired R vs bs
  | _, _, .nil => ⟨[], .nil, .nil⟩
  | _, _, .cons ⟨v, rv, r⟩ t => let ⟨vs, h1, h2⟩ := each_back hr t; ⟨v :: vs, .cons rv h1, .cons r h2⟩
def rSortedD (K : PySem.W.Frag) : List V → Hp → VK → Prop := fun vs H Q => ∃ (a : Addr) (xs : List V) (β : Type) (bs : List β) (enc : β → PyData) (R : V → β → Prop), vs = [.ref a] ∧ SqL K H a xs ∧ Paired R xs bs ∧ (∀ v b, R v b → ∃ p, v = .ref p) ∧ (∀ v b, R v b → Dp K H v (enc b)) ∧
  AllAlike (bs.map enc) ∧ Sortable (bs.map enc) ∧ (∀ b ∈ bs, (enc b).depth ≤ 60) ∧ ∀ ys p, Paired R ys (bs.mergeSort (dataLe false enc)) → H p = none → Q (.ref p) (upd H p (.lst ys))
section
variable {X : Cx}
theorem cr_sortedD (hu : X.A.units + 64 < cLine) : CallR X (.builtin "sorted") (rSortedD X.K) := by
  intro pins s σ H vs us Q I r h
  obtain ⟨a, xs, β, bs, enc, R, rfl, hs, hp, hr, hd, hal, hk, hdep, q⟩ := h
  obtain ⟨its, rv, hl, hz⟩ := I.list hs
  obtain ⟨u, rfl, ru⟩ := vals1 r
  obtain rfl : u = Value.ref a := ru
  have e : EachIs (fun (u : Value) b => ∃ v, RelV v u ∧ R v b) its bs := each_of_paired (S := fun (u : Value) v => RelV v u) hp rv
  refine PySem.W.sorted_data (enc := enc) hl.isList e (each_mono (fun u b ⟨v, r1, r2⟩ => Dp.reads I (enc b) v u (hd v b r2) r1) e) hal hk (by rw [← e.length, ← rv.length]; exact hz) (fun b hb => by have := hdep b hb; omega) fun out ol oe => ?_
  obtain ⟨ys, y1, y2⟩ := each_back hr oe
  have hol : out.length ≤ sizeLine := by rw [ol, ← e.length, ← rv.length]; exact hz
  have hat := sortedAll_at s.heap its out.toArray
  refine ⟨.ref (s.heap.objs.size + 1), upd H (s.heap.objs.size + 1) (.lst ys), I.laid (t' := s.toks) (fun b o e => sortedAll_old e) (Nat.le_succ _) ⟨?_, out, ?_⟩, rfl, q ys _ y2 (I.hok.fresh (Nat.le_succ _))⟩
  · rw [y1.length]; exact hol
  · exact hat.elim fun n hn => ⟨n, y1, hn⟩
end
end Lt

set_option Elab.async false
set_option linter.all false
set_option maxRecDepth 100000
set_option maxHeartbeats 4000000
/-! sorted(xs, key=lambda x: (len(x[0]), x[0])), x[0] a tuple of numbers -/
namespace Lt
open PySem PySem.Spec PyProof.Rows L2 NdefX LamX LmX
open PySem.W (EachIs AllAlike Sortable dataLe KeyPure)
def keyE (x : Str) (j1 j2 k : Nat) (p1 p2 p3 p4 p5 p6 p7 p8 p9 : Pos) : Expr := .Tuple [.Call (.Name "len" p1) [.Subscript (.Name x p2) (.Constant (.int 0) j1 p3) p4] [] p5, .Subscript (.Name x p6) (.Constant (.int 0) j2 p7) p8] k p9
def keyD (t : List Nat) : PyData := .tuple [.int t.length, dT t]
theorem reads_nats {h : Heap} : ∀ {t : List Nat} {its : List Value}, Vals (nIs t) its → ReadsAll h its (t.map dN) []
  | [], _, .nil => .nil
  | n :: t, _, .cons r s => by
    obtain ⟨k, rfl⟩ := r
    exact .cons (.int _ _) (reads_nats s)
section
variable {X : Cx} {pins : List (Addr × Obj)} {σ : L2.St} {H : Hp} {s : Shared}
theorem name_at {x : Str} {i : Nat} {t : Addr} {E : Value → Shared → Prop} {Q : Value → Shared → Prop} {p1 : Pos} (I : Inv X pins σ H s) (hN : X.N[i]? = some x) (hv : Vis X.env.scope x) (hd : (x == ("__debug__" : Str)) = false) (hcd : (x == ("__classdict__" : Str)) = false) (hσ : σ[i]? = some (some (.ref t)))
    (h : Q (.ref t) s) : wpAny (model X.prog X.w) X.A (eval (.Name x p1) X.env) Q E s := by
  obtain ⟨m, hn, hl⟩ := I.loc
  obtain ⟨u, r, l⟩ := hl i x _ hN hσ hv
  obtain rfl : u = Value.ref t := r
  rcases l with ⟨hk, hm⟩ | ⟨hk | hk, c, hc, hcell⟩
  · exact wpAny_Name (wpAny_loadName_local I.ok.kind hk hn hm h) hd
  · exact wpAny_Name (wpAny_loadName_cell I.ok.kind hk hc hcell h) hd
  · exact wpAny_Name (wpAny_loadName_free I.ok.kind hk hc hcell h hcd) hd
theorem part_at {x : Str} {i : Nat} {t p : Addr} {w : V} {E : Value → Shared → Prop} {Q : Value → Shared → Prop} {j : Nat} {p1 p2 p3 : Pos} (I : Inv X pins σ H s) (hN : X.N[i]? = some x) (hv : Vis X.env.scope x) (hd : (x == ("__debug__" : Str)) = false) (hcd : (x == ("__classdict__" : Str)) = false) (hσ : σ[i]? = some (some (.ref t)))
    (ht : SqT X.K H t [.ref p, w]) (h : ∀ k, Q (.ref p) { s with toks := k }) : wpAny (model X.prog X.w) X.A (eval (.Subscript (.Name x p1) (.Constant (.int 0) j p2) p3) X.env) Q E s := by
  refine Subscript_ (name_at I hN hv hd hcd hσ (wpAny_Constant_int ?_))
  have I2 := I.tok (s.toks + 1)
  obtain ⟨its, r, pl, hz⟩ := I2.tuple ht
  have hl := r.length
  have l2 : its.length = 2 := hl.symm
  obtain ⟨u, e1, e2⟩ : ∃ u, its[0]? = some u ∧ L2.RelV (.ref p) u := r.get (i := 0) rfl
  obtain rfl : u = Value.ref p := e2
  exact subscriptTail_builtinR (x := .ref p) pl.typeIs slot_tuple_getitem.lookup (getItem_tuple (j := 0) pl (by decide) (by decide) (by rw [List.size_toArray, l2]; rfl) (by simpa using e1) ⟨rfl, h _⟩)
theorem key_body {x : Str} {i : Nat} {t p : Addr} {w : V} {tn : List Nat} {E : Value → Shared → Prop} {j1 j2 k : Nat} {p1 p2 p3 p4 p5 p6 p7 p8 p9 : Pos} (I : Inv X pins σ H s) (hN : X.N[i]? = some x) (hv : Vis X.env.scope x) (hd : (x == ("__debug__" : Str)) = false) (hcd : (x == ("__classdict__" : Str)) = false) (hσ : σ[i]? = some (some (.ref t)))
    (gl : Gl X ("len" : Str)) (ml : X.mg "len" = none) (ht : SqT X.K H t [.ref p, w]) (hp : SqT X.K H p (nIs tn)) : wpAny (model X.prog X.w) X.A (eval (keyE x j1 j2 k p1 p2 p3 p4 p5 p6 p7 p8 p9) X.env) (KeyPure (keyD tn) s) E s := by
  refine wpAny_Tuple_spliced ?_
  show wpAny _ _ (spliced ((false, eval (.Call (.Name "len" p1) [.Subscript (.Name x p2) (.Constant (.int 0) j1 p3) p4] [] p5) X.env) :: (false, eval (.Subscript (.Name x p6) (.Constant (.int 0) j2 p7) p8) X.env) :: [])) _ _ _
  refine Calls.spliced_cons (wpAny_Call_Name_kw (ld_blt I gl ml PySem.boot_len (PyProof.Rows.callWith_builtin1 ?_ (by rfl) (by rfl))))
  show wpAny _ _ (spliced ((false, eval (.Subscript (.Name x p2) (.Constant (.int 0) j1 p3) p4) X.env) :: [])) _ _ _
  refine Calls.spliced_cons (part_at I hN hv hd hcd hσ ht fun k1 => Calls.spliced_nil ?_)
  have I3 := I.tok k1
  obtain ⟨its, r, pl, hz⟩ := I3.tuple hp
  have hl := r.length
  rw [nIs_len] at hl
  have hs63 : (its.toArray.size : Int) < 2 ^ 63 := by
    rw [List.size_toArray]
    have h1 : its.length ≤ sizeLine := by rw [← r.length]; exact hz
    rw [sizeLine_eq] at h1
    omega
  refine PyProof.Rows.len_tuple pl hs63 ?_
  have I4 := (I3.tok (k1 + 1)).tok (k1 + 1 + 1)
  refine Calls.spliced_cons (part_at I4 hN hv hd hcd hσ ht fun k2 => Calls.spliced_nil ?_)
  have I5 := I4.tok k2
  obtain ⟨its5, r5, ⟨o5, ho5, hc5, n5, hd5⟩, _⟩ := I5.tuple hp
  refine ⟨by show 2 ≤ sizeLine; decide, _, k2, rfl, fun b o e => Heap.get?_push_of_some _ e, ?_⟩
  refine .tuple (Heap.get?_push_size _ rfl) rfl rfl ?_
  have e1 : its.toArray.size = tn.length := by rw [List.size_toArray, hl]
  have r2 := reads_nats (h := s.heap.push { cls := .type "tuple", data := .seq [Value.int (its.toArray.size : Int) (k1 + 1), Value.ref p].toArray }) r5
  rw [e1]
  refine .cons (.int _ _) (.cons (bs := []) (as := []) (.tuple (Heap.get?_push_of_some _ ho5) hc5 hd5 ?_) .nil)
  rw [e1] at r2
  exact (by simpa using r2)
end
theorem alike_nats : ∀ a b : List Nat, PySem.W.alikeAll (a.map dN) (b.map dN) = true
  | [], _ => by simp [PySem.W.alikeAll]
  | _ :: _, [] => by simp [PySem.W.alikeAll]
  | x :: a, y :: b => by
    rw [List.map_cons, List.map_cons, PySem.W.alikeAll, alike_nats a b]
    rfl
theorem alike_key (a b : List Nat) : PySem.W.alike (keyD a) (keyD b) = true := by
  show (true && (PySem.W.alikeAll (a.map dN) (b.map dN) && true)) = true
  rw [alike_nats]
  rfl
theorem depth_key (a : List Nat) : (keyD a).depth = 2 := by
  show max 0 (max (PyData.depthAll (a.map dN) + 1) 0) + 1 = 2
  rw [depth_nats]
  rfl
def rSortedK (K : PySem.W.Frag) (q : Str) (params : Arguments) (scope : Scope) (cells : List (Str × Addr)) (body : Expr) : List V → List V → Hp → VK → Prop := fun vs zs H Q => ∃ (a f c' : Addr) (xs : List V) (β : Type) (bs : List β) (key : β → List Nat) (R : V → β → Prop), vs = [.ref a] ∧ zs = [.ref f] ∧ SqL K H a xs ∧ Paired R xs bs ∧
  (∀ v b, R v b → ∃ t p w, v = .ref t ∧ SqT K H t [.ref p, w] ∧ SqT K H p (nIs (key b))) ∧ H f = some (LmO f (lmF q params scope cells c') body .none) ∧ H c' = some (CodeO c' q) ∧
  ∀ ys p, Paired R ys (bs.mergeSort (dataLe false fun b => keyD (key b))) → H p = none → Q (.ref p) (upd H p (.lst ys))
section
variable {X : Cx}
theorem cr_sortedK {q x : Str} {params : Arguments} {scope : Scope} {body : Expr} {N : List Str} {j1 j2 k : Nat} {p1 p2 p3 p4 p5 p6 p7 p8 p9 : Pos} (hb : body = keyE x j1 j2 k p1 p2 p3 p4 p5 p6 p7 p8 p9) (S : NScope N [x] [] scope) (hN : N[0]? = some x) (hd : (x == ("__debug__" : Str)) = false) (hcd : (x == ("__classdict__" : Str)) = false)
    (gl : scope.names.lookup ("len" : Str) = some .globalImplicit) (ml : X.mg "len" = none) (cp : X.Ok → Caps X (cloFrom X.env.cells scope.names []) [] []) (hr : Room 4 X.A)
    (hbi : ∀ (s : Shared) (F : NF) (doc pm ctv u : Value), F.params = params → BindsTo s (lmFd F body .none doc pm ctv) ⟨[u], []⟩ ([x].zip [u])) :
    CallRK X (.builtin "sorted") ["key"] (rSortedK X.K q params scope X.env.cells body) := by
  subst hb
  intro pins s σ H vs zs us ws Q I rv rz h
  obtain ⟨a, f, c', xs, β, bs, key, R, rfl, rfl, hs, hp, hR, hf, hc, qq⟩ := h
  obtain ⟨its, ri, hl, hz⟩ := I.list hs
  obtain ⟨u, rfl, ru⟩ := vals1 rv
  obtain rfl : u = Value.ref a := ru
  obtain ⟨u2, rfl, ru2⟩ := vals1 rz
  obtain rfl : u2 = Value.ref f := ru2
  have hu := hr.units
  have e : EachIs (fun (u : Value) b => ∃ v, RelV v u ∧ R v b) its bs := each_of_paired (S := fun (u : Value) v => RelV v u) hp ri
  have hbl : bs.length ≤ sizeLine := by rw [← e.length, ← ri.length]; exact hz
  show wpAny _ _ (call (.builtin "sorted") [.ref a] [(Str.ofString "key", .ref f)]) _ _ s
  refine PySem.W.sorted_key_data (b := false) (f := .ref f) (fun b => keyD (key b)) hl.isList e (fun d hd d' hd' => ?_) (.inl fun d hd => ?_) hbl (fun b _ => ?_) (PyProof.Rows.ksk_s1 _ _) (fun _ => PyProof.Rows.ksk_l1 _ _) (fun _ => PyProof.Rows.ksk_t1 _ _) (fun v b hv hb' h' tk kp => ?_) fun out c h' tk kp fr hat hol oe => ?_
  · obtain ⟨b, _, rfl⟩ := List.mem_map.mp hd
    obtain ⟨b', _, rfl⟩ := List.mem_map.mp hd'
    exact alike_key _ _
  · obtain ⟨b, _, rfl⟩ := List.mem_map.mp hd
    exact ⟨_, _, rfl⟩
  · have z := depth_key (key b)
    show X.A.units + 2 + (keyD (key b)).depth < cLine
    omega
  · obtain ⟨v', rv', hR'⟩ := hv
    obtain ⟨t, p, w, rfl, ht, hpp⟩ := hR v' b hR'
    obtain rfl : v = Value.ref t := rv'
    have I1 : Inv X pins σ H { s with heap := h', toks := tk } := I.kept kp
    obtain ⟨od, sl, doc, pm, ctv, ho⟩ := lmO_at I1.hok hf
    have C := cells_of I1 (cp I1.ok)
    have e0 := I1.env0.in1.in1
    have hr2 : Room 2 X.A.in1.in1 := hr.in1.in1
    have rc : codeAny (model X.prog X.w) X.A.in1.in1 (.call (.ref f) ⟨[.ref t], []⟩) (fun r s2 => match r with | .error _ => False | .ok (.ret u) => KeyPure (keyD (key b)) { s with heap := h', toks := tk } u s2 | .ok _ => False) { s with heap := h', toks := tk } := by
      refine PySem.W.kla_callFunE hr2.depth ho rfl S.co S.gen rfl (codeO_at I1.hok hc) (hbi _ _ doc pm ctv _ rfl _ _ _ _ ?_)
      refine wpAny_newFunctionEnv S.nocell (fun ⟨n, _⟩ hy => S.par n (List.of_mem_zip hy).1) (fun h₁ hns hsb => ⟨I1.nolimit.fresh _ hsb, ?_⟩) S.kind
      show codeAny _ _ (.expr (keyE x j1 j2 k p1 p2 p3 p4 p5 p6 p7 p8 p9) (envF (lmF q params scope X.env.cells c') f h'.objs.size)) _ _
      have kp1 : ∀ b o, h'.get? b = some o → h₁.get? b = some o := fun b o q => hsb.extBut b o (Nat.ne_of_lt (Heap.lt_size q)) (Heap.get?_push_of_some _ q)
      have J := inv_startN (CX := C8.CX0) (E := C8.E0) (f := f) (N := N) (F := lmF q params scope X.env.cells c') (vs := [V.ref t]) (us := [Value.ref t]) (tk := tk + ([x].zip [Value.ref t]).length) S hr2.hd e0 rfl (.cons rfl .nil) C hns kp1
      refine PySem.W.kla_codeExpr (wpAny_mono (key_body (i := 0) J hN (.inl (S.par x List.mem_cons_self)) hd hcd rfl gl ml ht hpp) (fun v s' hq => ?_) fun e s' hq => hq)
      obtain ⟨h2, tk2, e2, k2, r2⟩ := hq
      exact ⟨h2, tk2, e2, fun b o q => k2 b o (kp1 b o q), r2⟩
    refine wpAny_call (codeAny_mono rc fun o s' hq => ?_)
    rcases o with e | fl
    · exact hq.elim
    · cases fl with
      | ret u => exact hq
      | next => exact hq.elim
      | brk => exact hq.elim
      | cont => exact hq.elim
  · have hbr : ∀ v b, R v b → ∃ p, v = V.ref p := fun v b r => let ⟨t, _, _, e, _⟩ := hR v b r; ⟨t, e⟩
    obtain ⟨ys, y1, y2⟩ := each_back hbr oe
    refine ⟨.ref (s.heap.objs.size + 1), upd H (s.heap.objs.size + 1) (.lst ys), I.laid (t' := tk) kp (Nat.le_succ _) ⟨?_, out, c, y1, hat⟩, rfl, qq ys _ y2 (I.hok.fresh (Nat.le_succ _))⟩
    rw [y1.length, hol]; exact hbl
end
end Lt

set_option Elab.async false
set_option linter.all false
set_option maxRecDepth 100000
set_option maxHeartbeats 2000000
/-! zip of a list and a tuple; max(xs, default=None) -/
namespace Lt
open PySem PySem.Spec PyProof.Rows L2
/-- the list at a, the tuple at b -/
def ItzM (K : PySem.W.Frag) (a b : Addr) : It :=
  ⟨fun i H => ∃ (xs ys : List V) (x y : V), SqL K H a xs ∧ SqT K H b ys ∧ xs[i]? = some x ∧ ys[i]? = some y,
    fun i H v H' => ∃ T x y, v = .ref T ∧ H T = none ∧ H' = upd H T (.tup [x, y]) ∧ (∀ xs, SqL K H a xs → xs[i]? = some x) ∧ ∀ ys, SqT K H b ys → ys[i]? = some y,
    fun i H => ∃ xs ys : List V, SqL K H a xs ∧ SqT K H b ys ∧ i = min xs.length ys.length⟩
theorem turn_zipM {P : Program} {w : World} {K : PySem.W.Frag} {elts : List Expr} {kk : Nat} {tpos : Pos} {a b z TI TO i1 i2 : Addr} (S : ZipSep2 z TI TO i1 i2 [i1, a] [i2, b]) (ha : a ≠ i1) (hb : b ≠ i2) :
    Turn P w K (.Tuple elts kk tpos) (ItzM K a b) [z, TI, TO, i1, i2] z (fun i h => IsZip h z TI TO .none ∧ IsTupOf2 h TI (.ref i1) (.ref i2) ∧ (∃ x y, IsTupOf2 h TO x y) ∧ h.IsListIter i1 a i ∧ h.IsTupleIter i2 b i) where
  mem := by simp
  obj := fun i h st c hc => by
    obtain ⟨hz, hTI, ⟨x, y, hTO⟩, ⟨o1, e1, _, d1⟩, ⟨o2, e2, _, d2⟩⟩ := st
    have e' : c = z ∨ c = TI ∨ c = TO ∨ c = i1 ∨ c = i2 := by simpa using hc
    rcases e' with q | q | q | q | q
    · rw [q]; exact ⟨_, hz, fun v q => nomatch q⟩
    · rw [q]; exact ⟨_, hTI, fun v q => nomatch q⟩
    · rw [q]; exact ⟨_, hTO, fun v q => nomatch q⟩
    · rw [q]; exact ⟨o1, e1, fun v q => by rw [d1] at q; cases q⟩
    · rw [q]; exact ⟨o2, e2, fun v q => by rw [d2] at q; cases q⟩
  keep := fun i h h' st k => by
    obtain ⟨hz, hTI, ⟨x, y, hTO⟩, h1, h2⟩ := st
    exact ⟨k z (by simp) _ hz, k TI (by simp) _ hTI, ⟨x, y, k TO (by simp) _ hTO⟩, h1.at fun o q => k i1 (by simp) o q, h2.at fun o q => k i2 (by simp) o q⟩
  item := by
    intro X hP hw hK hc i pins s σ H E I hf st hg
    subst hP hw hK
    obtain ⟨hz, hTI, hTO, h1, h2⟩ := id st
    obtain ⟨xs, ys, x, y, hqx, hqy, hx, hy⟩ := hg
    obtain ⟨its, rv, p, _⟩ := I.list hqx
    obtain ⟨its2, rv2, p2, _⟩ := I.tuple hqy
    obtain ⟨u, hu, ru⟩ := rv.get hx
    obtain ⟨u2, hu2, ru2⟩ := rv2.get hy
    have hh : X.A.in1.handled = none := I.ok.hd hc
    have l1 := (List.getElem?_eq_some_iff.mp hu).1
    have l2 := (List.getElem?_eq_some_iff.mp hu2).1
    have W := WalksT.zipD2 (prog := X.prog) (w := X.w) (A := X.A) S (Draws.list hh i1 a ha its.toArray) (Draws.tuple hh i2 b hb its2.toArray)
    refine W.item i s _ E (by simp; omega) ⟨hz, hTI, hTO, ⟨h1, p.isList⟩, ⟨h2, p2⟩⟩ fun T vals h' tk hv hle hT mid kx => ⟨.ref T, rfl, W.go elts kk tpos i T _ _ E mid fun h'' st' k2 => ?_⟩
    obtain ⟨x1, x2, e1, e2, rfl⟩ := hv
    have hx1 : x1 = u := by
      have e1 : its.toArray[i]? = some x1 := e1
      rw [List.getElem?_toArray, hu] at e1
      exact (Option.some.inj e1).symm
    have hx2 : x2 = u2 := by
      have e2 : its2.toArray[i]? = some x2 := e2
      rw [List.getElem?_toArray, hu2] at e2
      exact (Option.some.inj e2).symm
    subst hx1 hx2
    have hTw := W.apart i T h' mid
    have hT2 : h''.IsTuple T #[x1, x2] := hT.at fun o e => k2 T o hTw e
    obtain ⟨z', TI', TO', ⟨h1', _⟩, ⟨h2', _⟩⟩ := st'
    have fr : H T = none := I.hok.fresh hle
    have sub : ∀ c, c ∉ [z, TI, TO, i1, i2] → c ∉ [z, TO, i1, i2] := fun c hc hm => hc (by
      have e' : c = z ∨ c = TO ∨ c = i1 ∨ c = i2 := by simpa using hm
      simp
      rcases e' with q | q | q | q <;> simp [q])
    have I1 : Inv X pins σ (upd H T (.tup [x, y])) { s with heap := h'', toks := tk } :=
      I.turnedNew (t' := tk) (ch := [z, TI, TO, i1, i2]) (fun c o hb q => k2 c o (sub c hb) (kx c o (sub c hb) q)) hf hle ⟨by show 2 ≤ sizeLine; decide, [x1, x2], .cons ru (.cons ru2 .nil), hT2⟩
    refine ⟨.ref T, _, I1, rfl, ⟨_, x, y, rfl, fr, rfl, fun l hl => by rw [I.list_inj hl hqx]; exact hx, fun l hl => by rw [I.tuple_inj hl hqy]; exact hy⟩, ⟨z', TI', TO', h1', h2'⟩, fun c hcm => ?_⟩
    have hlt : c < s.heap.objs.size := by
      obtain ⟨_, _, hTO⟩ := hTO
      have e' : c = z ∨ c = TI ∨ c = TO ∨ c = i1 ∨ c = i2 := by simpa using hcm
      rcases e' with q | q | q | q | q
      · rw [q]; exact Heap.lt_size hz
      · rw [q]; exact Heap.lt_size hTI
      · rw [q]; exact Heap.lt_size hTO
      · rw [q]; obtain ⟨_, e1, _⟩ := h1; exact Heap.lt_size e1
      · rw [q]; obtain ⟨_, e2, _⟩ := h2; exact Heap.lt_size e2
    rw [upd_ne (Nat.ne_of_lt (Nat.lt_of_lt_of_le hlt hle))]
    exact (hf c hcm).1
  done := by
    intro X hP hw hK hc i pins s σ H E I hf st hg
    subst hP hw hK
    obtain ⟨hz, hTI, hTO, h1, h2⟩ := id st
    obtain ⟨xs, ys, hqx, hqy, hend⟩ := hg
    obtain ⟨its, rv, p, _⟩ := I.list hqx
    obtain ⟨its2, rv2, p2, _⟩ := I.tuple hqy
    have hh : X.A.in1.handled = none := I.ok.hd hc
    have W := WalksT.zipD2 (prog := X.prog) (w := X.w) (A := X.A) S (Draws.list hh i1 a ha its.toArray) (Draws.tuple hh i2 b hb its2.toArray)
    have en : i = min its.toArray.size its2.toArray.size := by
      rw [List.size_toArray, List.size_toArray, ← rv.length, ← rv2.length]
      exact hend
    refine W.done s _ E ?_ fun h' tk kk => ⟨rfl, I.turnedL (t' := tk) (ch := [z, TI, TO, i1, i2]) (fun c o hb q => kk c o (fun hm => hb ?_) q) hf⟩
    · rw [← en]
      exact ⟨hz, hTI, hTO, ⟨h1, p.isList⟩, ⟨h2, p2⟩⟩
    · have e' : c = z ∨ c = TO ∨ c = i1 ∨ c = i2 := by simpa using hm
      simp
      rcases e' with q | q | q | q <;> simp [q]
  self := fun A i s Q E st h => wpAny_pyIter_zip st.1 h
def iZipM (K : PySem.W.Frag) (ta : TA) : TI := fun σ H R => ta σ H fun vs H1 => ∃ a b xs ys, vs = [.ref a, .ref b] ∧ SqL K H1 a xs ∧ SqT K H1 b ys ∧ R (ItzM K a b) H1
theorem pi_zipM {X : Cx} {e e2 : Expr} {ta : TA} {p pos tpos : Pos} {elts : List Expr} {kk : Nat} (hg : Gl X "zip") (hm : X.mg "zip" = none) (ha : PA X [e, e2] ta)
    (hs : starEach [e, e2] X.env = (false, eval e X.env) :: starEach [e2] X.env := by rfl) (hpl : (backTo pos (starEach [e2] X.env)).any (·.1) = false := by rfl) :
    PI X (.Tuple elts kk tpos) (.Call (.Name "zip" p) [e, e2] [] pos) (iZipM X.K ta) := by
  refine ⟨fun pins s σ H R I h => ?_⟩
  refine Call_ (ld_blt I hg hm PyProof.Rows.boot_zip (PyProof.Rows.callWith_type1 (thn (ha.run pos pins s σ H _ I h) fun us s1 ⟨vs, H1, I1, r1, q1⟩ => ?_) hs hpl))
  obtain ⟨a, b, xs, ys, ex, hqx, hqy, q⟩ := q1
  subst ex
  obtain ⟨v1, v2, rfl, e1, e2⟩ := vals2 r1
  obtain rfl : v1 = Value.ref a := e1
  obtain rfl : v2 = Value.ref b := e2
  obtain ⟨its, rv, p1, _⟩ := I1.list hqx
  obtain ⟨its2, rv2, p2, _⟩ := I1.tuple hqy
  obtain ⟨o2, ho2, _⟩ := id p2
  have la : a < s1.heap.objs.size := p1.lt
  have lb : b < s1.heap.objs.size := Heap.lt_size ho2
  refine zip_begins2 (begins_list a its.toArray) (begins_tuple b its2.toArray) p1.isList p2 fun h' hz hTI hTO g1 g2 hsz hk => wpAny_pyIter_zip hz ?_
  have I2 : Inv X pins σ H1 { s1 with heap := h' } := I1.kept (t' := s1.toks) hk
  have F : ∀ c, c ∈ [s1.heap.objs.size + 4, s1.heap.objs.size + 2, s1.heap.objs.size + 3, s1.heap.objs.size, s1.heap.objs.size + 1] → FpOk X pins H1 c := fun c hcm => by
    have e' : c = s1.heap.objs.size + 4 ∨ c = s1.heap.objs.size + 2 ∨ c = s1.heap.objs.size + 3 ∨ c = s1.heap.objs.size ∨ c = s1.heap.objs.size + 1 := by simpa using hcm
    have hle : s1.heap.objs.size ≤ c := by
      rcases e' with z | z | z | z | z
      · rw [z]; exact Nat.le_add_right _ _
      · rw [z]; exact Nat.le_add_right _ _
      · rw [z]; exact Nat.le_add_right _ _
      · rw [z]; exact Nat.le_refl _
      · rw [z]; exact Nat.le_add_right _ _
    exact I1.fpOk hle (I1.hok.fresh hle)
  exact ⟨s1.heap.objs.size + 4, [s1.heap.objs.size + 4, s1.heap.objs.size + 2, s1.heap.objs.size + 3, s1.heap.objs.size, s1.heap.objs.size + 1], _, _, H1, rfl, I2,
    turn_zipM (zip_sep2 (N := s1.heap.objs.size) (fp1 := [a]) (fp2 := [b]) (fun c hc => by rw [List.mem_singleton.mp hc]; exact la) (fun c hc => by rw [List.mem_singleton.mp hc]; exact lb)) (Nat.ne_of_lt la) (Nat.ne_of_lt (Nat.lt_succ_of_lt lb)),
    ⟨hz, hTI, ⟨_, _, hTO⟩, ⟨_, g1, rfl, rfl⟩, ⟨_, g2, rfl, rfl⟩⟩, F, q⟩
theorem for_zipM {K : PySem.W.Frag} {a b : Addr} {xs ys : List V} {g : TG} {tb : TS} {D : Ends} {σ : L2.St} {H : Hp} (hl : xs.length = ys.length) (Pv : Nat → L2.St → Hp → Prop) (h0 : Pv 0 σ H) (hq : ∀ i σ H, Pv i σ H → SqL K H a xs ∧ SqT K H b ys)
    (hs : ∀ (i : Nat) (x y : V) (T : Addr) (σ : L2.St) (H : Hp), xs[i]? = some x → ys[i]? = some y → Pv i σ H → H T = none → g (.ref T) σ (upd H T (.tup [x, y])) fun σ2 H2 => tb { D with nx := Pv (i + 1), ct := Pv (i + 1), bk := D.nx } σ2 H2) (hd : ∀ σ H, Pv xs.length σ H → D.nx σ H) :
    ∃ W : Nat → Nat → L2.St → Hp → Prop, (∃ m, W 0 m σ H) ∧ ∀ i m σ H, W i m σ H →
      ((ItzM K a b).stop i H ∧ D.nx σ H) ∨ ((ItzM K a b).go i H ∧ ∃ N : L2.St → Hp → Prop, (∀ σ' H', N σ' H' → ∃ m', m' < m ∧ W (i + 1) m' σ' H') ∧ ∀ v H', (ItzM K a b).yld i H v H' → g v σ H' fun σ2 H2 => tb { D with nx := N, ct := N, bk := D.nx } σ2 H2) := by
  refine ⟨fun i m σ H => m = xs.length - i ∧ i ≤ xs.length ∧ Pv i σ H, ⟨xs.length, rfl, Nat.zero_le _, h0⟩, ?_⟩
  rintro i m σ H ⟨rfl, hi, p⟩
  obtain ⟨qx, qy⟩ := hq i σ H p
  by_cases hlt : i < xs.length
  · refine .inr ⟨⟨xs, ys, _, _, qx, qy, List.getElem?_eq_getElem hlt, List.getElem?_eq_getElem (by omega)⟩, Pv (i + 1), fun σ' H' p' => ⟨xs.length - (i + 1), by omega, rfl, hlt, p'⟩, fun v H' y => ?_⟩
    obtain ⟨T, x', y', rfl, hT, rfl, f1, f2⟩ := y
    exact hs i x' y' T σ H (f1 xs qx) (f2 ys qy) p hT
  · have e : i = xs.length := by omega
    subst e
    exact .inl ⟨⟨xs, ys, qx, qy, by omega⟩, hd σ H p⟩
/-! ### max(xs, default=None) -/
def rMaxDN (K : PySem.W.Frag) : List V → List V → Hp → VK → Prop := fun vs zs H Q => ∃ (a : Addr) (ns : List Nat), vs = [.ref a] ∧ zs = [.non] ∧ SqL K H a (nIs ns) ∧ Q (if ns = [] then .non else nI (ns.foldl max 0)) H
theorem foldl_max_cast : ∀ (ns : List Nat) (n : Nat), (ns.map fun (k : Nat) => (k : Int)).foldl max (n : Int) = ((ns.foldl max n : Nat) : Int)
  | [], n => rfl
  | m :: ns, n => by
    rw [List.map_cons, List.foldl_cons, List.foldl_cons, ← foldl_max_cast ns (max n m)]
    congr 1
    omega
theorem alk_mx (ns : List Nat) : PySem.W.AlikeAll (ns.map dN) := ⟨fun x hx y hy => by
  obtain ⟨a, _, rfl⟩ := List.mem_map.mp hx
  obtain ⟨b, _, rfl⟩ := List.mem_map.mp hy
  rfl, fun x hx => by
  obtain ⟨a, _, rfl⟩ := List.mem_map.mp hx
  intro z
  cases z⟩
theorem dep_mx : ∀ ns : List Nat, PyData.depthAll (ns.map dN) = 0
  | [] => rfl
  | n :: ns => by
    show max 0 (PyData.depthAll (ns.map dN)) = 0
    rw [dep_mx ns]
    rfl
theorem map_dN (ns : List Nat) : ns.map dN = (ns.map fun (k : Nat) => (k : Int)).map PyData.int := by
  rw [List.map_map]
  rfl
theorem cr_maxDN {X : Cx} (hc : X.calm = true) (hu : X.A.units + 1 < cLine) : CallRK X (.builtin "max") [Str.ofString "default"] (rMaxDN X.K) := by
  intro pins s σ H vs zs us ws Q I r rz h
  obtain ⟨a, ns, rfl, rfl, hs, q⟩ := h
  obtain rfl := Vals.ref1 r
  obtain ⟨w1, rfl, e1⟩ := vals1 rz
  obtain rfl : w1 = Value.none := e1
  obtain ⟨its, rv, hl, _⟩ := I.list hs
  have hd := dep_mx ns
  refine PySem.W.max_list_default (xs := ns.map dN) (as := []) (I.ok.hd hc) hl.isList (reads_nats rv) (alk_mx ns) (by rw [hd]; exact hu) (fun e h' tk kp => ?_) fun y ys i v h' tk bs e hv rd kp => ?_
  · have e : ns = [] := List.map_eq_nil_iff.mp e
    rw [if_pos e] at q
    exact ⟨.non, H, I.kept kp, rfl, q⟩
  · cases ns with
    | nil => cases e
    | cons n ns =>
      rw [List.map_cons] at e
      injection e with e1 e2
      subst e1 e2
      rw [if_neg (fun z => by cases z)] at q
      have e3 : PySem.W.maxD (dN n) (ns.map dN) = .int (((n :: ns).foldl max 0 : Nat) : Int) := by
        rw [map_dN]
        refine (PySem.W.maxD_ints (n : Int) _).trans ?_
        rw [foldl_max_cast, List.foldl_cons, Nat.zero_max]
      rw [e3] at rd
      cases rd with
      | int => exact ⟨nI _, H, I.kept kp, ⟨_, rfl⟩, q⟩
end Lt

set_option Elab.async false
set_option linter.all false
set_option maxRecDepth 100000
set_option maxHeartbeats 1000000
/-! the order of a polynomial's parts -/
namespace Lt
open PySem PySem.Spec PyProof.Rows L2 PySem.W
def kcL : List Nat := [0, 1, 2, 7, 3, 8, 12, 22, 4, 9, 13, 23, 16, 26, 32, 42, 5, 10, 14, 24, 17, 27, 33, 43, 19, 29, 35, 45, 38, 48, 52, 57, 6, 11, 15, 25, 18, 28, 34, 44, 20, 30, 36, 46, 39, 49, 53, 58, 21, 31, 37, 47, 40, 50, 54, 59, 41, 51, 55, 60, 56, 61, 62, 63]
def kc (t : Nat) : Nat := kcL.getD t 0
abbrev Sg := Int ⊕ List Nat
def keyA (t : Nat) : List Sg := .inl 1 :: .inl (insOf t).length :: .inl 1 :: keyToks (dT (insOf t))
def diffIn : List Sg → List Sg → Bool
  | x :: r, y :: t => if x = y then diffIn r t else true
  | _, _ => false
theorem lex_in : ∀ {a b : List Sg} (x y : List Sg), diffIn a b = true → lexLt itemOrd (a ++ x) (b ++ y) = lexLt itemOrd a b
  | [], _, _, _, h => by cases h
  | _ :: _, [], _, _, h => by cases h
  | p :: a, q :: b, x, y, h => by
    rw [List.cons_append, List.cons_append]
    by_cases e : p = q
    · subst e
      unfold diffIn at h
      rw [if_pos rfl] at h
      rw [lex_self (O := itemOrd), lex_self (O := itemOrd)]
      exact lex_in x y h
    · rw [lex_diff (O := itemOrd) e, lex_diff (O := itemOrd) e]
def okPair (t u : Nat) : Bool := t == u || (diffIn (keyA t) (keyA u) && (lexLt itemOrd (keyA t) (keyA u) == decide (kc t < kc u)) && !(kc t == kc u))
theorem okAll : ((List.range 64).all fun t => (List.range 64).all fun u => okPair t u) = true := by decide +kernel
theorem ok_at {t u : Nat} (ht : t < 64) (hu : u < 64) (hn : t ≠ u) : diffIn (keyA t) (keyA u) = true ∧ lexLt itemOrd (keyA t) (keyA u) = decide (kc t < kc u) ∧ kc t ≠ kc u := by
  have h := List.all_eq_true.mp (List.all_eq_true.mp okAll t (List.mem_range.mpr ht)) u (List.mem_range.mpr hu)
  unfold okPair at h
  rw [Bool.or_eq_true] at h
  rcases h with h | h
  · exact absurd (by simpa using h) hn
  · simp only [Bool.and_eq_true, beq_iff_eq, Bool.not_eq_true', beq_eq_false_iff_ne] at h
    exact ⟨h.1.1, h.1.2, h.2⟩
theorem kc_inj {t u : Nat} (ht : t < 64) (hu : u < 64) (e : kc t = kc u) : t = u := by
  by_cases h : t = u
  · exact h
  · exact absurd e (ok_at ht hu h).2.2
/-- a key with the length and the part in front -/
theorem le_of_key {enc : Nat → PyData} {tl : Nat → List Sg} (he : ∀ t, keyToks (enc t) = keyA t ++ tl t) {t u : Nat} (ht : t < 64) (hu : u < 64) : dataLe false enc t u = decide (kc t ≤ kc u) := by
  show (!lexLt itemOrd (keyToks (enc u)) (keyToks (enc t))) = _
  by_cases h : u = t
  · subst h
    have : lexLt itemOrd (keyToks (enc u)) (keyToks (enc u)) = false := (listOrd itemOrd).irrefl _
    rw [this, decide_eq_true (Nat.le_refl _)]
    rfl
  · obtain ⟨h1, h2, h3⟩ := ok_at hu ht h
    rw [he, he, lex_in _ _ h1, h2, ← decide_not]
    congr 1
    exact propext Nat.not_lt
/-- the encodings of both sides -/
def encT (g : Nat → Int) (t : Nat) : PyData := .tuple [.int (insOf t).length, dT (insOf t), .int (g t)]
theorem encT_key (g : Nat → Int) (t : Nat) : keyToks (encT g t) = keyA t ++ [.inl 1, .inl (g t), .inl 0] := by
  show Sum.inl 1 :: (keyToks (.int (insOf t).length) ++ (Sum.inl 1 :: (keyToks (dT (insOf t)) ++ (Sum.inl 1 :: (keyToks (.int (g t)) ++ [Sum.inl 0]))))) = _
  show Sum.inl 1 :: Sum.inl _ :: Sum.inl 1 :: (keyToks (dT (insOf t)) ++ (Sum.inl 1 :: Sum.inl (g t) :: [Sum.inl 0])) = _
  rfl
theorem keyD_key (t : Nat) : keyToks (keyD (insOf t)) = keyA t ++ [.inl 0] := by
  show Sum.inl 1 :: (keyToks (.int (insOf t).length) ++ (Sum.inl 1 :: (keyToks (dT (insOf t)) ++ [Sum.inl 0]))) = _
  rfl
/-- sorted by such keys and chosen, or chosen and sorted -/
theorem sorted_alike {enc enc' : Nat → PyData} {tl tl' : Nat → List Sg} (he : ∀ t, keyToks (enc t) = keyA t ++ tl t) (he' : ∀ t, keyToks (enc' t) = keyA t ++ tl' t) (p : Nat → Bool) {N : Nat} (hN : N ≤ 64) :
    ((List.range N).mergeSort (dataLe false enc)).filter p = ((List.range N).filter p).mergeSort (dataLe false enc') := by
  have T1 := sortLe_total (listOrd itemOrd) false fun t => keyToks (enc t)
  have T2 := sortLe_total (listOrd itemOrd) false fun t => keyToks (enc' t)
  have m1 : ∀ x ∈ ((List.range N).mergeSort (dataLe false enc)).filter p, x < 64 := fun x hx => by
    have := List.mem_mergeSort.mp (List.mem_filter.mp hx).1
    have := List.mem_range.mp this
    omega
  have m2 : ∀ x ∈ ((List.range N).filter p).mergeSort (dataLe false enc'), x < 64 := fun x hx => by
    have := (List.mem_filter.mp (List.mem_mergeSort.mp hx)).1
    have := List.mem_range.mp this
    omega
  have p1 : (((List.range N).mergeSort (dataLe false enc)).filter p).Perm ((List.range N).filter p) := (List.mergeSort_perm _ _).filter p
  have p2 : (((List.range N).filter p).mergeSort (dataLe false enc')).Perm ((List.range N).filter p) := List.mergeSort_perm _ _
  have s1 : (((List.range N).mergeSort (dataLe false enc)).filter p).Pairwise (fun a b => kc a ≤ kc b) := by
    have h := (List.pairwise_mergeSort (le := dataLe false enc) T1.trans (fun a b => by rw [Bool.or_eq_true]; exact T1.total a b) (List.range N)).filter p
    exact h.imp_of_mem fun ha hb e => by
      rw [le_of_key he (m1 _ ha) (m1 _ hb)] at e
      exact of_decide_eq_true e
  have s2 : (((List.range N).filter p).mergeSort (dataLe false enc')).Pairwise (fun a b => kc a ≤ kc b) := by
    have h := List.pairwise_mergeSort (le := dataLe false enc') T2.trans (fun a b => by rw [Bool.or_eq_true]; exact T2.total a b) ((List.range N).filter p)
    exact h.imp_of_mem fun ha hb e => by
      rw [le_of_key he' (m2 _ ha) (m2 _ hb)] at e
      exact of_decide_eq_true e
  exact List.Perm.eq_of_pairwise (fun a b ha hb h1 h2 => kc_inj (m1 a ha) (m2 b hb) (Nat.le_antisymm h1 h2)) s1 s2 (p1.trans p2.symm)
end Lt

set_option Elab.async false
set_option linter.all false
set_option maxRecDepth 100000
set_option maxHeartbeats 1000000
/-! the factors of a polynomial: differences, one input after the other, and sums over what lies within -/
namespace Lt
open PySem PySem.Spec PyProof.Rows L2
/-- the program's: after the first k inputs -/
def Gm (p : Int) (f : Nat → Int) : Nat → Nat → Int
  | 0, t => f t
  | k + 1, t => if t / 2 ^ k % 2 = 1 then (Gm p f k t - Gm p f k (t - 2 ^ k)) % p else Gm p f k t
def Tw : Nat → (Nat → Int) → Nat → Int
  | 0, f, _ => f 0
  | k + 1, f, t => if t / 2 ^ k % 2 = 1 then Tw k (fun s => f (2 ^ k + s)) t - Tw k f t else Tw k f t
theorem bit_high {j k t : Nat} (h : j < k) : (2 ^ k + t) / 2 ^ j % 2 = t / 2 ^ j % 2 := by
  obtain ⟨d, rfl⟩ : ∃ d, k = j + (d + 1) := ⟨k - j - 1, by omega⟩
  rw [Nat.pow_add, Nat.mul_add_div (Nat.two_pow_pos j), Nat.pow_succ]
  omega
theorem Gm_shift (p : Int) : ∀ (k j : Nat) (f : Nat → Int) (t : Nat), k ≤ j → Gm p f k (2 ^ j + t) = Gm p (fun s => f (2 ^ j + s)) k t
  | 0, j, f, t, _ => rfl
  | k + 1, j, f, t, h => by
    unfold Gm
    rw [bit_high (show k < j by omega)]
    split
    · rename_i hb
      have hle : 2 ^ k ≤ t := by
        by_cases z : t < 2 ^ k
        · rw [Nat.div_eq_of_lt z] at hb; omega
        · omega
      have e : 2 ^ j + t - 2 ^ k = 2 ^ j + (t - 2 ^ k) := Nat.add_sub_assoc hle _
      rw [e, Gm_shift p k j f t (by omega), Gm_shift p k j f (t - 2 ^ k) (by omega)]
    · exact Gm_shift p k j f t (by omega)
theorem Tm_shift : ∀ (k j : Nat) (f : Nat → Int) (t : Nat), k ≤ j → Tw k f (2 ^ j + t) = Tw k f t
  | 0, j, f, t, _ => rfl
  | k + 1, j, f, t, h => by
    unfold Tw
    rw [bit_high (show k < j by omega), Tm_shift k j _ t (by omega), Tm_shift k j f t (by omega)]
theorem split_bit {k t : Nat} (ht : t < 2 ^ (k + 1)) (hb : t / 2 ^ k % 2 = 1) : ∃ u, u < 2 ^ k ∧ t = 2 ^ k + u := by
  have hp := Nat.two_pow_pos k
  have hle : 2 ^ k ≤ t := by
    by_cases z : t < 2 ^ k
    · rw [Nat.div_eq_of_lt z] at hb; omega
    · omega
  rw [Nat.pow_succ] at ht
  exact ⟨t - 2 ^ k, by omega, by omega⟩
theorem low_bit {k t : Nat} (ht : t < 2 ^ (k + 1)) (hb : ¬ t / 2 ^ k % 2 = 1) : t < 2 ^ k := by
  by_cases z : t < 2 ^ k
  · exact z
  · rw [Nat.pow_succ] at ht
    have h1 : t / 2 ^ k = 1 := by
      refine Nat.div_eq_of_lt_le (by omega) (by omega)
    rw [h1] at hb
    exact absurd rfl hb
theorem Gm_Tm (p : Int) : ∀ (k : Nat) (f : Nat → Int) (t : Nat), t < 2 ^ k → Gm p f k t % p = Tw k f t % p
  | 0, f, t, h => by
    have : t = 0 := by
      have : t < 1 := h
      omega
    subst this
    rfl
  | k + 1, f, t, h => by
    unfold Gm Tw
    split
    · rename_i hb
      obtain ⟨u, hu, rfl⟩ := split_bit h hb
      have e : 2 ^ k + u - 2 ^ k = u := by omega
      rw [e, Gm_shift p k k f u (Nat.le_refl _), Tm_shift k k _ u (Nat.le_refl _), Tm_shift k k f u (Nat.le_refl _), Int.emod_emod_of_dvd _ (Int.dvd_refl p), Int.sub_emod, Gm_Tm p k _ u hu, Gm_Tm p k f u hu, ← Int.sub_emod]
    · rename_i hb
      exact Gm_Tm p k f t (low_bit h hb)
theorem Gm_red {p : Int} {f : Nat → Int} (hp : 0 < p) (hf : ∀ t, 0 ≤ f t ∧ f t < p) : ∀ (k t : Nat), 0 ≤ Gm p f k t ∧ Gm p f k t < p
  | 0, t => hf t
  | k + 1, t => by
    unfold Gm
    split
    · exact ⟨Int.emod_nonneg _ (by omega), Int.emod_lt_of_pos _ hp⟩
    · exact Gm_red hp hf k t
theorem Gm_eq {p : Int} {f : Nat → Int} (hp : 0 < p) (hf : ∀ t, 0 ≤ f t ∧ f t < p) {k t : Nat} (ht : t < 2 ^ k) : Gm p f k t = Tw k f t % p := by
  obtain ⟨h1, h2⟩ := Gm_red hp hf k t
  rw [← Gm_Tm p k f t ht, Int.emod_eq_of_lt h1 h2]
/-! ### the law's sum -/
def subL (a b : List Nat) : Bool := (a.zip b).all fun q => decide (q.1 ≤ q.2)
def sgL (a b : List Nat) : Int := if ((b.sum : Nat) : Int) - ((a.sum : Nat) : Int) = 0 ∨ (((b.sum : Nat) : Int) - ((a.sum : Nat) : Int)) % 2 = 0 then 1 else 0 - 1
def tmL (f : Int) (a b : List Nat) : Int := if subL a b = true then f * sgL a b else 0
def tot (k : Nat) (f : Nat → Int) (t : Nat) : Int := ((List.range (2 ^ k)).map fun s => tmL (f s) (bitsR k s) (bitsR k t)).sum
theorem subL_app {a b : List Nat} {x y : Nat} (h : a.length = b.length) : subL (a ++ [x]) (b ++ [y]) = (subL a b && decide (x ≤ y)) := by
  unfold subL
  rw [List.zip_append h, List.all_append]
  show (_ && (decide (x ≤ y) && true)) = _
  rw [Bool.and_true]
theorem sum_snoc (a : List Nat) (x : Nat) : (a ++ [x]).sum = a.sum + x := by rw [List.sum_append]; simp
theorem sg_same {a b : List Nat} (x : Nat) : sgL (a ++ [x]) (b ++ [x]) = sgL a b := by
  unfold sgL
  rw [sum_snoc, sum_snoc]
  have e : (((b.sum + x : Nat) : Int)) - ((a.sum + x : Nat) : Int) = ((b.sum : Nat) : Int) - ((a.sum : Nat) : Int) := by omega
  rw [e]
theorem sg_flip {a b : List Nat} : sgL (a ++ [0]) (b ++ [1]) = 0 - sgL a b := by
  unfold sgL
  rw [sum_snoc, sum_snoc]
  split <;> split <;> omega
theorem sum_neg : ∀ (l : List Nat) (g : Nat → Int), (l.map fun s => 0 - g s).sum = 0 - (l.map g).sum
  | [], g => rfl
  | a :: l, g => by
    rw [List.map_cons, List.map_cons, List.sum_cons, List.sum_cons, sum_neg l g]
    omega
theorem sum_zero : ∀ (l : List Nat), (l.map fun _ => (0 : Int)).sum = 0
  | [] => rfl
  | a :: l => by rw [List.map_cons, List.sum_cons, sum_zero l]; rfl
theorem sum_congr {l : List Nat} {g h : Nat → Int} (e : ∀ s ∈ l, g s = h s) : (l.map g).sum = (l.map h).sum := by rw [List.map_congr_left e]
theorem tot_Tm : ∀ (k : Nat) (f : Nat → Int) (t : Nat), tot k f t = Tw k f t
  | 0, f, t => by
    show f 0 * 1 + 0 = f 0
    omega
  | k + 1, f, t => by
    have len : ∀ s, (bitsR k s).length = (bitsR k t).length := fun s => by rw [bitsR_len, bitsR_len]
    have e : 2 ^ (k + 1) = 2 ^ k + 2 ^ k := by rw [Nat.pow_succ]; omega
    unfold tot
    rw [e, List.range_add, List.map_append, List.sum_append, List.map_map, bitsR_succ k t]
    have h1 : ∀ s ∈ List.range (2 ^ k), bitsR (k + 1) s = bitsR k s ++ [0] := fun s hs => by
      rw [bitsR_succ, Nat.div_eq_of_lt (List.mem_range.mp hs)]
    have h2 : ∀ s ∈ List.range (2 ^ k), bitsR (k + 1) (2 ^ k + s) = bitsR k s ++ [1] := fun s hs => by
      rw [bitsR_succ, bitsR_high, Nat.add_div_left _ (Nat.two_pow_pos k), Nat.div_eq_of_lt (List.mem_range.mp hs)]
    unfold Tw
    have hbit : t / 2 ^ k % 2 = 0 ∨ t / 2 ^ k % 2 = 1 := by omega
    rcases hbit with hb | hb
    · rw [if_neg (by omega), hb, ← tot_Tm k f t]
      have e1 : ((List.range (2 ^ k)).map fun s => tmL (f s) (bitsR (k + 1) s) (bitsR k t ++ [0])).sum = tot k f t := sum_congr fun s hs => by
        rw [h1 s hs]
        unfold tmL
        rw [subL_app (len s), sg_same, decide_eq_true (Nat.le_refl 0), Bool.and_true]
      have e2 : ((List.range (2 ^ k)).map ((fun s => tmL (f s) (bitsR (k + 1) s) (bitsR k t ++ [0])) ∘ fun x => 2 ^ k + x)).sum = 0 := by
        rw [← sum_zero (List.range (2 ^ k))]
        refine sum_congr fun s hs => ?_
        show tmL (f (2 ^ k + s)) (bitsR (k + 1) (2 ^ k + s)) _ = 0
        rw [h2 s hs]
        unfold tmL
        rw [subL_app (len s), decide_eq_false (show ¬ 1 ≤ 0 by decide), Bool.and_false]
        rfl
      rw [e1, e2, Int.add_zero]
    · rw [if_pos hb, hb, ← tot_Tm k f t, ← tot_Tm k _ t]
      have e1 : ((List.range (2 ^ k)).map fun s => tmL (f s) (bitsR (k + 1) s) (bitsR k t ++ [1])).sum = 0 - tot k f t := by
        unfold tot
        rw [← sum_neg]
        refine sum_congr fun s hs => ?_
        rw [h1 s hs]
        unfold tmL
        rw [subL_app (len s), sg_flip, decide_eq_true (Nat.zero_le 1), Bool.and_true]
        split
        · rw [Int.mul_sub, Int.mul_zero]
        · rfl
      have e2 : ((List.range (2 ^ k)).map ((fun s => tmL (f s) (bitsR (k + 1) s) (bitsR k t ++ [1])) ∘ fun x => 2 ^ k + x)).sum = tot k (fun s => f (2 ^ k + s)) t := by
        unfold tot
        refine sum_congr fun s hs => ?_
        show tmL (f (2 ^ k + s)) (bitsR (k + 1) (2 ^ k + s)) _ = _
        rw [h2 s hs]
        unfold tmL
        rw [subL_app (len s), sg_same, decide_eq_true (Nat.le_refl 1), Bool.and_true]
      rw [e1, e2]
      omega
end Lt

set_option Elab.async false
set_option linter.all false
set_option maxRecDepth 100000
set_option maxHeartbeats 1000000
/-! tasks.py: inputs_of, part_of, factors_of -/
namespace Lt
open PySem PySem.Spec PyProof.Rows L2
theorem bits_pow : ∀ n, n ≤ 6 → Builtin.Int.intBits ((2 ^ n : Nat) : Int) = n + 1 := by decide +kernel
theorem bit_val (j i : Nat) : ((0 : Int) + (j : Nat)) / 2 ^ i % 2 ^ 1 = ((j / 2 ^ i % 2 : Nat) : Int) := by
  rw [Int.zero_add, Int.natCast_emod, Int.natCast_ediv, Int.natCast_pow]
  rfl
theorem tru_bit {K : PySem.W.Frag} {H : Hp} (j i : Nat) {z : Int} (e : z = ((j / 2 ^ i % 2 : Nat) : Int)) : TruV K (.int z) H (j / 2 ^ i % 2 == 1) := by
  subst e
  show (j / 2 ^ i % 2 == 1) = (((j / 2 ^ i % 2 : Nat) : Int) != 0)
  have h : j / 2 ^ i % 2 = 0 ∨ j / 2 ^ i % 2 = 1 := by omega
  rcases h with h | h <;> rw [h] <;> rfl
theorem bit_off {j i : Nat} (h : j / 2 ^ i % 2 = 1) : 2 ^ i ≤ j ∧ (j - 2 ^ i) / 2 ^ i % 2 = 0 := by
  have hp := Nat.two_pow_pos i
  have hle : 2 ^ i ≤ j := by
    by_cases z : j < 2 ^ i
    · rw [Nat.div_eq_of_lt z] at h; omega
    · omega
  obtain ⟨u, rfl⟩ : ∃ u, j = 2 ^ i + u := ⟨j - 2 ^ i, by omega⟩
  rw [Nat.add_div_left _ hp] at h
  refine ⟨hle, ?_⟩
  rw [Nat.add_sub_cancel_left]
  omega
/-- a list of numbers by their places -/
def Lf (N : Nat) (g : Nat → Int) : List V := (List.range N).map fun t => V.int (g t)
theorem Lf_len (N : Nat) (g : Nat → Int) : (Lf N g).length = N := by unfold Lf; rw [List.length_map, List.length_range]
theorem Lf_get {N j : Nat} {g : Nat → Int} (h : j < N) : (Lf N g)[j]? = some (V.int (g j)) := by
  unfold Lf
  rw [List.getElem?_map, List.getElem?_range h]
  rfl
theorem Lf_congr {N : Nat} {g h : Nat → Int} (e : ∀ t, t < N → g t = h t) : Lf N g = Lf N h := by
  unfold Lf
  exact List.map_congr_left fun t ht => by rw [e t (List.mem_range.mp ht)]
theorem Lf_set {N j : Nat} {g : Nat → Int} {v : Int} : (Lf N g).set j (V.int v) = Lf N fun t => if t = j then v else g t := by
  refine List.ext_getElem? fun k => ?_
  rw [List.getElem?_set, Lf_len]
  by_cases hk : k < N
  · rw [Lf_get hk, Lf_get hk]
    by_cases e : j = k
    · subst e
      rw [if_pos rfl, if_pos hk, if_pos rfl]
    · rw [if_neg e, if_neg (fun z => e z.symm)]
  · have h1 : ∀ g', (Lf N g')[k]? = none := fun g' => List.getElem?_eq_none (by rw [Lf_len]; omega)
    rw [h1, h1]
    by_cases e : j = k
    · rw [if_pos e, if_neg (by omega)]
    · rw [if_neg e]
/-- the numbers of a table, by place -/
def fT (bs : List Nat) (t : Nat) : Int := ((bs.getD t 0 : Nat) : Int)
theorem nIs_Lf (bs : List Nat) : nIs bs = Lf bs.length (fT bs) := by
  refine List.ext_getElem? fun k => ?_
  by_cases hk : k < bs.length
  · rw [Lf_get hk]
    unfold nIs fT
    rw [List.getElem?_map, List.getElem?_eq_getElem hk, List.getD_eq_getElem?_getD, List.getElem?_eq_getElem hk]
    rfl
  · rw [List.getElem?_eq_none (by unfold nIs; rw [List.length_map]; omega), List.getElem?_eq_none (by rw [Lf_len]; omega)]
section
variable {P : Program} {w : World} {K : PySem.W.Frag} {mg : Str → Option Value} {base : Heap}
def spInsOf : Sp := fun vs H Q _ => ∃ (v : V) (bs : List Nat) (n : Nat), vs = [v] ∧ TK H v bs ∧ bs.length = 2 ^ n ∧ n ≤ 6 ∧ Q (nI n) H
theorem sc_inputs_of : FnScope ["table"] ["table"] (defScope s_inputs_of) := ⟨rfl, rfl, rfl, by decide +kernel, rfl, by decide +kernel, by decide +kernel⟩
theorem has_inputs_of (T : Top K mg "inputs_of" s_inputs_of ["table"]) (B : Bi mg) : Has P w K mg base CX0 1 "inputs_of" ["table"] spInsOf := by
  refine T.ok sc_inputs_of (fun vs H Q E h => ?_) (fun f cdv A outer s H vs Q E hr h => ?_)
  · obtain ⟨v, bs, n, rfl, _⟩ := h
    rfl
  · obtain ⟨v, bs, n, rfl, ⟨a, rfl, ha⟩, hl, hn, q⟩ := h
    refine ⟨_, pss_one (ps_ret (pe_op op_subN (pe_bits (pe_callB call_len_seq (by rfl) B.len PySem.boot_len (pa_cons (pv 0) pa_nil))) pe_int)), ?_⟩
    refine ⟨_, rfl, a, nIs bs, rfl, .inr (SqT.of ha), ((nIs bs).length : Int), rfl, n + 1, 1, ?_, rfl, by omega, q⟩
    show V.int _ = V.int _
    congr 1
    rw [nIs_len, hl, bits_pow n hn]
def spPart : Sp := fun vs H Q _ => ∃ t : Nat, vs = [nI t] ∧ ∀ v H', Same H H' → TK H' v (insOf t) → Q v H'
theorem sc_part_of : FnScope ["place", "own"] ["place"] (defScope s_part_of) := ⟨rfl, rfl, rfl, by decide +kernel, rfl, by decide +kernel, by decide +kernel⟩
abbrev rShrN : R2 := fun x y H Q => ∃ (i : Int) (k : Nat), x = .int i ∧ y = .int (k : Int) ∧ Q (.int (i / 2 ^ k)) H
abbrev rAndM : R2 := fun x y H Q => ∃ (i : Int) (k : Nat), x = .int i ∧ y = .int (2 ^ k - 1) ∧ Q (.int (i % 2 ^ k)) H
def tBit (K : PySem.W.Frag) (i j : Nat) : L2.TT := fun σ H Q => (tOp rAndM (tOp rShrN (tVar i) (tVar j)) (tC (.int 1))) σ H fun x H' => ∃ k, TruV K x H' k ∧ Q k H'
theorem has_part_of (T : Top K mg "part_of" s_part_of ["place"]) (B : Bi mg) (G : ∃ u, mg "MOST_INPUTS" = some u ∧ RelV (.int 6) u) : Has P w K mg base CX0 1 "part_of" ["place"] spPart := by
  refine T.ok sc_part_of (fun vs H Q E h => ?_) (fun f cdv A outer s H vs Q E hr h => ?_)
  · obtain ⟨t, rfl, _⟩ := h
    rfl
  · obtain ⟨t, rfl, q⟩ := h
    refine ⟨_, pss_one (ps_ret (pe_tupleOf (by rfl) B.tuple (pe_lc (own := [("own", 1)]) (g := gName 1) (te := tVar 1) (tt := tBit K 0 1) (by rfl) sc_part_of.nd (pi_range1 (by rfl) B.range (pa_cons (pe_gc2 (by rfl) G) pa_nil)) (blkOk_by (own := [("own", 1)]) (N := ["place", "own"]) (sc := defScope s_part_of) (by decide +kernel))
      (fun _ _ _ _ _ => pg_name (i := 1) sc_part_of.nd rfl (Or.inl rfl)) (fun _ _ _ _ _ => pts_one (pt_truth (by exact pe_op op_andM (pe_op op_shrN (pv 0) (pv 1)) pe_int) (by intro _; rfl))) (fun _ _ _ _ _ => pv 1)))), ?_⟩
    refine ⟨6, rfl, by decide, by decide, fun D hD => lc_rangeF (n := (6 : Int).toNat) (j := 1) (te := tVar 1) (tt := tBit K 0 1) RN (fun i => t / 2 ^ i % 2 == 1) (fun i => i) (fun _ _ _ _ _ r => r) (by decide) hD (fun x => rfl) (fun i H1 hi s1 Q1 q1 => ?_) (fun i H1 hi hp s1 Q1 q1 => ?_) (fun H' zs sm hz pr => ?_)⟩
    · refine ⟨_, rfl, _, rfl, (t : Int), i, rfl, by show V.int ((0 : Int) + (i : Nat)) = _; rw [Int.zero_add], _, 1, rfl, rfl, _, tru_bit t i ?_, q1 _ (Same.refl _)⟩
      rw [← bit_val, Int.zero_add]
    · exact ⟨_, rfl, q1 _ _ (Same.refl _) (by show V.int _ = V.int _; rw [Int.zero_add])⟩
    · refine .inl ⟨D, zs, rfl, SqL.of hz, fun p hp => q _ _ (sm.trans (same_new hp)) (tn_of upd_same ?_)⟩
      rw [RN.all pr, List.map_id']
      rfl
def spFacs : Sp := fun vs H Q _ => ∃ (p : Nat) (v : V) (bs : List Nat) (n : Nat), vs = [nI p, v] ∧ 1 ≤ p ∧ TK H v bs ∧ bs.length = 2 ^ n ∧ n ≤ 6 ∧ ∀ l H', Same H H' → H l = none → H' l = some (.lst (Lf (2 ^ n) (Gm p (fT bs) n))) → Q (.ref l) H'
theorem sc_factors_of : FnScope ["prime", "table", "factors", "own", "place"] ["prime", "table"] (defScope s_factors_of) := ⟨rfl, rfl, rfl, by decide +kernel, rfl, by decide +kernel, by decide +kernel⟩
theorem has_factors_of (T : Top K mg "factors_of" s_factors_of ["prime", "table"]) (B : Bi mg) (hI : Has P w K mg base CX0 1 "inputs_of" ["table"] spInsOf) : Has P w K mg base CX0 2 "factors_of" ["prime", "table"] spFacs := by
  refine T.ok sc_factors_of (fun vs H Q E h => ?_) (fun f cdv A outer s H vs Q E hr h => ?_)
  · obtain ⟨p, v, bs, n, rfl, _⟩ := h
    rfl
  · obtain ⟨p, v, bs, n, rfl, hp, ⟨a, rfl, ha⟩, hl, hn, q⟩ := h
    have h64 := pow6 hn
    refine ⟨_, pss_cons (ps_set (i := 2) sc_factors_of.nd rfl (Or.inl rfl) (pe_callTy call_list_of (by rfl) B.list PyProof.Rows.boot_list (pa_cons (pv 1) pa_nil)))
      (pss_cons (ps_for PassesOwn.never rfl (pi_range1 (by rfl) B.range (pa_cons (pe_has hI hr (by rfl) (pa_cons (pv 1) pa_nil)) pa_nil)) (pg_name (i := 3) sc_factors_of.nd rfl (Or.inl rfl))
        (pss_one (ps_for PassesOwn.never rfl (pi_range1 (by rfl) B.range (pa_cons (pe_callB call_len_seq (by rfl) B.len PySem.boot_len (pa_cons (pv 1) pa_nil)) pa_nil)) (pg_name (i := 4) sc_factors_of.nd rfl (Or.inl rfl))
          (pss_one (ps_if (pt_truth (pe_op op_andM (pe_op op_shrN (pv 4) (pv 3)) pe_int) (by intro _; rfl))
            (pss_one (ps_asg (pe_op op_modN (pe_op op_sub (pe_ix ix_list (pv 2) (pv 4) (fun _ _ => rfl)) (pe_ix ix_list (pv 2) (pe_op op_sub (pv 4) (pe_op op_shl pe_int (pv 3))) (fun _ _ => rfl))) (pv 0)) (pg_sub (pv 2) (pv 4) set_list))) pss_nil)))))
      (pss_one (ps_ret (pv 2)))), ?_⟩
    refine ⟨_, rfl, a, nIs bs, rfl, .inr (SqT.of ha), fun l hll => ?_⟩
    have s0 := same_new (o := .lst (nIs bs)) hll
    have e0 : nIs bs = Lf (2 ^ n) (Gm p (fT bs) 0) := by rw [nIs_Lf, hl]; rfl
    refine ⟨_, rfl, _, bs, n, rfl, ⟨a, rfl, s0 _ _ ha⟩, hl, hn, (n : Int), rfl, by omega, by omega, for_range (lo := 0) (n := (n : Int).toNat) (fun i σ H' => ∃ y3 y4, σ = [some (nI p), some (.ref a), some (.ref l), y3, y4] ∧ Same H H' ∧ H' l = some (.lst (Lf (2 ^ n) (Gm p (fT bs) i))))
      ⟨none, none, rfl, s0, by rw [← e0]; exact upd_same⟩ ?_ ?_⟩
    · rintro i σ H1 hi ⟨y3, y4, rfl, s1, h1⟩
      have hi : i < n := by omega
      refine ⟨_, rfl, a, nIs bs, rfl, .inr (SqT.of (s1 _ _ ha)), ((nIs bs).length : Int), rfl, by rw [nIs_len, hl]; omega, by rw [nIs_len, hl]; omega, ?_⟩
      refine for_range (lo := 0) (n := (((nIs bs).length : Nat) : Int).toNat) (fun j σ H' => ∃ y4, σ = [some (nI p), some (.ref a), some (.ref l), some (.int ((0 : Int) + (i : Nat))), y4] ∧ Same H H' ∧ H' l = some (.lst (Lf (2 ^ n) fun t => if t < j then Gm p (fT bs) (i + 1) t else Gm p (fT bs) i t)))
        ⟨y4, rfl, s1, by rw [h1]; exact congrArg (fun z => some (HO.lst z)) (Lf_congr fun t _ => (if_neg (Nat.not_lt_zero t)).symm)⟩ ?_ ?_
      · rintro j σ H2 hj ⟨y4, rfl, s2, h2⟩
        have hj : j < 2 ^ n := by
          have : j < (nIs bs).length := by omega
          rwa [nIs_len, hl] at this
        refine ⟨_, rfl, _, rfl, (0 : Int) + (j : Nat), i, rfl, by show V.int ((0 : Int) + (i : Nat)) = _; rw [Int.zero_add], _, 1, rfl, rfl, _, tru_bit j i (bit_val j i), ?_⟩
        by_cases hb : j / 2 ^ i % 2 = 1
        · obtain ⟨hle, hoff⟩ := bit_off hb
          rw [hb]
          refine iteT ?_
          have g1 : (Lf (2 ^ n) fun t => if t < j then Gm p (fT bs) (i + 1) t else Gm p (fT bs) i t)[j]? = some (V.int (Gm p (fT bs) i j)) := by
            rw [Lf_get hj]
            exact congrArg (fun z => some (V.int z)) (if_neg (Nat.lt_irrefl j))
          have hlt : j - 2 ^ i < j := Nat.sub_lt (Nat.lt_of_lt_of_le (Nat.two_pow_pos i) hle) (Nat.two_pow_pos i)
          have g2 : (Lf (2 ^ n) fun t => if t < j then Gm p (fT bs) (i + 1) t else Gm p (fT bs) i t)[j - 2 ^ i]? = some (V.int (Gm p (fT bs) i (j - 2 ^ i))) := by
            rw [Lf_get (Nat.lt_trans hlt hj)]
            refine congrArg (fun z => some (V.int z)) ((if_pos hlt).trans ?_)
            exact if_neg (by rw [hoff]; decide)
          have ei : (0 : Int) + (j : Nat) = ((j : Nat) : Int) := Int.zero_add _
          have ed : ((0 : Int) + (j : Nat)) - 1 * 2 ^ ((0 : Int) + (i : Nat)).toNat = ((j - 2 ^ i : Nat) : Int) := by
            have : ((0 : Int) + (i : Nat)).toNat = i := by omega
            rw [this, Int.one_mul, Int.zero_add, Int.natCast_sub hle, Int.natCast_pow]
            rfl
          refine ⟨_, rfl, _, rfl, l, _, _, _, rfl, rfl, SqL.of h2, by rw [ei]; exact atI_nat g1, _, rfl, _, rfl, _, rfl, 1, (0 : Int) + (i : Nat), rfl, rfl, ⟨by omega, by omega, by decide⟩, _, _, rfl, rfl, l, _, _, _, rfl, rfl, SqL.of h2, by rw [ed]; exact atI_nat g2, _, _, rfl, rfl, _, rfl, _, (p : Int), rfl, rfl, (show (p : Int) ≠ 0 by omega), ?_⟩
          have ev : Int.fmod (Gm p (fT bs) i j - Gm p (fT bs) i (j - 2 ^ i)) p = Gm p (fT bs) (i + 1) j := by
            rw [Int.fmod_eq_emod_of_nonneg _ (by omega)]
            exact (if_pos hb).symm
          refine ⟨_, rfl, _, rfl, l, _, _, _, rfl, rfl, h2, by rw [ei]; exact Evl.ixN_nat (by rw [Lf_len]; exact hj), ?_⟩
          refine ⟨_, rfl, same_mut s2 hll, ?_⟩
          rw [upd_same]
          show some (HO.lst (List.set _ j (V.int (Int.fmod _ _)))) = _
          rw [ev, Lf_set]
          refine congrArg (fun z => some (HO.lst z)) (Lf_congr fun t _ => ?_)
          by_cases e1 : t = j
          · subst e1
            rw [if_pos rfl, if_pos (Nat.lt_succ_self t)]
          · rw [if_neg e1]
            by_cases e2 : t < j
            · rw [if_pos e2, if_pos (by omega)]
            · rw [if_neg e2, if_neg (by omega)]
        · have h0 : (j / 2 ^ i % 2 == 1) = false := by rw [beq_eq_false_iff_ne]; exact hb
          rw [h0]
          refine iteF ⟨_, rfl, s2, ?_⟩
          rw [h2]
          refine congrArg (fun z => some (HO.lst z)) (Lf_congr fun t _ => ?_)
          by_cases e1 : t = j
          · subst e1
            rw [if_neg (Nat.lt_irrefl t), if_pos (Nat.lt_succ_self t)]
            exact (if_neg hb).symm
          · by_cases e2 : t < j
            · rw [if_pos e2, if_pos (by omega)]
            · rw [if_neg e2, if_neg (by omega)]
      · rintro σ H2 ⟨y4, rfl, s2, h2⟩
        refine ⟨_, y4, rfl, s2, ?_⟩
        rw [h2]
        refine congrArg (fun z => some (HO.lst z)) (Lf_congr fun t ht => ?_)
        refine if_pos ?_
        rw [nIs_len, hl, Int.toNat_natCast]
        exact ht
    · rintro σ H2 ⟨y3, y4, rfl, s2, h2⟩
      refine ⟨_, rfl, q l H2 s2 hll ?_⟩
      rw [h2, Int.toNat_natCast]
end
end Lt

set_option Elab.async false
set_option linter.all false
set_option maxRecDepth 100000
set_option maxHeartbeats 2000000
/-! a tuple once: t * 1 -/
namespace Lt
open PySem PySem.Spec PyProof.Rows L2
theorem tuple_mul1 (l : Addr) (items : Array Value) (n : Nat) (dd : Option Addr) (sl : Array (Option Value)) (u : PySem.Tok) :
    Meets (Builtin.«tuple.__mul__» ⟨[.ref l, .int 1 u], []⟩) (fun _ R s => s.heap.get? l = some { cls := .type "tuple", dict := dd, data := .seq items n, slots := sl } ∧ R (.ok (.ret (Value.ref l))) s) :=
  .of_wp fun prog w A R s h => by
    obtain ⟨hp, g, d, tk, os⟩ := s
    obtain ⟨hl, h⟩ := h
    have f1 := AutoSeq1.idx_int
    wp_walk using wpAny_loadPart' hl
    exact ⟨_, rfl, h⟩
def rRepA (K : PySem.W.Frag) : R2 := fun x y H Q => ∃ l k xs, x = .ref l ∧ y = .int k ∧ SqT K H l xs ∧ xs ≠ [] ∧ 1 ≤ k ∧ k ≤ 1000 ∧ xs.length ≤ 1000 ∧ (k = 1 → Q (.ref l) H) ∧ (2 ≤ k → ∀ p, H p = none → Q (.ref p) (upd H p (.tup (List.replicate k.toNat xs).flatten)))
theorem op_repA {X : Cx} : OpR X (binaryOp .Mult) (rRepA X.K) := by
  intro pins s σ H x y v u Q I rx ry h
  obtain ⟨l, k, xs, rfl, rfl, hT, hne, h1, h2, hz, q1, q2⟩ := h
  by_cases hk : k = 1
  · subst hk
    cases rx
    obtain ⟨t, rfl⟩ := ry
    obtain ⟨its, r, ⟨⟨cls, dd, data, sl⟩, ho, hc, n, hd⟩, hs⟩ := I.tuple hT
    simp only at hc hd
    subst hc hd
    exact wpAny_binaryOp_repeat_ref (T := "tuple") (U := "int") (by decide) ⟨_, ho, rfl⟩ (fun s' => typeIs_int s' 1 t) noFill_tuple_mul F.fills_int_mul F.slot_int_rmul repeat_tuple F.slot_int_index.lookup
      (call_meets F.slot_int_rmul (typeIs_int s 1 t) F.entry_int_rmul (F.args_int_rmul_2 _ _) (int_rmul_tuple 1 t l its.toArray n dd sl)
        ⟨ho, rfl, ⟨_, ho, rfl⟩, call_meets F.slot_tuple_mul ⟨_, ho, rfl⟩ F.entry_tuple_mul (F.args_tuple_mul_2 _ _) (tuple_mul1 l its.toArray n dd sl t) ⟨ho, ⟨.ref l, H, I, rfl, q1 rfl⟩⟩⟩)
  · exact op_repT pins s σ H _ _ v u Q I rx ry ⟨l, k, xs, rfl, rfl, hT, hne, by omega, h2, hz, q2 (by omega)⟩
end Lt

set_option Elab.async false
set_option linter.all false
set_option maxRecDepth 100000
set_option maxHeartbeats 2000000
/-! tasks.py: polynomial, degree, all_of -/
namespace Lt
open PySem PySem.Spec PyProof.Rows L2
/-- the factors of a table -/
def facG (p n : Nat) (bs : List Nat) (t : Nat) : Int := Gm p (fT bs) n t
/-- the places of a polynomial's parts, in its order -/
def polyL (p n : Nat) (bs : List Nat) : List Nat := ((List.range (2 ^ n)).mergeSort (PySem.W.dataLe false (encT (facG p n bs)))).filter fun t => facG p n bs t != 0
def partAt (g : Nat → Int) (H : Hp) (x : V) (t : Nat) : Prop := ∃ b pt, x = .ref b ∧ H b = some (.tup [.ref pt, .int (g t)]) ∧ H pt = some (.tup (nIs (insOf t)))
def tripAt (g : Nat → Int) (H : Hp) (x : V) (t : Nat) : Prop := ∃ b pt, x = .ref b ∧ H b = some (.tup [nI (insOf t).length, .ref pt, .int (g t)]) ∧ H pt = some (.tup (nIs (insOf t)))
def PolyAt (g : Nat → Int) (H : Hp) (v : V) (ts : List Nat) : Prop := ∃ a xs, v = .ref a ∧ H a = some (.tup xs) ∧ Paired (partAt g H) xs ts
theorem partAt.tm {g : Nat → Int} {H H' : Hp} {x : V} {t : Nat} (e : Tm H H') (h : partAt g H x t) : partAt g H' x t := let ⟨b, pt, e1, e2, e3⟩ := h; ⟨b, pt, e1, e.1 _ _ e2, e.1 _ _ e3⟩
theorem tripAt.tm {g : Nat → Int} {H H' : Hp} {x : V} {t : Nat} (e : Tm H H') (h : tripAt g H x t) : tripAt g H' x t := let ⟨b, pt, e1, e2, e3⟩ := h; ⟨b, pt, e1, e.1 _ _ e2, e.1 _ _ e3⟩
theorem PolyAt.same {g : Nat → Int} {H H' : Hp} {v : V} {ts : List Nat} (s : Same H H') (h : PolyAt g H v ts) : PolyAt g H' v ts :=
  let ⟨a, xs, e1, e2, e3⟩ := h; ⟨a, xs, e1, s _ _ e2, paired_mono (fun _ _ r => partAt.tm (.of s) r) e3⟩
def partD (g : Nat → Int) (t : Nat) : PyData := .tuple [dT (insOf t), .int (g t)]
theorem partAt.rp {g : Nat → Int} {H : Hp} {x : V} {t : Nat} (h : partAt g H x t) : Rp H x (partD g t) := by
  obtain ⟨b, pt, rfl, hb, hp⟩ := h
  exact .tup (.inl hb) (.cons (TN.rp ⟨pt, rfl, .inl hp⟩) (.cons (.int _) .nil))
theorem parts_rp {g : Nat → Int} {H : Hp} : ∀ {xs : List V} {ts : List Nat}, Paired (partAt g H) xs ts → RpAll H xs (ts.map (partD g))
  | _, _, .nil => .nil
  | _, _, .cons r t => .cons r.rp (parts_rp t)
theorem PolyAt.rp {g : Nat → Int} {H : Hp} {v : V} {ts : List Nat} (h : PolyAt g H v ts) : Rp H v (.tuple (ts.map (partD g))) := by
  obtain ⟨a, xs, rfl, ha, hx⟩ := h
  exact .tup (.inl ha) (parts_rp hx)
theorem tripAt.rp {g : Nat → Int} {H : Hp} {x : V} {t : Nat} (h : tripAt g H x t) : Rp H x (encT g t) := by
  obtain ⟨b, pt, rfl, hb, hp⟩ := h
  exact .tup (.inl hb) (.cons (.int _) (.cons (TN.rp ⟨pt, rfl, .inl hp⟩) (.cons (.int _) .nil)))
theorem alike_enc (g : Nat → Int) (t u : Nat) : PySem.W.alike (encT g t) (encT g u) = true := by
  show (true && (PySem.W.alikeAll ((insOf t).map dN) ((insOf u).map dN) && (true && true))) = true
  rw [alike_nats]
  rfl
theorem depth_enc (g : Nat → Int) (t : Nat) : (encT g t).depth ≤ 60 := by
  have h := dep_mx (insOf t)
  show max 0 (max (PyData.depthAll ((insOf t).map dN) + 1) (max 0 0)) + 1 ≤ 60
  rw [h]
  decide
theorem filter_at : ∀ (l : List Nat) (q : Nat → Bool), (((List.range l.length).filter fun i => q (l.getD i 0)).map fun i => l.getD i 0) = l.filter q
  | [], q => rfl
  | a :: l, q => by
    rw [List.length_cons, List.range_succ_eq_map, List.filter_cons, List.filter_map]
    have h := filter_at l q
    have e : ((List.filter ((fun i => q ((a :: l).getD i 0)) ∘ Nat.succ) (List.range l.length)).map Nat.succ).map (fun i => (a :: l).getD i 0) = l.filter q := by
      rw [List.map_map, ← h]
      rfl
    rw [List.filter_cons]
    show (if q a = true then _ else _ : List Nat).map _ = _
    split
    · rw [List.map_cons, e]
      rfl
    · exact e
theorem insOf_lt {t i : Nat} (h : i ∈ insOf t) : i < 6 := List.mem_range.mp (List.mem_filter.mp h).1
theorem insOf_len (t : Nat) : (insOf t).length ≤ 6 := Nat.le_trans (List.length_filter_le _ _) (by rw [List.length_range]; exact Nat.le_refl _)
section
variable {P : Program} {w : World} {K : PySem.W.Frag} {mg : Str → Option Value} {base : Heap} {CN CT : Addr}
def primes : List Nat := [2, 3, 5, 7]
/-- a good task -/
structure Tsk (p n : Nat) (bs : List Nat) : Prop where
  hp : p ∈ primes
  b1 : ∀ b ∈ bs, b ≤ 1
  len : bs.length = 2 ^ n
  n1 : 1 ≤ n
  n6 : n ≤ 6
def spPoly (CN CT : Addr) : Sp := fun vs H Q E => ∃ (pq tv : V) (d : PyData), vs = [pq, tv] ∧ flatV pq = true ∧ Rp H tv d ∧ (∀ ds, d = .tuple ds → ds.length ≤ 1000) ∧
  ((∃ p n bs, pq = nI p ∧ TK H tv bs ∧ d = dT bs ∧ Tsk p n bs ∧ ∀ v H', Same H H' → PolyAt (facG p n bs) H' v (polyL p n bs) → Q v H') ∨
   (inV pq ([2, 3, 5, 7].map V.int) = true ∧ isTask d = false ∧ Bad0 CT H E) ∨ (inV pq ([2, 3, 5, 7].map V.int) = false ∧ Bad0 CN H E))
theorem tsk_tab {p n : Nat} {bs : List Nat} (h : Tsk p n bs) : isTask (dT bs) = true := by
  show ((bs.map dN).all bitD01 && tabLens.contains (((bs.map dN).length : Nat) : Int)) = true
  rw [Bool.and_eq_true]
  constructor
  · rw [List.all_map, List.all_eq_true]
    intro b hb
    have := h.b1 b hb
    show (true && decide ((b : Int) = 0 ∨ (b : Int) = 1)) = true
    rw [Bool.true_and, decide_eq_true (by omega)]
  · rw [List.length_map, h.len]
    have : ∀ n, 1 ≤ n → n ≤ 6 → tabLens.contains ((2 ^ n : Nat) : Int) = true := by
      intro n h1 h6
      have : n = 1 ∨ n = 2 ∨ n = 3 ∨ n = 4 ∨ n = 5 ∨ n = 6 := by omega
      rcases this with rfl | rfl | rfl | rfl | rfl | rfl <;> rfl
    exact this n h.n1 h.n6
theorem prime_in {p : Nat} (h : p ∈ primes) : inV (nI p) ([2, 3, 5, 7].map V.int) = true ∧ 2 ≤ p ∧ p ≤ 7 := by
  unfold primes at h
  simp only [List.mem_cons, List.not_mem_nil, or_false] at h
  rcases h with rfl | rfl | rfl | rfl <;> exact ⟨rfl, by decide, by decide⟩
theorem sc_polynomial : FnScope ["prime", "table", "factors", "parts", "order", "place", "part", "factor", "_"] ["prime", "table"] (defScope s_polynomial) := ⟨rfl, rfl, rfl, by decide +kernel, rfl, by decide +kernel, by decide +kernel⟩
abbrev rLenS (K : PySem.W.Frag) : List V → Hp → VK → Prop := fun xs H Q => ∃ p ys, xs = [V.ref p] ∧ (SqL K H p ys ∨ SqT K H p ys) ∧ Q (.int ys.length) H
theorem has_polynomial (T : Top K mg "polynomial" s_polynomial ["prime", "table"]) (B : Bi mg) (bz : mg "zip" = none) (hP : Has P w K mg base (L2.CX P w) 1 "check_prime" ["prime"] (spCheckP CN)) (hT : Has P w K mg base (L2.CX P w) 3 "check_table" ["table"] (spCheckT CT))
    (hF : Has P w K mg base CX0 2 "factors_of" ["prime", "table"] spFacs) (hA : Has P w K mg base CX0 1 "part_of" ["place"] spPart) : Has P w K mg base (L2.CX P w) 4 "polynomial" ["prime", "table"] (spPoly CN CT) := by
  refine T.okX sc_polynomial (fun vs H Q E h => ?_) (fun f cdv A outer s H vs Q E hr h => ?_)
  · obtain ⟨pq, tv, d, rfl, _⟩ := h
    rfl
  · obtain ⟨pq, tv, d, rfl, fv, hd, hl, cs⟩ := h
    have hr1 : Room 1 _ := hr.mono (by decide)
    have hr2 : Room 2 _ := hr.mono (by decide)
    have hu := hr.units
    refine ⟨_, pss_cons (ps_expr (pe_hasX (E := E) hP hr1 (by rfl) (passes_call (takes_of rfl rfl rfl rfl) (fun _ _ _ _ h => h)) (pa_cons (pv 0) pa_nil)))
      (pss_cons (ps_expr (pe_hasX (E := E) hT hr (by rfl) (passes_call (takes_of rfl rfl rfl rfl) (fun _ _ _ _ h => h)) (pa_cons (pv 1) pa_nil)))
      (pss_cons (ps_set (i := 2) sc_polynomial.nd rfl (Or.inl rfl) (pe_has hF hr2 (by rfl) (pa_cons (pv 0) (pa_cons (pv 1) pa_nil))))
      (pss_cons (ps_setLc (i := 3) (own := [("place", 5)]) (g := gName 5) (te := tCall spPart [] E0 (tCons (tVar 5) tNil)) (by rfl) sc_polynomial.nd rfl rfl (sw_true rfl rfl rfl (by decide +kernel)) (pi_range1 (by rfl) B.range (pa_cons (pe_callB call_len_seq (by rfl) B.len PySem.boot_len (pa_cons (pv 1) pa_nil)) pa_nil)) (blkOk_by (own := [("place", 5)]) (N := ["prime", "table", "factors", "parts", "order", "place", "part", "factor", "_"]) (sc := defScope s_polynomial) (by decide +kernel))
        (fun _ _ _ _ _ => pg_name (i := 5) sc_polynomial.nd rfl (Or.inl rfl)) (fun _ _ _ _ _ => pts_nil) (fun _ _ _ _ _ => pe_has hA hr1 (by rfl) (pa_cons (pv 5) pa_nil)))
      (pss_cons (ps_set (i := 4) sc_polynomial.nd rfl (Or.inl rfl) (pe_callB (cr_sortedD (by exact hu)) (by rfl) B.sorted PyProof.Rows.boot_sorted (pa_cons
        (pe_lc (own := [("part", 6), ("factor", 7)]) (g := gTup K 2 (gCons (gName 6) (gCons (gName 7) gNil))) (te := tTup (tCons (tCB (rLenS K) (tCons (tVar 6) tNil)) (tCons (tVar 6) (tCons (tVar 7) tNil)))) (by rfl) sc_polynomial.nd (pi_zip (by rfl) bz (pa_cons (pv 3) (pa_cons (pv 2) pa_nil))) (blkOk_by (own := [("part", 6), ("factor", 7)]) (N := ["prime", "table", "factors", "parts", "order", "place", "part", "factor", "_"]) (sc := defScope s_polynomial) (by decide +kernel))
          (fun _ _ _ _ _ => pg_tup rfl (pgs_cons (pg_name (i := 6) sc_polynomial.nd rfl (Or.inl rfl)) (pgs_cons (pg_name (i := 7) sc_polynomial.nd rfl (Or.inl rfl)) pgs_nil))) (fun _ _ _ _ _ => pts_nil) (fun _ _ _ _ _ => pe_tup (pa_cons (pe_callB call_len_seq (by rfl) B.len PySem.boot_len (pa_cons (pv 6) pa_nil)) (pa_cons (pv 6) (pa_cons (pv 7) pa_nil))))) pa_nil)))
      (pss_one (ps_ret (pe_tupleOf (by rfl) B.tuple (pe_lc (own := [("_", 8), ("part", 6), ("factor", 7)]) (g := gTup K 3 (gCons (gName 8) (gCons (gName 6) (gCons (gName 7) gNil)))) (te := tTup (tCons (tVar 6) (tCons (tVar 7) tNil))) (tt := tTest (tOp rNe (tVar 7) (tC (.int 0)))) (by rfl) sc_polynomial.nd (pi_list (pv 4)) (blkOk_by (own := [("_", 8), ("part", 6), ("factor", 7)]) (N := ["prime", "table", "factors", "parts", "order", "place", "part", "factor", "_"]) (sc := defScope s_polynomial) (by decide +kernel))
          (fun _ _ _ _ _ => pg_tup rfl (pgs_cons (pg_name (i := 8) sc_polynomial.nd rfl (Or.inl rfl)) (pgs_cons (pg_name (i := 6) sc_polynomial.nd rfl (Or.inl rfl)) (pgs_cons (pg_name (i := 7) sc_polynomial.nd rfl (Or.inl rfl)) pgs_nil)))) (fun _ _ _ _ _ => pts_one (pt_cmpR op_ne (pv 7) pe_int (nomark _))) (fun _ _ _ _ _ => pe_tup (pa_cons (pv 6) (pa_cons (pv 7) pa_nil))))))))))), ?_⟩
    rcases cs with ⟨p, n, bs, rfl, ⟨a, rfl, ha⟩, rfl, tk, q⟩ | ⟨pin, tb, bad⟩ | ⟨pin, bad⟩
    · obtain ⟨pin, p2, p7⟩ := prime_in tk.hp
      have h64 := pow6 tk.n6
      have hlen := tk.len
      refine ⟨_, rfl, nI p, rfl, fv, .inl ⟨pin, ?_⟩⟩
      refine ⟨_, rfl, .ref a, dT bs, rfl, hd, hl, .inl ⟨tsk_tab tk, fun H1 s1 => ?_⟩⟩
      refine ⟨_, rfl, _, rfl, p, .ref a, bs, n, rfl, by omega, ⟨a, rfl, s1 _ _ ha⟩, hlen, tk.n6, fun l H2 s2 hln hlf => ?_⟩
      have s12 := s1.trans s2
      have g0 : ∃ N, N = (nIs bs).length := ⟨_, rfl⟩
      have hN : (nIs bs).length = 2 ^ n := by rw [nIs_len, hlen]
      refine ⟨_, rfl, a, nIs bs, rfl, .inr (SqT.of (s12 _ _ ha)), ((nIs bs).length : Int), rfl, by omega, by omega, fun D hD => lc_rangeM (n := (((nIs bs).length : Nat) : Int).toNat) (fun H v t => TK H v (insOf t)) (List.range (2 ^ n)) (fun _ _ _ _ e r => TK.tm e r) (by omega) (by rw [List.length_range]; omega) hD (fun x => rfl) (fun i t hi ht H3 s3 Q3 q3 => ?_) (fun H3 zs s3 hz pz => ?_)⟩
      · have et : t = i := by
          rw [List.getElem?_range (by omega)] at ht
          exact (Option.some.inj ht).symm
        subst et
        exact ⟨_, rfl, t, by show [V.int ((0 : Int) + (t : Nat))] = _; rw [Int.zero_add]; rfl, q3⟩
      · have s13 := s12.trans s3
        have hlf3 := s3 _ _ hlf
        have lz := Paired.length pz
        rw [List.length_range] at lz
        refine ⟨_, rfl, _, rfl, D, l, zs, _, rfl, SqL.of hz, SqL.of hlf3, fun D2 hD2 => lc_genF (J := Itz K D l) (n := 2 ^ n) (tripAt (facG p n bs)) (fun _ => true) (fun i => i) (fun _ _ _ _ e r => tripAt.tm e r) (by omega) hD2 (fun i H4 hi s4 => ?_) (fun H4 s4 => ?_) (fun i H4 x H5 hi s4 y => ?_) (fun H4 ys s4 hy py => ?_)⟩
        · exact ⟨zs, _, _, _, SqL.of (s4 _ _ hz), SqL.of (s4 _ _ hlf3), List.getElem?_eq_getElem (by omega), Lf_get hi⟩
        · exact ⟨zs, _, SqL.of (s4 _ _ hz), SqL.of (s4 _ _ hlf3), .inl (by omega)⟩
        · obtain ⟨T, x1, y1, rfl, hT, rfl, f1, f2⟩ := y
          have f1 := f1 _ (SqL.of (s4 _ _ hz))
          have f2 := f2 _ (SqL.of (s4 _ _ hlf3))
          rw [Lf_get hi] at f2
          have f2 := (Option.some.inj f2).symm
          subst f2
          obtain ⟨t, ht, pt, rfl, hpt⟩ := Paired.getL pz f1
          rw [List.getElem?_range hi] at ht
          have ht := Option.some.inj ht
          subst ht
          have sT := same_new (o := .tup [V.ref pt, V.int (Gm p (fT bs) n i)]) hT
          refine ⟨sT, _, fun Kk q => ⟨T, _, rfl, SqT.of upd_same, rfl, _, _, rfl, _, _, rfl, rfl, q⟩, rfl, fun Q q => q _ (Same.refl _), fun _ H6 s6 Q q => ?_⟩
          have hpt6 := s6 _ _ (sT _ _ (s4 _ _ hpt))
          refine ⟨_, rfl, pt, nIs (insOf i), rfl, .inr (SqT.of hpt6), _, rfl, _, rfl, by show 3 ≤ sizeLine; decide, fun b hb => q _ _ (same_new hb) ⟨b, pt, rfl, ?_, ?_⟩⟩
          · rw [upd_same, nIs_len]
            rfl
          · exact same_new hb _ _ hpt6
        · have et : (List.filter (fun _ => true) (List.range (2 ^ n))).map (fun i => i) = List.range (2 ^ n) := by
            rw [List.map_id', List.filter_eq_self.mpr (fun _ _ => rfl)]
          rw [et] at py
          have s14 := s13.trans s4
          refine ⟨D2, ys, Nat, List.range (2 ^ n), encT (facG p n bs), tripAt (facG p n bs) H4, rfl, SqL.of hy, py, fun v b r => ?_, fun v b r => Rp.dp _ _ (tripAt.rp r), ?_, ?_, fun b _ => depth_enc _ b, fun zs2 D3 p3 hD3 => ?_⟩
          · obtain ⟨b, _, e, _⟩ := r
            exact ⟨b, e⟩
          · intro d hd d' hd'
            obtain ⟨t, _, rfl⟩ := List.mem_map.mp hd
            obtain ⟨u, _, rfl⟩ := List.mem_map.mp hd'
            exact alike_enc _ t u
          · refine .inl fun d hd => ?_
            obtain ⟨t, _, rfl⟩ := List.mem_map.mp hd
            exact ⟨_, _, rfl⟩
          · have s5 := same_new (o := .lst zs2) hD3
            have s15 := s14.trans s5
            have l3 := Paired.length p3
            rw [List.length_mergeSort, List.length_range] at l3
            obtain ⟨ts, ets⟩ : ∃ ts, ts = (List.range (2 ^ n)).mergeSort (PySem.W.dataLe false (encT (facG p n bs))) := ⟨_, rfl⟩
            rw [← ets] at p3
            have hzd : upd H4 D3 (.lst zs2) D3 = some (.lst zs2) := upd_same
            have p3' : Paired (tripAt (facG p n bs) (upd H4 D3 (.lst zs2))) zs2 ts := paired_mono (fun _ _ r => tripAt.tm (.of s5) r) p3
            have lts : ts.length = zs2.length := (Paired.length p3').symm
            refine ⟨_, rfl, D3, rfl, ⟨_, SqL.of hzd⟩, fun D4 hD4 => lc_genF (J := Itl K D3) (n := zs2.length) (partAt (facG p n bs)) (fun i => facG p n bs (ts.getD i 0) != 0) (fun i => ts.getD i 0) (fun _ _ _ _ e r => partAt.tm e r) (by omega) hD4 (fun i H6 hi s6 => ?_) (fun H6 s6 => ?_) (fun i H6 x H7 hi s6 y => ?_) (fun H6 ws s6 hw pw => ?_)⟩
            · exact ⟨zs2, _, SqL.of (s6 _ _ hzd), List.getElem?_eq_getElem hi⟩
            · exact ⟨zs2, SqL.of (s6 _ _ hzd), Nat.le_refl _⟩
            · obtain ⟨rfl, f1⟩ := y
              have f1 := f1 _ (SqL.of (s6 _ _ hzd))
              obtain ⟨t, ht, b, pt, rfl, hb, hpt⟩ := Paired.getL p3' f1
              have et : ts.getD i 0 = t := by rw [List.getD_eq_getElem?_getD, ht]; rfl
              have hb6 := s6 _ _ hb
              have hpt6 := s6 _ _ hpt
              rw [et]
              refine ⟨Same.refl _, _, fun Kk q => ⟨b, _, rfl, SqT.of hb6, rfl, _, _, rfl, _, _, rfl, _, _, rfl, rfl, q⟩, rfl, fun Q q => ⟨_, rfl, rfl, _, ?_, q _ (Same.refl _)⟩, fun _ H8 s8 Q q => ?_⟩
              · refine congrArg V.bl ?_
                rw [dec_int]
                rfl
              · exact ⟨_, rfl, _, rfl, by show 2 ≤ sizeLine; decide, fun b2 hb2 => q _ _ (same_new hb2) ⟨b2, pt, rfl, upd_same, same_new hb2 _ _ (s8 _ _ hpt6)⟩⟩
            · rw [← lts, filter_at ts fun t => facG p n bs t != 0] at pw
              refine .inl ⟨D4, ws, rfl, SqL.of hw, fun p hp => q _ _ ((s15.trans s6).trans (same_new hp)) ⟨p, ws, rfl, upd_same, ?_⟩⟩
              unfold polyL
              rw [← ets]
              exact paired_mono (fun _ _ r => partAt.tm (.of (same_new hp)) r) pw
    · refine ⟨_, rfl, pq, rfl, fv, .inl ⟨pin, ?_⟩⟩
      exact ⟨_, rfl, tv, d, rfl, hd, hl, .inr ⟨tb, bad⟩⟩
    · exact ⟨_, rfl, pq, rfl, fv, .inr ⟨pin, bad⟩⟩
end
end Lt

set_option Elab.async false
set_option linter.all false
set_option maxRecDepth 100000
set_option maxHeartbeats 2000000
/-! tasks.py: degree, all_of -/
namespace Lt
open PySem PySem.Spec PyProof.Rows L2
def degV (ts : List Nat) : V := if ts = [] then .non else nI ((ts.map fun t => (insOf t).length).foldl max 0)
def allT (m : Nat) : List Nat := List.replicate (2 ^ m - 1) 0 ++ [1]
section
variable {P : Program} {w : World} {K : PySem.W.Frag} {mg : Str → Option Value} {base : Heap} {CN CT : Addr}
def spDeg (CN CT : Addr) : Sp := fun vs H Q E => ∃ (pq tv : V) (d : PyData), vs = [pq, tv] ∧ flatV pq = true ∧ Rp H tv d ∧ (∀ ds, d = .tuple ds → ds.length ≤ 1000) ∧
  ((∃ p n bs, pq = nI p ∧ TK H tv bs ∧ d = dT bs ∧ Tsk p n bs ∧ ∀ H', Same H H' → Q (degV (polyL p n bs)) H') ∨
   (inV pq ([2, 3, 5, 7].map V.int) = true ∧ isTask d = false ∧ Bad0 CT H E) ∨ (inV pq ([2, 3, 5, 7].map V.int) = false ∧ Bad0 CN H E))
theorem sc_degree : FnScope ["prime", "table", "part", "_"] ["prime", "table"] (defScope s_degree) := ⟨rfl, rfl, rfl, by decide +kernel, rfl, by decide +kernel, by decide +kernel⟩
theorem polyL_len (p n : Nat) (bs : List Nat) : (polyL p n bs).length ≤ 2 ^ n := by
  unfold polyL
  refine Nat.le_trans (List.length_filter_le _ _) ?_
  rw [List.length_mergeSort, List.length_range]
  exact Nat.le_refl _
theorem has_degree (T : Top K mg "degree" s_degree ["prime", "table"]) (B : Bi mg) (bm : mg "max" = none) (hP : Has P w K mg base (L2.CX P w) 4 "polynomial" ["prime", "table"] (spPoly CN CT)) : Has P w K mg base (L2.CX P w) 5 "degree" ["prime", "table"] (spDeg CN CT) := by
  refine T.okX sc_degree (fun vs H Q E h => ?_) (fun f cdv A outer s H vs Q E hr h => ?_)
  · obtain ⟨pq, tv, d, rfl, _⟩ := h
    rfl
  · obtain ⟨pq, tv, d, rfl, fv, hd, hl, cs⟩ := h
    have hu := hr.units
    have hu1 : (A.deeper (envOfC "degree" (defScope s_degree) s.heap.objs.size f cdv)).units + 1 < cLine := by omega
    refine ⟨_, pss_one (ps_ret (pe_callBK (cr_maxDN (by rfl) (by exact hu1)) (by rfl) bm (by rfl) (pa_cons (pe_lc (own := [("part", 2), ("_", 3)]) (g := gTup K 2 (gCons (gName 2) (gCons (gName 3) gNil))) (te := tCB (rLenS K) (tCons (tVar 2) tNil)) (by rfl) sc_degree.nd (pi_tup (pe_hasX (E := E) hP hr (by rfl) (passes_call (takes_of rfl rfl rfl rfl) (fun _ _ _ _ h => h)) (pa_cons (pv 0) (pa_cons (pv 1) pa_nil)))) (blkOk_by (own := [("part", 2), ("_", 3)]) (N := ["prime", "table", "part", "_"]) (sc := defScope s_degree) (by decide +kernel))
        (fun _ _ _ _ _ => pg_tup rfl (pgs_cons (pg_name (i := 2) sc_degree.nd rfl (Or.inl rfl)) (pgs_cons (pg_name (i := 3) sc_degree.nd rfl (Or.inl rfl)) pgs_nil))) (fun _ _ _ _ _ => pts_nil) (fun _ _ _ _ _ => pe_callB call_len_seq (by rfl) B.len PySem.boot_len (pa_cons (pv 2) pa_nil))) pa_nil) (pk_cons pe_non pk_nil))), ?_⟩
    rcases cs with ⟨p, n, bs, rfl, hT, rfl, tk, q⟩ | ⟨pin, tb, bad⟩ | ⟨pin, bad⟩
    · have hlp := Nat.le_trans (polyL_len p n bs) (pow6 tk.n6)
      refine ⟨_, rfl, _, rfl, nI p, tv, dT bs, rfl, fv, hd, hl, .inl ⟨p, n, bs, rfl, hT, rfl, tk, fun v H1 s1 pa => ?_⟩⟩
      obtain ⟨a, xs, rfl, ha, hx⟩ := pa
      have hxl := Paired.length hx
      refine ⟨a, rfl, ⟨xs, SqT.of ha⟩, fun D hD => lc_genF (J := Itt K a) (n := xs.length) RN (fun _ => true) (fun i => (insOf ((polyL p n bs).getD i 0)).length) (fun _ _ _ _ e r => r) (by omega) hD (fun i H4 hi s4 => ⟨xs, _, SqT.of (s4 _ _ ha), List.getElem?_eq_getElem hi⟩) (fun H4 s4 => ⟨xs, SqT.of (s4 _ _ ha), Nat.le_refl _⟩) (fun i H4 x H5 hi s4 y => ?_) (fun H4 ys s4 hy py => ?_)⟩
      · obtain ⟨rfl, f1⟩ := y
        have f1 := f1 _ (SqT.of (s4 _ _ ha))
        obtain ⟨t, ht, b, pt, rfl, hb, hpt⟩ := Paired.getL hx f1
        have et : (polyL p n bs).getD i 0 = t := by rw [List.getD_eq_getElem?_getD, ht]; rfl
        rw [et]
        refine ⟨Same.refl _, _, fun Kk q => ⟨b, _, rfl, SqT.of (s4 _ _ hb), rfl, _, _, rfl, _, _, rfl, rfl, q⟩, rfl, fun Q q => q _ (Same.refl _), fun _ H8 s8 Q q => ?_⟩
        exact ⟨_, rfl, pt, nIs (insOf t), rfl, .inr (SqT.of (s8 _ _ (s4 _ _ hpt))), q _ _ (Same.refl _) (by show V.int _ = V.int _; rw [nIs_len])⟩
      · have ey := RN.all py
        subst ey
        have e2 : ((List.range xs.length).filter (fun _ => true)).map (fun i => (insOf ((polyL p n bs).getD i 0)).length) = (polyL p n bs).map fun t => (insOf t).length := by
          rw [hxl]
          have h := filter_at (polyL p n bs) (fun _ => true)
          have h2 : (polyL p n bs).filter (fun _ => true) = polyL p n bs := List.filter_eq_self.mpr fun _ _ => rfl
          rw [h2] at h
          have h3 := congrArg (List.map fun t => (insOf t).length) h
          rw [List.map_map] at h3
          exact h3
        rw [e2] at hy
        refine ⟨D, _, rfl, rfl, SqL.of hy, ?_⟩
        have q' := q H4 (s1.trans s4)
        have e3 : degV (polyL p n bs) = if (polyL p n bs).map (fun t => (insOf t).length) = [] then V.non else nI (((polyL p n bs).map fun t => (insOf t).length).foldl max 0) := by
          unfold degV
          by_cases z : polyL p n bs = []
          · rw [if_pos z, if_pos (by rw [z]; rfl)]
          · rw [if_neg z, if_neg (fun y => z (List.map_eq_nil_iff.mp y))]
        rw [e3] at q'
        exact q'
    · exact ⟨_, rfl, _, rfl, pq, tv, d, rfl, fv, hd, hl, .inr (.inl ⟨pin, tb, bad⟩)⟩
    · exact ⟨_, rfl, _, rfl, pq, tv, d, rfl, fv, hd, hl, .inr (.inr ⟨pin, bad⟩)⟩
def spAllOf (CN : Addr) : Sp := fun vs H Q E => ∃ (v : V) (d : PyData), vs = [v] ∧ Rp H v d ∧ ((∃ m : Nat, d = .int m ∧ 1 ≤ m ∧ m ≤ 6 ∧ ∀ u H', Same H H' → TK H' u (allT m) → Q u H') ∨ (outD d ∧ Bad0 CN H E))
theorem rep_flat (k : Nat) : (List.replicate k [V.int 0]).flatten = nIs (List.replicate k 0) := by
  induction k with
  | zero => rfl
  | succ k ih =>
    rw [List.replicate_succ, List.flatten_cons, ih, List.replicate_succ]
    rfl
end
end Lt

set_option Elab.async false
set_option linter.all false
set_option maxRecDepth 100000
set_option maxHeartbeats 2000000
/-! sum of a tuple of numbers -/
namespace Lt
open PySem PySem.Spec PyProof.Rows L2
def rSumT (K : PySem.W.Frag) : List V → Hp → VK → Prop := fun vs H Q => ∃ (a : Addr) (ns : List Nat), vs = [V.ref a] ∧ SqT K H a (nIs ns) ∧ Q (nI ns.sum) H
theorem preSum_nats {its : List Value} : ∀ (ns : List Nat) (k : Nat), k ≤ ns.length → preSum (fun i => ((ns.getD i 0 : Nat) : Int)) k = (((ns.take k).sum : Nat) : Int)
  | ns, 0, _ => by simp [preSum]
  | ns, k + 1, h => by
    show preSum (fun i => ((ns.getD i 0 : Nat) : Int)) k + ((ns.getD k 0 : Nat) : Int) = _
    rw [preSum_nats (its := its) ns k (by omega), List.take_add_one, List.sum_append, List.getElem?_eq_getElem (show k < ns.length by omega), List.getD_eq_getElem?_getD, List.getElem?_eq_getElem (show k < ns.length by omega)]
    simp
theorem cr_sumT {X : Cx} (hc : X.calm = true) : CallR X (.builtin "sum") (rSumT X.K) := by
  intro pins s σ H vs us Q I r h
  obtain ⟨a, ns, rfl, hs, q⟩ := h
  obtain rfl := Vals.ref1 r
  obtain ⟨its, rv, p, _⟩ := I.tuple hs
  have hlen : its.length = ns.length := by
    have := rv.length
    rw [nIs_len] at this
    exact this.symm
  obtain ⟨o, ho, hcl, hd⟩ := id p
  have hlt : a < s.heap.objs.size := Heap.lt_size ho
  refine call_sum_walkG (wpAny_pyIter_tuple p ?_)
  refine ⟨s.heap.objs.size, [s.heap.objs.size, a], [s.heap.objs.size], its.toArray.size, _, _, (fun i => ((ns.getD i 0 : Nat) : Int)), rfl, Walks.tuple (A := X.A.in1) (I.ok.hd hc) _ a (Nat.ne_of_lt hlt) its.toArray, ⟨⟨_, Heap.get?_push_size _ rfl, rfl, rfl⟩, (show s.heap.IsTuple a its.toArray from p).at fun o e => Heap.get?_push_of_some _ e⟩, fun b hb => ?_, fun i v hv => ?_, fun h' tk t' hk => ?_⟩
  · show b < (s.heap.push _).objs.size
    rw [Heap.size_push]
    have : b = s.heap.objs.size ∨ b = a := by simpa using hb
    rcases this with e | e
    · rw [e]; exact Nat.lt_succ_self _
    · rw [e]; exact Nat.lt_succ_of_lt hlt
  · have hv : its.toArray[i]? = some v := hv
    rw [List.getElem?_toArray] at hv
    have hi := (List.getElem?_eq_some_iff.mp hv).1
    obtain ⟨u, hu, ru⟩ := rv.get (i := i) (x := nI (ns.getD i 0)) (by rw [nIs_get, List.getElem?_eq_getElem (by omega), List.getD_eq_getElem?_getD, List.getElem?_eq_getElem (by omega)]; rfl)
    rw [hv] at hu
    cases hu
    exact ru
  · rw [List.size_toArray, hlen, preSum_nats (its := its) ns _ (Nat.le_refl _), List.take_length]
    have kept : ∀ b o, s.heap.get? b = some o → h'.get? b = some o := fun b o e => hk b o (fun hm => by
      have hm : b = s.heap.objs.size := by simpa using hm
      exact absurd (hm ▸ Heap.lt_size e) (Nat.lt_irrefl _)) (Heap.get?_push_of_some _ e)
    exact ⟨nI _, H, I.kept kept, ⟨_, rfl⟩, q⟩
end Lt

set_option Elab.async false
set_option linter.all false
set_option maxRecDepth 100000
set_option maxHeartbeats 2000000
/-! _law_parts: the pieces -/
namespace Lt
open PySem PySem.Spec PyProof.Rows L2 NdefX LamX LmX
/-- a def of the top whose code is known -/
def TopC (K : PySem.W.Frag) (mg : Str → Option Value) (x : Str) (st : Stmt) (ps : List Str) (c : Addr) : Prop := ∃ (f : Addr) (oc : Value) (od : Option Addr) (dV kV doc pm : Value) (an : Option Addr) (ct : Value) (osl : Array (Option Value)),
  mg x = some (.ref f) ∧ K.lookup f = some ⟨oc, od, .func (PySem.W.fnOf x x (defArgs st) (defBody st) (defScope st) dV kV doc pm an (.ref c) ct), osl⟩ ∧ PySem.W.codeIn K (.ref c) x = true ∧ PySem.W.keepIn K (.ref f) = true ∧ Binds K (PySem.W.fnOf x x (defArgs st) (defBody st) (defScope st) dV kV doc pm an (.ref c) ct) ps []
def kwV : Expr → Expr
  | .Call _ _ (k :: _) _ => k.value
  | _ => noX
abbrev q_lamP : Str := "_law_parts.<locals>." ++ "<lambda>"
abbrev parN : List Str := ["prime_v", "table", "rows", "found", "bits", "total", "own", "one", "small", "great", "at", "bit"]
theorem sc_law_parts : FnScope parN ["prime_v", "table"] (defScope s_law_parts) := ⟨rfl, rfl, rfl, by decide +kernel, rfl, by decide +kernel, by decide +kernel⟩
def klm : Expr := kwV (valX ((defBody s_law_parts).getD 2 (.Pass ⟨0, 0, 0, 0⟩)))
theorem nsck : NScope ["part"] ["part"] [] (lamS klm) := nscope_by (by decide +kernel)
theorem lbk : ndefB (defScope s_law_parts) (lamS klm) [] = true := by decide +kernel
/-- no one lies above -/
theorem sub_none : ∀ (a b : List Nat), a.length = b.length → ((((List.range a.length).filter fun k => decide (b.getD k 0 < a.getD k 0)) = []) ↔ subL a b = true)
  | [], [], _ => ⟨fun _ => rfl, fun _ => rfl⟩
  | x :: a, y :: b, h => by
    have ih := sub_none a b (by simpa using h)
    rw [List.length_cons, List.range_succ_eq_map, List.filter_cons, List.filter_map]
    have e : ((fun k => decide ((y :: b).getD k 0 < (x :: a).getD k 0)) ∘ Nat.succ) = fun k => decide (b.getD k 0 < a.getD k 0) := rfl
    have e2 : subL (x :: a) (y :: b) = (decide (x ≤ y) && subL a b) := rfl
    rw [e, e2, Bool.and_eq_true]
    show (if decide (y < x) = true then _ else _) = [] ↔ _
    by_cases hxy : y < x
    · rw [if_pos (decide_eq_true hxy)]
      exact ⟨fun z => (by cases z), fun z => absurd (of_decide_eq_true z.1) (by omega)⟩
    · rw [if_neg (by simpa using hxy), List.map_eq_nil_iff, ih]
      exact ⟨fun z => ⟨decide_eq_true (by omega), z⟩, fun z => z.2⟩
  | [], _ :: _, h => by cases h
  | _ :: _, [], h => by cases h
theorem insOf_low {n t : Nat} (hn : n ≤ 6) (ht : t < 2 ^ n) : (List.range n).filter (fun k => (bitsR n t).getD k 0 == 1) = insOf t := by
  unfold insOf
  have e : 6 = n + (6 - n) := by omega
  rw [e, List.range_add, List.filter_append]
  have h2 : List.filter (fun i => t / 2 ^ i % 2 == 1) ((List.range (6 - n)).map fun x => n + x) = [] := by
    rw [List.filter_eq_nil_iff]
    intro x hx
    obtain ⟨j, _, rfl⟩ := List.mem_map.mp hx
    have : t / 2 ^ (n + j) = 0 := Nat.div_eq_of_lt (Nat.lt_of_lt_of_le ht (Nat.pow_le_pow_right (by decide) (by omega)))
    rw [this]
    decide
  rw [h2, List.append_nil]
  refine List.filter_congr fun k hk => ?_
  have hk := List.mem_range.mp hk
  rw [List.getD_eq_getElem?_getD, bitsR_get hk]
  rfl
theorem sg_eq (a b : List Nat) : (if decide (V.int (Int.fmod (((b.sum : Nat) : Int) - ((a.sum : Nat) : Int)) 2) = V.int 0) = true then (1 : Int) else 0 - 1) = sgL a b := by
  unfold sgL
  rw [Int.fmod_eq_emod_of_nonneg _ (by decide)]
  by_cases h : (((b.sum : Nat) : Int) - ((a.sum : Nat) : Int)) % 2 = 0
  · rw [if_pos (decide_eq_true (by rw [h])), if_pos (.inr h)]
  · rw [if_neg (fun z => h (by have := of_decide_eq_true z; injection this)), if_neg (fun z => z.elim (fun y => h (by rw [y]; rfl)) h)]
/-- the sum over the first places -/
def psum (n : Nat) (f : Nat → Int) (t j : Nat) : Int := ((List.range j).map fun s => tmL (f s) (bitsR n s) (bitsR n t)).sum
theorem psum_succ (n : Nat) (f : Nat → Int) (t j : Nat) : psum n f t (j + 1) = psum n f t j + tmL (f j) (bitsR n j) (bitsR n t) := by
  unfold psum
  rw [List.range_succ, List.map_append, List.sum_append]
  simp
theorem fac_mod {p n : Nat} {bs : List Nat} {t : Nat} (tk : Tsk p n bs) (ht : t < 2 ^ n) : Int.fmod (psum n (fT bs) t (2 ^ n)) p = facG p n bs t := by
  obtain ⟨_, p2, p7⟩ := prime_in tk.hp
  have hf : ∀ t, 0 ≤ fT bs t ∧ fT bs t < (p : Int) := fun t => by
    unfold fT
    have : bs.getD t 0 ≤ 1 := by
      by_cases h : t < bs.length
      · rw [List.getD_eq_getElem?_getD, List.getElem?_eq_getElem h]
        exact tk.b1 _ (List.getElem_mem h)
      · rw [List.getD_eq_getElem?_getD, List.getElem?_eq_none (by omega)]
        exact Nat.zero_le _
    omega
  unfold facG
  rw [Gm_eq (by omega) hf ht, ← tot_Tm, Int.fmod_eq_emod_of_nonneg _ (by omega)]
  rfl
def PartsL (g : Nat → Int) (H : Hp) (l : Addr) (ts : List Nat) : Prop := ∃ xs, H l = some (.lst xs) ∧ Paired (partAt g H) xs ts
section
variable {P : Program} {w : World} {K : PySem.W.Frag} {mg : Str → Option Value} {base : Heap} {c2 P2 : Addr}
abbrev PX (P : Program) (w : World) (K : PySem.W.Frag) (mg : Str → Option Value) (base : Heap) (f : Addr) (cd : Value) (A : Around) (outer : List Env) (s : Shared) (H : Hp) (E : XK) : Cx := cxOf CX0 P w K mg base parN "_law_parts" (defScope s_law_parts) f cd A outer s H E
def tSub (K : PySem.W.Frag) : L2.TT := tTest (tOp (rI0 fun i j => .bl (decide (j < i))) (tVar 8) (tVar 9))
def tOn (K : PySem.W.Frag) : L2.TT := tTest (tOp rEq (tVar 11) (tC (.int 1)))
end
end Lt

set_option Elab.async false
set_option linter.all false
set_option maxRecDepth 100000
set_option maxHeartbeats 4000000
/-! _law_parts -/
namespace Lt
open PySem PySem.Spec PyProof.Rows L2 NdefX LamX LmX
theorem lens_at : ∀ m, m < 6 → (tabLens.map V.int)[m]? = some (.int ((2 ^ (m + 1) : Nat) : Int)) := by
  intro m hm
  have : m = 0 ∨ m = 1 ∨ m = 2 ∨ m = 3 ∨ m = 4 ∨ m = 5 := by omega
  rcases this with rfl | rfl | rfl | rfl | rfl | rfl <;> rfl
theorem lens_no {n m : Nat} {z : V} (h6 : n ≤ 6) (hm : m < n - 1) (hz : (tabLens.map V.int)[m]? = some z) : eqV z (.int ((2 ^ n : Nat) : Int)) = false := by
  rw [lens_at m (by omega)] at hz
  cases hz
  show (((2 ^ (m + 1) : Nat) : Int) == ((2 ^ n : Nat) : Int)) = false
  rw [beq_eq_false_iff_ne]
  intro e
  have e : 2 ^ (m + 1) = 2 ^ n := by omega
  have := Nat.pow_lt_pow_right (a := 2) (by decide) (show m + 1 < n by omega)
  omega
section
variable {P : Program} {w : World} {K : PySem.W.Frag} {mg : Str → Option Value} {base : Heap} {c2 P2 : Addr}
def spParts (TS : List (Addr × Str)) : Sp := fun vs H Q _ => ∃ (p : Nat) (bs : List Nat) (n : Nat) (v : V), vs = [nI p, v] ∧ Tsk p n bs ∧ TK H v bs ∧ Tabs TS H ∧ ∀ l H', ExtN H H' → Tabs TS H' → PartsL (facG p n bs) H' l (polyL p n bs) → Q (.ref l) H'
/-- what is known of a turn's rows -/
structure RwAt (H : Hp) (lr : Addr) (rs : List V) (n : Nat) : Prop where
  at_ : H lr = some (.lst rs)
  pr : Paired (TK H) rs (rowsB n)
theorem RwAt.same {H H' : Hp} {lr : Addr} {rs : List V} {n : Nat} (h : RwAt H lr rs n) (s : Same H H') : RwAt H' lr rs n := ⟨s _ _ h.at_, paired_mono (fun _ _ r => TK.tm (.of s) r) h.pr⟩
theorem sh_Ln (t : List Nat) : SeqAt.shaped (.list (t.map dN)) = true := by
  show (PyData.canLayAll0 (t.map dN) && decide (PyData.depthAll (t.map dN) + 1 ≤ 64)) = true
  rw [can_nats, depth_nats]
  rfl
theorem eqv_nil0 (t : List Nat) : PyData.eqv (.list (t.map dN)) (.list []) = decide (t = []) := by
  cases t with
  | nil => rfl
  | cons => rfl
theorem RwAt.mut {H : Hp} {lr lf : Addr} {rs xs ys : List V} {n : Nat} (h : RwAt H lr rs n) (hf : H lf = some (.lst xs)) (hne : lr ≠ lf) : RwAt (upd H lf (.lst ys)) lr rs n :=
  ⟨(upd_ne hne).trans h.at_, paired_mono (fun _ _ r => TK.tm (Tm.lst hf) r) h.pr⟩
theorem filt_one {q : Nat → Bool} {n : Nat} : ((List.range n).filter q).map (fun _ => 1) = [] ↔ (List.range n).filter q = [] := List.map_eq_nil_iff
theorem has_law_parts {TS : List (Addr × Str)} (T : TopC K mg "_law_parts" s_law_parts ["prime_v", "table"] c2) (B : Bi mg) (bz : mg "zip" = none) (bsum : mg "sum" = none) (TB : TabB base mg c2 P2) (hm : (P2, q_lamP) ∈ TS) (hone : ∀ p ∈ TS, p.1 = P2 → p.2 = q_lamP)
    (hBt : Has P w K mg base CX0 1 "_law_bits" ["inputs"] spLBits) : Has P w K mg base CX0 6 "_law_parts" ["prime_v", "table"] (spParts TS) := by
  obtain ⟨f, oc, od, dV, kV, doc, pm, an, ct, osl, hg, lk, hcd, kp, hb⟩ := T
  refine ⟨f, _, hg, kp, hb, fn_of lk hcd sc_law_parts (fun vs H Q E h => ?_) fun A outer s H vs Q E hr h => ?_⟩
  · obtain ⟨p, bs, n, v, rfl, _⟩ := h
    rfl
  obtain ⟨p, bs, n, v, rfl, tk, ⟨a, rfl, ha⟩, hT, q⟩ := h
  have hu := hr.units
  have hr1 : Room 1 (PX P w K mg base f (.ref c2) A outer s H E).A := hr.mono (by decide)
  have hu64 : (PX P w K mg base f (.ref c2) A outer s H E).A.units + 64 < cLine := hu
  have h64 := pow6 tk.n6
  have n1 := tk.n1
  have n6 := tk.n6
  have hlen := tk.len
  obtain ⟨_, p2, p7⟩ := prime_in tk.hp
  have hN : (nIs bs).length = 2 ^ n := by rw [nIs_len, hlen]
  refine ⟨_, pss_cons (ps_par (i := 2) (j := 3) (by rfl) sc_law_parts.nd rfl rfl (by decide) rfl rfl (pa_cons (pe_has hBt hr1 (by rfl) (pa_cons (pe_op op_add (pe_bm PySem.F.plainAttrs_list PySem.F.slot_list_index PySem.F.type_list_index mt_index (pe_lst (pa_cons pe_int (pa_cons pe_int (pa_cons pe_int (pa_cons pe_int (pa_cons pe_int (pa_cons pe_int pa_nil)))))))  (pa_cons (pe_callB call_len_seq (by rfl) B.len PySem.boot_len (pa_cons (pv 1) pa_nil)) pa_nil)) pe_int) pa_nil)) (pa_cons (pe_lst pa_nil) pa_nil)) (by rfl))
    (pss_cons (ps_for (passes_of rfl) rfl (pi_list (pv 2)) (pg_name (i := 4) sc_law_parts.nd rfl (Or.inl rfl))
      (pss_cons (ps_set (i := 5) sc_law_parts.nd rfl (Or.inl rfl) pe_int)
      (pss_cons (ps_for (passes_of rfl) rfl (pi_zipM (by rfl) bz (pa_cons (pv 2) (pa_cons (pv 1) pa_nil))) (pg_tup rfl (pgs_cons (pg_name (i := 6) sc_law_parts.nd rfl (Or.inl rfl)) (pgs_cons (pg_name (i := 7) sc_law_parts.nd rfl (Or.inl rfl)) pgs_nil)))
        (pss_one (ps_if (pt_cmpR (op_eqD hu64) (pe_lc (own := [("small", 8), ("great", 9)]) (g := gTup K 2 (gCons (gName 8) (gCons (gName 9) gNil))) (te := tC (.int 1)) (tt := tSub K) (by rfl) sc_law_parts.nd (RZ.pi_zipA (by rfl) bz (pa_cons (pv 6) (pa_cons (pv 4) pa_nil))) (blkOk_by (own := [("small", 8), ("great", 9)]) (N := parN) (sc := defScope s_law_parts) (by decide +kernel))
            (fun _ _ _ _ _ => pg_tup rfl (pgs_cons (pg_name (i := 8) sc_law_parts.nd rfl (Or.inl rfl)) (pgs_cons (pg_name (i := 9) sc_law_parts.nd rfl (Or.inl rfl)) pgs_nil))) (fun _ _ _ _ _ => pts_one (pt_cmpR op_gt (pv 8) (pv 9) (nomark _))) (fun _ _ _ _ _ => pe_int)) (pe_lst pa_nil) (nomark _))
          (pss_one (ps_set (i := 5) sc_law_parts.nd rfl (Or.inl rfl) (pe_op op_add (pv 5) (pe_op op_mul (pv 7) (pe_ifExp (pt_cmpR op_eq (pe_op op_modN (pe_op op_sub (pe_callB (cr_sumT (by rfl)) (by rfl) bsum (by rfl) (pa_cons (pv 4) pa_nil)) (pe_callB (cr_sumT (by rfl)) (by rfl) bsum (by rfl) (pa_cons (pv 6) pa_nil))) pe_int) pe_int (nomark _)) pe_int (pe_op op_sub pe_int pe_int)))))) pss_nil)))
      (pss_one (ps_if (pt_cmpR op_ne (pe_op op_modN (pv 5) (pv 0)) pe_int (nomark _))
        (pss_one (ps_expr (pe_bm PySem.F.plainAttrs_list PySem.F.slot_list_append PySem.F.type_list_append mt_append (pv 3) (pa_cons (pe_tup (pa_cons (pe_tupleOf (by rfl) B.tuple (pe_lc (own := [("at", 10), ("bit", 11)]) (g := gTup K 2 (gCons (gName 10) (gCons (gName 11) gNil))) (te := tVar 10) (tt := tOn K) (by rfl) sc_law_parts.nd (pi_enumT (by rfl) B.enumerate (pa_cons (pv 4) pa_nil)) (blkOk_by (own := [("at", 10), ("bit", 11)]) (N := parN) (sc := defScope s_law_parts) (by decide +kernel))
            (fun _ _ _ _ _ => pg_tup rfl (pgs_cons (pg_name (i := 10) sc_law_parts.nd rfl (Or.inl rfl)) (pgs_cons (pg_name (i := 11) sc_law_parts.nd rfl (Or.inl rfl)) pgs_nil))) (fun _ _ _ _ _ => pts_one (pt_cmpR op_eq (pv 11) pe_int (nomark _))) (fun _ _ _ _ _ => pv 10))) (pa_cons (pe_op op_modN (pv 5) (pv 0)) pa_nil))) pa_nil)))) pss_nil)))))
    (pss_one (ps_ret (pe_callBK (cr_sortedK (q := q_lamP) (body := lamB klm) (params := lamP klm) (scope := lamS klm) (N := ["part"]) rfl nsck rfl (by decide) (by decide) rfl B.len (fun ok => Caps.made ok (ndef_free lbk) (ndef_fr lbk) rfl) (hr.mono (by decide)) (fun s F doc pm ctv u e => .of_eq (by obtain ⟨f1, f2, f3, f4, f5, f6, f7⟩ := F; have e : f3 = lamP klm := e; subst e; rfl))) (by rfl) B.sorted PyProof.Rows.boot_sorted (pa_cons (pv 3) pa_nil) (pk_cons (pe_lm0 (T := TS) TB rfl hm hone (ndef_free lbk) rfl) pk_nil))))), ?_⟩
  refine ⟨by show 6 ≤ sizeLine; decide, fun l1 hl1 => ⟨.inl ⟨rfl, _, SqL.of upd_same⟩, ?_⟩⟩
  have s1 := same_new (o := .lst (tabLens.map V.int)) hl1
  refine ⟨_, rfl, a, nIs bs, rfl, .inr (SqT.of (s1 _ _ ha)), l1, tabLens.map V.int, .int (((nIs bs).length : Nat) : Int), n - 1, .int ((2 ^ n : Nat) : Int), rfl, rfl, SqL.of upd_same, rfl, rfl, ?_, ?_, ?_, ?_⟩
  · have := lens_at (n - 1) (by omega)
    rwa [show n - 1 + 1 = n by omega] at this
  · rw [hN]
    show (((2 ^ n : Nat) : Int) == ((2 ^ n : Nat) : Int)) = true
    exact beq_self_eq_true _
  · intro m z h1 h2
    rw [hN]
    exact lens_no n6 h1 h2
  refine ⟨_, 1, rfl, rfl, n, ?_, n6, fun lr H2 s2 hlr ⟨rs, hrs, prs⟩ => ⟨Nat.zero_le _, fun lf hlf => ⟨_, _, rfl, ?_⟩⟩⟩
  · show [V.int (((n - 1 : Nat) : Int) + 1)] = [nI n]
    have : ((n - 1 : Nat) : Int) + 1 = (n : Int) := by omega
    rw [this]
    rfl
  have s12 := s1.trans s2
  have s3 := same_new (o := .lst []) hlf
  have s13 := s12.trans s3
  have lfH : H lf = none := s12.free hlf
  have rlen := Paired.length prs
  rw [rowsB_len] at rlen
  have rw0 : RwAt (upd H2 lf (.lst [])) lr rs n := RwAt.same ⟨hrs, prs⟩ s3
  refine ⟨_, rfl, lr, rfl, ⟨rs, SqL.of rw0.at_⟩, for_list (K := K) (a := lr) (xs := rs) (fun i σ H' => ∃ y4 y5 y6 y7 zs, σ = [some (nI p), some (.ref a), some (.ref lr), some (.ref lf), y4, y5, y6, y7, none, none, none, none] ∧ Same H H' ∧ RwAt H' lr rs n ∧ H' lf = some (.lst zs) ∧ Paired (partAt (facG p n bs) H') zs ((List.range i).filter fun t => facG p n bs t != 0) ∧ zs.length ≤ i)
    ⟨none, none, none, none, [], rfl, s13, rw0, upd_same, .nil, Nat.le_refl _⟩ (fun i σ H' hi => ?_) ?_ ?_⟩
  · rintro ⟨y4, y5, y6, y7, zs, rfl, sA, rw1, hf, pz, lz⟩
    exact SqL.of rw1.at_
  · rintro i x σ H1 hx ⟨y4, y5, y6, y7, zs, rfl, sA, rw1, hf, pz, lz⟩
    have hi : i < 2 ^ n := by have := (List.getElem?_eq_some_iff.mp hx).1; omega
    obtain ⟨bt, hbt, b, rfl, hbb⟩ := Paired.getL rw1.pr hx
    rw [rowsB_get hi] at hbt
    have hbt := (Option.some.inj hbt).symm
    subst hbt
    refine ⟨_, rfl, _, rfl, lr, a, rs, nIs bs, rfl, SqL.of rw1.at_, SqT.of (sA _ _ ha), for_zipM (K := K) (a := lr) (b := a) (xs := rs) (ys := nIs bs) (by omega) (fun j σ H' => ∃ y6 y7, σ = [some (nI p), some (.ref a), some (.ref lr), some (.ref lf), some (.ref b), some (.int (psum n (fT bs) i j)), y6, y7, none, none, none, none] ∧ Same H1 H')
      ⟨y6, y7, rfl, Same.refl _⟩ ?_ ?_ ?_⟩
    · rintro j σ H' ⟨y6, y7, rfl, sB⟩
      exact ⟨SqL.of (sB _ _ rw1.at_), SqT.of (sB _ _ (sA _ _ ha))⟩
    · rintro j x y T σ H' hxj hyj ⟨y6, y7, rfl, sB⟩ hTn
      have hj : j < 2 ^ n := by have := (List.getElem?_eq_some_iff.mp hxj).1; omega
      have sT := same_new (o := .tup [x, y]) hTn
      have sC := sB.trans sT
      obtain ⟨ot, hot, o, rfl, hoo⟩ := Paired.getL rw1.pr hxj
      rw [rowsB_get hj] at hot
      have hot := (Option.some.inj hot).symm
      subst hot
      have hy : y = .int (fT bs j) := by
        rw [nIs_Lf, Lf_get (by omega)] at hyj
        exact (Option.some.inj hyj).symm
      subst hy
      have hoo2 := sC _ _ hoo
      have hbb2 := sC _ _ hbb
      have gb : ∀ t {k : Nat}, k < n → (nIs (bitsR n t))[k]? = some (nI ((bitsR n t).getD k 0)) := fun t k hk => by
        rw [nIs_get, bitsR_get hk, List.getD_eq_getElem?_getD, bitsR_get hk]
        rfl
      refine ⟨T, _, rfl, SqT.of upd_same, rfl, _, _, rfl, _, _, rfl, rfl, ?_⟩
      refine ⟨_, rfl, _, rfl, o, b, _, _, rfl, .inr ⟨SqT.of hoo2, SqT.of hbb2, fun D hD => lc_genF (J := RZ.ItzT K o b) (n := n) RN (fun k => decide ((bitsR n i).getD k 0 < (bitsR n j).getD k 0)) (fun _ => 1) (fun _ _ _ _ _ r => r) (by omega) hD (fun k H4 hk s4 => ⟨_, _, _, _, SqT.of (s4 _ _ hoo2), SqT.of (s4 _ _ hbb2), gb j hk, gb i hk⟩) (fun H4 s4 => ⟨_, _, SqT.of (s4 _ _ hoo2), SqT.of (s4 _ _ hbb2), .inl (by rw [nIs_len, bitsR_len]; exact Nat.le_refl _)⟩) (fun k H4 x H5 hk s4 y => ?_) (fun H4 ws s4 hw pw => ?_)⟩⟩
      · obtain ⟨T2, x2, y2, rfl, hT2, rfl, f1, f2⟩ := y
        have f1 := f1 _ (SqT.of (s4 _ _ hoo2))
        have f2 := f2 _ (SqT.of (s4 _ _ hbb2))
        rw [gb j hk] at f1
        rw [gb i hk] at f2
        have f1 := (Option.some.inj f1).symm
        have f2 := (Option.some.inj f2).symm
        subst f1 f2
        refine ⟨same_new hT2, _, fun Kk q => ⟨T2, _, rfl, SqT.of upd_same, rfl, _, _, rfl, _, _, rfl, rfl, q⟩, rfl, fun Q q => ⟨_, rfl, _, rfl, (((bitsR n j).getD k 0 : Nat) : Int), (((bitsR n i).getD k 0 : Nat) : Int), rfl, rfl, _, congrArg V.bl (decide_eq_decide.mpr (by omega)), q _ (Same.refl _)⟩, fun _ H6 s6 Q q => q _ _ (Same.refl _) rfl⟩
      · have sD := sC.trans s4
        have ew := RN.all pw
        subst ew
        obtain ⟨zl, ezl⟩ : ∃ zl, zl = ((List.range n).filter fun k => decide ((bitsR n i).getD k 0 < (bitsR n j).getD k 0)).map fun _ => 1 := ⟨_, rfl⟩
        rw [← ezl] at hw
        have hsub : zl = [] ↔ subL (bitsR n j) (bitsR n i) = true := by
          rw [ezl, filt_one]
          have := sub_none (bitsR n j) (bitsR n i) (by rw [bitsR_len, bitsR_len])
          rw [bitsR_len] at this
          exact this
        refine ⟨Nat.zero_le _, fun p0 hp0 => ?_⟩
        have s5 := same_new (o := .lst []) hp0
        have sE := sD.trans s5
        refine ⟨.list (zl.map dN), .list [], Rp.dp _ _ (.lst (s5 _ _ hw) (rp_nats zl)), .lst (SqL.of upd_same) .nil, sh_Ln zl, rfl, decide (zl = []), congrArg V.bl (eqv_nil0 zl), ?_⟩
        have s45 := s4.trans s5
        have hoo3 := s45 _ _ hoo2
        have hbb3 := s45 _ _ hbb2
        by_cases hz : zl = []
        · rw [decide_eq_true hz]
          obtain ⟨c, hc⟩ : ∃ c, c = decide (V.int (Int.fmod ((((bitsR n i).sum : Nat) : Int) - (((bitsR n j).sum : Nat) : Int)) 2) = V.int 0) := ⟨_, rfl⟩
          have sg := sg_eq (bitsR n j) (bitsR n i)
          rw [← hc] at sg
          have etm : tmL (fT bs j) (bitsR n j) (bitsR n i) = fT bs j * sgL (bitsR n j) (bitsR n i) := if_pos (hsub.mp hz)
          have small : fT bs j = 0 ∨ fT bs j = 1 := by
            have h1 := tk.b1 (bs.getD j 0) (by rw [List.getD_eq_getElem?_getD, List.getElem?_eq_getElem (by omega)]; exact List.getElem_mem _)
            unfold fT
            omega
          refine iteT ⟨_, rfl, _, rfl, _, rfl, b, bitsR n i, rfl, SqT.of hbb3, _, rfl, o, bitsR n j, rfl, SqT.of hoo3, _, _, rfl, rfl, _, 2, rfl, rfl, (show (2 : Int) ≠ 0 by decide), rfl, c, congrArg V.bl hc.symm, ?_⟩
          have fin : ∀ sgn : Int, sgn = sgL (bitsR n j) (bitsR n i) → psum n (fT bs) i j + fT bs j * sgn = psum n (fT bs) i (j + 1) := fun sgn e => by rw [psum_succ, etm, e]
          cases c with
          | true => exact iteT ⟨_, _, rfl, rfl, .inl ⟨by omega, by omega⟩, _, _, rfl, rfl, _, _, by rw [← fin 1 (by rw [← sg]; rfl)]; rfl, sE⟩
          | false => exact iteF ⟨_, _, rfl, rfl, _, _, rfl, rfl, .inl ⟨by omega, by omega⟩, _, _, rfl, rfl, _, _, by rw [← fin (0 - 1) (by rw [← sg]; rfl)]; rfl, sE⟩
        · rw [decide_eq_false hz]
          have etm : tmL (fT bs j) (bitsR n j) (bitsR n i) = 0 := if_neg (fun z => hz (hsub.mpr z))
          refine iteF ⟨some (.ref o), some (.int (fT bs j)), ?_, sE⟩
          rw [psum_succ, etm, Int.add_zero]
          rfl
    · rintro σ H' ⟨y6, y7, rfl, sB⟩
      have hfac : Int.fmod (psum n (fT bs) i rs.length) p = facG p n bs i := by rw [rlen]; exact fac_mod tk hi
      have hp0 : (p : Int) ≠ 0 := by omega
      have hf' := sB _ _ hf
      have rw2 := rw1.same sB
      have hbb' := sB _ _ hbb
      have pz' : Paired (partAt (facG p n bs) H') zs ((List.range i).filter fun t => facG p n bs t != 0) := paired_mono (fun _ _ r => partAt.tm (.of sB) r) pz
      have sAB := sA.trans sB
      have hne : lr ≠ lf := ne_of_none hrs hlf
      refine ⟨_, rfl, _, rfl, _, (p : Int), rfl, rfl, hp0, rfl, facG p n bs i != 0, ?_, ?_⟩
      · refine congrArg V.bl ?_
        show (!decide (V.int (Int.fmod _ _) = V.int 0)) = _
        rw [hfac, dec_int]
        rfl
      cases hg0 : facG p n bs i != 0 with
      | false =>
        refine iteF ⟨_, _, _, _, zs, rfl, sAB, rw2, hf', ?_, by omega⟩
        rw [List.range_succ, List.filter_append]
        have : List.filter (fun t => facG p n bs t != 0) [i] = [] := by
          rw [List.filter_cons_of_neg (p := fun t => facG p n bs t != 0) (by rw [hg0]; decide), List.filter_nil]
        rw [this, List.append_nil]
        exact pz'
      | true =>
        refine iteT ⟨_, rfl, .inl ⟨rfl, zs, SqL.of hf'⟩, _, rfl, b, nIs (bitsR n i), rfl, SqT.of hbb', fun D hD => lc_enumF (K := K) (g := gTup K 2 (gCons (gName 10) (gCons (gName 11) gNil))) (te := tVar 10) (tt := tOn K) (j1 := 10) (j2 := 11) (xs := nIs (bitsR n i)) RN (fun k => (bitsR n i).getD k 0 == 1) (fun k => k) (fun _ _ _ _ _ r => r) (fun H3 s3 => SqT.of (s3 _ _ hbb')) (by rw [nIs_len, bitsR_len]; omega) hD (fun T x i σ H Q hT q => ⟨T, _, rfl, SqT.of hT, rfl, nI i, _, rfl, x, _, rfl, rfl, q⟩) (fun x y => rfl) (fun k x H3 hx3 s3 Q3 q3 => ?_) (fun k x H3 hx3 hk3 s3 Q3 q3 => ?_) (fun H3 ws s3 hw pw => ?_)⟩
        · have hk : k < n := by
            have := (List.getElem?_eq_some_iff.mp hx3).1
            rwa [nIs_len, bitsR_len] at this
          have hx4 : x = nI ((bitsR n i).getD k 0) := by
            rw [nIs_get, bitsR_get hk] at hx3
            rw [List.getD_eq_getElem?_getD, bitsR_get hk]
            exact (Option.some.inj hx3).symm
          subst hx4
          refine ⟨_, rfl, rfl, _, ?_, q3 _ (Same.refl _)⟩
          refine congrArg V.bl ?_
          show decide (V.int (((bitsR n i).getD k 0 : Nat) : Int) = V.int 1) = _
          rw [dec_int]
          by_cases h1 : (bitsR n i).getD k 0 = 1
          · rw [h1]; rfl
          · rw [beq_eq_false_iff_ne.mpr h1]
            exact beq_eq_false_iff_ne.mpr (by omega)
        · exact ⟨_, rfl, q3 _ _ (Same.refl _) rfl⟩
        · have ew := RN.all pw
          rw [nIs_len, bitsR_len, List.map_id', insOf_low n6 hi] at ew
          subst ew
          refine .inl ⟨D, _, rfl, SqL.of hw, fun pt hpt => ?_⟩
          have s4 := same_new (o := .tup (nIs (insOf i))) hpt
          refine ⟨_, rfl, _, rfl, _, (p : Int), rfl, rfl, hp0, by show 2 ≤ sizeLine; decide, fun tb htb => ?_⟩
          have s34 := s3.trans s4
          have s5 := same_new (o := .tup [V.ref pt, V.int (Int.fmod (psum n (fT bs) i rs.length) p)]) htb
          have s35 := s34.trans s5
          have hf5 := s35 _ _ hf'
          refine ⟨lf, zs, .ref tb, rfl, rfl, hf5, by rw [sizeLine_eq]; omega, _, _, _, _, zs ++ [.ref tb], rfl, same_mut (sAB.trans s35) lfH, (rw2.same s35).mut hf5 hne, upd_same, ?_, by rw [List.length_append]; show zs.length + 1 ≤ i + 1; omega⟩
          have tmL : Tm (upd (upd H3 pt (.tup (nIs (insOf i)))) tb (.tup [V.ref pt, V.int (Int.fmod (psum n (fT bs) i rs.length) p)])) (upd (upd (upd H3 pt (.tup (nIs (insOf i)))) tb (.tup [V.ref pt, V.int (Int.fmod (psum n (fT bs) i rs.length) p)])) lf (.lst (zs ++ [.ref tb]))) := Tm.lst hf5
          rw [List.range_succ, List.filter_append]
          have : List.filter (fun t => facG p n bs t != 0) [i] = [i] := by
            rw [List.filter_cons_of_pos (p := fun t => facG p n bs t != 0) hg0, List.filter_nil]
          rw [this]
          refine Paired.app (paired_mono (fun _ _ r => partAt.tm ((Tm.of s35).trans tmL) r) pz') (Paired.one ?_)
          refine partAt.tm tmL ⟨tb, pt, rfl, ?_, s5 _ _ upd_same⟩
          rw [upd_same]
          exact congrArg (fun z => some (HO.tup [V.ref pt, V.int z])) hfac
  · rintro σ H1 ⟨y4, y5, y6, y7, zs, rfl, sA, rw1, hf, pz, lz⟩
    have hTb := hT.ext sA
    refine ⟨_, rfl, hTb, fun fl c' H3 e1 t1 hfl hlm hco => ?_⟩
    have tm := extN_tm e1
    have hf3 := e1 _ _ hf (fun _ z => nomatch z)
    rw [rlen] at pz
    refine ⟨lf, fl, c', zs, Nat, _, insOf, partAt (facG p n bs) H3, rfl, rfl, SqL.of hf3, paired_mono (fun _ _ r => partAt.tm tm r) pz, fun v t r => ?_, hlm, hco, fun ys lp py hlp => ?_⟩
    · obtain ⟨tb, pt, rfl, h1, h2⟩ := r
      exact ⟨tb, pt, _, rfl, SqT.of h1, SqT.of h2⟩
    · have sl := same_new (o := .lst ys) hlp
      refine q lp _ (((extN_of sA).trans e1).trans (extN_of sl)) (t1.ext sl) ⟨ys, upd_same, ?_⟩
      · have e : polyL p n bs = ((List.range (2 ^ n)).filter fun t => facG p n bs t != 0).mergeSort (PySem.W.dataLe false fun b => keyD (insOf b)) := by
          unfold polyL
          exact sorted_alike (encT_key _) keyD_key _ h64
        rw [e]
        exact paired_mono (fun _ _ r => partAt.tm (.of sl) r) py
end
end Lt

set_option Elab.async false
set_option linter.all false
set_option maxRecDepth 100000
set_option maxHeartbeats 2000000
/-! the end of a law with lambdas, where one of its helpers makes lambdas too; the law's heap is the frame's -/
namespace Lt
open PySem PySem.Spec PyProof.Rows L2 NdefX LamX LmX
def spLamN (K : PySem.W.Frag) (TS : List (Addr × Str)) : Sp := fun vs H Q _ => ∃ (l : Addr) (ns : List Int), vs = [.ref l] ∧ SqL K H l (ns.map V.int) ∧ Tabs TS H ∧ ∀ H', Q (.bl true) H'
theorem cti_mk {K : PySem.W.Frag} {h : Heap} {mg : Str → Option Value} {x : Str} {zs : List Int} {J : Addr} {o : Obj} (X : K.In h) (G : h.Ns mainGlobals mg) (a : PySem.W.nsIn K mainGlobals x = some (some (.ref J))) (l : K.lookup J = some o)
    (b : ∃ (its : Array Value) (n : Nat), o.cls = .type "tuple" ∧ o.data = .seq its n ∧ its.size ≤ sizeLine ∧ Vals (zs.map V.int) its.toList) : Cti K mg x zs := by
  obtain ⟨its, n, h1, h2, h3, h4⟩ := b
  exact ⟨J, PySem.W.mg_of X G a, fun H => .inr ⟨o, its, n, l, h1, h2, h3, h4⟩⟩
abbrev CtiX {K : PySem.W.Frag} {h : Heap} (_ : K.In h) (mg : Str → Option Value) (x : Str) (zs : List Int) : Prop := Cti K mg x zs
/-- the tables of the defs that are named are empty at the start -/
theorem walk_ofTabs (nms : List Str) {l : PySem.W.OpenLaw} {n k : Nat} {q : Program} {loose : List Str} {XP : (Str → Option Value) → Heap → Prop} {YP : World → Heap → Prop} {d : DefRec} {K : Params → PySem.W.Frag} {CX : World → CXT} {x : Str}
    (hn : l.most = some n) (hn2 : n ≤ sizeLine) (hdf : d.params.defaults = []) (hr : Room k callerA) (hrec : (nms.all fun m => (recsOf q).any fun e => e.name == m) = true) (hY : ∀ (w : World) (h : Heap), YP w h → (K w.params).In h)
    (F : ∀ (w : World) (mg : Str → Option Value) (fa : Addr) (h : Heap), YP w h → (K w.params).In h → h.Ns mainGlobals mg → mg d.name = some (.ref fa) → (∀ m ∈ nms, ∀ f, mg m = some (.ref f) → OwnTab (K w.params) f h) → LawAtS l w (K w.params) (CX w) k n x mg fa h)
    (hCX : ∀ (w : World) (H : Hp) (s : Shared) (e : Value) (s' : Shared), CX w [] H s (fun _ _ _ => False) e s' → False) :
    PySem.W.WalkO q loose XP YP l.row.toRowW d [] (fun f vs => PySem.call f vs) := by
  refine Att.attach_callB hn hdf fun w s₀ s₁ mg mb fa o pm cd doc a vs ns G Y ho hd hcd hmg hobj hints hlen hbits hg => ?_
  have KX := hY w _ Y
  have tabs : ∀ m ∈ nms, ∀ f, mg m = some (.ref f) → OwnTab (K w.params) f s₁.heap := fun m hm f hf c P o1 fd1 e dd vs1 sl k1 k2 k3 k4 k5 => by
    obtain ⟨r, hr1, hr2⟩ := List.any_eq_true.mp (List.all_eq_true.mp hrec m hm)
    obtain ⟨a', o', fd', c', P', t1, t2, t3, t4, t5, ⟨⟨oc, vc, u1, _, u3, u4⟩, hP⟩⟩ := G.T.tab r hr1
    rw [beq_iff_eq.mp hr2, hf] at t1
    cases t1
    cases (KX _ _ k1).symm.trans t2
    cases k2.symm.trans t3
    cases k3.symm.trans t4
    cases (KX _ _ k4).symm.trans u1
    cases u3
    cases k5.symm.trans u4
    exact hP
  obtain ⟨fd, cs, sp, h1, h2, h3, h4, h5, h6⟩ := F w mg fa _ Y KX G.T.g hmg tabs
  exact law_callTs KX G.T.g G.T.b G.T.builtins G.T.nolimit hg h1 h2 h3 G.T.bmain hobj hints (Nat.le_trans hlen hn2) hr h6 h4 (fun H hH hS => h5 H a ns hlen hbits hH hS) fun H e s' => hCX w H s₁ e s'
theorem lam_at3 {x2 q2 : Str} {st2 : Stmt} {ps2 : List Str} {l : PySem.W.OpenLaw} {w : World} {K : PySem.W.Frag} {h : Heap} {mg : Str → Option Value} {lvl : Nat} {fa f c Pt f2 c2 P2 : Addr} {oc kV doc pm ct e oc2 kV2 doc2 pm2 ct2 e2 : Value} {an od dd an2 od2 dd2 : Option Addr} {osl sl osl2 sl2 : Array (Option Value)} {vs vs2 : Array Value} {N : List Str} {st : Stmt}
    (S : FnScope N ["script"] (defScope st)) (X : K.In h) (hfa : mg "law" = some (.ref fa)) (own : ∀ m ∈ ([("law" : Str), x2] : List Str), ∀ f, mg m = some (.ref f) → OwnTab K f h) (G : h.Ns mainGlobals mg)
    (a : PySem.W.nsIn K mainGlobals "law" = some (some (.ref f)))
    (lk : K.lookup f = some ⟨oc, od, .func (PySem.W.fnOf "law" "law" (defArgs st) (defBody st) (defScope st) .none kV doc pm an (.ref c) ct), osl⟩) (hcd : PySem.W.codeIn K (.ref c) "law" = true)
    (lc : K.lookup c = some ⟨e, dd, .fields vs, sl⟩) (lp : vs[11]? = some (.ref Pt)) (hh : ∀ K' : PySem.W.Frag, K'.lookup c = some ⟨e, dd, .fields vs, sl⟩ → PySem.W.codeHdIn K' c Pt = true) (np : K.lookup Pt = none)
    (a2 : PySem.W.nsIn K mainGlobals x2 = some (some (.ref f2)))
    (lk2 : K.lookup f2 = some ⟨oc2, od2, .func (PySem.W.fnOf x2 x2 (defArgs st2) (defBody st2) (defScope st2) .none kV2 doc2 pm2 an2 (.ref c2) ct2), osl2⟩) (hcd2 : PySem.W.codeIn K (.ref c2) x2 = true) (kp2 : PySem.W.keepIn K (.ref f2) = true)
    (lc2 : K.lookup c2 = some ⟨e2, dd2, .fields vs2, sl2⟩) (lp2 : vs2[11]? = some (.ref P2)) (hh2 : ∀ K' : PySem.W.Frag, K'.lookup c2 = some ⟨e2, dd2, .fields vs2, sl2⟩ → PySem.W.codeHdIn K' c2 P2 = true) (np2 : K.lookup P2 = none) (hne : P2 ≠ Pt)
    (hb : ∀ s u, BindsTo s (PySem.W.fnOf "law" "law" (defArgs st) (defBody st) (defScope st) .none kV doc pm an (.ref c) ct) ⟨[u], []⟩ [("script", u)])
    (hb2 : ∀ (kV doc pm : Value) (an : Option Addr) (cdv ct : Value) (us : List Value), us.length = ps2.length → bindArgs (PySem.W.fnOf x2 x2 (defArgs st2) (defBody st2) (defScope st2) .none kV doc pm an cdv ct) ⟨us, []⟩ = pure (ps2.zip us))
    (hall : ∀ (base : Heap), TabB base mg c Pt → TabB base mg c2 P2 → TopC K mg x2 st2 ps2 c2 → P2 ≠ Pt → ∀ (A : Around) (outer : List Env) (s0 : Shared) (H0 : Hp) (E0' : XK), Room lvl (cxOf CX0 l.prog w K mg base N "law" (defScope st) f (.ref c) A outer s0 H0 E0').A → ∃ t, PSs (cxOf CX0 l.prog w K mg base N "law" (defScope st) f (.ref c) A outer s0 H0 E0') (defBody st) t ∧ ∀ (D : Ends) (vs : List V) (Q : VK), D.rt = Q → spLamN K [(Pt, q_lam), (P2, q2)] vs H0 Q C8.E0 → t D (start N vs) H0) :
    LawAtS l w K CX0 (lvl + 1) 63 "script" mg fa h := by
  have ef := hfa.symm.trans (PySem.W.mg_of X G a)
  cases ef
  have F2 := fun_mk lk2 hcd2 kp2
  have tc : TopC K mg x2 st2 ps2 c2 := ⟨f2, oc2, od2, _, kV2, doc2, pm2, an2, ct2, osl2, PySem.W.mg_of X G a2, lk2, hcd2, kp2, F2.binds hb2⟩
  have two : ∀ {p : Addr × Addr}, p ∈ [(c, Pt), (c2, P2)] → p = (c, Pt) ∨ p = (c2, P2) := fun hp => by simpa using hp
  refine ⟨_, [(c, Pt), (c2, P2)], spLamN K [(Pt, q_lam), (P2, q2)], fun p hp => ?_, fun p hp => ?_, fun p hp => ?_, hb, fun H a ns _ _ hH hS => ⟨a, ns, rfl, hS, fun p hp => ?_, fun _ => rfl⟩, fun base _ _ hB => ?_⟩
  · rcases two hp with e | e <;> rw [e]
    · exact own "law" (by simp) _ hfa c Pt _ _ _ _ vs sl lk rfl rfl lc lp
    · exact own x2 (by simp) _ (PySem.W.mg_of X G a2) c2 P2 _ _ _ _ vs2 sl2 lk2 rfl rfl lc2 lp2
  · rcases two hp with e | e <;> rw [e]
    · exact np
    · exact np2
  · rcases two hp with e | e <;> rw [e]
    · exact PySem.W.codeHd_of_K X (hh K lc)
    · exact PySem.W.codeHd_of_K X (hh2 K lc2)
  · have hp' : p = (Pt, q_lam) ∨ p = (P2, q2) := by simpa using hp
    rcases hp' with e | e <;> rw [e]
    · exact TabS.nil (hH (c, Pt) (by simp))
    · exact TabS.nil (hH (c2, P2) (by simp))
  · refine fn_of lk hcd S (fun vs H Q E h => ?_) fun A outer s H vs Q E hr h => ?_
    · obtain ⟨l, ns, rfl, _⟩ := h
      rfl
    · obtain ⟨t, ht, qt⟩ := hall base (hB (c, Pt) (by simp)) (hB (c2, P2) (by simp)) tc hne A outer s H E hr
      exact ⟨t, ht, qt _ vs Q rfl h⟩
end Lt

set_option Elab.async false
set_option linter.all false
set_option maxRecDepth 100000
set_option maxHeartbeats 1000000
namespace Lt
open PySem PySem.Spec PyProof.Rows L2 NdefX LamX LmX
section
variable {P : Program} {w : World} {K : PySem.W.Frag} {mg : Str → Option Value} {base : Heap}
theorem init_BadLock {fI : Addr} {fd : FuncData} (F : Fun K "__init__" "BadLock.__init__" (initS s_BadLock) fI fd) : FnOk P w K mg base CX0 1 fI fd ["self", "place"] (spInit K "place") := by
  refine F.ok (N := ["self", "place"]) ⟨rfl, rfl, rfl, by decide +kernel, rfl, by decide +kernel, by decide +kernel⟩ (fun vs H Q E h => ?_) (fun cdv A outer s H vs Q E hr h => ?_)
  · obtain ⟨a, C, v, rfl, _⟩ := h
    rfl
  · obtain ⟨a, C, v, rfl, ox, no, ha, q⟩ := h
    exact ⟨_, pss_one (ps_ost (pv 0) (pv 1)), _, rfl, _, rfl, a, C, rfl, ox, no, .inl ⟨ha, fun dx h1 h2 => q dx h1 h2⟩⟩
theorem init_BadRow {fI : Addr} {fd : FuncData} (F : Fun K "__init__" "BadRow.__init__" (initS s_BadRow) fI fd) : FnOk P w K mg base CX0 1 fI fd ["self", "place"] (spInit K "place") := by
  refine F.ok (N := ["self", "place"]) ⟨rfl, rfl, rfl, by decide +kernel, rfl, by decide +kernel, by decide +kernel⟩ (fun vs H Q E h => ?_) (fun cdv A outer s H vs Q E hr h => ?_)
  · obtain ⟨a, C, v, rfl, _⟩ := h
    rfl
  · obtain ⟨a, C, v, rfl, ox, no, ha, q⟩ := h
    exact ⟨_, pss_one (ps_ost (pv 0) (pv 1)), _, rfl, _, rfl, a, C, rfl, ox, no, .inl ⟨ha, fun dx h1 h2 => q dx h1 h2⟩⟩
theorem init_TooMany {fI : Addr} {fd : FuncData} (F : Fun K "__init__" "TooMany.__init__" (initS s_TooMany) fI fd) : FnOk P w K mg base CX0 1 fI fd ["self", "most"] (spInit K "most") := by
  refine F.ok (N := ["self", "most"]) ⟨rfl, rfl, rfl, by decide +kernel, rfl, by decide +kernel, by decide +kernel⟩ (fun vs H Q E h => ?_) (fun cdv A outer s H vs Q E hr h => ?_)
  · obtain ⟨a, C, v, rfl, _⟩ := h
    rfl
  · obtain ⟨a, C, v, rfl, ox, no, ha, q⟩ := h
    exact ⟨_, pss_one (ps_ost (pv 0) (pv 1)), _, rfl, _, rfl, a, C, rfl, ox, no, .inl ⟨ha, fun dx h1 h2 => q dx h1 h2⟩⟩
end
/-- what the top leaves, but the law -/
structure TopFs (K : PySem.W.Frag) (mg : Str → Option Value) (C_BadLock : Addr) (C_BadRow : Addr) (C_TooMany : Addr) (C_BadTurn : Addr) (C_BadTask : Addr) (C_BadNumber : Addr) (C_NotPrime : Addr) : Prop where
  bi : Bi mg
  b_sum : mg "sum" = none
  b_zip : mg "zip" = none
  b_max : mg "max" = none
  c_MOST_TURNS : Cn mg "MOST_TURNS" 240
  c_MOST_GIVEN : Cn mg "MOST_GIVEN" 4
  c_FEWEST_PLACES : Cn mg "FEWEST_PLACES" 2
  c_MOST_PLACES : Cn mg "MOST_PLACES" 9
  c_MOST_INPUTS : Cn mg "MOST_INPUTS" 6
  c_MOST_STEPS : Cn mg "MOST_STEPS" 6000
  c_PRIMES : Cti K mg "PRIMES" [2, 3, 5, 7]
  e_BadLock : ErrFs K mg "BadLock" "place" C_BadLock s_BadLock
  e_BadRow : ErrFs K mg "BadRow" "place" C_BadRow s_BadRow
  e_TooMany : ErrFs K mg "TooMany" "most" C_TooMany s_TooMany
  e_BadTurn : Err0 K mg "BadTurn" C_BadTurn
  e_BadTask : Err0 K mg "BadTask" C_BadTask
  e_BadNumber : Err0 K mg "BadNumber" C_BadNumber
  e_NotPrime : Err0 K mg "NotPrime" C_NotPrime
  n_BadNumber_BadRow : PySem.W.exmOne K (.ref C_BadNumber) (.ref C_BadRow) = some false
  n_BadTurn_BadRow : PySem.W.exmOne K (.ref C_BadTurn) (.ref C_BadRow) = some false
  n_BadTurn_BadNumber : PySem.W.exmOne K (.ref C_BadTurn) (.ref C_BadNumber) = some false
  n_BadTask_BadRow : PySem.W.exmOne K (.ref C_BadTask) (.ref C_BadRow) = some false
  n_BadTask_BadNumber : PySem.W.exmOne K (.ref C_BadTask) (.ref C_BadNumber) = some false
  n_BadTask_BadTurn : PySem.W.exmOne K (.ref C_BadTask) (.ref C_BadTurn) = some false
  f_is_number : Top K mg "is_number" s_is_number ["value"]
  f_are_numbers : Top K mg "are_numbers" s_are_numbers ["value"]
  f_is_permutation : Top K mg "is_permutation" s_is_permutation ["value", "size"]
  f_still_of : Top K mg "still_of" s_still_of ["size"]
  f_product_of : Top K mg "product_of" s_product_of ["one", "other"]
  f_words_of : Top K mg "words_of" s_words_of ["makers", "size"]
  f_all_turns : Top K mg "all_turns" s_all_turns ["lock"]
  f_check_lock : Top K mg "check_lock" s_check_lock ["lock"]
  f_made_words : Top K mg "made_words" s_made_words ["lock"]
  f_is_turn : Top K mg "is_turn" s_is_turn ["made", "value"]
  f_check_turn : Top K mg "check_turn" s_check_turn ["made", "turn"]
  f_prime : Top K mg "prime" s_prime ["lock"]
  f_polynomial : Top K mg "polynomial" s_polynomial ["prime", "table"]
  f_degree : Top K mg "degree" s_degree ["prime", "table"]
  f_check_inputs : Top K mg "check_inputs" s_check_inputs ["inputs"]
  f_check_prime : Top K mg "check_prime" s_check_prime ["prime"]
  f_check_table : Top K mg "check_table" s_check_table ["table"]
  f_inputs_of : Top K mg "inputs_of" s_inputs_of ["table"]
  f_part_of : Top K mg "part_of" s_part_of ["place"]
  f_factors_of : Top K mg "factors_of" s_factors_of ["prime", "table"]
  f_worths : Top K mg "worths" s_worths ["lock", "inputs", "row"]
  f_written : Top K mg "written" s_written ["lock", "inputs", "row", "turn"]
  f_writes : Top K mg "writes" s_writes ["lock", "table", "row", "turn"]
  f_degrees : Top K mg "degrees" s_degrees ["lock", "inputs", "row"]
  f_check_row : Top K mg "check_row" s_check_row ["made", "inputs", "row"]
  f_is_step : Top K mg "is_step" s_is_step ["made", "inputs", "value"]
  f_products : Top K mg "products" s_products ["made", "inputs", "row"]
  f_yes_where : Top K mg "yes_where" s_yes_where ["reached", "turn"]
  f_law_taken : Top K mg "_law_taken" s_law_taken ["row", "many"]
  f_law_pick : Top K mg "_law_pick" s_law_pick ["row", "things"]
  f_law_alike : Top K mg "_law_alike" s_law_alike ["found", "due"]
  f_law_is : Top K mg "_law_is" s_law_is ["found", "due"]
  f_law_permutation : Top K mg "_law_permutation" s_law_permutation ["row", "places"]
  f_law_behind : Top K mg "_law_behind" s_law_behind ["one", "other"]
  f_law_span : Top K mg "_law_span" s_law_span ["places", "given"]
  f_law_known : Top K mg "_law_known" s_law_known ["row", "kinds"]
  f_law_lock : Top K mg "_law_lock" s_law_lock ["row", "kinds"]
  f_law_bits : Top K mg "_law_bits" s_law_bits ["inputs"]
  f_law_parts : Top K mg "_law_parts" s_law_parts ["prime_v", "table"]
  f_law_value : Top K mg "_law_value" s_law_value ["places", "steps", "bits"]
  f_law_drawn_row : Top K mg "_law_drawn_row" s_law_drawn_row ["row", "whole", "inputs", "most"]
end Lt

set_option Elab.async false
set_option linter.all false
set_option maxRecDepth 100000
set_option maxHeartbeats 1000000
/-! rows.py: check_row, yes_where -/
namespace Lt
open PySem PySem.Spec PyProof.Rows L2
/-- the table that is yes where a turn is -/
def yesT (ts : List (List Nat)) (t : List Nat) : List Nat := ts.map fun x => if x = t then 1 else 0
section
variable {P : Program} {w : World} {K : PySem.W.Frag} {mg : Str → Option Value} {base : Heap} {CR : Addr}
def spCheckRow (CR : Addr) : Sp := fun vs H Q E => ∃ (m : Addr) (L : List (List Nat × List Nat)) (k : Nat) (v : V) (ds : List PyData), vs = [.ref m, nI k, v] ∧ DW H m L ∧ Rp H v (.tuple ds) ∧ ds.length ≤ 6000 ∧ (∀ e ∈ ds, Sml3 e) ∧
  (((∀ e ∈ ds, stepD L k e = true) ∧ ∀ H', Same H H' → Q .non H') ∨
   ∃ pre e post, ds = pre ++ e :: post ∧ (∀ x ∈ pre, stepD L k x = true) ∧ stepD L k e = false ∧ BadF CR "place" (nI pre.length) H E)
theorem sc_check_row : FnScope ["made", "inputs", "row", "place", "step"] ["made", "inputs", "row"] (defScope s_check_row) := ⟨rfl, rfl, rfl, by decide +kernel, rfl, by decide +kernel, by decide +kernel⟩
theorem has_check_row (T : Top K mg "check_row" s_check_row ["made", "inputs", "row"]) (B : Bi mg) (G : ∃ u, mg "MOST_STEPS" = some u ∧ RelV (.int 6000) u) (X1 : ErrI P w K mg base "BadRow" "place" CR)
    (hS : Has P w K mg base CX0 4 "is_step" ["made", "inputs", "value"] spIsStep) : Has P w K mg base (L2.CX P w) 5 "check_row" ["made", "inputs", "row"] (spCheckRow CR) := by
  refine T.okX sc_check_row (fun vs H Q E h => ?_) (fun f cdv A outer s H vs Q E hr h => ?_)
  · obtain ⟨m, L, k, v, ds, rfl, _⟩ := h
    rfl
  · obtain ⟨m, L, k, v, ds, rfl, hw, hd, hl, hs, cs⟩ := h
    have hr2 : Room 2 _ := hr.mono (by decide)
    refine ⟨_, pss_cons (ps_if (PW.pt (pw_or (pt_not (pt_val (pe_callB call_isi (by rfl) B.isinstance PyProof.Rows.boot_isinstance (pa_cons (pv 2) (pa_cons (pe_bltn (by rfl) B.tuple PyProof.Rows.boot_tuple (rr_ty "tuple")) pa_nil)))))
        (pw_or1 (pt_cmpR op_gt (pe_callB call_len_seq (by rfl) B.len PySem.boot_len (pa_cons (pv 2) pa_nil)) (pe_gc2 (by rfl) G) (by rfl))))) (pss_one (ps_raise rfl (takes_of rfl rfl rfl rfl) (pmk_errI X1 hr2 (by rfl) (pa_cons pe_non pa_nil)))) pss_nil)
      (pss_one (ps_for (passes_of rfl) rfl (pi_enumT (by rfl) B.enumerate (pa_cons (pv 2) pa_nil)) (pg_tup rfl (pgs_cons (pg_name (i := 3) sc_check_row.nd rfl (Or.inl rfl)) (pgs_cons (pg_name (i := 4) sc_check_row.nd rfl (Or.inl rfl)) pgs_nil)))
        (pss_one (ps_if (pt_not (pt_val (pe_has hS hr (by rfl) (pa_cons (pv 0) (pa_cons (pv 1) (pa_cons (pv 4) pa_nil)))))) (pss_one (ps_raise rfl (takes_of rfl rfl rfl rfl) (pmk_errI X1 hr2 (by rfl) (pa_cons (pv 3) pa_nil)))) pss_nil)))), ?_⟩
    refine ⟨_, rfl, v, .ty "tuple", _, _, true, rfl, .ty _, rp_ty hd, kit_ty (kit_tup (.tuple ds)), true, rfl, iteF ?_⟩
    cases hd with
    | @tup a xs ds ha hx =>
      have hxl := hx.len
      refine ⟨_, rfl, a, xs, rfl, .inr ha.sq, (xs.length : Int), 6000, rfl, rfl, false, congrArg V.bl (decide_eq_false (by omega)), iteF ?_⟩
      refine ⟨_, rfl, a, xs, rfl, ha.sq, for_enumT (K := K) (xs := xs) (fun i σ H' => ∃ y3 y4, σ = [some (.ref m), some (nI k), some (.ref a), y3, y4] ∧ Same H H' ∧ ∀ j, j < i → ∀ e, ds[j]? = some e → stepD L k e = true)
        ⟨none, none, rfl, Same.refl _, fun j hj => absurd hj (Nat.not_lt_zero j)⟩ (fun i σ H' _ ⟨_, _, _, s, _⟩ => (ha.sm s).sq) ?_ ?_⟩
      · rintro i x σ H' T hi ⟨y3, y4, rfl, s1, pre⟩ hT
        have sT := same_new (o := .tup [nI i, x]) hT
        have s12 := s1.trans sT
        obtain ⟨e, he, hre⟩ := hx.get hi
        refine ⟨T, _, rfl, SqT.of upd_same, rfl, nI i, _, rfl, x, _, rfl, rfl, ?_⟩
        refine ⟨_, rfl, _, rfl, _, rfl, m, L, k, x, e, rfl, hw.same s12, Rp.same s12 _ _ hre, hs e (List.mem_of_getElem? he), fun H2 s2 => ⟨stepD L k e, rfl, ?_⟩⟩
        have s02 := s12.trans s2
        cases hst : stepD L k e with
        | true =>
          refine iteF ⟨_, _, rfl, s02, fun j hj e' he' => ?_⟩
          by_cases hji : j = i
          · subst hji
            rw [he] at he'
            cases he'
            exact hst
          · exact pre j (by omega) e' he'
        | false =>
          refine iteT ⟨_, rfl, ?_⟩
          rcases cs with ⟨good, _⟩ | ⟨pr, e', post, rfl, hpre, hbad, bad⟩
          · have := good e (List.mem_of_getElem? he)
            rw [hst] at this
            cases this
          · have hip : i = pr.length := by
              by_cases h1 : i < pr.length
              · rw [List.getElem?_append_left h1] at he
                have := hpre e (List.mem_of_getElem? he)
                rw [hst] at this
                cases this
              · by_cases h2 : pr.length < i
                · have := pre pr.length h2 e' (by rw [List.getElem?_append_right (Nat.le_refl _), Nat.sub_self]; rfl)
                  rw [hbad] at this
                  cases this
                · omega
            subst hip
            exact mk_read X1.oex X1.no (bad.same s02)
      · rintro σ H' ⟨y3, y4, rfl, s1, all⟩
        rcases cs with ⟨_, q⟩ | ⟨pr, e', post, rfl, hpre, hbad, bad⟩
        · exact q H' s1
        · have := all pr.length (by rw [hxl, List.length_append]; show _ < _ + (_ + 1); omega) e' (by rw [List.getElem?_append_right (Nat.le_refl _), Nat.sub_self]; rfl)
          rw [hbad] at this
          cases this
def spYes : Sp := fun vs H Q _ => ∃ (v u : V) (ts : List (List Nat)) (t : List Nat), vs = [v, u] ∧ TT H v ts ∧ TN H u t ∧ ts.length ≤ 1000 ∧ ∀ r H', Same H H' → TK H' r (yesT ts t) → Q r H'
theorem sc_yes_where : FnScope ["reached", "turn", "one"] ["reached", "turn"] (defScope s_yes_where) := ⟨rfl, rfl, rfl, by decide +kernel, rfl, by decide +kernel, by decide +kernel⟩
theorem has_yes_where (T : Top K mg "yes_where" s_yes_where ["reached", "turn"]) (B : Bi mg) : Has P w K mg base CX0 1 "yes_where" ["reached", "turn"] spYes := by
  refine T.ok sc_yes_where (fun vs H Q E h => ?_) (fun f cdv A outer s H vs Q E hr h => ?_)
  · obtain ⟨v, u, ts, t, rfl, _⟩ := h
    rfl
  · obtain ⟨v, u, ts, t, rfl, hv, hu', hlt, q⟩ := h
    have hu := hr.units
    have hu64 : (cxOf CX0 P w K mg base ["reached", "turn", "one"] "yes_where" (defScope s_yes_where) f cdv A outer s H E).nox.A.units + 64 < cLine := hu
    refine ⟨_, pss_one (ps_ret (pe_tupleOf (by rfl) B.tuple (pe_lc (own := [("one", 2)]) (g := gName 2) (te := tIf (tTest (tOp (rEqD K) (tVar 2) (tVar 1))) (tC (.int 1)) (tC (.int 0))) (by rfl) sc_yes_where.nd (pi_tup (pv 0)) (blkOk_by (own := [("one", 2)]) (N := ["reached", "turn", "one"]) (sc := defScope s_yes_where) (by decide +kernel))
      (fun _ _ _ _ _ => pg_name (i := 2) sc_yes_where.nd rfl (Or.inl rfl)) (fun _ _ _ _ _ => pts_nil) (fun _ _ _ _ _ => pe_ifExp (pt_cmpR (by refine op_eqD ?_; exact hu64) (pv 2) (pv 1) (by rfl)) pe_int pe_int)))), ?_⟩
    obtain ⟨a, xs, rfl, ha, hx⟩ := hv
    have hxl := Paired.length hx
    refine ⟨_, rfl, a, rfl, ⟨_, SqT.of ha⟩, fun D hD => lc_tupM (xs := xs) (fun H' => RN H') (yesT ts t) (fun _ _ _ _ _ r => r) (SqT.of ha) (fun H' sm => SqT.of (sm _ _ ha)) (by omega) (by unfold yesT; rw [List.length_map, hxl]) hD (fun x => rfl) (fun i x b hi hb H' sm Q' q' => ?_) (fun H' zs sm hz pr => ?_)⟩
    · obtain ⟨y, hy, ry⟩ := Paired.getL hx hi
      have eb : b = if y = t then 1 else 0 := by
        unfold yesT at hb
        rw [List.getElem?_map, hy] at hb
        exact (Option.some.inj hb).symm
      subst eb
      have r1 := ry.tm (.of sm)
      have r2 := hu'.tm (.of sm)
      refine ⟨_, rfl, _, rfl, dT y, dT t, r1.dp, r2.dp, sh_T _, sh_T _, decide (y = t), by rw [eqv_dT], ?_⟩
      by_cases e : y = t
      · rw [decide_eq_true e]
        rw [if_pos e] at q'
        exact iteT (q' _ _ (Same.refl _) rfl)
      · rw [decide_eq_false e]
        rw [if_neg e] at q'
        exact iteF (q' _ _ (Same.refl _) rfl)
    · exact .inl ⟨D, zs, rfl, SqL.of hz, fun p hp => q _ _ (sm.trans (same_new hp)) (tn_of upd_same (RN.all pr))⟩
end
end Lt

set_option Elab.async false
set_option linter.all false
set_option maxRecDepth 100000
set_option maxHeartbeats 4000000
/-! a dict by a comprehension, its keys tuples -/
namespace L2
open PySem PySem.Spec PyProof.Rows
section
variable {X : Cx} {pins : List (Addr × Obj)} {σ : St} {H : Hp} {s : Shared}
theorem put_tup {E : Value → Shared → Prop} {D b : Addr} {m : List (List Key × V)} {k : List Key} {v : V} {r : Value} {Q : Unit → Shared → Prop} (room : X.A.units + 1 < cLine) (I : Inv X pins σ H s) (hD : H D = some (.dT m)) (short : m.length < sizeLine) (hb : H b = some (.tup (k.map kV))) (rv : RelV v r)
    (q : ∀ s1, Inv X pins σ (upd H D (.dT (putK m k v))) s1 → Q () s1) : wpAny (model X.prog X.w) X.A (dictSet D (.ref b) r) Q E s := by
  obtain ⟨z, own, xs, rel, dd⟩ := dt_of I.hok hD
  have lx : xs.length = m.length := (Paired.length rel).symm
  have lp := length_putK m k v
  refine wpAny_dictSet_heap (hsz := by omega) (show X.A.units < cLine by omega) (key_of I.hok hb) dd fun h1 ⟨ob, es, ep, o1, o2, o3, o4, _, o5⟩ same => q _ ?_
  refine d_write I (by rw [hD]; exact True.intro) same ⟨ob, o1⟩ ⟨by omega, own, _, (rel.put k hb rv).keeps fun c ys e => ?_, ob, es, ep, o1, o2, o3, o4, o5⟩
  exact (upd_ne (ne_of e hD fun z => nomatch z)).trans e
end
section
variable {X : Cx}
abbrev voidDict : Obj := { cls := .type "dict", data := .dict #[] }
abbrev AtBlk (Pr : Shared → Hp → Addr → List (Str × Addr) → List Addr → Prop) : Prop := ∀ s H C cl fp, Pr s H C cl fp
/-- {k: v for target in iter if ..}, each k a tuple: D the new dict -/
def tDcT (wi : TI) (g : TG) (tt : TT) (tk tv : TE) (vs : List Nat) : TE := fun σ H Q => wi σ H fun J H1 => ∀ D, H1 D = none → ∃ W : Nat → Nat → Hp → Prop, (∃ m, W 0 m (upd H1 D (.dT []))) ∧ ∀ i m H2, W i m H2 →
  (J.stop i H2 ∧ Q (.ref D) H2) ∨ (J.go i H2 ∧ ∃ Nx : Hp → Prop, (∀ H3, Nx H3 → ∃ m1, m1 < m ∧ W (i + 1) m1 H3) ∧ ∀ x H3, J.yld i H2 x H3 → g x (wipe σ vs) H3 fun σ4 H4 => wipe σ4 vs = wipe σ vs ∧ tt σ4 H4 fun c H5 =>
    if c = true then tk σ4 H5 fun y H6 => tv σ4 H6 fun z H7 => ∃ kvs k b, y = .ref b ∧ H7 b = some (.tup (k.map kV)) ∧ H7 D = some (.dT kvs) ∧ kvs.length < sizeLine ∧ Nx (upd H7 D (.dT (putK kvs k z))) else Nx H5)
theorem dcT_core {pins : List (Addr × Obj)} {s : Shared} {σ : St} {H : Hp} {Q : VK} {ke ve tg it : Expr} {ifs : List Expr} {sc : Scope} {own : List (Str × Nat)} {p1 p2 : Pos} {wi : TI} {g : TG} {tt : TT} {tk tv : TE} {use : Option (Value → Sem Unit)} {R : Value → Shared → Prop}
    (room : X.A.units + 1 < cLine) (hc : X.calm = true) (hN : X.N.Nodup) (I : Inv X pins σ H s) (walk : PI X tg it wi) (ok : BlkOk X.N X.env.scope sc own)
    (hg : AtBlk fun s H C cl fp => PG (X.blk s H sc (compEnvC sc cl C X.env) fp) tg g) (ht : AtBlk fun s H C cl fp => PTs (X.blk s H sc (compEnvC sc cl C X.env) fp) ifs tt)
    (hk : AtBlk fun s H C cl fp => PE (X.blk s H sc (compEnvC sc cl C X.env) fp) ke tk) (hv : AtBlk fun s H C cl fp => PE (X.blk s H sc (compEnvC sc cl C X.env) fp) ve tv) (plain : ∀ x, foldedSetIterable it X.env x = pure x) (h : tDcT wi g tt tk tv (own.map (·.2)) σ H Q)
    (after : ∀ D C s1 m H1, Inv X pins σ H1 s1 → Q (.ref D) H1 → s1.heap.Ns C m → FpOk X pins H1 C → compPost (model X.prog X.w) X.A X.xe use R (.ref D) C (.ok .next) s1) :
    wpAny (model X.prog X.w) X.A (comprehension (.DictComp ke ve [⟨tg, it, ifs, 0⟩] sc p1) sc X.env p2 newDict false (eval it X.env) use) R X.xe s := by
  refine wpAny_comprehension_free (use := use) rfl plain (closure_ok fun y hy e => (ok.free y hy e).elim (fun z => I.ok.has _ (.inl z)) fun z => I.ok.has _ (.inr z)) ok.kind (fun y hy e => by rw [ok.uniq y hy, e])
    (thn (walk.run pins s σ H _ I h) fun _ s1 k1 => thn k1 fun _ s2 k2 => ?_)
  obtain ⟨a, fp, tn, J, H2, rfl, I2, T, at2, fine2, q⟩ := k2
  refine wpAny_newObj_type (newEnv_comp ?_)
  generalize eD : s2.heap.objs.size = D
  obtain ⟨W, ⟨m0, start⟩, turn⟩ := q D (I2.hok.fresh (Nat.le_of_eq eD))
  -- behind the new dict
  have below : ∀ b ∈ fp, b < s2.heap.objs.size := fun b hb => let ⟨_, e, _⟩ := T.obj _ _ at2 b hb; Heap.lt_size e
  generalize e3 : ({ s2 with heap := s2.heap.push voidDict } : Shared) = s3
  have heap3 : s3.heap = s2.heap.push voidDict := by rw [← e3]
  have I3 : Inv X pins σ (upd H2 D (.dT [])) s3 := by
    subst e3 eD
    exact I2.laid (t' := s2.toks) (fun _ _ e => Heap.get?_push_of_some _ e) (Nat.le_refl _) (dt_empty s2.heap I2.big)
  have at3 : tn 0 s3.heap := T.keep _ _ _ at2 fun _ _ _ e => by rw [heap3]; exact Heap.get?_push_of_some _ e
  have fine3 : ∀ b ∈ fp, FpOk X pins (upd H2 D (.dT [])) b ∧ b < s3.heap.objs.size := fun b hb => by
    have lt := below b hb
    refine ⟨⟨(upd_ne (eD ▸ Nat.ne_of_lt lt)).trans (fine2 b hb).1, (fine2 b hb).2⟩, ?_⟩
    rw [heap3, Heap.size_push]
    exact Nat.lt_succ_of_lt lt
  have I4 := block_start I3 ok hN fine3
  have pg : PG (X.blk s3 (upd H2 D (.dT [])) sc (compEnvC sc (cellsFrom (s3.heap.objs.size + 1) sc.names (cloFrom X.env.cells sc.names [])) s3.heap.objs.size X.env) fp) tg g := hg _ _ _ _ _
  have pt : PTs (X.blk s3 (upd H2 D (.dT [])) sc (compEnvC sc (cellsFrom (s3.heap.objs.size + 1) sc.names (cloFrom X.env.cells sc.names [])) s3.heap.objs.size X.env) fp) ifs tt := ht _ _ _ _ _
  have pk : PE (X.blk s3 (upd H2 D (.dT [])) sc (compEnvC sc (cellsFrom (s3.heap.objs.size + 1) sc.names (cloFrom X.env.cells sc.names [])) s3.heap.objs.size X.env) fp) ke tk := hk _ _ _ _ _
  have pv : PE (X.blk s3 (upd H2 D (.dT [])) sc (compEnvC sc (cellsFrom (s3.heap.objs.size + 1) sc.names (cloFrom X.env.cells sc.names [])) s3.heap.objs.size X.env) fp) ve tv := hv _ _ _ _ _
  show codeAny _ _ (.compStart _ 0 (.ref a) (.ref D) (compEnvC sc (cellsFrom (s3.heap.objs.size + 1) sc.names (cloFrom X.env.cells sc.names [])) s3.heap.objs.size X.env)) (compPost (model X.prog X.w) X.A X.xe use R (.ref D) s3.heap.objs.size) { s3 with heap := pushCells (s3.heap.push voidDict) sc.names }
  have clear3 : ∀ b ∈ fp, (upd H2 D (.dT [])) b = none := fun b hb => (fine3 b hb).1.1
  generalize eE : compEnvC sc (cellsFrom (s3.heap.objs.size + 1) sc.names (cloFrom X.env.cells sc.names [])) s3.heap.objs.size X.env = en at I4 pg pt pk pv ⊢
  have eL : en.locals = s3.heap.objs.size := by subst eE; rfl
  generalize upd H2 D (.dT []) = H3 at *
  generalize e4 : ({ s3 with heap := pushCells (s3.heap.push voidDict) sc.names } : Shared) = s4 at I4 ⊢
  have at4 : tn 0 s4.heap := T.keep _ _ _ at3 fun _ _ _ e => by rw [← e4]; exact pushCells_keeps _ _ _ _ (Heap.get?_push_of_some _ e)
  have still : ∀ {σ1 : St} {H1 : Hp} {s1 : Shared}, Inv (X.blk s3 H3 sc en fp) [] σ1 H1 s1 → (∀ b ∈ fp, H1 b = none) → ∀ b ∈ fp, FpOk (X.blk s3 H3 sc en fp) [] H1 b :=
    fun {_ _ _} J1 none1 b hb => ⟨none1 b hb, (J1.ok.exf b hb).1, J1.ok.exfs b hb, .inl hb, fun y c e => (J1.ok.exf b hb).2 y c e, fun p hp => absurd (show p ∈ ([] : List (Addr × Obj)) ++ [] from hp) (by simp)⟩
  let Go : Nat → Shared → Prop := fun n s1 => ∃ i H1, Inv (X.blk s3 H3 sc en fp) [] (wipe σ (own.map (·.2))) H1 s1 ∧ tn i s1.heap ∧ (∀ b ∈ fp, H1 b = none) ∧ W i n H1
  have loop : codeAny (model X.prog X.w) X.A (.compLoop (.DictComp ke ve [⟨tg, it, ifs, 0⟩] sc p1) 0 (.ref a) (.ref D) en) (compPost (model X.prog X.w) X.A X.xe use R (.ref D) s3.heap.objs.size) s4 := by
    refine compLoop_anyD Go ?_ m0 ⟨0, H3, I4, at4, clear3, start⟩
    rintro n s5 ⟨i, H5, I5, at5, clear5, w5⟩
    rcases turn i n H5 w5 with ⟨stop, done⟩ | ⟨go, Nx, less, step⟩
    · refine thnF (T.done (X.blk s3 H3 sc en fp) rfl rfl rfl hc i [] s5 _ H5 (fun _ _ => False) I5 (still I5 clear5) at5 stop) fun r s6 ⟨er, I6⟩ => ?_
      subst er
      obtain ⟨m, hn, _⟩ := I6.loc
      have free : H5 en.locals = none := I6.free
      have names : s6.heap.Ns en.locals m := hn
      rw [eL] at free names
      exact after D s3.heap.objs.size s6 m H5 (I3.call' (ch := fp) I6.os I6.base I6.hok I6.bare fun b hb => let f := (fine3 b hb).1.2.2; ⟨f.2.1, (fine3 b hb).1.2.1, f.2.2.1, f.2.2.2⟩) done names (I3.fpOk (Nat.le_refl _) free)
    · refine thnF (T.item (X.blk s3 H3 sc en fp) rfl rfl rfl hc i [] s5 _ H5 (fun _ _ => False) I5 (still I5 clear5) at5 go) fun r s6 ⟨u, er, k6⟩ => ?_
      subst er
      refine thnF k6 fun _ s7 ⟨x, H7, I7, rx, got, at7, clear7⟩ => ?_
      refine thnF (pg.run _ s7 _ H7 x u _ (I7.pinned (still I7 clear7) (T.obj _ _ at7)) rx (step x H7 got)) fun _ s8 ⟨σ8, H8, I8, same8, q8⟩ => thnF (pt.run _ s8 σ8 H8 _ I8 q8) fun c s9 ⟨H9, I9, q9⟩ => ?_
      have next : ∀ {s1 : Shared} {H1 : Hp}, Inv (X.blk s3 H3 sc en fp) ([] ++ pinsAt fp s7.heap) σ8 H1 s1 → Nx H1 → ∃ m, m < n ∧ Go m s1 := fun {s1 H1} J1 nx => by
        obtain ⟨m, lt, w⟩ := less H1 nx
        have kept : ∀ b ∈ fp, ∀ o, s7.heap.get? b = some o → s1.heap.get? b = some o ∧ H1 b = none := fun b hb o e => let z := J1.pin (b, o) (List.mem_append_right _ (List.mem_append_right _ (mem_pinsAt hb e))); ⟨z.1, z.2.1⟩
        refine ⟨m, lt, i + 1, H1, (J1.unpinned (pins := [])).weak (by rw [← same8, wipe_length]) (fun j v e => (wipe_some (same8 ▸ e)).1), T.keep _ _ _ at7 fun b hb o e => (kept b hb o e).1, fun b hb => ?_, w⟩
        obtain ⟨o, e, _⟩ := T.obj _ _ at7 b hb
        exact (kept b hb o e).2
      cases c
      · rw [if_neg Bool.false_ne_true] at q9
        rw [if_neg Bool.false_ne_true]
        exact next I9 q9
      · rw [if_pos rfl] at q9
        rw [if_pos rfl]
        refine thnF (pk.run _ s9 σ8 H9 _ I9 q9) fun _ s10 ⟨y, H10, I10, ry, q10⟩ => thnF (pv.run _ s10 σ8 H10 _ I10 q10) fun w2 s11 ⟨z, H11, I11, rz, m, k, b, ey, hb, hD, short, nx⟩ => ?_
        subst ey
        cases ry
        exact put_tup (X := X.blk s3 H3 sc en fp) room I11 hD short hb rz fun s12 I12 => next I12 nx
  exact codeAny_compStart_dict loop (T.self X.A 0 _ _ _ at4 loop)
/-- name = {..} on one line, the name a local -/
theorem ps_setDcT {i : Nat} {y : Str} {py : Pos} {ke ve tg it : Expr} {ifs : List Expr} {sc : Scope} {own : List (Str × Nat)} {p1 spos : Pos} {wi : TI} {g : TG} {tt : TT} {tk tv : TE} (room : X.A.units + 1 < cLine) (hc : X.calm = true) (hN : X.N.Nodup) (hy : X.N[i]? = some y) (loc : X.env.scope.names.lookup y = some .local)
    (sw : swapsWith (.DictComp ke ve [⟨tg, it, ifs, 0⟩] sc p1) (some (.Name y py)) spos.line X.env = pure true) (walk : PI X tg it wi) (ok : BlkOk X.N X.env.scope sc own)
    (hg : AtBlk fun s H C cl fp => PG (X.blk s H sc (compEnvC sc cl C X.env) fp) tg g) (ht : AtBlk fun s H C cl fp => PTs (X.blk s H sc (compEnvC sc cl C X.env) fp) ifs tt)
    (hk : AtBlk fun s H C cl fp => PE (X.blk s H sc (compEnvC sc cl C X.env) fp) ke tk) (hv : AtBlk fun s H C cl fp => PE (X.blk s H sc (compEnvC sc cl C X.env) fp) ve tv) (plain : ∀ x, foldedSetIterable it X.env x = pure x := by intro _; rfl) :
    PS X (.Assign [.Name y py] (.DictComp ke ve [⟨tg, it, ifs, 0⟩] sc p1) spos) (tAsg (tDcT wi g tt tk tv (own.map (·.2))) (gName i)) := by
  refine ⟨fun pins s σ H D I h => ?_⟩
  rw [exec_Assign_Name_used _ _ _ _ sw]
  refine wpAny_bind (wpAny_standAt (wpAny_bind ?_))
  show wpAny _ X.A (do let _ ← comprehension (.DictComp ke ve [⟨tg, it, ifs, 0⟩] sc p1) sc X.env (firstIterPos [⟨tg, it, ifs, 0⟩] p1) newDict false (eval it X.env) (some (assign (.Name y py) X.env))) _ _ s
  have h : tDcT wi g tt tk tv (own.map (·.2)) σ H (fun x H1 => gName i x σ H1 D.nx) := h
  refine wpAny_bind (thn (dcT_core (R := fun _ s1 => SP X pins D .next s1) room hc hN I walk ok hg ht hk hv plain h fun L C s1 m H1 I1 q names f => ?_) fun _ s1 z => wpAny_pure (wpAny_pure z))
  show wpAny _ _ (assign (.Name y py) X.env (.ref L)) _ _ _
  refine wpAny_assign_Name (store_ok2 (v := V.ref L) I1 hN hy (.inl loc) rfl (fun s2 I2 ⟨c, same, hcase⟩ => ?_) (.inr loc))
  obtain ⟨f0, f1, f2, f3, f4, f5⟩ := f
  have ne : C ≠ c := hcase.elim (fun z => z ▸ f1) fun z e => f4 y c z e.symm
  exact ⟨m, names.sameBut same ne, fun h3 same3 => ⟨_, H1, I2.turned (t' := s2.toks) (fun b o hb e => (same3.2 b hb).trans e) f0 f1 f3 f4 f5, q⟩⟩
theorem swD_true {ke ve : Expr} {gs : List Comprehension} {sc : Scope} {pos py : Pos} {y : Str} {l : Nat} {env : Env} (kind : env.scope.kind = .function) (loc : env.scope.names.lookup y = some .local) (line : (py.line == pos.line) = true)
    (other : (sc.names.any fun (n, k) => n == y && (k == .local || k == .cell)) = false) : swapsWith (.DictComp ke ve gs sc pos) (some (.Name y py)) l env = pure true := by
  have k1 : env.kindOf y = some .local := loc
  have k2 : env.blockKind = .function := by unfold Env.blockKind; rw [kind]; rfl
  unfold swapsWith
  simp only [k1, k2, other, Expr.pos, line]
  rfl
/-- over a list that the block leaves as it is -/
theorem dcT_list {K : PySem.W.Frag} {a : Addr} {xs : List V} {g : TG} {tt : TT} {tk tv : TE} {vs : List Nat} {σ : St} {H1 : Hp} {D : Addr} {Qd : Hp → Prop} (Pv : Nat → Hp → Prop) (h0 : Pv 0 (upd H1 D (.dT []))) (hl : ∀ i H, i ≤ xs.length → Pv i H → SqL K H a xs)
    (hs : ∀ i x H, xs[i]? = some x → Pv i H → g x (wipe σ vs) H fun σ2 H2 => wipe σ2 vs = wipe σ vs ∧ tt σ2 H2 fun c H3 =>
      if c = true then tk σ2 H3 fun y H4 => tv σ2 H4 fun z H5 => ∃ kvs k b, y = .ref b ∧ H5 b = some (.tup (k.map kV)) ∧ H5 D = some (.dT kvs) ∧ kvs.length < sizeLine ∧ Pv (i + 1) (upd H5 D (.dT (putK kvs k z))) else Pv (i + 1) H3) (hd : ∀ H, Pv xs.length H → Qd H) :
    ∃ W : Nat → Nat → Hp → Prop, (∃ m, W 0 m (upd H1 D (.dT []))) ∧ ∀ i m H2, W i m H2 →
      ((Itl K a).stop i H2 ∧ Qd H2) ∨ ((Itl K a).go i H2 ∧ ∃ Nx : Hp → Prop, (∀ H3, Nx H3 → ∃ m1, m1 < m ∧ W (i + 1) m1 H3) ∧ ∀ x H3, (Itl K a).yld i H2 x H3 → g x (wipe σ vs) H3 fun σ4 H4 => wipe σ4 vs = wipe σ vs ∧ tt σ4 H4 fun c H5 =>
        if c = true then tk σ4 H5 fun y H6 => tv σ4 H6 fun z H7 => ∃ kvs k b, y = .ref b ∧ H7 b = some (.tup (k.map kV)) ∧ H7 D = some (.dT kvs) ∧ kvs.length < sizeLine ∧ Nx (upd H7 D (.dT (putK kvs k z))) else Nx H5) := by
  refine ⟨fun i m H2 => i + m = xs.length ∧ Pv i H2, ⟨_, Nat.zero_add _, h0⟩, ?_⟩
  rintro i m H2 ⟨sum, p⟩
  have q := hl i H2 (by omega) p
  cases m with
  | zero =>
    obtain rfl : i = xs.length := by omega
    exact .inl ⟨⟨xs, q, Nat.le_refl _⟩, hd H2 p⟩
  | succ m =>
    have lt : i < xs.length := by omega
    refine .inr ⟨⟨xs, xs[i], q, List.getElem?_eq_getElem lt⟩, Pv (i + 1), fun H3 p3 => ⟨m, Nat.lt_succ_self m, by omega, p3⟩, ?_⟩
    rintro x _ ⟨rfl, got⟩
    exact hs i x _ (got xs q) p
end
end L2

set_option Elab.async false
set_option linter.all false
set_option maxRecDepth 100000
set_option maxHeartbeats 4000000
/-! {k: v for ..} with tuple keys, as an expression -/
namespace L2
open PySem PySem.Spec PyProof.Rows
theorem pe_dcT {X : Cx} {ke ve tg it : Expr} {ifs : List Expr} {sc : Scope} {own : List (Str × Nat)} {pos : Pos} {wi : TI} {g : TG} {tt : TT} {tk tv : TE} (room : X.A.units + 1 < cLine) (hc : X.calm = true) (hN : X.N.Nodup) (walk : PI X tg it wi) (ok : BlkOk X.N X.env.scope sc own)
    (hg : ∀ (s : Shared) (H : Hp) (C : Addr) (cl : List (Str × Addr)) (fp : List Addr), PG (X.blk s H sc (compEnvC sc cl C X.env) fp) tg g) (ht : ∀ (s : Shared) (H : Hp) (C : Addr) (cl : List (Str × Addr)) (fp : List Addr), PTs (X.blk s H sc (compEnvC sc cl C X.env) fp) ifs tt)
    (hk : ∀ (s : Shared) (H : Hp) (C : Addr) (cl : List (Str × Addr)) (fp : List Addr), PE (X.blk s H sc (compEnvC sc cl C X.env) fp) ke tk) (hv : ∀ (s : Shared) (H : Hp) (C : Addr) (cl : List (Str × Addr)) (fp : List Addr), PE (X.blk s H sc (compEnvC sc cl C X.env) fp) ve tv)
    (plain : ∀ x, foldedSetIterable it X.env x = pure x := by intro _; rfl) : PE X (.DictComp ke ve [⟨tg, it, ifs, 0⟩] sc pos) (tDcT wi g tt tk tv (own.map (·.2))) := by
  refine ⟨fun pins s σ H Q I h => ?_⟩
  rw [arm_eval_DictComp]
  refine dcT_core room hc hN I walk ok hg ht hk hv plain h fun D C s' m H' I' q hn f => ⟨m, hn, fun h'' sb => ?_⟩
  obtain ⟨f0, f1, f2, f3, f4, f5⟩ := f
  exact ⟨.ref D, H', I'.turned (t' := s'.toks) (fun b o hb e => (sb.2 b hb).trans e) f0 f1 f3 f4 f5, rfl, q⟩
end L2

set_option Elab.async false
set_option linter.all false
set_option maxRecDepth 100000
set_option maxHeartbeats 1000000
/-! {k: v for ..}: as many pairs as are walked, their keys unlike -/
namespace Lt
open PySem PySem.Spec PyProof.Rows L2
theorem putK_app {κ : Type} [DecidableEq κ] {kvs : List (κ × V)} {k : κ} {v : V} (h : ∀ p ∈ kvs, p.1 ≠ k) : putK kvs k v = kvs ++ [(k, v)] := by
  unfold putK
  rw [if_neg]
  intro z
  obtain ⟨p, hp, e⟩ := List.any_eq_true.mp z
  exact h p hp (of_decide_eq_true e)
theorem dcT_gen {J : It} {g : TG} {tk tv : TE} {vs : List Nat} {σ : L2.St} {H1 : Hp} {D : Addr} {Qd : Hp → Prop} {n : Nat} (key : Nat → List Key) (val : Nat → V) (inj : ∀ i j, i < n → j < n → key i = key j → i = j) (hz : n ≤ 100000) (hD : H1 D = none)
    (hgo : ∀ i H, i < n → Same H1 H → J.go i H) (hst : ∀ H, Same H1 H → J.stop n H)
    (hs : ∀ i H x H', i < n → Same H1 H → J.yld i H x H' → Same H H' ∧ ∃ σ2, (∀ Kk : L2.St → Hp → Prop, Kk σ2 H' → g x (wipe σ vs) H' Kk) ∧ wipe σ2 vs = wipe σ vs ∧
      (∀ H3, Same H' H3 → ∀ Q : VK, (∀ b H4, Same H3 H4 → H4 b = some (.tup ((key i).map kV)) → Q (.ref b) H4) → tk σ2 H3 Q) ∧ (∀ H3, Same H' H3 → ∀ Q : VK, (∀ H4, Same H3 H4 → Q (val i) H4) → tv σ2 H3 Q))
    (hd : ∀ H, Same H1 H → H D = some (.dT ((List.range n).map fun i => (key i, val i))) → Qd H) :
    ∃ W : Nat → Nat → Hp → Prop, (∃ m, W 0 m (upd H1 D (.dT []))) ∧ ∀ i m H2, W i m H2 →
      (J.stop i H2 ∧ Qd H2) ∨ (J.go i H2 ∧ ∃ Nx : Hp → Prop, (∀ H3, Nx H3 → ∃ m1, m1 < m ∧ W (i + 1) m1 H3) ∧ ∀ x H3, J.yld i H2 x H3 → g x (wipe σ vs) H3 fun σ4 H4 => wipe σ4 vs = wipe σ vs ∧ tYes σ4 H4 fun c H5 =>
        if c = true then tk σ4 H5 fun y H6 => tv σ4 H6 fun z H7 => ∃ kvs k b, y = .ref b ∧ H7 b = some (.tup (k.map kV)) ∧ H7 D = some (.dT kvs) ∧ kvs.length < sizeLine ∧ Nx (upd H7 D (.dT (putK kvs k z))) else Nx H5) := by
  refine ⟨fun i m H => m = n - i ∧ i ≤ n ∧ Same H1 H ∧ H D = some (.dT ((List.range i).map fun j => (key j, val j))), ⟨n, by simp, Nat.zero_le _, same_new hD, upd_same⟩, ?_⟩
  rintro i m H ⟨rfl, hi, sm, hk⟩
  by_cases hlt : i < n
  · refine .inr ⟨hgo i H hlt sm, fun H' => Same H1 H' ∧ H' D = some (.dT ((List.range (i + 1)).map fun j => (key j, val j))), fun H' p' => ⟨n - (i + 1), by omega, rfl, hlt, p'⟩, fun x H' y => ?_⟩
    obtain ⟨s', σ2, hg, hw, hk1, hv1⟩ := hs i H x H' hlt sm y
    refine hg _ ⟨hw, iteT (B := Same H1 H' ∧ H' D = some (.dT ((List.range (i + 1)).map fun j => (key j, val j)))) (hk1 H' (Same.refl _) _ fun b H4 s4 hb => hv1 H4 s4 _ fun H5 s5 => ?_)⟩
    have s15 := s'.trans (s4.trans s5)
    have h5 := s15 _ _ hk
    refine ⟨_, key i, b, rfl, s5 _ _ hb, h5, by rw [List.length_map, List.length_range, sizeLine_eq]; omega, same_mut (sm.trans s15) hD, ?_⟩
    rw [upd_same, putK_app, List.range_succ, List.map_append]
    · rfl
    · intro p hp e
      obtain ⟨j, hj, rfl⟩ := List.mem_map.mp hp
      have hj := List.mem_range.mp hj
      have := inj j i (by omega) hlt e
      omega
  · have e : i = n := by omega
    subst e
    exact .inl ⟨hst H sm, hd H sm hk⟩
end Lt

set_option Elab.async false
set_option linter.all false
set_option maxRecDepth 100000
set_option maxHeartbeats 4000000
namespace Lt
open PySem PySem.Spec PyProof.Rows L2
/-! ### ascending -/
def iN (t : List Nat) : List Int := t.map Int.ofNat
def cd (t : List Nat) : Int := TS.code 9 (iN t)
def Asc (ts : List (List Nat)) : Prop := ts.Pairwise fun x y => cd x ≤ cd y
theorem iN_len (t : List Nat) : (iN t).length = t.length := List.length_map ..
theorem iN_inj {s t : List Nat} (h : iN s = iN t) : s = t := (List.map_inj_right ofNat_inj).mp h
theorem bd_iN {n : Nat} {t : List Nat} (h : IsP n t) (hn : n ≤ 9) : TS.Bd 9 (iN t) := fun m hm => by
  obtain ⟨i, hi, rfl⟩ := List.mem_map.mp hm
  have := h.lt i hi
  exact ⟨Int.natCast_nonneg i, by show (i : Int) < 9; omega⟩
theorem code_inj : ∀ {x y : List Int}, x.length = y.length → TS.Bd 9 x → TS.Bd 9 y → TS.code 9 x = TS.code 9 y → x = y
  | [], [], _, _, _, _ => rfl
  | [], _ :: _, h, _, _, _ => by cases h
  | _ :: _, [], h, _, _, _ => by cases h
  | a :: x, b :: y, h, hx, hy, e => by
    have hl : x.length = y.length := Nat.succ.inj h
    rcases Int.lt_trichotomy a b with z | z | z
    · have := TS.code_lt hl hx.tail hy.tail z
      omega
    · subst z
      have e2 : TS.code 9 x = TS.code 9 y := by
        have e' : a * 9 ^ x.length + TS.code 9 x = a * 9 ^ y.length + TS.code 9 y := e
        rw [hl] at e'
        omega
      rw [code_inj hl hx.tail hy.tail e2]
    · have := TS.code_lt hl.symm hy.tail hx.tail z
      omega
theorem cd_inj {n : Nat} {s t : List Nat} (hs : IsP n s) (ht : IsP n t) (hn : n ≤ 9) (e : cd s = cd t) : s = t :=
  iN_inj (code_inj (by rw [iN_len, iN_len, hs.len, ht.len]) (bd_iN hs hn) (bd_iN ht hn) e)
/-- an ascending list is told by its members -/
theorem asc_one {n : Nat} {a b : List (List Nat)} (hn : n ≤ 9) (ha : ∀ t ∈ a, IsP n t) (p : a.Perm b) (h1 : Asc a) (h2 : Asc b) : a = b :=
  List.Perm.eq_of_pairwise (fun x y hx hy e1 e2 => cd_inj (ha x hx) (ha y (p.mem_iff.mpr hy)) hn (Int.le_antisymm e1 e2)) h1 h2 p
/-- a lock that is asked of -/
structure Good (H : Hp) (v : V) (ls : List (List Nat)) (n : Nat) : Prop where
  tt : TT H v ls
  gl : GL ls n
  few : Few ls n 63
theorem Good.tm {H H' : Hp} {v : V} {ls : List (List Nat)} {n : Nat} (h : Good H v ls n) (e : Tm H H') : Good H' v ls n := ⟨h.tt.tm e, h.gl, h.few⟩
theorem Good.same {H H' : Hp} {v : V} {ls : List (List Nat)} {n : Nat} (h : Good H v ls n) (e : Same H H') : Good H' v ls n := h.tm (.of e)
theorem Good.isP {H : Hp} {v : V} {ls : List (List Nat)} {n : Nat} (h : Good H v ls n) {t : List Nat} (m : Mk ls n t) : IsP n t := m.isP h.gl.2.2.2.2
theorem Good.mem {H : Hp} {v : V} {ls : List (List Nat)} {n : Nat} (h : Good H v ls n) (t : List Nat) : t ∈ (LL ls n).map (·.1) ↔ Mk ls n t := LL_mem h.few (by omega) t
section
variable {P : Program} {w : World} {K : PySem.W.Frag} {mg : Str → Option Value} {base : Heap} {CL CM CT : Addr}
theorem Good.wd {H : Hp} {v : V} {ls : List (List Nat)} {n : Nat} (g : Good H v ls n) {L : List (List Nat × List Nat)} (hL : Wd ls n L) : L = LL ls n := by
  obtain ⟨a, e1, e2, _⟩ := g.few.wd (by omega) hL
  rw [e1] at e2 ⊢
  exact LL_of g.few (by omega) e2
theorem tlen {t : List Nat} {m : Nat} (h : t.length ≤ m) : ∀ ds, dT t = .tuple ds → ds.length ≤ m := fun ds e => by
  injection e with e
  subst e
  rw [List.length_map]
  exact h
theorem isTurn_mk {H : Hp} {v : V} {ls : List (List Nat)} {n : Nat} (g : Good H v ls n) (t : List Nat) : (isTurnD (LL ls n) (dT t) = true ↔ Mk ls n t) := by
  rw [isTurnD_dT, decide_eq_true_iff]
  exact g.mem t
theorem isTurn_no {H : Hp} {v : V} {ls : List (List Nat)} {n : Nat} (g : Good H v ls n) {t : List Nat} (e : isTurnD (LL ls n) (dT t) = false) : ¬ Mk ls n t := fun z => by
  rw [(isTurn_mk g t).mpr z] at e
  cases e
/-! ### all_turns -/
def spAll (CL CM : Addr) : Sp := fun vs H Q E => ∃ v, vs = [v] ∧ LockIn CL CM v H E (fun ls n => ∀ L, Wd ls n L → L.length ≤ 240 → L.length < 64 ∧ ∀ r H' ts, Same H H' → TT H' r ts → ts.Perm (L.map (·.1)) → Asc ts → Q r H')
/-- a tuple of turns that may be keys -/
def TTK (H : Hp) (v : V) (ts : List (List Nat)) : Prop := ∃ a xs, v = .ref a ∧ H a = some (.tup xs) ∧ Paired (TK H) xs ts
theorem TTK.tt {H : Hp} {v : V} {ts : List (List Nat)} (h : TTK H v ts) : TT H v ts := let ⟨a, xs, e, ha, p⟩ := h; ⟨a, xs, e, ha, paired_mono (fun _ _ r => r.tn) p⟩
def spAllK (CL CM : Addr) : Sp := fun vs H Q E => ∃ v, vs = [v] ∧ LockIn CL CM v H E (fun ls n => ∀ L, Wd ls n L → L.length ≤ 240 → L.length < 64 ∧ ∀ r H' ts, Same H H' → TTK H' r ts → ts.Perm (L.map (·.1)) → Asc ts → Q r H')
theorem sc_all_turns : FnScope ["lock"] ["lock"] (defScope s_all_turns) := ⟨rfl, rfl, rfl, by decide +kernel, rfl, by decide +kernel, by decide +kernel⟩
theorem keysI {H : Hp} {kvs : List (List Key × V)} {L : List (List Nat × List Nat)} (p : Paired (DE H) kvs L) : kvs.map (·.1) = (numL L).map fun k => k.map Sum.inl := by
  induction p with
  | nil => rfl
  | cons r _ ih =>
    rw [List.map_cons, ih, r.1, keyN_I]
    rfl
theorem wd_isP {ls : List (List Nat)} {n : Nat} (hg : ∀ g ∈ ls, IsP n g) {L : List (List Nat × List Nat)} (h : Wd ls n L) : ∀ x ∈ L, IsP n x.1 := fun x hx => by
  obtain ⟨a, rfl, _⟩ := h
  exact (qq_mk ls n a x.1 (List.mem_map.mpr ⟨x, hx, rfl⟩)).isP hg
/-- the bases of sorted ints are turns -/
theorem turns_back {L : List (List Nat × List Nat)} : ∀ {ks : List (List Int)}, (∀ k ∈ ks, k ∈ numL L) → ∃ ts : List (List Nat), ks = ts.map iN
  | [], _ => ⟨[], rfl⟩
  | k :: ks, h => by
    obtain ⟨x, _, e⟩ := List.mem_map.mp (h k List.mem_cons_self)
    obtain ⟨ts, e2⟩ := turns_back fun y hy => h y (List.mem_cons_of_mem _ hy)
    exact ⟨x.1 :: ts, by rw [e2, List.map_cons, ← e]; rfl⟩
theorem perm_iN {a b : List (List Nat)} (h : (a.map iN).Perm (b.map iN)) : a.Perm b := by
  have z := h.map fun k : List Int => k.map Int.toNat
  rw [List.map_map, List.map_map] at z
  have e : ∀ l : List (List Nat), l.map ((fun k : List Int => k.map Int.toNat) ∘ iN) = l := fun l => (List.map_congr_left (g := id) fun t _ => by
    show (t.map Int.ofNat).map Int.toNat = t
    rw [List.map_map]
    exact (List.map_congr_left (g := id) fun _ _ => rfl).trans (List.map_id t)).trans (List.map_id l)
  rw [e, e] at z
  exact z
theorem tns_of {H : Hp} : ∀ {bs : List Addr} {ts : List (List Nat)}, Paired (fun (b : Addr) k => H b = some (.tup (k.map V.int))) bs (ts.map iN) → Paired (TK H) (bs.map V.ref) ts
  | [], [], .nil => .nil
  | b :: bs, t :: ts, .cons r s => .cons ⟨b, rfl, by rw [r, nIs_int]; rfl⟩ (tns_of s)
theorem has_all_turnsK (T : Top K mg "all_turns" s_all_turns ["lock"]) (B : Bi mg) (hM : Has P w K mg base (L2.CX P w) 5 "made_words" ["lock"] (spMade CL CM)) : Has P w K mg base (L2.CX P w) 6 "all_turns" ["lock"] (spAllK CL CM) := by
  refine T.okX sc_all_turns (fun vs H Q E h => ?_) (fun f cdv A outer s H vs Q E hr h => ?_)
  · obtain ⟨v, rfl, _⟩ := h
    rfl
  · obtain ⟨v, rfl, hl⟩ := h
    obtain ⟨n, hn1, hl⟩ : ∃ n, 1 ≤ n ∧ LockIn CL CM v H E (fun ls m => m = n ∧ ∀ L, Wd ls m L → L.length ≤ 240 → L.length < 64 ∧ ∀ r H' ts, Same H H' → TTK H' r ts → ts.Perm (L.map (·.1)) → Asc ts → Q r H') := by
      obtain ⟨d, h1, h2, h3, h4⟩ := hl
      cases hb : lockBad d with
      | some pl => exact ⟨1, Nat.le_refl 1, d, h1, h2, h3, fun e => by rw [hb] at e; cases e⟩
      | none =>
        obtain ⟨ls, n, a, b, c, q⟩ := h4 hb
        exact ⟨n, by have := b.2.2.1; omega, d, h1, h2, h3, fun _ => ⟨ls, n, a, b, c, rfl, q⟩⟩
    refine ⟨_, pss_one (ps_ret (pe_tupleOf (by rfl) B.tuple (pe_callB (cr_sortDT (d := n) (B := 9) rfl hn1) (by rfl) B.sorted PyProof.Rows.boot_sorted (pa_cons (pe_hasX (E := E) hM hr (by rfl) (passes_call (takes_of rfl rfl rfl rfl) (fun _ _ _ _ h => h)) (pa_cons (pv 0) pa_nil)) pa_nil)))), ?_⟩
    refine ⟨_, rfl, v, rfl, hl.imp fun ls m ht hg ⟨em, q⟩ d H1 L s1 hd hw hL h240 => ?_⟩
    subst em
    obtain ⟨kvs, hk, pk⟩ := hw
    obtain ⟨h64, q⟩ := q L hL h240
    have hP := wd_isP hg.2.2.2.2 hL
    refine ⟨d, kvs, numL L, rfl, .inl hk, keysI pk, by rw [List.length_map]; exact h64, fun k hk => ?_, fun bs ks' p pm so pr hp => ?_⟩
    · obtain ⟨x, hx, rfl⟩ := List.mem_map.mp hk
      exact ⟨by rw [List.length_map, (hP x hx).len], bd_iN (hP x hx) hg.2.2.2.1⟩
    · obtain ⟨ts, rfl⟩ := turns_back (L := L) fun k hk => pm.mem_iff.mp hk
      have pm2 : ts.Perm (L.map (·.1)) := perm_iN (by
        rw [List.map_map]
        exact pm)
      refine .inl ⟨p, _, rfl, SqL.of upd_same, fun r hr => ?_⟩
      have s2 := (same_new (o := .lst (bs.map V.ref)) hp).trans (same_new (o := .tup (bs.map V.ref)) hr)
      refine q _ _ ts (s1.trans s2) ⟨r, _, rfl, upd_same, paired_mono (fun _ _ r => TK.tm (.of s2) r) (tns_of pr)⟩ pm2 (show ts.Pairwise fun x y => cd x ≤ cd y from (List.pairwise_map (f := iN) (R := fun x y => TS.code 9 x ≤ TS.code 9 y)).mp so)
theorem has_all_turns (T : Top K mg "all_turns" s_all_turns ["lock"]) (B : Bi mg) (hM : Has P w K mg base (L2.CX P w) 5 "made_words" ["lock"] (spMade CL CM)) : Has P w K mg base (L2.CX P w) 6 "all_turns" ["lock"] (spAll CL CM) :=
  (has_all_turnsK T B hM).imp fun vs H Q E h => by
    obtain ⟨v, e, hl⟩ := h
    exact ⟨v, e, hl.imp fun ls n _ _ q L hL h240 => ⟨(q L hL h240).1, fun r H' ts s k => (q L hL h240).2 r H' ts s k.tt⟩⟩
end
end Lt

set_option Elab.async false
set_option linter.all false
set_option maxRecDepth 100000
set_option maxHeartbeats 1000000
/-! the still turn is the least -/
namespace Lt
open PySem PySem.Spec PyProof.Rows L2
theorem bd_some {t : List Nat} (h : ∀ x ∈ t, x < 9) : TS.Bd 9 (iN t) := fun m hm => by
  obtain ⟨i, hi, rfl⟩ := List.mem_map.mp hm
  have := h i hi
  exact ⟨Int.natCast_nonneg i, by show (i : Int) < 9; omega⟩
theorem code_least : ∀ (t : List Nat) (k : Nat), t.Nodup → (∀ x ∈ t, k ≤ x ∧ x < 9) → t.length + k ≤ 9 → TS.code 9 (iN (List.range' k t.length)) ≤ TS.code 9 (iN t)
  | [], k, _, _, _ => Int.le_refl _
  | a :: t, k, nd, h, hl => by
    rw [List.length_cons] at hl ⊢
    rw [List.range'_succ]
    have ha := h a List.mem_cons_self
    have hnd := List.nodup_cons.mp nd
    have hlen : (iN (List.range' (k + 1) t.length)).length = (iN t).length := by rw [iN_len, iN_len, List.length_range']
    by_cases e : a = k
    · subst e
      have ih := code_least t (a + 1) hnd.2 (fun x hx => by
        have := h x (List.mem_cons_of_mem _ hx)
        have : x ≠ a := fun z => hnd.1 (z ▸ hx)
        omega) (by omega)
      show (a : Int) * 9 ^ (iN (List.range' (a + 1) t.length)).length + TS.code 9 (iN (List.range' (a + 1) t.length)) ≤ (a : Int) * 9 ^ (iN t).length + TS.code 9 (iN t)
      rw [hlen]
      omega
    · refine Int.le_of_lt (TS.code_lt hlen (bd_some fun x hx => ?_) (bd_some fun x hx => (h x (List.mem_cons_of_mem _ hx)).2) (show (k : Int) < (a : Int) by omega))
      have := List.mem_range'_1.mp hx
      omega
theorem still_least {n : Nat} {t : List Nat} (h : IsP n t) (hn : n ≤ 9) : cd (List.range n) ≤ cd t := by
  have e := code_least t 0 h.nd (fun x hx => ⟨Nat.zero_le x, by have := h.lt x hx; omega⟩) (by rw [h.len]; omega)
  rw [h.len, ← List.range_eq_range'] at e
  exact e
theorem asc_head {n : Nat} {ts : List (List Nat)} (hn : n ≤ 9) (ha : ∀ t ∈ ts, IsP n t) (h : Asc ts) (hs : List.range n ∈ ts) : ts[0]? = some (List.range n) := by
  cases ts with
  | nil => cases hs
  | cons a r =>
    rcases List.mem_cons.mp hs with e | e
    · rw [e]; rfl
    · have h1 := (List.pairwise_cons.mp h).1 _ e
      have h2 := still_least (ha a List.mem_cons_self) hn
      rw [cd_inj (ha a List.mem_cons_self) (.still n) hn (Int.le_antisymm h1 h2)]
      rfl
end Lt

set_option Elab.async false
set_option linter.all false
set_option maxRecDepth 100000
set_option maxHeartbeats 1000000
/-! tuples whose object is known: they bear no dict, so their methods are found -/
namespace L2
open PySem PySem.Spec PyProof.Rows
section
variable {X : Cx} {a : Expr} {ta : TE} {te : St → Hp → (Int → Int → Hp → Prop) → Prop} {e : Expr}
def kTupF (K : PySem.W.Frag) (x : V) (H : Hp) (Q : VK) : Prop := ∃ p xs, x = .ref p ∧ SqL K H p xs ∧ ∀ q o, o.dict = none → H q = none → Q (.ref q) (upd H q (.frz o (.tup xs)))
theorem pe_tupleOfF {p pos : Pos} (hg : Gl X "tuple") (hm : X.mg "tuple" = none) (ha : PE X a ta) (na : starEach [a] X.env = (false, eval a X.env) :: starEach [] X.env := by rfl) :
    PE X (.Call (.Name "tuple" p) [a] [] pos) (tThen ta (kTupF X.K)) := by
  refine ⟨fun pins s σ H Q I h => ?_⟩
  refine Call_ (ld_blt I hg hm boot_tuple (PyProof.Rows.callWith_type1 (one_arg ha I h (fun v s2 x H2 I2 r q => ?_) na) na))
  obtain ⟨l, xs, rfl, hs, q⟩ := q
  obtain rfl : v = .ref l := r
  obtain ⟨its, rv, pl, hz⟩ := I2.list hs
  refine call_tuple_list pl.isList (fun h' hk => ?_) (by rw [List.size_toArray, ← rv.length]; exact hz)
  have I3 : Inv X pins σ H2 { s2 with heap := h' } := I2.kept (t' := s2.toks) hk
  have hget : (h'.push { cls := .type "tuple", data := .seq its.toArray }).get? h'.objs.size = some { cls := .type "tuple", data := .seq its.toArray } := Heap.get?_push_size _ rfl
  have I4 := I3.laid (a := h'.objs.size) (o := .frz { cls := .type "tuple", data := .seq its.toArray } (.tup xs)) (h' := h'.push { cls := .type "tuple", data := .seq its.toArray }) (t' := s2.toks) (fun b o e => Heap.get?_push_of_some _ e) (Nat.le_refl _) ⟨hget, hz, its, rv, _, hget, rfl, _, rfl⟩
  exact ⟨.ref h'.objs.size, _, I4, rfl, q _ _ rfl (I3.hok.fresh (Nat.le_refl _))⟩
def tTupRgF (te : St → Hp → (Int → Int → Hp → Prop) → Prop) : TE := fun σ H Q => te σ H fun a b H1 => RgOk a b ∧ ∀ q o, o.dict = none → H1 q = none → Q (.ref q) (upd H1 q (.frz o (.tup (rgV a b))))
theorem pe_tupRgF {p pos : Pos} (hc : X.calm = true) (hg : Gl X "tuple") (hm : X.mg "tuple" = none) (he : PRg X e te) (na : starEach [e] X.env = (false, eval e X.env) :: starEach [] X.env := by rfl) : PE X (.Call (.Name "tuple" p) [e] [] pos) (tTupRgF te) := by
  refine ⟨fun pins s σ H Q I h => ?_⟩
  refine Call_ (ld_blt I hg hm boot_tuple (PyProof.Rows.callWith_type1 (args_cons (thn (he pins s σ H _ I h) fun x s1 ⟨r, a, b, t, u, v, H1, ex, hr, I1, ok, q⟩ => args_nil ?_) na) na))
  subst ex
  obtain ⟨b1, b2, b3, b4, b5⟩ := ok
  refine call_tuple_range (n := (b - a).toNat) (I1.ok.hd hc) hr (small_one b1 b2 b3 b4) (rangeSize_nat a b) b5 fun h' tk acc hk hi => ?_
  have I2 : Inv X pins σ H1 { s1 with heap := h', toks := tk } := I1.kept hk
  have hget : (h'.push { cls := .type "tuple", data := .seq acc }).get? h'.objs.size = some { cls := .type "tuple", data := .seq acc } := Heap.get?_push_size _ rfl
  have hz : (rgV a b).length ≤ sizeLine := by rw [rgV_length, sizeLine_eq]; omega
  have hi2 : IsTup (h'.push { cls := .type "tuple", data := .seq acc }) h'.objs.size acc.toList.toArray := by rw [Array.toArray_toList]; exact IsTup.new _ _
  have I3 := I2.laid (a := h'.objs.size) (o := .frz { cls := .type "tuple", data := .seq acc } (.tup (rgV a b))) (h' := h'.push { cls := .type "tuple", data := .seq acc }) (t' := tk) (fun c o e => Heap.get?_push_of_some _ e) (Nat.le_refl _) ⟨hget, hz, acc.toList, vals_rg hi, hi2⟩
  exact ⟨.ref h'.objs.size, _, I3, rfl, q _ _ rfl (I2.hok.fresh (Nat.le_refl _))⟩
/-- a method of a tuple whose object is known -/
def tBMF (r : V → List V → Hp → VK → Prop) (to : TE) (t : TA) : TE := fun σ H Q => to σ H fun x H1 => (∃ a o xs, x = .ref a ∧ H1 a = some (.frz o (.tup xs)) ∧ o.dict = none) ∧ t σ H1 fun ys H2 => r x ys H2 Q
theorem pe_bmF {o e : Expr} {es : List Expr} {to : TE} {t : TA} {name : Str} {apos cpos : Pos} {id : String} {r : V → List V → Hp → VK → Prop} (slot : Slot "tuple" name id) (hty : typeOf (.builtin id) = pure (.type "method_descriptor")) (hm : MtR X id r) (ho : PE X o to) (ha : PA X (e :: es) t)
    (hbase : attributeBase o name X.env (eval o X.env) = eval o X.env := by rfl)
    (hfew : ((backTo cpos (starEach (e :: es) X.env)).all (fun x => !x.1) && (backToKw cpos (keywordEach [] X.env)).all (fun x => x.1.isSome)
      && decide ((e :: es).length + ([] : List Keyword).length + (if ([] : List Keyword).isEmpty then 0 else 1) < 30)) = true := by rfl)
    (hline : (apos.endLine == cpos.line) = true := by rfl) (hs : starEach (e :: es) X.env = (false, eval e X.env) :: starEach es X.env := by rfl) (hplain : (backTo cpos (starEach es X.env)).any (·.1) = false := by rfl) :
    PE X (.Call (.Attribute o name apos) (e :: es) [] cpos) (tBMF r to t) := by
  refine ⟨fun pins s σ H Q I h => ?_⟩
  refine wpAny_Call_method_late hbase hfew hline rfl (thn (ho.run pins s σ H _ I h) fun v s1 ⟨x, H1, I1, r1, ty, q1⟩ => ?_)
  obtain ⟨a, ob, xs, rfl, hH, hdn⟩ := ty
  obtain rfl : v = Value.ref a := r1
  obtain ⟨hget, hz, its, rv, ob', hget', hcls, hdat⟩ := (show ObjOk X.prog X.w H1 s1.heap a (.frz ob (.tup xs)) from I1.hok a _ hH)
  refine ⟨"tuple", id, PySem.F.plainAttrs_tuple, slot, hty, ⟨ob', hget', hcls⟩, fun b eb => ?_, ?_⟩
  · cases eb
    exact ⟨ob, hget, hdn⟩
  have hA := ha.run cpos pins s1 σ H1 _ I1 q1
  rw [hs] at hA ⊢
  refine Calls.callWith_builtin (by show (false || (backTo cpos (starEach es X.env)).any (·.1)) = false; rw [hplain] <;> rfl) (Calls.evalArgs_plain ?_)
  exact thn hA fun us s2 ⟨vs, H2, I2, r2, q2⟩ => hm pins s2 σ H2 (.ref a) vs (.ref a) us Q I2 rfl r2 q2
end
end L2

set_option Elab.async false
set_option linter.all false
set_option maxRecDepth 100000
set_option maxHeartbeats 1000000
namespace Lt
open PySem PySem.Spec PyProof.Rows L2
/-- a turn whose object is known -/
def TF (H : Hp) (v : V) (t : List Nat) : Prop := ∃ a o, v = .ref a ∧ H a = some (.frz o (.tup (nIs t))) ∧ o.dict = none
theorem TF.tn {H : Hp} {v : V} {t : List Nat} (h : TF H v t) : TN H v t := let ⟨a, o, e, h, _⟩ := h; ⟨a, e, .inr ⟨o, h⟩⟩
theorem TF.tm {H H' : Hp} {v : V} {t : List Nat} (e : Tm H H') (h : TF H v t) : TF H' v t := let ⟨a, o, ev, h, d⟩ := h; ⟨a, o, ev, e.2 _ _ _ h, d⟩
section
variable {P : Program} {w : World} {K : PySem.W.Frag} {mg : Str → Option Value} {base : Heap}
/-! ### _law_is -/
def spIs : Sp := fun vs H Q _ => ∃ (a b : Bool), vs = [.bl a, .bl b] ∧ Q (.bl (decide (a = b))) H
theorem sc_law_is : FnScope ["found", "due"] ["found", "due"] (defScope s_law_is) := ⟨rfl, rfl, rfl, by decide +kernel, rfl, by decide +kernel, by decide +kernel⟩
theorem has_law_is (T : Top K mg "_law_is" s_law_is ["found", "due"]) (B : Bi mg) : Has P w K mg base CX0 1 "_law_is" ["found", "due"] spIs := by
  refine T.ok sc_law_is (fun vs H Q E h => ?_) (fun f cdv A outer s H vs Q E hr h => ?_)
  · obtain ⟨a, b, rfl, _⟩ := h
    rfl
  · obtain ⟨a, b, rfl, q⟩ := h
    refine ⟨_, pss_one (ps_ret (pe_and (pe_callB call_isi (by rfl) B.isinstance PyProof.Rows.boot_isinstance (pa_cons (pv 0) (pa_cons (pe_bltn (by rfl) B.bool PyProof.Rows.boot_bool (rr_ty "bool")) pa_nil)))
      (pe_one (pe_cmpR op_eq (pv 0) (pv 1) (nomark _))))), ?_⟩
    refine ⟨_, rfl, .bl a, .ty "bool", _, _, true, rfl, .ty _, .base (.bl a), kit_ty (kit_bool (.bool a)), true, rfl, iteT ⟨_, rfl, _, rfl, rfl, ?_⟩⟩
    have e : decide (V.bl a = V.bl b) = decide (a = b) := decide_eq_decide.mpr ⟨fun h => by injection h, fun h => by rw [h]⟩
    rw [e]
    exact q
/-! ### _law_behind, _law_back, _law_swap -/
theorem sc_law_behind : FnScope ["one", "other", "place"] ["one", "other"] (defScope s_law_behind) := ⟨rfl, rfl, rfl, by decide +kernel, rfl, by decide +kernel, by decide +kernel⟩
theorem has_law_behind (T : Top K mg "_law_behind" s_law_behind ["one", "other"]) (B : Bi mg) : Has P w K mg base CX0 1 "_law_behind" ["one", "other"] spProd := by
  refine T.ok sc_law_behind (fun vs H Q E h => ?_) (fun f cdv A outer s H vs Q E hr h => ?_)
  · obtain ⟨a, b, x, y, rfl, _⟩ := h
    rfl
  · obtain ⟨a, b, x, y, rfl, ha, hb, hxy, hx, q⟩ := h
    refine ⟨_, pss_one (ps_ret (pe_tupleOf (by rfl) B.tuple (pe_lc (own := [("place", 2)]) (g := gName 2) (te := tOp (rIxT K) (tVar 1) (tVar 2)) (by rfl) sc_law_behind.nd (pi_tup (pv 0)) (blkOk_by (own := [("place", 2)]) (N := ["one", "other", "place"]) (sc := defScope s_law_behind) (by decide +kernel))
      (fun _ _ _ _ _ => pg_name (i := 2) sc_law_behind.nd rfl (Or.inl rfl)) (fun _ _ _ _ _ => pts_nil) (fun _ _ _ _ _ => pe_ix ix_tup (pv 1) (pv 2) (fun _ _ => rfl))))), ?_⟩
    obtain ⟨pa, rfl, ea⟩ := ha
    obtain ⟨pb, rfl, eb⟩ := hb
    refine ⟨_, rfl, pa, rfl, ⟨_, ea.sq⟩, fun D hD => lc_tupM RN (prod x y) (fun _ _ _ _ _ r => r) ea.sq (fun H' sm => (ea.sm sm).sq) (by rw [nIs_len]; omega) (by rw [prod_len, nIs_len]) hD (fun x => rfl) (fun i v n hi hn H' sm Q' q' => ?_) (fun H' zs sm hz pr => ?_)⟩
    · rw [nIs_get] at hi
      obtain ⟨m, hm, rfl⟩ := Option.map_eq_some_iff.mp hi
      have hlt := hxy m (List.mem_of_getElem? hm)
      have e : n = y.getD m 0 := by
        have z : (prod x y)[i]? = some (y.getD m 0) := by
          unfold prod
          rw [List.getElem?_map, hm]
          rfl
        exact Option.some.inj (hn.symm.trans z)
      refine ⟨_, rfl, _, rfl, pb, _, _, nI n, rfl, rfl, (eb.sm sm).sq, atI_nat ?_, q' _ _ (Same.refl _) rfl⟩
      rw [nIs_get, e, List.getD_eq_getElem?_getD, List.getElem?_eq_getElem hlt]
      rfl
    · refine .inl ⟨D, zs, rfl, SqL.of hz, fun p hp => q _ _ (sm.trans (same_new hp)) (tn_of upd_same (RN.all pr))⟩
/-- the same, the new turn's object told -/
def spProdF : Sp := fun vs H Q _ => ∃ (a b : V) (x y : List Nat), vs = [a, b] ∧ TN H a x ∧ TN H b y ∧ (∀ i ∈ x, i < y.length) ∧ x.length ≤ 1000 ∧ ∀ v H', Same H H' → TF H' v (prod x y) → Q v H'
theorem has_law_behindF (T : Top K mg "_law_behind" s_law_behind ["one", "other"]) (B : Bi mg) : Has P w K mg base CX0 1 "_law_behind" ["one", "other"] spProdF := by
  refine T.ok sc_law_behind (fun vs H Q E h => ?_) (fun f cdv A outer s H vs Q E hr h => ?_)
  · obtain ⟨a, b, x, y, rfl, _⟩ := h
    rfl
  · obtain ⟨a, b, x, y, rfl, ha, hb, hxy, hx, q⟩ := h
    refine ⟨_, pss_one (ps_ret (pe_tupleOfF (by rfl) B.tuple (pe_lc (own := [("place", 2)]) (g := gName 2) (te := tOp (rIxT K) (tVar 1) (tVar 2)) (by rfl) sc_law_behind.nd (pi_tup (pv 0)) (blkOk_by (own := [("place", 2)]) (N := ["one", "other", "place"]) (sc := defScope s_law_behind) (by decide +kernel))
      (fun _ _ _ _ _ => pg_name (i := 2) sc_law_behind.nd rfl (Or.inl rfl)) (fun _ _ _ _ _ => pts_nil) (fun _ _ _ _ _ => pe_ix ix_tup (pv 1) (pv 2) (fun _ _ => rfl))))), ?_⟩
    obtain ⟨pa, rfl, ea⟩ := ha
    obtain ⟨pb, rfl, eb⟩ := hb
    refine ⟨_, rfl, pa, rfl, ⟨_, ea.sq⟩, fun D hD => lc_tupM RN (prod x y) (fun _ _ _ _ _ r => r) ea.sq (fun H' sm => (ea.sm sm).sq) (by rw [nIs_len]; omega) (by rw [prod_len, nIs_len]) hD (fun x => rfl) (fun i v n hi hn H' sm Q' q' => ?_) (fun H' zs sm hz pr => ?_)⟩
    · rw [nIs_get] at hi
      obtain ⟨m, hm, rfl⟩ := Option.map_eq_some_iff.mp hi
      have hlt := hxy m (List.mem_of_getElem? hm)
      have e : n = y.getD m 0 := by
        have z : (prod x y)[i]? = some (y.getD m 0) := by
          unfold prod
          rw [List.getElem?_map, hm]
          rfl
        exact Option.some.inj (hn.symm.trans z)
      refine ⟨_, rfl, _, rfl, pb, _, _, nI n, rfl, rfl, (eb.sm sm).sq, atI_nat ?_, q' _ _ (Same.refl _) rfl⟩
      rw [nIs_get, e, List.getD_eq_getElem?_getD, List.getElem?_eq_getElem hlt]
      rfl
    · refine ⟨D, zs, rfl, SqL.of hz, fun p o ho hp => q _ _ (sm.trans (same_new hp)) ⟨p, o, rfl, by rw [upd_same, RN.all pr], ho⟩⟩
def rTupIx (K : PySem.W.Frag) : V → List V → Hp → VK → Prop := fun x xs H Q => ∃ p, ∃ ys : List Int, ∃ z j, x = .ref p ∧ xs = [.int z] ∧ SqT K H p (ys.map V.int) ∧ ys[j]? = some z ∧ (∀ m, m < j → ys[m]? ≠ some z) ∧ Q (.int (j : Nat)) H
def spLawBack : Sp := fun vs H Q _ => ∃ (a : V) (t : List Nat) (n : Nat), vs = [a] ∧ TF H a t ∧ IsP n t ∧ n ≤ 1000 ∧ ∀ v H', Same H H' → TK H' v (inv t) → Q v H'
def spLawSwap : Sp := fun vs H Q _ => ∃ (a b : V) (x y : List Nat) (n : Nat), vs = [a, b] ∧ TF H a x ∧ TF H b y ∧ IsP n x ∧ IsP n y ∧ n ≤ 1000 ∧ ∀ v H', Same H H' → TK H' v (prod (prod x y) (prod (inv x) (inv y))) → Q v H'
/-! ### _law_permutation -/
def spLawPerm (K : PySem.W.Frag) : Sp := fun vs H Q _ => ∃ (r sc : Addr) (ns : List Int) (n : Nat), vs = [.ref r, nI n] ∧ RowAt K H r sc ns ∧ n ≤ 1000 ∧ ∀ v H' t, IsP n t → StepR r H H' → RowAt K H' r sc ns → TK H' v t → Q v H'
theorem sc_law_permutation : FnScope ["row", "places", "left", "found", "turn"] ["row", "places"] (defScope s_law_permutation) := ⟨rfl, rfl, rfl, by decide +kernel, rfl, by decide +kernel, by decide +kernel⟩
theorem nIs_erase : ∀ (t : List Nat) (i : Nat), (nIs t).eraseIdx i = nIs (t.eraseIdx i)
  | [], _ => rfl
  | _ :: _, 0 => rfl
  | a :: t, i + 1 => by
    show nI a :: (nIs t).eraseIdx i = nI a :: nIs (t.eraseIdx i)
    rw [nIs_erase t i]
theorem erase_perm : ∀ (l : List Nat) (x : Nat) (h : x < l.length), (l[x] :: l.eraseIdx x).Perm l
  | [], x, h => absurd h (Nat.not_lt_zero x)
  | a :: l, 0, _ => List.Perm.refl _
  | a :: l, x + 1, h => (List.Perm.swap a (l[x]'(Nat.lt_of_succ_lt_succ h)) (l.eraseIdx x)).trans ((erase_perm l x (Nat.lt_of_succ_lt_succ h)).cons a)
theorem has_law_permutation (T : Top K mg "_law_permutation" s_law_permutation ["row", "places"]) (B : Bi mg) (hT : Has P w K mg base CX0 1 "_law_taken" ["row", "many"] (spTaken K)) : Has P w K mg base CX0 2 "_law_permutation" ["row", "places"] (spLawPerm K) := by
  refine T.ok sc_law_permutation (fun vs H Q E h => ?_) (fun f cdv A outer s H vs Q E hr h => ?_)
  · obtain ⟨r, sc, ns, n, rfl, _⟩ := h
    rfl
  · obtain ⟨r, sc, ns, n, rfl, ra, hn, q⟩ := h
    refine ⟨_, pss_cons (ps_par (i := 2) (j := 3) (by rfl) sc_law_permutation.nd rfl rfl (by decide) rfl rfl (pa_cons (pe_listRg (by rfl) (by rfl) B.list (prg_1 (by rfl) B.range (pv 1))) (pa_cons (pe_lst pa_nil) pa_nil)) (by rfl))
      (pss_cons (ps_for PassesOwn.never rfl (pi_range1 (by rfl) B.range (pa_cons (pv 1) pa_nil)) (pg_name (i := 4) sc_law_permutation.nd rfl (Or.inl rfl))
        (pss_one (ps_expr (pe_bm PySem.F.plainAttrs_list PySem.F.slot_list_append PySem.F.type_list_append mt_append (pv 3) (pa_cons
          (pe_bm PySem.F.plainAttrs_list PySem.F.slot_list_pop PySem.F.type_list_pop mt_popAt (pv 2) (pa_cons (pe_has hT hr (by rfl) (pa_cons (pv 0) (pa_cons (pe_callB call_len_seq (by rfl) B.len PySem.boot_len (pa_cons (pv 2) pa_nil)) pa_nil))) pa_nil)) pa_nil)))))
      (pss_one (ps_ret (pe_tupleOf (by rfl) B.tuple (pv 3))))), ?_⟩
    refine ⟨_, rfl, n, rfl, .of_le (by omega) (by omega) (by omega) (by omega), fun lf hlf => ?_⟩
    have s1 := same_new (o := .lst (rgV 0 n)) hlf
    refine ⟨Nat.zero_le _, fun fd hfd => ⟨_, _, rfl, ?_⟩⟩
    have s2 := s1.trans (same_new (o := .lst []) hfd)
    have hfd0 : H fd = none := s1.free hfd
    have hlfd : lf ≠ fd := fun z => by rw [← z, upd_same] at hfd; cases hfd
    refine ⟨_, rfl, (n : Int), rfl, by omega, by omega, for_range (lo := 0) (n := (n : Int).toNat) (fun i σ H' => ∃ (l f : List Nat) (y : Option V), σ = [some (.ref r), some (nI n), some (.ref lf), some (.ref fd), y] ∧ StepR r H H' ∧ RowAt K H' r sc ns ∧ H' lf = some (.lst (nIs l)) ∧ H' fd = some (.lst (nIs f)) ∧ (f ++ l).Perm (List.range n) ∧ f.length = i)
      ⟨List.range n, [], none, rfl, .of s2, ra.step s2, by rw [upd_ne hlfd, upd_same, rgV_nat], by rw [upd_same]; rfl, List.Perm.refl _, rfl⟩ ?_ ?_⟩
    · rintro i σ H' hi ⟨l, f, y, rfl, st, ra', hl, hf, pm, hfl⟩
      have hlen := pm.length_eq
      rw [List.length_append, List.length_range] at hlen
      have hl1 : 1 ≤ l.length := by omega
      refine ⟨_, rfl, .inl ⟨rfl, _, SqL.of hf⟩, _, rfl, .inl ⟨rfl, _, SqL.of hl⟩, _, rfl, _, rfl, lf, nIs l, rfl, .inl (SqL.of hl), r, sc, ns, l.length, by rw [nIs_len]; rfl, ra', hl1, by omega, fun x H2 hx st2 ra2 => ?_⟩
      have hlr : lf ≠ r := (ra.ne hlf).symm
      have hfr : fd ≠ r := (ra.ne hfd0).symm
      have hl2 := st2 _ _ hlr hl
      have hf2 := st2 _ _ hfr hf
      refine ⟨lf, nIs l, (x : Int), x, nI l[x], rfl, rfl, hl2, by omega, by omega, (ixN_seq (Evl.ixN_nat (by rw [nIs_len]; exact hx))).1, by rw [nIs_get, List.getElem?_eq_getElem hx]; rfl, ?_⟩
      have hf3 : (upd H2 lf (.lst ((nIs l).eraseIdx x))) fd = some (.lst (nIs f)) := by rw [upd_ne hlfd.symm]; exact hf2
      refine ⟨fd, nIs f, nI l[x], rfl, rfl, hf3, by rw [nIs_len, sizeLine_eq]; omega, ?_⟩
      refine ⟨l.eraseIdx x, f ++ [l[x]], _, rfl, ((st.trans st2).mut hlf).mut hfd0, RowAt.mut ra hfd0 (RowAt.mut ra hlf ra2), ?_, ?_, ?_, by rw [List.length_append, hfl]; rfl⟩
      · rw [upd_ne hlfd, upd_same, nIs_erase]
      · rw [upd_same]
        unfold nIs
        rw [List.map_append]
        rfl
      · rw [List.append_assoc]
        refine List.Perm.trans (List.Perm.append_left f ?_) pm
        exact erase_perm l x hx
    · rintro σ H' ⟨l, f, y, rfl, st, ra', hl, hf, pm, hfl⟩
      have hlen := pm.length_eq
      rw [List.length_append, List.length_range] at hlen
      have hl0 : l = [] := by
        cases l with
        | nil => rfl
        | cons a l => rw [List.length_cons] at hlen; omega
      subst hl0
      rw [List.append_nil] at pm
      refine ⟨_, rfl, .inl ⟨fd, nIs f, rfl, SqL.of hf, fun p hp => ?_⟩⟩
      have sp := same_new (o := .tup (nIs f)) hp
      exact q _ _ f pm (st.trans (.of sp)) (ra'.step sp) ⟨p, rfl, upd_same⟩
end
end Lt

set_option Elab.async false
set_option linter.all false
set_option maxRecDepth 100000
set_option maxHeartbeats 1000000
/-! k06: the law's helpers -/
namespace Lt
open PySem PySem.Spec PyProof.Rows L2
/-- a step: an input, a turn for no, a turn for yes -/
abbrev StepT := Nat × List Nat × List Nat
def StAt (H : Hp) (v : V) (s : StepT) : Prop := ∃ p x y, v = .ref p ∧ H p = some (.tup [nI s.1, x, y]) ∧ TN H x s.2.1 ∧ TN H y s.2.2
theorem StAt.tm {H H' : Hp} {v : V} {s : StepT} (e : Tm H H') (h : StAt H v s) : StAt H' v s := let ⟨p, x, y, h1, h2, h3, h4⟩ := h; ⟨p, x, y, h1, e.1 _ _ h2, h3.tm e, h4.tm e⟩
/-- what a row comes to on a row of bits -/
def stepV (bs : List Nat) (c : List Nat) (s : StepT) : List Nat := prod c (if bs.getD s.1 0 = 1 then s.2.2 else s.2.1)
def valS (n : Nat) (ss : List StepT) (bs : List Nat) : List Nat := ss.foldl (stepV bs) (List.range n)
structure StOk (n k : Nat) (s : StepT) : Prop where
  own : s.1 < k
  no : IsP n s.2.1
  yes : IsP n s.2.2
section
variable {P : Program} {w : World} {K : PySem.W.Frag} {mg : Str → Option Value} {base : Heap}
def spValue : Sp := fun vs H Q _ => ∃ (n k : Nat) (sv : V) (a b : Addr) (xs : List V) (ss : List StepT) (bs : List Nat), vs = [nI n, sv, .ref b] ∧ sv = .ref a ∧ H a = some (.tup xs) ∧ Paired (StAt H) xs ss ∧ (∀ s ∈ ss, StOk n k s) ∧ ss.length ≤ 1000 ∧ n ≤ 9 ∧ H b = some (.tup (nIs bs)) ∧ bs.length = k ∧ (∀ x ∈ bs, x ≤ 1) ∧
  ∀ r H', Same H H' → TK H' r (valS n ss bs) → Q r H'
theorem sc_law_value : FnScope ["places", "steps", "bits", "found", "step"] ["places", "steps", "bits"] (defScope s_law_value) := ⟨rfl, rfl, rfl, by decide +kernel, rfl, by decide +kernel, by decide +kernel⟩
theorem has_law_value (T : Top K mg "_law_value" s_law_value ["places", "steps", "bits"]) (B : Bi mg) (hB : Has P w K mg base CX0 1 "_law_behind" ["one", "other"] spProd) : Has P w K mg base CX0 2 "_law_value" ["places", "steps", "bits"] spValue := by
  refine T.ok sc_law_value (fun vs H Q E h => ?_) (fun f cdv A outer s H vs Q E hr h => ?_)
  · obtain ⟨n, k, sv, a, b, xs, ss, bs, rfl, _⟩ := h
    rfl
  · obtain ⟨n, k, sv, a, b, xs, ss, bs, rfl, rfl, ha, px, ok, hl, hn, hb, hbk, hb1, q⟩ := h
    have hr1 : Room 1 _ := hr.mono (by decide)
    refine ⟨_, pss_cons (ps_set (i := 3) sc_law_value.nd rfl (Or.inl rfl) (pe_tupRg (by rfl) (by rfl) B.tuple (prg_1 (by rfl) B.range (pv 0))))
      (pss_cons (ps_for PassesOwn.never rfl (pi_tup (pv 1)) (pg_name (i := 4) sc_law_value.nd rfl (Or.inl rfl))
        (pss_one (ps_set (i := 3) sc_law_value.nd rfl (Or.inl rfl) (pe_has hB hr1 (by rfl) (pa_cons (pv 3) (pa_cons (pe_ix ix_tup (pv 4) (pe_op op_add pe_int (pe_ix ix_tup (pv 2) (pe_ix ix_tup (pv 4) pe_int (fun _ _ => rfl)) (fun _ _ => rfl))) (fun _ _ => rfl)) pa_nil))))))
      (pss_one (ps_ret (pv 3)))), ?_⟩
    have lx := Paired.length px
    refine ⟨_, rfl, _, rfl, .of_le (by omega) (by omega) (by omega) (by omega), fun p0 hp0 => ?_⟩
    have s0 := same_new (o := .tup (rgV 0 (n : Int))) hp0
    have k0 : TK (upd H p0 (.tup (rgV 0 (n : Int)))) (.ref p0) (List.range n) := tn_of upd_same (rgV_nat n)
    refine ⟨_, rfl, a, rfl, ⟨xs, SqT.of (s0 _ _ ha)⟩, for_tup (K := K) (a := a) (xs := xs) (fun i σ H' => ∃ cur y4, σ = [some (nI n), some (.ref a), some (.ref b), some cur, y4] ∧ Same H H' ∧ TK H' cur (valS n (ss.take i) bs) ∧ IsP n (valS n (ss.take i) bs))
      ⟨.ref p0, none, rfl, s0, k0, .still n⟩ (fun i σ H' _ ⟨_, _, _, sm, _⟩ => SqT.of (sm _ _ ha)) ?_ ?_⟩
    · rintro i x σ H' hi ⟨cur, y4, rfl, sm, kc, ip⟩
      obtain ⟨s, hs, p, u, v, rfl, hp, hu, hv⟩ := Paired.getL px hi
      have so := ok s (List.mem_of_getElem? hs)
      have hbv : (nIs bs)[s.1]? = some (nI (bs.getD s.1 0)) := by
        rw [nIs_get, List.getElem?_eq_getElem (by have := so.own; omega), List.getD_eq_getElem?_getD, List.getElem?_eq_getElem (by have := so.own; omega)]
        rfl
      have hle : bs.getD s.1 0 ≤ 1 := by
        rw [List.getD_eq_getElem?_getD, List.getElem?_eq_getElem (by have := so.own; omega)]
        exact hb1 _ (List.getElem_mem _)
      have hx3 : ([nI s.1, u, v] : List V)[1 + bs.getD s.1 0]? = some (if bs.getD s.1 0 = 1 then v else u) := by
        have : bs.getD s.1 0 = 0 ∨ bs.getD s.1 0 = 1 := by omega
        rcases this with e | e <;> rw [e] <;> rfl
      have tz : TN H' (if bs.getD s.1 0 = 1 then v else u) (if bs.getD s.1 0 = 1 then s.2.2 else s.2.1) := by
        by_cases e : bs.getD s.1 0 = 1
        · rw [if_pos e, if_pos e]; exact hv.tm (.of sm)
        · rw [if_neg e, if_neg e]; exact hu.tm (.of sm)
      have iz : IsP n (if bs.getD s.1 0 = 1 then s.2.2 else s.2.1) := by
        by_cases e : bs.getD s.1 0 = 1
        · rw [if_pos e]; exact so.yes
        · rw [if_neg e]; exact so.no
      have e1 : (1 : Int) + ((bs.getD s.1 0 : Nat) : Int) = ((1 + bs.getD s.1 0 : Nat) : Int) := by omega
      refine ⟨_, rfl, _, rfl, _, rfl, _, rfl, p, _, 0, nI s.1, rfl, rfl, SqT.of (sm _ _ hp), rfl, b, _, ((s.1 : Nat) : Int), _, rfl, rfl, SqT.of (sm _ _ hb), atI_nat hbv, 1, ((bs.getD s.1 0 : Nat) : Int), rfl, rfl, p, _, _, _, rfl, rfl, SqT.of (sm _ _ hp), by rw [e1]; exact atI_nat hx3, ?_⟩
      refine ⟨cur, _, _, _, rfl, kc.tn, tz, fun j hj => by rw [iz.len]; exact ip.lt j hj, by rw [ip.len]; omega, fun r H2 s2 kr => ⟨_, _, rfl, sm.trans s2, ?_, ?_⟩⟩
      · rw [List.take_add_one, hs]
        unfold valS
        rw [List.foldl_append]
        exact kr
      · rw [List.take_add_one, hs]
        unfold valS
        rw [List.foldl_append]
        exact ip.prod iz
    · rintro σ H' ⟨cur, y4, rfl, sm, kc, ip⟩
      rw [lx, List.take_length] at kc
      exact ⟨_, rfl, q cur H' sm kc⟩
end
end Lt

set_option Elab.async false
set_option linter.all false
set_option maxRecDepth 100000
set_option maxHeartbeats 2000000
/-! rows.py: products -/
namespace Lt
open PySem PySem.Spec PyProof.Rows L2
abbrev prdN : List Str := ["made", "inputs", "row", "turns", "turn", "places", "leads", "reached", "own", "no", "yes", "chosen", "place", "before", "at"]
theorem sc_products : FnScope prdN ["made", "inputs", "row"] (defScope s_products) := ⟨rfl, rfl, rfl, by decide +kernel, rfl, by decide +kernel, by decide +kernel⟩
section
variable {P : Program} {w : World} {K : PySem.W.Frag} {mg : Str → Option Value} {base : Heap}
/-- a step whose turns may be keys -/
def StK (H : Hp) (v : V) (s : StepT) : Prop := ∃ p x y, v = .ref p ∧ H p = some (.tup [nI s.1, x, y]) ∧ TK H x s.2.1 ∧ TK H y s.2.2
theorem StK.tm {H H' : Hp} {v : V} {s : StepT} (e : Tm H H') (h : StK H v s) : StK H' v s := let ⟨p, x, y, h1, h2, h3, h4⟩ := h; ⟨p, x, y, h1, e.1 _ _ h2, h3.tm e, h4.tm e⟩
/-- what a row comes to at a place of a table -/
def valK (n : Nat) (ss : List StepT) (t : Nat) : List Nat := ss.foldl (fun c s => prod c (if t / 2 ^ s.1 % 2 = 1 then s.2.2 else s.2.1)) (List.range n)
def spProducts : Sp := fun vs H Q _ => ∃ (m ra : Addr) (L : List (List Nat × List Nat)) (n k : Nat) (xs : List V) (ss : List StepT), vs = [.ref m, nI k, .ref ra] ∧ DW H m L ∧ (∀ x ∈ L, IsP n x.1) ∧ 1 ≤ n ∧ n ≤ 9 ∧ L.length < 64 ∧ (L.map (·.1)).Nodup ∧ List.range n ∈ L.map (·.1) ∧ (∀ x ∈ L.map (·.1), ∀ y ∈ L.map (·.1), prod x y ∈ L.map (·.1)) ∧
  H ra = some (.tup xs) ∧ Paired (StK H) xs ss ∧ (∀ s ∈ ss, s.1 < k ∧ s.2.1 ∈ L.map (·.1) ∧ s.2.2 ∈ L.map (·.1)) ∧ ss.length ≤ 6000 ∧ 1 ≤ k ∧ k ≤ 6 ∧ ∀ r H', Same H H' → TTK H' r ((List.range (2 ^ k)).map (valK n ss)) → Q r H'
/-- where a turn leads all others, by their places -/
def ledL (ts : List (List Nat)) (t : List Nat) : List V := ts.map fun x => nI (ts.idxOf (prod x t))
/-- the dict of what is worked out -/
def LdOk (H : Hp) (ts : List (List Nat)) (lk : List (List Key × V)) : Prop := ∀ p ∈ lk, ∃ t la, p = (keyN t, V.ref la) ∧ t ∈ ts ∧ H la = some (.lst (ledL ts t))
theorem LdOk.get {H : Hp} {ts : List (List Nat)} {lk : List (List Key × V)} (h : LdOk H ts lk) {t : List Nat} {v : V} (e : valV lk (keyN t) = some v) : ∃ la, v = .ref la ∧ H la = some (.lst (ledL ts t)) := by
  unfold valV at e
  obtain ⟨p, hp, rfl⟩ := Option.map_eq_some_iff.mp e
  have h1 := List.find?_some hp
  have hm := List.mem_of_find?_eq_some hp
  obtain ⟨t', la, rfl, _, hl⟩ := h p hm
  have : keyN t' = keyN t := of_decide_eq_true h1
  rw [keyN_inj this] at hl
  exact ⟨la, rfl, hl⟩
theorem LdOk.same {H H' : Hp} {ts : List (List Nat)} {lk : List (List Key × V)} (h : LdOk H ts lk) (s : Same H H') : LdOk H' ts lk := fun p hp => let ⟨t, la, a, b, c⟩ := h p hp; ⟨t, la, a, b, s _ _ c⟩
theorem LdOk.put {H : Hp} {ts : List (List Nat)} {lk : List (List Key × V)} {ld : Addr} (h : LdOk H ts lk) (hd : H ld = some (.dT lk)) {t : List Nat} {la : Addr} (ht : t ∈ ts) (hl : H la = some (.lst (ledL ts t))) (hn : ∀ p ∈ lk, p.1 ≠ keyN t) : LdOk (upd H ld (.dT (putK lk (keyN t) (.ref la)))) ts (putK lk (keyN t) (.ref la)) := by
  rw [putK_app hn]
  intro p hp
  have ne : ∀ {a xs}, H a = some (.lst xs) → a ≠ ld := fun e z => by rw [z, hd] at e; cases e
  rcases List.mem_append.mp hp with hp | hp
  · obtain ⟨t', a', e1, e2, e3⟩ := h p hp
    exact ⟨t', a', e1, e2, (upd_ne (ne e3)).trans e3⟩
  · rw [List.mem_singleton.mp hp]
    exact ⟨t, la, rfl, ht, (upd_ne (ne hl)).trans hl⟩
theorem valV_no {κ : Type} [DecidableEq κ] {kvs : List (κ × V)} {k : κ} (h : valV kvs k = none) : ∀ p ∈ kvs, p.1 ≠ k := fun p hp e => by
  unfold valV at h
  have := List.find?_eq_none.mp (Option.map_eq_none_iff.mp h) p hp
  exact this (decide_eq_true e)
theorem val_places {ts : List (List Nat)} {y : List Nat} (nd : ts.Nodup) (h : y ∈ ts) : valV ((List.range ts.length).map fun i => (keyN (ts.getD i []), nI i)) (keyN y) = some (nI (ts.idxOf y)) := by
  have hi : ts.idxOf y < ts.length := List.idxOf_lt_length_of_mem h
  have e : ((List.range ts.length).map fun i => (keyN (ts.getD i []), nI i)).find? (fun kv => decide (kv.1 = keyN y)) = some (keyN (ts.getD (ts.idxOf y) []), nI (ts.idxOf y)) := by
    refine List.find?_eq_some_iff_getElem.mpr ⟨?_, ts.idxOf y, by rw [List.length_map, List.length_range]; exact hi, by rw [List.getElem_map, List.getElem_range], fun j hj => ?_⟩
    · rw [List.getD_eq_getElem?_getD, List.getElem?_eq_getElem hi, Option.getD_some, List.getElem_idxOf hi]
      exact decide_eq_true rfl
    · rw [List.getElem_map, List.getElem_range]
      have hjl : j < ts.length := by omega
      have hne : ts[j] ≠ y := fun z => by
        have := nd.idxOf_getElem j hjl
        rw [z] at this
        omega
      have : ¬ keyN (ts.getD j []) = keyN y := fun z => by
        have z := keyN_inj z
        rw [List.getD_eq_getElem?_getD, List.getElem?_eq_getElem hjl, Option.getD_some] at z
        exact hne z
      show (!decide (keyN (ts.getD j []) = keyN y)) = true
      rw [decide_eq_false this]
      rfl
  unfold valV
  rw [e]
  rfl
theorem has_products (T : Top K mg "products" s_products ["made", "inputs", "row"]) (B : Bi mg) (hP : Has P w K mg base CX0 1 "product_of" ["one", "other"] spProd) : Has P w K mg base CX0 3 "products" ["made", "inputs", "row"] spProducts := by
  refine T.ok sc_products (fun vs H Q E h => ?_) (fun f cdv A outer s H vs Q E hr h => ?_)
  · obtain ⟨m, ra, L, n, k, xs, ss, rfl, _⟩ := h
    rfl
  obtain ⟨m, ra, L, n, k, xs, ss, rfl, ⟨kvs, hk, pk⟩, hL, hn1, hn9, h64, hnd, hst, hcl, ha, px, ok, hss, hk1, hk6, q⟩ := h
  have hu := hr.units
  have hr1 : Room 1 (cxOf CX0 P w K mg base prdN "products" (defScope s_products) f cdv A outer s H E).nox.A := hr.mono (by decide)
  have hu1 : (cxOf CX0 P w K mg base prdN "products" (defScope s_products) f cdv A outer s H E).nox.A.units + 1 < cLine := by
    show (A.deeper _).units + 1 < cLine
    omega
  refine ⟨_, pss_cons (ps_set (i := 3) sc_products.nd rfl (Or.inr rfl) (pe_callB (cr_sortDT (d := n) (B := 9) (by rfl) hn1) (by rfl) B.sorted PyProof.Rows.boot_sorted (pa_cons (pv 0) pa_nil)))
    (pss_cons (ps_set (i := 5) sc_products.nd rfl (Or.inr rfl) (pe_dcT (own := [("place", 12), ("turn", 4)]) (g := gTup K 2 (gCons (gName 12) (gCons (gName 4) gNil))) (tk := tVar 4) (tv := tVar 12) hu1 (by rfl) sc_products.nd (pi_enum (by rfl) B.enumerate (pa_cons (pv 3) pa_nil)) (blkOk_by (own := [("place", 12), ("turn", 4)]) (N := prdN) (sc := defScope s_products) (by decide +kernel))
        (fun _ _ _ _ _ => pg_tup rfl (pgs_cons (pg_name (i := 12) sc_products.nd rfl (Or.inl rfl)) (pgs_cons (pg_name (i := 4) sc_products.nd rfl (Or.inl rfl)) pgs_nil))) (fun _ _ _ _ _ => pts_nil) (fun _ _ _ _ _ => pv 4) (fun _ _ _ _ _ => pv 12)))
    (pss_cons (ps_set (i := 6) sc_products.nd rfl (Or.inl rfl) pe_dnewT)
    (pss_cons (ps_set (i := 7) sc_products.nd rfl (Or.inl rfl) (pe_op op_rep (pe_lst (pa_cons pe_int pa_nil)) (pe_op op_shl pe_int (pv 1))))
    (pss_cons (ps_for PassesOwn.never rfl (pi_tup (pv 2)) (pg_tup rfl (pgs_cons (pg_name (i := 8) sc_products.nd rfl (Or.inr rfl)) (pgs_cons (pg_name (i := 9) sc_products.nd rfl (Or.inl rfl)) (pgs_cons (pg_name (i := 10) sc_products.nd rfl (Or.inl rfl)) pgs_nil))))
      (pss_cons (ps_for PassesOwn.never rfl (pi_tup (pe_tup (pa_cons (pv 9) (pa_cons (pv 10) pa_nil)))) (pg_name (i := 4) sc_products.nd rfl (Or.inr rfl))
        (pss_one (ps_if (pt_cmp (pc_dnotin hu1 (pv 4) (pv 6)))
          (pss_one (ps_dput hu1 (pv 6) (pv 4) (pe_lc (own := [("before", 13)]) (g := gName 13) (te := tDGet (tVar 5) (tCall spProd [] E0 (tCons (tVar 13) (tCons (tVar 4) tNil)))) (by rfl) sc_products.nd (pi_list (pv 3)) (blkOk_by (own := [("before", 13)]) (N := prdN) (sc := defScope s_products) (by decide +kernel))
            (fun _ _ _ _ _ => pg_name (i := 13) sc_products.nd rfl (Or.inl rfl)) (fun _ _ _ _ _ => pts_nil) (fun _ _ _ _ _ => pe_dget (by exact hu1) (pv 5) (pe_has hP hr1 (by rfl) (pa_cons (pv 13) (pa_cons (pv 4) pa_nil))) (fun _ _ => rfl))) rfl)) pss_nil)))
      (pss_cons (ps_set (i := 11) sc_products.nd rfl (Or.inr rfl) (pe_tup (pa_cons (pe_dget hu1 (pv 6) (pv 9) (fun _ _ => rfl)) (pa_cons (pe_dget hu1 (pv 6) (pv 10) (fun _ _ => rfl)) pa_nil))))
      (pss_one (ps_setLc (i := 7) (own := [("place", 12), ("at", 14)]) (g := gTup K 2 (gCons (gName 12) (gCons (gName 14) gNil))) (te := tOp (rIxL K) (tOp (rIxT K) (tVar 11) (tOp (fun x y H Q => ∃ (i : Int) (k : Nat), x = .int i ∧ y = .int (2 ^ k - 1) ∧ Q (.int (i % 2 ^ k)) H) (tOp (fun x y H Q => ∃ (i : Int) (k : Nat), x = .int i ∧ y = .int (k : Int) ∧ Q (.int (i / 2 ^ k)) H) (tVar 12) (tVar 8)) (tC (.int 1)))) (tVar 14)) (by rfl) sc_products.nd rfl rfl (sw_true rfl rfl rfl (by decide +kernel)) (pi_enum (by rfl) B.enumerate (pa_cons (pv 7) pa_nil)) (blkOk_by (own := [("place", 12), ("at", 14)]) (N := prdN) (sc := defScope s_products) (by decide +kernel))
        (fun _ _ _ _ _ => pg_tup rfl (pgs_cons (pg_name (i := 12) sc_products.nd rfl (Or.inl rfl)) (pgs_cons (pg_name (i := 14) sc_products.nd rfl (Or.inl rfl)) pgs_nil))) (fun _ _ _ _ _ => pts_nil) (fun _ _ _ _ _ => pe_ix ix_list (pe_ix ix_tup (pv 11) (pe_op op_andM (pe_op op_shrN (pv 12) (pv 8)) pe_int) (fun _ _ => rfl)) (pv 14) (fun _ _ => rfl)))))))
    (pss_one (ps_ret (pe_tupleOf (by rfl) B.tuple (pe_lc (own := [("at", 14)]) (g := gName 14) (te := tOp (rIxL K) (tVar 3) (tVar 14)) (by rfl) sc_products.nd (pi_list (pv 7)) (blkOk_by (own := [("at", 14)]) (N := prdN) (sc := defScope s_products) (by decide +kernel))
      (fun _ _ _ _ _ => pg_name (i := 14) sc_products.nd rfl (Or.inl rfl)) (fun _ _ _ _ _ => pts_nil) (fun _ _ _ _ _ => pe_ix ix_list (pv 3) (pv 14) (fun _ _ => rfl)))))))))), ?_⟩
  refine ⟨_, rfl, m, kvs, numL L, rfl, .inl hk, keysI pk, by rw [List.length_map]; exact h64, fun k hk => ?_, fun bs ks' tl pm so pr htl => ?_⟩
  · obtain ⟨x, hx, rfl⟩ := List.mem_map.mp hk
    exact ⟨by rw [List.length_map, (hL x hx).len], bd_iN (hL x hx) hn9⟩
  obtain ⟨ts, rfl⟩ := turns_back (L := L) fun k hk => pm.mem_iff.mp hk
  have pm2 : ts.Perm (L.map (·.1)) := perm_iN (by
    rw [List.map_map]
    exact pm)
  have hasc : Asc ts := (show ts.Pairwise fun x y => cd x ≤ cd y from (List.pairwise_map (f := iN) (R := fun x y => TS.code 9 x ≤ TS.code 9 y)).mp so)
  have tsP : ∀ t ∈ ts, IsP n t := fun t ht => by
    obtain ⟨x, hx, e⟩ := List.mem_map.mp (pm2.mem_iff.mp ht)
    rw [← e]
    exact hL x hx
  have tsnd : ts.Nodup := pm2.nodup_iff.mpr hnd
  have ts0 : ts[0]? = some (List.range n) := asc_head hn9 tsP hasc (pm2.mem_iff.mpr hst)
  have tsl : ts.length < 64 := by
    have := pm2.length_eq
    rw [List.length_map] at this
    omega
  have s1 := same_new (o := .lst (bs.map V.ref)) htl
  have kt : (upd H tl (.lst (bs.map V.ref))) tl = some (.lst (bs.map V.ref)) := upd_same
  have pt : Paired (TK (upd H tl (.lst (bs.map V.ref)))) (bs.map V.ref) ts := paired_mono (fun _ _ r => TK.tm (.of s1) r) (tns_of pr)
  have ltv := Paired.length pt
  generalize hgv : bs.map V.ref = tv at *
  generalize upd H tl (.lst tv) = H1 at *
  refine ⟨_, rfl, tl, tv, rfl, SqL.of kt, fun D hD => dcT_gen (J := Ite K tl) (n := tv.length) (fun i => keyN (ts.getD i [])) (fun i => nI i) (fun i j hi hj e => ?_) (by omega) hD (fun i H2 hi s2 => ⟨tv, _, SqL.of (s2 _ _ kt), List.getElem?_eq_getElem hi⟩) (fun H2 s2 => ⟨tv, SqL.of (s2 _ _ kt), Nat.le_refl _⟩) (fun i H2 x H3 hi s2 y => ?_) (fun H2 s2 hpl => ?_)⟩
  · have hi' : i < ts.length := by omega
    have hj' : j < ts.length := by omega
    have e := keyN_inj e
    rw [List.getD_eq_getElem?_getD, List.getD_eq_getElem?_getD, List.getElem?_eq_getElem hi', List.getElem?_eq_getElem hj'] at e
    exact List.getElem_inj tsnd |>.mp e
  · obtain ⟨T, x', rfl, hT, rfl, hx⟩ := y
    have hx := hx tv (SqL.of (s2 _ _ kt))
    obtain ⟨t, ht, b, rfl, hb⟩ := Paired.getL pt hx
    have et : ts.getD i [] = t := by rw [List.getD_eq_getElem?_getD, ht]; rfl
    rw [et]
    have sT := same_new (o := .tup [V.int (i : Nat), .ref b]) hT
    refine ⟨sT, _, fun Kk q => ⟨T, _, rfl, SqT.of upd_same, rfl, _, _, rfl, _, _, rfl, rfl, q⟩, rfl, fun H4 s4 Q q => ⟨_, rfl, q b _ (Same.refl _) ?_⟩, fun H4 s4 Q q => ⟨_, rfl, q _ (Same.refl _)⟩⟩
    show H4 b = some (.tup ((t.map fun n : Nat => (Sum.inl (Int.ofNat n) : Key)).map kV))
    rw [← nIs_key]
    exact s4 _ _ (sT _ _ (s2 _ _ hb))
  · refine fun ld hld => ?_
    have s3 := same_new (o := .dT []) hld
    refine ⟨by show 1 ≤ sizeLine; decide, fun l0 hl0 => ⟨_, rfl, 1, (k : Int), rfl, rfl, ⟨by omega, by omega, by decide⟩, ?_⟩⟩
    have e2 : (1 : Int) * 2 ^ (k : Int).toNat = ((2 ^ k : Nat) : Int) := by rw [Int.toNat_natCast, Int.one_mul, Int.natCast_pow]; rfl
    have h64k := pow6 hk6
    have s4 := same_new (o := .lst [V.int 0]) hl0
    show rRep (.ref l0) (.int ((1 : Int) * 2 ^ (k : Int).toNat)) _ _
    rw [e2]
    refine ⟨l0, ((2 ^ k : Nat) : Int), [V.int 0], rfl, rfl, upd_same, Int.le_trans (by decide) (Int.natCast_nonneg _), Int.lt_of_le_of_lt (Int.ofNat_le.mpr h64k) (by decide), (by rw [Int.toNat_natCast, sizeLine_eq]; show 1 * 2 ^ k ≤ _; omega), fun rl hrl => ?_⟩
    have s5 := same_new (o := .lst (List.replicate ((2 ^ k : Nat) : Int).toNat [V.int 0]).flatten) hrl
    have s35 := s3.trans (s4.trans s5)
    have hld5 := (s4.trans s5) _ _ (upd_same (H := H2) (a := ld) (o := HO.dT []))
    have s05 := s1.trans (s2.trans s35)
    have hld0 := hld
    refine ⟨_, rfl, ra, rfl, ⟨xs, SqT.of (s05 _ _ ha)⟩, for_tup (K := K) (a := ra) (xs := xs) (fun i σ H' => ∃ rl' lk y4 y8 y9 y10 y11, σ = [some (.ref m), some (nI k), some (.ref ra), some (.ref tl), y4, some (.ref D), some (.ref ld), some (.ref rl'), y8, y9, y10, y11, none, none, none] ∧ Same H2 H' ∧ H' ld = some (.dT lk) ∧ LdOk H' ts lk ∧ lk.length ≤ 2 * i ∧ H' rl' = some (.lst ((List.range (2 ^ k)).map fun p => nI (ts.idxOf (valK n (ss.take i) p)))) ∧ ∀ p, valK n (ss.take i) p ∈ ts)
      ⟨rl, [], none, none, none, none, none, rfl, s35, hld5, (fun p hp => by cases hp), Nat.zero_le _, ?_, fun p => pm2.mem_iff.mpr hst⟩ (fun i σ H' _ ⟨_, _, _, _, _, _, _, _, sm, _⟩ => SqT.of ((s1.trans (s2.trans sm)) _ _ ha)) ?_ ?_⟩
    · rw [upd_same, Int.toNat_natCast, rep_zero]
      congr 1
      congr 1
      have e0 : ts.idxOf (List.range n) = 0 := by
        cases ts with
        | nil => cases ts0
        | cons a r =>
          cases Option.some.inj ts0
          exact List.idxOf_cons_self
      have : (fun p => nI (ts.idxOf (valK n (ss.take 0) p))) = fun _ => nI 0 := by
        funext p
        show nI (ts.idxOf (List.range n)) = _
        rw [e0]
      rw [this, List.map_const', List.length_range]
      unfold nIs
      rw [List.map_replicate]
    · rintro i x σ H' hi ⟨rl', lk, y4, y8, y9, y10, y11, rfl, sm, hldT, lok, lkl, hrl', hmem⟩
      obtain ⟨st, hst', p, u, v, rfl, hp, hu', hv'⟩ := Paired.getL px hi
      have so := ok st (List.mem_of_getElem? hst')
      have s0H := s1.trans (s2.trans sm)
      refine ⟨p, _, rfl, SqT.of (s0H _ _ hp), rfl, nI st.1, _, rfl, u, _, rfl, v, _, rfl, rfl, ?_⟩
      refine ⟨_, rfl, _, rfl, by show 2 ≤ sizeLine; decide, fun gl hgl => ⟨gl, rfl, ⟨_, SqT.of upd_same⟩, ?_⟩⟩
      have sg := same_new (o := .tup [u, v]) hgl
      have kg : (upd H' gl (.tup [u, v])) gl = some (.tup [u, v]) := upd_same
      have smg := sm.trans sg
      have hldg := sg _ _ hldT
      have lokg := lok.same sg
      have hrlg := sg _ _ hrl'
      have hl1 : ld ≠ rl' := ne_of hldT hrl' (fun z => nomatch z)
      have hlk : ∀ t ∈ [st.2.1, st.2.2], t ∈ ts := fun t ht => by
        rcases List.mem_cons.mp ht with rfl | ht
        · exact pm2.mem_iff.mpr so.2.1
        · rw [List.mem_singleton.mp ht]
          exact pm2.mem_iff.mpr so.2.2
      generalize upd H' gl (.tup [u, v]) = Hg at *
      refine for_tup (K := K) (a := gl) (xs := [u, v]) (fun j σ H3 => ∃ lk3 z4, σ = [some (.ref m), some (nI k), some (.ref ra), some (.ref tl), z4, some (.ref D), some (.ref ld), some (.ref rl'), some (nI st.1), some u, some v, y11, none, none, none] ∧ Same H2 H3 ∧ Tm Hg H3 ∧ H3 gl = some (.tup [u, v]) ∧ H3 ld = some (.dT lk3) ∧ LdOk H3 ts lk3 ∧ lk3.length ≤ 2 * i + j ∧ H3 rl' = some (.lst ((List.range (2 ^ k)).map fun p => nI (ts.idxOf (valK n (ss.take i) p)))) ∧ ∀ j', j' < j → ∀ t, [st.2.1, st.2.2][j']? = some t → (valV lk3 (keyN t)).isSome = true)
        ⟨lk, y4, rfl, smg, Tm.refl _, kg, hldg, lokg, lkl, hrlg, fun j' h => absurd h (Nat.not_lt_zero j')⟩ (fun j σ H3 _ ⟨_, _, _, _, _, kg3, _⟩ => SqT.of kg3) ?_ ?_
      · rintro j x σ H3 hj ⟨lk3, z4, rfl, sm3, tm3, kg3, hld3, lok3, lkl3, hrl3, pre⟩
        obtain ⟨t, ht, htx⟩ : ∃ t, [st.2.1, st.2.2][j]? = some t ∧ TK Hg x t := by
          match j, hj with
          | 0, hj => cases Option.some.inj hj; exact ⟨_, rfl, hu'.tm (.of (s0H.trans sg))⟩
          | 1, hj => cases Option.some.inj hj; exact ⟨_, rfl, hv'.tm (.of (s0H.trans sg))⟩
        have htt := hlk t (List.mem_of_getElem? ht)
        have htx3 := htx.tm tm3
        obtain ⟨b, rfl, hb⟩ := htx3.key
        refine ⟨_, rfl, _, rfl, ld, _, rfl, DGet.t hld3 hb, _, rfl, ?_⟩
        have fin : ∀ {lk4 : List (List Key × V)} {j' : Nat}, (∀ t', (valV lk3 (keyN t')).isSome = true → (valV lk4 (keyN t')).isSome = true) → (valV lk4 (keyN t)).isSome = true → j' < j + 1 → ∀ t', [st.2.1, st.2.2][j']? = some t' → (valV lk4 (keyN t')).isSome = true := fun h1 h2 h3 t' ht' => by
          rcases Nat.lt_succ_iff_lt_or_eq.mp h3 with h | rfl
          · exact h1 t' (pre _ h t' ht')
          · rw [ht] at ht'
            cases ht'
            exact h2
        by_cases hin : (valV lk3 (keyN t)).isSome = true
        · rw [hin]
          exact iteF ⟨lk3, _, rfl, sm3, tm3, kg3, hld3, lok3, by omega, hrl3, fun j' h => fin (fun _ h => h) hin h⟩
        · have hno : valV lk3 (keyN t) = none := by
            cases e : valV lk3 (keyN t) with
            | none => rfl
            | some z => rw [e] at hin; exact absurd rfl hin
          have hf : (valV lk3 (keyN t)).isSome = false := by rw [hno]; rfl
          rw [hf]
          refine iteT ?_
          have htP := tsP t htt
          have j2 : j < 2 := (List.getElem?_eq_some_iff.mp hj).1
          have i6 : i < 6000 := by
            have := (List.getElem?_eq_some_iff.mp hi).1
            have := Paired.length px
            omega
          have ktl3 := (s2.trans sm3) _ _ kt
          have ptl3 : Paired (TK H3) tv ts := paired_mono (fun _ _ r => TK.tm (.of (s2.trans sm3)) r) pt
          refine ⟨_, rfl, tl, rfl, ⟨_, SqL.of ktl3⟩, fun D2 hD2 => lc_listM (K := K) (j := 13) (xs := tv) RN (ts.map fun x => ts.idxOf (prod x t)) (fun _ _ _ _ _ r => r) (fun H4 s4 => SqL.of (s4 _ _ ktl3)) (by omega) (by rw [List.length_map, ltv]) hD2 (fun x => rfl) (fun p' x' b' hx' hb' H4 s4 Q4 q4 => ?_) (fun H4 zs s4 hz pz => ?_)⟩
          · obtain ⟨y, hy, rx⟩ := Paired.getL ptl3 hx'
            rw [List.getElem?_map, hy] at hb'
            have hb' := (Option.some.inj hb').symm
            subst hb'
            have hyt := List.mem_of_getElem? hy
            have hpt : prod y t ∈ ts := pm2.mem_iff.mpr (hcl y (pm2.mem_iff.mp hyt) t (pm2.mem_iff.mp htt))
            have s24 := sm3.trans s4
            refine ⟨_, rfl, _, rfl, _, rfl, pr_call (rx.tm (.of s4)).tn (htx3.tm (.of s4)).tn (tsP y hyt) htP (by omega) fun w' H5 s5 hw' => ?_⟩
            obtain ⟨b5, rfl, hb5⟩ := hw'.key
            refine ⟨D, nI (ts.idxOf (prod y t)), rfl, ?_, q4 _ _ s5 rfl⟩
            have e := val_places tsnd hpt
            rw [← ltv] at e
            rw [← e]
            exact DGet.t ((s24.trans s5) _ _ hpl) hb5
          · have hz' : H4 D2 = some (.lst (ledL ts t)) := by
              rw [hz, RN.all pz]
              unfold nIs ledL
              rw [List.map_map]
              rfl
            have hld4 := s4 _ _ hld3
            have hb4 := s4 _ _ hb
            have hn := valV_no hno
            have tmd : Tm H4 (upd H4 ld (.dT (putK lk3 (keyN t) (.ref D2)))) := Tm.dT hld4
            refine ⟨_, rfl, _, rfl, ld, _, rfl, DPut.t hld4 hb4 (by rw [sizeLine_eq]; omega), ?_⟩
            refine ⟨putK lk3 (keyN t) (.ref D2), _, rfl, same_mut (sm3.trans s4) hld0, tm3.trans ((Tm.of s4).trans tmd), tmd.1 _ _ (s4 _ _ kg3), upd_same, (lok3.same s4).put hld4 htt hz' hn, ?_, ?_, fun j' h => fin (fun t' h' => ?_) ?_ h⟩
            · rw [putK_app hn, List.length_append]
              show lk3.length + 1 ≤ _
              omega
            · rw [upd_ne (ne_of (s4 _ _ hrl3) hld4 (fun z => nomatch z))]
              exact s4 _ _ hrl3
            · rw [putK_app hn]
              unfold valV at h' ⊢
              rw [List.find?_append]
              cases e : lk3.find? (fun kv => decide (kv.1 = keyN t')) with
              | none => rw [e] at h'; cases h'
              | some z => rfl
            · rw [putK_app hn]
              have e : lk3.find? (fun kv => decide (kv.1 = keyN t)) = none := Option.map_eq_none_iff.mp hno
              unfold valV
              rw [List.find?_append, e]
              show ((List.find? (fun kv => decide (kv.1 = keyN t)) [(keyN t, V.ref D2)]).map (·.2)).isSome = true
              rw [List.find?_cons_of_pos (by exact decide_eq_true rfl)]
              rfl
      · rintro σ H3 ⟨lk3, z4, rfl, sm3, tm3, kg3, hld3, lok3, lkl3, hrl3, pre⟩
        have g0 := pre 0 (show 0 < 2 by decide) _ rfl
        have g1 := pre 1 (show 1 < 2 by decide) _ rfl
        obtain ⟨v0, e0⟩ := Option.isSome_iff_exists.mp g0
        obtain ⟨v1, e1⟩ := Option.isSome_iff_exists.mp g1
        obtain ⟨l0, rfl, hl0⟩ := lok3.get e0
        obtain ⟨l1, rfl, hl1'⟩ := lok3.get e1
        obtain ⟨bu, rfl, hbu⟩ := ((hu'.tm (.of (s0H.trans sg))).tm tm3).key
        obtain ⟨bv, rfl, hbv⟩ := ((hv'.tm (.of (s0H.trans sg))).tm tm3).key
        refine ⟨_, rfl, _, rfl, ld, .ref l0, rfl, by rw [← e0]; exact DGet.t hld3 hbu, _, rfl, _, rfl, ld, .ref l1, rfl, by rw [← e1]; exact DGet.t hld3 hbv, by show 2 ≤ sizeLine; decide, fun c hc => ?_⟩
        have sc := same_new (o := .tup [V.ref l0, .ref l1]) hc
        have kc : (upd H3 c (.tup [V.ref l0, .ref l1])) c = some (.tup [V.ref l0, .ref l1]) := upd_same
        have hrc := sc _ _ hrl3
        have hl0c := sc _ _ hl0
        have hl1c := sc _ _ hl1'
        have hldc := sc _ _ hld3
        have lokc := lok3.same sc
        have smc := sm3.trans sc
        generalize upd H3 c (.tup [V.ref l0, .ref l1]) = Hc at *
        refine ⟨_, rfl, rl', _, rfl, SqL.of hrc, fun D3 hD3 => lc_genF (J := Ite K rl') (n := 2 ^ k) RN (fun _ => true) (fun p => ts.idxOf (valK n (ss.take (i + 1)) p)) (fun _ _ _ _ _ r => r) (by have := pow6 hk6; omega) hD3 (fun p H4 hp s4 => ⟨_, nI (ts.idxOf (valK n (ss.take i) p)), SqL.of (s4 _ _ hrc), by rw [List.getElem?_map, List.getElem?_range hp]; rfl⟩) (fun H4 s4 => ⟨_, SqL.of (s4 _ _ hrc), by rw [List.length_map, List.length_range]; exact Nat.le_refl _⟩) (fun p H4 x' H5 hp s4 y => ?_) (fun H4 zs s4 hz pz => ?_)⟩
        · obtain ⟨T, x'', rfl, hT, rfl, hx''⟩ := y
          have hx'' := hx'' _ (SqL.of (s4 _ _ hrc))
          rw [List.getElem?_map, List.getElem?_range hp] at hx''
          have hx'' := (Option.some.inj hx'').symm
          subst hx''
          have sT := same_new (o := .tup [V.int (p : Nat), nI (ts.idxOf (valK n (ss.take i) p))]) hT
          refine ⟨sT, _, fun Kk q => ⟨T, _, rfl, SqT.of upd_same, rfl, _, _, rfl, _, _, rfl, rfl, q⟩, rfl, fun Q q => q _ (Same.refl _), fun _ H6 s6 Q q => ?_⟩
          have s46 := s4.trans (sT.trans s6)
          have hc6 := s46 _ _ kc
          have hm : valK n (ss.take i) p ∈ ts := hmem p
          have hil : ts.idxOf (valK n (ss.take i) p) < ts.length := List.idxOf_lt_length_of_mem hm
          have hit : ts[ts.idxOf (valK n (ss.take i) p)]? = some (valK n (ss.take i) p) := by
            rw [List.getElem?_eq_getElem hil, List.getElem_idxOf hil]
          have hnx : valK n (ss.take (i + 1)) p = prod (valK n (ss.take i) p) (if p / 2 ^ st.1 % 2 = 1 then st.2.2 else st.2.1) := by
            rw [List.take_add_one, hst']
            unfold valK
            rw [List.foldl_append]
            rfl
          have led : ∀ t, (ledL ts t)[ts.idxOf (valK n (ss.take i) p)]? = some (nI (ts.idxOf (prod (valK n (ss.take i) p) t))) := fun t => by
            unfold ledL
            rw [List.getElem?_map, hit]
            rfl
          have ebit : ((p : Nat) : Int) / 2 ^ st.1 % 2 ^ 1 = ((p / 2 ^ st.1 % 2 : Nat) : Int) := by
            rw [Int.natCast_emod, Int.natCast_ediv, Int.natCast_pow]
            rfl
          refine ⟨_, rfl, _, rfl, _, rfl, ((p : Nat) : Int), st.1, rfl, rfl, ((p : Nat) : Int) / 2 ^ st.1, 1, rfl, rfl, ?_⟩
          rw [ebit]
          by_cases hb : p / 2 ^ st.1 % 2 = 1
          · rw [hb]
            rw [if_pos hb] at hnx
            refine ⟨c, _, _, .ref l1, rfl, rfl, SqT.of hc6, rfl, _, rfl, l1, _, _, _, rfl, rfl, SqL.of (s46 _ _ hl1c), atI_nat (led _), q _ _ (Same.refl _) ?_⟩
            rw [hnx]
            rfl
          · have hb0 : p / 2 ^ st.1 % 2 = 0 := by omega
            rw [hb0]
            rw [if_neg hb] at hnx
            refine ⟨c, _, _, .ref l0, rfl, rfl, SqT.of hc6, rfl, _, rfl, l0, _, _, _, rfl, rfl, SqL.of (s46 _ _ hl0c), atI_nat (led _), q _ _ (Same.refl _) ?_⟩
            rw [hnx]
            rfl
        · have hfl : (List.range (2 ^ k)).filter (fun _ => true) = List.range (2 ^ k) := List.filter_eq_self.mpr fun _ _ => rfl
          rw [hfl] at pz
          refine ⟨D3, lk3, _, _, _, _, _, rfl, smc.trans s4, s4 _ _ hldc, lokc.same s4, ?_, ?_, fun p => ?_⟩
          · have : [V.ref bu, V.ref bv].length = 2 := rfl
            omega
          · rw [hz, RN.all pz]
            unfold nIs
            rw [List.map_map]
            rfl
          · rw [List.take_add_one, hst']
            unfold valK
            rw [List.foldl_append]
            have := hmem p
            refine pm2.mem_iff.mpr (hcl _ (pm2.mem_iff.mp this) _ ?_)
            split
            · exact so.2.2
            · exact so.2.1
    · rintro σ H' ⟨rl', lk, y4, y8, y9, y10, y11, rfl, sm, hld, lok, _, hrl', hmem⟩
      have lx := Paired.length px
      rw [lx, List.take_length] at hrl' hmem
      have s0H := s1.trans (s2.trans sm)
      have ktl := (s2.trans sm) _ _ kt
      have ptl : Paired (TK H') tv ts := paired_mono (fun _ _ r => TK.tm (.of (s2.trans sm)) r) pt
      refine ⟨_, rfl, rl', rfl, ⟨_, SqL.of hrl'⟩, fun D2 hD2 => lc_listM (K := K) (j := 14) (xs := (List.range (2 ^ k)).map fun p => nI (ts.idxOf (valK n ss p))) (fun H v t => TK H v t) ((List.range (2 ^ k)).map (valK n ss)) (fun _ _ _ _ e r => TK.tm e r) (fun H4 s4 => SqL.of (s4 _ _ hrl')) (by rw [List.length_map, List.length_range]; omega) (by rw [List.length_map, List.length_map]) hD2 (fun x => rfl) (fun p x b hx hb H4 s4 Q4 q4 => ?_) (fun H4 zs s4 hz pz => ?_)⟩
      · rw [List.getElem?_map] at hx hb
        obtain ⟨p', hp', rfl⟩ := Option.map_eq_some_iff.mp hx
        rw [hp'] at hb
        have hb := (Option.some.inj hb).symm
        subst hb
        have hi : ts.idxOf (valK n ss p') < ts.length := List.idxOf_lt_length_of_mem (hmem p')
        have hit : ts[ts.idxOf (valK n ss p')]? = some (valK n ss p') := by
          rw [List.getElem?_eq_getElem hi, List.getElem_idxOf hi]
        obtain ⟨v, hv⟩ : ∃ v, tv[ts.idxOf (valK n ss p')]? = some v := ⟨_, List.getElem?_eq_getElem (by omega)⟩
        obtain ⟨t, ht, rt⟩ := Paired.getL ptl hv
        rw [hit] at ht
        cases ht
        exact ⟨_, rfl, _, rfl, tl, tv, _, v, rfl, rfl, SqL.of (s4 _ _ ktl), atI_nat hv, q4 _ _ (Same.refl _) (rt.tm (.of s4))⟩
      · exact .inl ⟨D2, zs, rfl, SqL.of hz, fun p hp => q _ _ ((s0H.trans s4).trans (same_new hp)) ⟨p, zs, rfl, upd_same, paired_mono (fun _ _ r => TK.tm (.of (same_new hp)) r) pz⟩⟩
end
end Lt

set_option Elab.async false
set_option linter.all false
set_option maxRecDepth 100000
set_option maxHeartbeats 2000000
/-! rows.py: worths, written, writes -/
namespace Lt
open PySem PySem.Spec PyProof.Rows L2
def dS (s : StepT) : PyData := .tuple [dN s.1, dT s.2.1, dT s.2.2]
theorem StK.rp {H : Hp} {v : V} {s : StepT} (h : StK H v s) : Rp H v (dS s) := by
  obtain ⟨p, x, y, rfl, hp, hx, hy⟩ := h
  exact .tup (.inl hp) (.cons (.int _) (.cons hx.tn.rp (.cons hy.tn.rp .nil)))
theorem StKs.rp {H : Hp} : ∀ {xs : List V} {ss : List StepT}, Paired (StK H) xs ss → RpAll H xs (ss.map dS)
  | _, _, .nil => .nil
  | _, _, .cons r t => .cons r.rp (StKs.rp t)
/-- a row's tuple, whose turns may be keys -/
def RwK (H : Hp) (v : V) (ss : List StepT) : Prop := ∃ a xs, v = .ref a ∧ H a = some (.tup xs) ∧ Paired (StK H) xs ss
theorem RwK.tm {H H' : Hp} {v : V} {ss : List StepT} (e : Tm H H') (h : RwK H v ss) : RwK H' v ss := let ⟨a, xs, h1, h2, h3⟩ := h; ⟨a, xs, h1, e.1 _ _ h2, paired_mono (fun _ _ r => StK.tm e r) h3⟩
theorem RwK.rp {H : Hp} {v : V} {ss : List StepT} (h : RwK H v ss) : Rp H v (.tuple (ss.map dS)) := by
  obtain ⟨a, xs, rfl, ha, hx⟩ := h
  exact .tup (.inl ha) (StKs.rp hx)
theorem lenT {t : List Nat} {m : Nat} (h : t.length ≤ m) : ∀ ds, dT t = .tuple ds → ds.length ≤ m := fun ds e => by
  injection e with e
  subst e
  rw [List.length_map]
  exact h
theorem sml3_S {n : Nat} {s : StepT} (h1 : s.2.1.length ≤ 1000) (h2 : s.2.2.length ≤ 1000) : Sml3 (dS s) := fun ds e => by
  injection e with e
  subst e
  refine ⟨by show 3 ≤ 1000; decide, fun e he es ee => ?_⟩
  simp only [List.mem_cons, List.not_mem_nil, or_false] at he
  rcases he with rfl | rfl | rfl
  · cases ee
  · exact lenT h1 _ ee
  · exact lenT h2 _ ee
theorem stepD_S (L : List (List Nat × List Nat)) (k : Nat) (s : StepT) : stepD L k (dS s) = (decide (s.1 < k) && decide (s.2.1 ∈ L.map (·.1)) && decide (s.2.2 ∈ L.map (·.1))) := by
  show (ownD k (.int (s.1 : Int)) && isTurnD L (dT s.2.1) && isTurnD L (dT s.2.2)) = _
  rw [isTurnD_dT, isTurnD_dT]
  congr 2
  show (decide ((0 : Int) ≤ (s.1 : Int)) && decide ((s.1 : Int) < (k : Int))) = _
  rw [decide_eq_true (Int.natCast_nonneg _), Bool.true_and]
  exact decide_eq_decide.mpr Int.ofNat_lt
/-- a row of a lock for so many inputs -/
structure RowOk (ls : List (List Nat)) (n k : Nat) (ss : List StepT) : Prop where
  ok : ∀ s ∈ ss, s.1 < k ∧ Mk ls n s.2.1 ∧ Mk ls n s.2.2
  len : ss.length ≤ 6000
theorem RowOk.step {ls : List (List Nat)} {n k : Nat} {ss : List StepT} {H : Hp} {v : V} (h : RowOk ls n k ss) (g : Good H v ls n) : ∀ e ∈ ss.map dS, stepD (LL ls n) k e = true := fun e he => by
  obtain ⟨s, hs, rfl⟩ := List.mem_map.mp he
  obtain ⟨h1, h2, h3⟩ := h.ok s hs
  rw [stepD_S, decide_eq_true h1, decide_eq_true ((g.mem _).mpr h2), decide_eq_true ((g.mem _).mpr h3)]
  rfl
theorem RowOk.sml {ls : List (List Nat)} {n k : Nat} {ss : List StepT} {H : Hp} {v : V} (h : RowOk ls n k ss) (g : Good H v ls n) : ∀ e ∈ ss.map dS, Sml3 e := fun e he => by
  obtain ⟨s, hs, rfl⟩ := List.mem_map.mp he
  obtain ⟨_, h2, h3⟩ := h.ok s hs
  have := g.gl.2.2.2.1
  exact sml3_S (n := n) (by rw [(g.isP h2).len]; omega) (by rw [(g.isP h3).len]; omega)
section
variable {P : Program} {w : World} {K : PySem.W.Frag} {mg : Str → Option Value} {base : Heap} {CL CM CT CN CR CK : Addr}
/-- the argument row: what is none, or a row of which q -/
def RowIn (CR : Addr) (H : Hp) (E : XK) (rv : V) (ls : List (List Nat)) (n k : Nat) (q : List StepT → Prop) : Prop :=
  (∃ ss, RwK H rv ss ∧ RowOk ls n k ss ∧ q ss) ∨
  ∃ pre e post, Rp H rv (.tuple (pre ++ e :: post)) ∧ (pre ++ e :: post).length ≤ 6000 ∧ (∀ x ∈ pre ++ e :: post, Sml3 x) ∧ (∀ x ∈ pre, stepD (LL ls n) k x = true) ∧ stepD (LL ls n) k e = false ∧ BadF CR "place" (nI pre.length) H E
/-- check_row's promise from it -/
theorem RowIn.check {H H1 : Hp} {E : XK} {v rv : V} {ls : List (List Nat)} {n k : Nat} {q : List StepT → Prop} {m : Addr} {Q : VK} (h : RowIn CR H E rv ls n k q) (g : Good H v ls n) (s : Same H H1) (dw : DW H1 m (LL ls n))
    (go : ∀ ss, RwK H rv ss → RowOk ls n k ss → q ss → ∀ H', Same H1 H' → Q .non H') : spCheckRow CR [.ref m, nI k, rv] H1 Q E := by
  rcases h with ⟨ss, hr, ok, q0⟩ | ⟨pre, e, post, hrp, hl, hs, h1, h2, bad⟩
  · exact ⟨m, LL ls n, k, rv, ss.map dS, rfl, dw, (hr.tm (.of s)).rp, by rw [List.length_map]; exact ok.len, ok.sml g, .inl ⟨ok.step g, go ss hr ok q0⟩⟩
  · exact ⟨m, LL ls n, k, rv, pre ++ e :: post, rfl, dw, Rp.same s _ _ hrp, hl, hs, .inr ⟨pre, e, post, rfl, h1, h2, bad.same s⟩⟩
/-- products' promise from it -/
theorem prods {H H1 : Hp} {v rv : V} {ls : List (List Nat)} {n k : Nat} {m : Addr} {Q : VK} {ss : List StepT} (g : Good H v ls n) (dw : DW H1 m (LL ls n)) (hr : RwK H1 rv ss) (ok : RowOk ls n k ss) (k1 : 1 ≤ k) (k6 : k ≤ 6)
    (q : ∀ r H', Same H1 H' → TTK H' r ((List.range (2 ^ k)).map (valK n ss)) → Q r H') : spProducts [.ref m, nI k, rv] H1 Q E0 := by
  obtain ⟨a, xs, rfl, ha, hx⟩ := hr
  have hP : ∀ x ∈ LL ls n, IsP n x.1 := fun x hx => g.isP ((g.mem _).mp (List.mem_map.mpr ⟨x, hx, rfl⟩))
  refine ⟨m, a, LL ls n, n, k, xs, ss, rfl, dw, hP, by have := g.gl.2.2.1; omega, g.gl.2.2.2.1, by have := LL_len g.few; omega, LL_nd ls n, (g.mem _).mpr .still, fun x hx y hy => (g.mem _).mpr (((g.mem x).mp hx).prod g.gl.2.2.2.2 ((g.mem y).mp hy)), ha, hx, fun s hs => ?_, ok.len, k1, k6, q⟩
  obtain ⟨h1, h2, h3⟩ := ok.ok s hs
  exact ⟨h1, (g.mem _).mpr h2, (g.mem _).mpr h3⟩
theorem valK_mk {ls : List (List Nat)} {n k : Nat} {ss : List StepT} (hg : ∀ g ∈ ls, IsP n g) (ok : ∀ s ∈ ss, s.1 < k ∧ Mk ls n s.2.1 ∧ Mk ls n s.2.2) (p : Nat) : Mk ls n (valK n ss p) := by
  unfold valK
  have go : ∀ (ss : List StepT) (c : List Nat), Mk ls n c → (∀ s ∈ ss, s.1 < k ∧ Mk ls n s.2.1 ∧ Mk ls n s.2.2) → Mk ls n (ss.foldl (fun c s => prod c (if p / 2 ^ s.1 % 2 = 1 then s.2.2 else s.2.1)) c) := by
    intro ss
    induction ss with
    | nil => intro c h _; exact h
    | cons s ss ih =>
      intro c h o
      refine ih _ ?_ fun s' hs => o s' (List.mem_cons_of_mem _ hs)
      obtain ⟨_, h1, h2⟩ := o s List.mem_cons_self
      refine h.prod hg ?_
      split
      · exact h2
      · exact h1
  exact go ss _ .still ok
/-- what a row comes to, by places of a table -/
abbrev valsK (n k : Nat) (ss : List StepT) : List (List Nat) := (List.range (2 ^ k)).map (valK n ss)
theorem valsK_len (n k : Nat) (ss : List StepT) : (valsK n k ss).length = 2 ^ k := by rw [List.length_map, List.length_range]
def spWorths (CN CR : Addr) : Sp := fun vs H Q E => ∃ (v kv rv : V) (ls : List (List Nat)) (n : Nat), vs = [v, kv, rv] ∧ Good H v ls n ∧
  ((∃ d, Rp H kv d ∧ outD d ∧ Bad0 CN H E) ∨ ∃ k, kv = nI k ∧ 1 ≤ k ∧ k ≤ 6 ∧ RowIn CR H E rv ls n k fun ss => ∀ r H', Same H H' → TTK H' r (valsK n k ss) → Q r H')
theorem sc_worths : FnScope ["lock", "inputs", "row", "made"] ["lock", "inputs", "row"] (defScope s_worths) := ⟨rfl, rfl, rfl, by decide +kernel, rfl, by decide +kernel, by decide +kernel⟩
theorem has_worths (T : Top K mg "worths" s_worths ["lock", "inputs", "row"]) (hM : Has P w K mg base (L2.CX P w) 5 "made_words" ["lock"] (spMade CL CM)) (hI : Has P w K mg base (L2.CX P w) 3 "check_inputs" ["inputs"] (spCheckI CN)) (hR : Has P w K mg base (L2.CX P w) 5 "check_row" ["made", "inputs", "row"] (spCheckRow CR))
    (hP : Has P w K mg base CX0 3 "products" ["made", "inputs", "row"] spProducts) : Has P w K mg base (L2.CX P w) 6 "worths" ["lock", "inputs", "row"] (spWorths CN CR) := by
  refine T.okX sc_worths (fun vs H Q E h => ?_) (fun f cdv A outer s H vs Q E hr h => ?_)
  · obtain ⟨v, kv, rv, ls, n, rfl, _⟩ := h
    rfl
  · obtain ⟨v, kv, rv, ls, n, rfl, g, cs⟩ := h
    have hr3 : Room 3 _ := hr.mono (by decide)
    refine ⟨_, pss_cons (ps_set (i := 3) sc_worths.nd rfl (Or.inl rfl) (pe_hasX (E := E) hM hr (by rfl) (passes_call (takes_of rfl rfl rfl rfl) (fun _ _ _ _ h => h)) (pa_cons (pv 0) pa_nil)))
      (pss_cons (ps_expr (pe_hasX (E := E) hI hr3 (by rfl) (passes_call (takes_of rfl rfl rfl rfl) (fun _ _ _ _ h => h)) (pa_cons (pv 1) pa_nil)))
      (pss_cons (ps_expr (pe_hasX (E := E) hR hr (by rfl) (passes_call (takes_of rfl rfl rfl rfl) (fun _ _ _ _ h => h)) (pa_cons (pv 3) (pa_cons (pv 1) (pa_cons (pv 2) pa_nil)))))
      (pss_one (ps_ret (pe_has hP hr3 (by rfl) (pa_cons (pv 3) (pa_cons (pv 1) (pa_cons (pv 2) pa_nil)))))))), ?_⟩
    refine ⟨_, rfl, v, rfl, lockIn_good g.tt g.gl g.few (by omega) fun m H1 L s1 hm dw hL _ => ?_⟩
    have eL := g.wd hL
    subst eL
    rcases cs with ⟨d, hd, out, bad⟩ | ⟨k, rfl, k1, k6, rin⟩
    · exact ⟨_, rfl, kv, d, rfl, Rp.same s1 _ _ hd, .inr ⟨out, bad.same s1⟩⟩
    · refine ⟨_, rfl, nI k, .int k, rfl, .int _, .inl ⟨k, rfl, k1, k6, _, rfl, _, rfl, _, rfl, ?_⟩⟩
      dsimp only [tNil, List.cons_append, List.nil_append, List.append_nil]
      refine rin.check g s1 dw fun ss hr ok q0 H2 s2 => ?_
      exact ⟨_, rfl, _, rfl, _, rfl, prods g (dw.same s2) (hr.tm (.of (s1.trans s2))) ok k1 k6 fun r H3 s3 tt => q0 r H3 ((s1.trans s2).trans s3) tt⟩
/-- the argument turn: what is none, or a turn of which q -/
def TurnIn (CT : Addr) (H : Hp) (E : XK) (tv : V) (ls : List (List Nat)) (n : Nat) (q : List Nat → Prop) : Prop :=
  (∃ t, TN H tv t ∧ Mk ls n t ∧ q t) ∨ ∃ d, Rp H tv d ∧ (∀ ds, d = .tuple ds → ds.length ≤ 1000) ∧ isTurnD (LL ls n) d = false ∧ Bad0 CT H E
theorem TurnIn.check {H H1 : Hp} {E : XK} {v tv : V} {ls : List (List Nat)} {n : Nat} {q : List Nat → Prop} {m : Addr} {Q : VK} (h : TurnIn CT H E tv ls n q) (g : Good H v ls n) (s : Same H H1) (dw : DW H1 m (LL ls n))
    (go : ∀ t, TN H tv t → Mk ls n t → q t → ∀ H', Same H1 H' → Q .non H') : spCheckTurn CT [.ref m, tv] H1 Q E := by
  rcases h with ⟨t, ht, mt, q0⟩ | ⟨d, hd, hl, hf, bad⟩
  · have hlen : t.length ≤ 1000 := by have := (g.isP mt).len; have := g.gl.2.2.2.1; omega
    exact ⟨m, LL ls n, tv, dT t, rfl, dw, (ht.tm (.of s)).rp, lenT hlen, fun _ => go t ht mt q0, fun z => (by rw [isTurnD_dT, decide_eq_true ((g.mem t).mpr mt)] at z; cases z)⟩
  · exact ⟨m, LL ls n, tv, d, rfl, dw, Rp.same s _ _ hd, hl, fun z => (by rw [hf] at z; cases z), fun _ => bad.same s⟩
def spWritten (CN CR CT : Addr) : Sp := fun vs H Q E => ∃ (v rv tv : V) (ls : List (List Nat)) (n k : Nat), vs = [v, nI k, rv, tv] ∧ Good H v ls n ∧ 1 ≤ k ∧ k ≤ 6 ∧
  RowIn CR H E rv ls n k fun ss => TurnIn CT H E tv ls n fun t => ∀ r H', Same H H' → TK H' r (yesT (valsK n k ss) t) → Q r H'
theorem sc_written : FnScope ["lock", "inputs", "row", "turn", "made"] ["lock", "inputs", "row", "turn"] (defScope s_written) := ⟨rfl, rfl, rfl, by decide +kernel, rfl, by decide +kernel, by decide +kernel⟩
theorem has_written (T : Top K mg "written" s_written ["lock", "inputs", "row", "turn"]) (hM : Has P w K mg base (L2.CX P w) 5 "made_words" ["lock"] (spMade CL CM)) (hI : Has P w K mg base (L2.CX P w) 3 "check_inputs" ["inputs"] (spCheckI CN)) (hR : Has P w K mg base (L2.CX P w) 5 "check_row" ["made", "inputs", "row"] (spCheckRow CR))
    (hC : Has P w K mg base (L2.CX P w) 4 "check_turn" ["made", "turn"] (spCheckTurn CT)) (hP : Has P w K mg base CX0 3 "products" ["made", "inputs", "row"] spProducts) (hY : Has P w K mg base CX0 1 "yes_where" ["reached", "turn"] spYes) : Has P w K mg base (L2.CX P w) 6 "written" ["lock", "inputs", "row", "turn"] (spWritten CN CR CT) := by
  refine T.okX sc_written (fun vs H Q E h => ?_) (fun f cdv A outer s H vs Q E hr h => ?_)
  · obtain ⟨v, rv, tv, ls, n, k, rfl, _⟩ := h
    rfl
  · obtain ⟨v, rv, tv, ls, n, k, rfl, g, k1, k6, rin⟩ := h
    have hr3 : Room 3 _ := hr.mono (by decide)
    have hr4 : Room 4 _ := hr.mono (by decide)
    have hr1 : Room 1 _ := hr.mono (by decide)
    refine ⟨_, pss_cons (ps_set (i := 4) sc_written.nd rfl (Or.inl rfl) (pe_hasX (E := E) hM hr (by rfl) (passes_call (takes_of rfl rfl rfl rfl) (fun _ _ _ _ h => h)) (pa_cons (pv 0) pa_nil)))
      (pss_cons (ps_expr (pe_hasX (E := E) hI hr3 (by rfl) (passes_call (takes_of rfl rfl rfl rfl) (fun _ _ _ _ h => h)) (pa_cons (pv 1) pa_nil)))
      (pss_cons (ps_expr (pe_hasX (E := E) hR hr (by rfl) (passes_call (takes_of rfl rfl rfl rfl) (fun _ _ _ _ h => h)) (pa_cons (pv 4) (pa_cons (pv 1) (pa_cons (pv 2) pa_nil)))))
      (pss_cons (ps_expr (pe_hasX (E := E) hC hr4 (by rfl) (passes_call (takes_of rfl rfl rfl rfl) (fun _ _ _ _ h => h)) (pa_cons (pv 4) (pa_cons (pv 3) pa_nil))))
      (pss_one (ps_ret (pe_has hY hr1 (by rfl) (pa_cons (pe_has hP hr3 (by rfl) (pa_cons (pv 4) (pa_cons (pv 1) (pa_cons (pv 2) pa_nil)))) (pa_cons (pv 3) pa_nil)))))))), ?_⟩
    refine ⟨_, rfl, v, rfl, lockIn_good g.tt g.gl g.few (by omega) fun m H1 L s1 hm dw hL _ => ?_⟩
    have eL := g.wd hL
    subst eL
    refine ⟨_, rfl, nI k, .int k, rfl, .int _, .inl ⟨k, rfl, k1, k6, _, rfl, _, rfl, _, rfl, ?_⟩⟩
    dsimp only [tNil, List.cons_append, List.nil_append, List.append_nil]
    refine rin.check g s1 dw fun ss hr ok q0 H2 s2 => ?_
    have s02 := s1.trans s2
    refine ⟨_, rfl, _, rfl, ?_⟩
    dsimp only [tNil, List.cons_append, List.nil_append, List.append_nil]
    refine q0.check g s02 (dw.same s2) fun t ht mt q1 H3 s3 => ?_
    have s03 := s02.trans s3
    refine ⟨_, rfl, _, rfl, _, rfl, prods g (dw.same (s2.trans s3)) (hr.tm (.of s03)) ok k1 k6 fun r H4 s4 tt => ⟨_, rfl, r, tv, valsK n k ss, t, rfl, tt.tt, ht.tm (.of (s03.trans s4)), by rw [valsK_len]; have := pow6 k6; omega, fun y H5 s5 ty => q1 y H5 (s03.trans (s4.trans s5)) ty⟩⟩
def spWrites (CR CT CK : Addr) : Sp := fun vs H Q E => ∃ (v bv rv tv : V) (ls : List (List Nat)) (n : Nat), vs = [v, bv, rv, tv] ∧ Good H v ls n ∧
  ((∃ d, Rp H bv d ∧ (∀ ds, d = .tuple ds → ds.length ≤ 1000) ∧ isTask d = false ∧ Bad0 CK H E) ∨
   ∃ p k bs, TK H bv bs ∧ Tsk p k bs ∧ RowIn CR H E rv ls n k fun ss => TurnIn CT H E tv ls n fun t => ∀ H', Same H H' → Q (.bl (decide (yesT (valsK n k ss) t = bs))) H')
theorem sc_writes : FnScope ["lock", "table", "row", "turn", "made", "inputs"] ["lock", "table", "row", "turn"] (defScope s_writes) := ⟨rfl, rfl, rfl, by decide +kernel, rfl, by decide +kernel, by decide +kernel⟩
theorem has_writes (T : Top K mg "writes" s_writes ["lock", "table", "row", "turn"]) (hM : Has P w K mg base (L2.CX P w) 5 "made_words" ["lock"] (spMade CL CM)) (hI : Has P w K mg base (L2.CX P w) 3 "check_table" ["table"] (spCheckT CK)) (hO : Has P w K mg base CX0 1 "inputs_of" ["table"] spInsOf) (hR : Has P w K mg base (L2.CX P w) 5 "check_row" ["made", "inputs", "row"] (spCheckRow CR))
    (hC : Has P w K mg base (L2.CX P w) 4 "check_turn" ["made", "turn"] (spCheckTurn CT)) (hP : Has P w K mg base CX0 3 "products" ["made", "inputs", "row"] spProducts) (hY : Has P w K mg base CX0 1 "yes_where" ["reached", "turn"] spYes) : Has P w K mg base (L2.CX P w) 6 "writes" ["lock", "table", "row", "turn"] (spWrites CR CT CK) := by
  refine T.okX sc_writes (fun vs H Q E h => ?_) (fun f cdv A outer s H vs Q E hr h => ?_)
  · obtain ⟨v, bv, rv, tv, ls, n, rfl, _⟩ := h
    rfl
  · obtain ⟨v, bv, rv, tv, ls, n, rfl, g, cs⟩ := h
    have hu := hr.units
    have hr3 : Room 3 _ := hr.mono (by decide)
    have hr4 : Room 4 _ := hr.mono (by decide)
    have hr1 : Room 1 _ := hr.mono (by decide)
    refine ⟨_, pss_cons (ps_set (i := 4) sc_writes.nd rfl (Or.inl rfl) (pe_hasX (E := E) hM hr (by rfl) (passes_call (takes_of rfl rfl rfl rfl) (fun _ _ _ _ h => h)) (pa_cons (pv 0) pa_nil)))
      (pss_cons (ps_expr (pe_hasX (E := E) hI hr3 (by rfl) (passes_call (takes_of rfl rfl rfl rfl) (fun _ _ _ _ h => h)) (pa_cons (pv 1) pa_nil)))
      (pss_cons (ps_set (i := 5) sc_writes.nd rfl (Or.inl rfl) (pe_has hO hr1 (by rfl) (pa_cons (pv 1) pa_nil)))
      (pss_cons (ps_expr (pe_hasX (E := E) hR hr (by rfl) (passes_call (takes_of rfl rfl rfl rfl) (fun _ _ _ _ h => h)) (pa_cons (pv 4) (pa_cons (pv 5) (pa_cons (pv 2) pa_nil)))))
      (pss_cons (ps_expr (pe_hasX (E := E) hC hr4 (by rfl) (passes_call (takes_of rfl rfl rfl rfl) (fun _ _ _ _ h => h)) (pa_cons (pv 4) (pa_cons (pv 3) pa_nil))))
      (pss_one (ps_ret (pe_cmpR (op_eqD hu) (pe_has hY hr1 (by rfl) (pa_cons (pe_has hP hr3 (by rfl) (pa_cons (pv 4) (pa_cons (pv 5) (pa_cons (pv 2) pa_nil)))) (pa_cons (pv 3) pa_nil))) (pv 1) (nomark _)))))))), ?_⟩
    refine ⟨_, rfl, v, rfl, lockIn_good g.tt g.gl g.few (by omega) fun m H1 L s1 hm dw hL _ => ?_⟩
    have eL := g.wd hL
    subst eL
    rcases cs with ⟨d, hd, hl, hf, bad⟩ | ⟨p, k, bs, tb, tk, rin⟩
    · exact ⟨_, rfl, bv, d, rfl, Rp.same s1 _ _ hd, hl, .inr ⟨hf, bad.same s1⟩⟩
    · have k1 := tk.n1
      have k6 := tk.n6
      refine ⟨_, rfl, bv, dT bs, rfl, (tb.tm (.of s1)).tn.rp, lenT (by have := tk.len; have := pow6 k6; omega), .inl ⟨tsk_tab tk, fun H2 s2 => ?_⟩⟩
      have s02 := s1.trans s2
      refine ⟨_, rfl, bv, bs, k, rfl, tb.tm (.of s02), tk.len, k6, _, rfl, _, rfl, _, rfl, ?_⟩
      dsimp only [tNil, List.cons_append, List.nil_append, List.append_nil]
      refine rin.check g s02 (dw.same s2) fun ss hr ok q0 H3 s3 => ?_
      have s03 := s02.trans s3
      refine ⟨_, rfl, _, rfl, ?_⟩
      dsimp only [tNil, List.cons_append, List.nil_append, List.append_nil]
      refine q0.check g s03 (dw.same (s2.trans s3)) fun t ht mt q1 H4 s4 => ?_
      have s04 := s03.trans s4
      refine ⟨_, rfl, _, rfl, _, rfl, prods g (dw.same (s2.trans (s3.trans s4))) (hr.tm (.of s04)) ok k1 k6 fun r H5 s5 tt => ⟨_, rfl, r, tv, valsK n k ss, t, rfl, tt.tt, ht.tm (.of (s04.trans s5)), by rw [valsK_len]; have := pow6 k6; omega, fun y H6 s6 ty => ?_⟩⟩
      have s56 := s5.trans s6
      exact ⟨_, rfl, dT (yesT (valsK n k ss) t), dT bs, ty.tn.dp, (tb.tm (.of (s04.trans s56))).tn.dp, sh_T _, sh_T _, by rw [eqv_dT]; exact q1 H6 (s04.trans s56)⟩
end
end Lt

set_option Elab.async false
set_option linter.all false
set_option maxRecDepth 100000
set_option maxHeartbeats 4000000
/-! set(xs) of a long list of tuples of ints, of which few are unlike -/
namespace L2
open PySem PySem.Spec PyProof.Rows
/-- few unlike ones among the items -/
def FewOf (ks : List (Addr × List Int)) : Prop := ∀ L : List (Addr × List Int), (L.map (·.2)).Nodup → (∀ p ∈ L, p ∈ ks) → L.length ≤ 62
/-- what is held when the first i items have been added -/
def Held (ks : List (Addr × List Int)) (i : Nat) (L : List (Addr × List Int)) : Prop := (∀ p ∈ L, p ∈ ks) ∧ ∀ j p, j < i → ks[j]? = some p → p.2 ∈ L.map (·.2)
theorem Held.zero (ks : List (Addr × List Int)) : Held ks 0 [] := ⟨fun p z => (nomatch z), fun j p z => absurd z (Nat.not_lt_zero j)⟩
theorem Held.add {ks L L' : List (Addr × List Int)} {i : Nat} {p : Addr × List Int} (g : Held ks i L) (h : ks[i]? = some p) (h1 : p.2 ∈ L.map (·.2) → L' = L) (h2 : p.2 ∉ L.map (·.2) → L'.Perm (p :: L)) : Held ks (i + 1) L' := by
  by_cases c : p.2 ∈ L.map (·.2)
  · rw [h1 c]
    refine ⟨g.1, fun j q hj e => ?_⟩
    by_cases ej : j = i
    · subst ej
      rw [h] at e
      rw [← Option.some.inj e]
      exact c
    · exact g.2 j q (by omega) e
  · have pm := h2 c
    refine ⟨fun q hq => ?_, fun j q hj e => ?_⟩
    · rcases List.mem_cons.mp (pm.mem_iff.mp hq) with z | z
      · rw [z]
        exact List.mem_of_getElem? h
      · exact g.1 q z
    · rw [(pm.map (·.2)).mem_iff, List.map_cons]
      by_cases ej : j = i
      · subst ej
        rw [h] at e
        rw [← Option.some.inj e]
        exact List.mem_cons_self
      · exact List.mem_cons_of_mem _ (g.2 j q (by omega) e)
section
variable {P : Program} {w : World} {A : Around} {E : Value → Shared → Prop} {s : Shared}
/-- a void set, just made -/
abbrev voidSet (w : World) : Obj := { cls := .type "set", dict := none, data := .set #[] 0 (.fresh 0 0 (!w.params.followText "set-order")) }
/-- the machine's loop that adds what is walked -/
theorem adds {I S : Addr} {fp wr : List Addr} {G : Array GenState → Array GenState → Prop} {n : Nat} {Pv : Nat → Value → Prop} {St : Nat → Shared → Prop} {R : Result → Shared → Prop} {ks : List (Addr × List Int)} {h0 : Heap}
    (W : WalksS P w A.in1 I fp wr G n Pv St) (out : S ∉ fp) (size : n = ks.length) (few : FewOf ks) (items : ∀ i v, Pv i v → ∃ p, ks[i]? = some p ∧ v = .ref p.1)
    (tups : ∀ p ∈ ks, IsT P w h0 p.2 p.1) (newS : h0.get? S = none) (newW : ∀ b ∈ wr, h0.get? b = none) (room : A.in1.units < cLine)
    (end_ : ∀ (s' : Shared) L es ep t, Moved (S :: wr) G s s' → SetTR P w s'.heap S L es ep t → Held ks n L → (∀ b o, h0.get? b = some o → s'.heap.get? b = some o) → R (.ok (.ret .none)) s') :
    ∀ (left i : Nat) (s1 : Shared), i + left = n → St i s1 → (∀ b o, h0.get? b = some o → s1.heap.get? b = some o) → Moved (S :: wr) G s s1 → (∃ L es ep t, SetTR P w s1.heap S L es ep t ∧ Held ks i L) →
      codeAny (model P w) A (.builtin "set.update.loop" ⟨[.ref S, .ref I], []⟩) R s1 := by
  have Sw : S ∉ wr := fun m => out (W.sub _ m)
  have wider : ∀ {s2 s3 : Shared}, Moved wr G s2 s3 → Moved (S :: wr) G s2 s3 := fun m => m.mono fun b hb => List.mem_cons_of_mem _ hb
  intro left
  induction left with
  | zero =>
    intro i s1 hi hst old mv ⟨L, es, ep, t, hS, g⟩
    obtain rfl : i = n := by omega
    refine codeAny_builtin F.entry_set_update_loop ?_
    rw [Around.under_plainId F.plain_set_update_loop _]
    show wpAny _ A.in1 (pyNext (.ref I) >>= _) _ _ s1
    refine wpAny_bind (W.done s1 _ _ hst fun s2 m => ?_)
    have old2 : ∀ b o, h0.get? b = some o → s2.heap.get? b = some o := fun b o e => m.heap b o (fun z => nomatch (newW b z).symm.trans e) (old b o e)
    show wpAny _ A.in1 (ret Value.none) _ _ s2
    exact wpAny_pure (end_ s2 L es ep t (Moved.trans W.gtrans mv (wider m)) (hS.keep (fun o e => m.heap S o Sw e) fun p hp => isT_keep (tups p (g.1 p hp)) old2) g old2)
  | succ left ih =>
    intro i s1 hi hst old mv ⟨L, es, ep, t, hS, g⟩
    refine codeAny_builtin F.entry_set_update_loop ?_
    rw [Around.under_plainId F.plain_set_update_loop _]
    show wpAny _ A.in1 (pyNext (.ref I) >>= _) _ _ s1
    refine wpAny_bind (W.item i s1 _ _ (by omega) hst fun v s2 hv hst2 m => ?_)
    obtain ⟨p, hp, rfl⟩ := items i v hv
    have old2 : ∀ b o, h0.get? b = some o → s2.heap.get? b = some o := fun b o e => m.heap b o (fun z => nomatch (newW b z).symm.trans e) (old b o e)
    have hS2 : SetTR P w s2.heap S L es ep t := hS.keep (fun o e => m.heap S o Sw e) fun q hq => isT_keep (tups q (g.1 q hq)) old2
    have hx : IsT P w s2.heap p.2 p.1 := isT_keep (tups p (List.mem_of_getElem? hp)) old2
    have short : L.length ≤ 62 := few L hS.nd g.1
    show wpAny _ A.in1 (holding [Value.ref p.1] (setAdd S (.ref p.1)) >>= _) _ _ s2
    refine wpAny_bind (wpAny_holding ?_)
    unfold setAdd
    refine wpAny_holding (wpAny_bind (wpAny_pyHash_tuple room hx ?_))
    refine add_at (s := { s2 with toks := s2.toks + (p.2.length + 1) }) hS2 hx room (by omega) fun b h3 L3 es3 ep3 t3 same hS3 c1 c2 => ?_
    have old3 : ∀ b o, h0.get? b = some o → h3.get? b = some o := fun b o e => (same.2 b (fun z => by subst z; exact nomatch newS.symm.trans e)).trans (old2 b o e)
    refine wpAny_pure ⟨plainId_quiet F.plain_set_update_loop _, ih (i + 1) _ (by omega) (W.frame _ s2 _ _ hst2 (Nat.le_add_right _ _) fun b hb o e => ?_) old3 (Moved.trans W.gtrans mv ((wider m).then_heap (Nat.le_add_right _ _) fun b o hb e => ?_)) ⟨L3, es3, ep3, t3, hS3, g.add hp c1 c2⟩⟩
    · exact (same.2 b (fun z => out (z ▸ hb))).trans e
    · exact (same.2 b (fun z => hb (z ▸ List.mem_cons_self))).trans e

set_option maxHeartbeats 3200000 in
/-- set(xs), xs a list of tuples of ints of which few are unlike -/
theorem made_set {l : Addr} {items : Array Value} {ks : List (Addr × List Int)} {Q : Value → Shared → Prop} (hh : A.handled = none) (hl : s.heap.IsList l items) (hit : items.toList = ks.map fun p => Value.ref p.1)
    (tups : ∀ p ∈ ks, IsT P w s.heap p.2 p.1) (few : FewOf ks) (room : A.units + 3 < cLine)
    (q : ∀ (h1 : Heap) (tk : Nat) L es ep t, SetTR P w h1 s.heap.objs.size L es ep t → Held ks ks.length L → (∀ b o, s.heap.get? b = some o → h1.get? b = some o) → Q (.ref s.heap.objs.size) { s with heap := h1, toks := tk }) :
    wpAny (model P w) A (call (.type "set") [.ref l]) Q E s := by
  have count : items.size = ks.length := by
    rw [← Array.length_toList, hit, List.length_map]
  have old : ∀ {b : Addr}, s.heap.objs.size ≤ b → s.heap.get? b = none := fun {b} hb => by
    cases e : s.heap.get? b with
    | none => rfl
    | some o => exact absurd (Nat.lt_of_lt_of_le (Heap.lt_size e) hb) (Nat.lt_irrefl _)
  obtain ⟨c, tl, hmro⟩ := F.called_set.mro
  have m1 := F.called_set.made
  have m2 := F.called_set.sub
  have m3 := F.called_set.notType
  have m4 := F.called_set.canCreate
  have m5 := F.typeCall_set_1 (.ref l)
  refine wpAny_call (codeAny_of_tree (show wpAny _ _ (callAny (.type "set") _) _ _ _ from wpAny_pure ⟨Code.quiet_builtin _ (by decide +kernel), codeAny_builtin F.entry_type_call ?_⟩))
  rw [Around.under_plain (weight_type_call_type "set" [.ref l] []) rfl]
  repeat any_goals first | assumption | wp_step
  refine codeAny_mono (code_set_led1 (.ref l) (E := E) (Q₁ := fun u s1 => u = .ref s.heap.objs.size ∧ s1 = { s with heap := s.heap.push (voidSet w) }) ⟨rfl, rfl⟩) fun r s1 hr => ?_
  cases r with
  | error e => exact hr
  | ok fl =>
  cases fl with
  | ret u =>
    obtain ⟨rfl, rfl⟩ := hr
    have hS : (s.heap.push (voidSet w)).get? s.heap.objs.size = some (voidSet w) := Heap.get?_push_size _ rfl
    have hT : Shared.TypeIs { s with heap := s.heap.push (voidSet w) } (.ref s.heap.objs.size) "set" := ⟨_, hS, rfl⟩
    have m6 := F.called_set.init.lookup
    have m7 := F.called_set.init.bind (.ref s.heap.objs.size)
    repeat any_goals first | assumption | wp_step
    refine codeAny_mono (codeAny_call_builtin (R := wants (fun r s2 => r = .none ∧ ∃ h1 tk L es ep t, s2 = { s with heap := h1, toks := tk } ∧ SetTR P w h1 s.heap.objs.size L es ep t ∧ Held ks ks.length L ∧ ∀ b o, s.heap.get? b = some o → h1.get? b = some o) E)
      F.called_set.init.plain F.entry_set_init (check_set_init_1 hT ?_)) fun r2 s2 hr2 => ?_
    · have hl1 : (s.heap.push (voidSet w)).IsList l items := hl.push _
      obtain ⟨⟨c1, d1, t1, z1⟩, g1, rfl, n1, rfl⟩ := id hl1
      have k1 := F.sub_list_set
      have k2 := F.sub_list_frozenset
      have k3 : (Value.type "list" == Value.type "dict") = false := by decide
      unfold Builtin.«set.__init__» noKeywords Builtin.Frozenset.updateFrom
      generalize eIt : pyIter = It
      wp_walk
      subst eIt
      refine wpAny_pyIter_list hl1 (wpAny_bind (wpAny_runValue ?_))
      have lS : l ≠ s.heap.objs.size := fun z => by
        obtain ⟨o, ho, _⟩ := hl
        exact absurd (z ▸ Heap.lt_size ho) (Nat.lt_irrefl _)
      have sz : (s.heap.push (voidSet w)).objs.size = s.heap.objs.size + 1 := Heap.size_push ..
      have lI : l ≠ (s.heap.push (voidSet w)).objs.size := fun z => by
        obtain ⟨o, ho, _⟩ := hl
        rw [sz] at z
        exact absurd (Nat.lt_succ_of_lt (z ▸ Heap.lt_size ho)) (Nat.lt_irrefl _)
      refine adds (S := s.heap.objs.size) (h0 := s.heap) ((Walks.list (by simp [hh]) _ l lI items).toS) (fun m => ?_) count few (fun i v hv => ?_) tups (old (Nat.le_refl _)) (fun b hb => old ?_) room (fun s3 L es ep t mv hS3 g keep => ?_) items.size 0 _ (Nat.zero_add _)
        ⟨⟨_, Heap.get?_push_size _ rfl, rfl, rfl⟩, hl1.push _⟩ (fun b o e => Heap.get?_push_of_some _ (Heap.get?_push_of_some _ e)) (Moved.refl fun _ => rfl) ⟨[], #[], 0, _, setTR_fresh (Heap.get?_push_of_some _ hS), Held.zero ks⟩
      · rw [sz] at m
        rcases List.mem_cons.mp m with z | m
        · exact absurd z (Nat.ne_of_lt (Nat.lt_succ_self _))
        · exact lS (List.mem_singleton.mp m).symm
      · have z : items.toList[i]? = some v := by rw [Array.getElem?_toList]; exact hv
        rw [hit, List.getElem?_map] at z
        obtain ⟨p, hp, e⟩ := Option.map_eq_some_iff.mp z
        exact ⟨p, hp, e.symm⟩
      · rw [List.mem_singleton.mp hb, sz]
        exact Nat.le_succ _
      · obtain ⟨h3, g3, d3, k3', o3⟩ := s3
        obtain rfl : g3 = s.gens := mv.gens
        obtain rfl : d3 = s.drawn := mv.drawn
        obtain rfl : o3 = s.os := mv.os
        show wpAny _ _ _ _ _ _
        refine wpAny_pure (show wpAny _ _ (ret Value.none) _ _ _ from wpAny_pure ⟨rfl, h3, k3', L, es, ep, t, rfl, hS3, ?_, keep⟩)
        rw [← count]
        exact g
    · cases r2 with
      | error e => exact hr2
      | ok fl2 =>
      cases fl2 with
      | ret u =>
        obtain ⟨rfl, h1, tk, L, es, ep, t, rfl, hS1, g, keep⟩ := hr2
        repeat any_goals first | assumption | wp_step
        exact q _ _ _ _ _ _ hS1 g keep
      | _ => exact hr2.elim
  | _ => exact hr.elim
end
section
variable {X : Cx}
/-- set(xs), xs a list of tuples of ints, of which few are unlike -/
def rSetFew (K : PySem.W.Frag) (P : Program) (w : World) : List V → Hp → VK → Prop := fun xs H Q => ∃ (l : Addr) (ks : List (Addr × List Int)), xs = [V.ref l] ∧ SqL K H l (ks.map fun p => V.ref p.1) ∧ (∀ p ∈ ks, SqT K H p.1 (p.2.map V.int)) ∧ FewOf ks ∧
  ∀ a L, H a = none → (∀ p ∈ L, p ∈ ks) → (∀ p ∈ ks, p.2 ∈ L.map (·.2)) → Q (.ref a) (upd H a (SetTO P w a L))
theorem cr_setFew (hc : X.calm = true) (hu : X.A.units + 64 < cLine) : CallR X (.type "set") (rSetFew X.K X.prog X.w) := by
  intro pins s σ H xs us Q I r h
  obtain ⟨l, ks, rfl, hl, hk, hf, q⟩ := h
  rw [Vals.ref1 r]
  obtain ⟨its, rv, pl, hz⟩ := I.list hl
  have hn : H s.heap.objs.size = none := I.hok.fresh (Nat.le_refl _)
  refine made_set (P := X.prog) (w := X.w) (ks := ks) (I.ok.hd hc) pl.isList (by simpa using refs_of_vals rv) (fun p hp => I.isT (hk p hp)) hf (by omega) fun h1 tk L es ep t R g k => ⟨.ref s.heap.objs.size, upd H s.heap.objs.size (SetTO X.prog X.w s.heap.objs.size L), ?_, rfl, ?_⟩
  · exact I.laid (t' := tk) k (Nat.le_refl _) (setTO_new R.t0)
  · refine q _ L hn g.1 fun p hp => ?_
    obtain ⟨j, hj, e⟩ := List.getElem_of_mem hp
    exact g.2 j p hj (by rw [List.getElem?_eq_getElem hj, e])
end
end L2

set_option Elab.async false
set_option linter.all false
set_option maxRecDepth 100000
set_option maxHeartbeats 4000000
/-! set(t), t a tuple of tuples of ints of which few are unlike -/
namespace L2
open PySem PySem.Spec PyProof.Rows
section
variable {P : Program} {w : World} {A : Around} {E : Value → Shared → Prop} {s : Shared}
set_option maxHeartbeats 3200000 in
/-- set(xs), xs a list of tuples of ints of which few are unlike -/
theorem made_setU {l : Addr} {items : Array Value} {ks : List (Addr × List Int)} {Q : Value → Shared → Prop} (hh : A.handled = none) (hl : s.heap.IsTuple l items) (hit : items.toList = ks.map fun p => Value.ref p.1)
    (tups : ∀ p ∈ ks, IsT P w s.heap p.2 p.1) (few : FewOf ks) (room : A.units + 3 < cLine)
    (q : ∀ (h1 : Heap) (tk : Nat) L es ep t, SetTR P w h1 s.heap.objs.size L es ep t → Held ks ks.length L → (∀ b o, s.heap.get? b = some o → h1.get? b = some o) → Q (.ref s.heap.objs.size) { s with heap := h1, toks := tk }) :
    wpAny (model P w) A (call (.type "set") [.ref l]) Q E s := by
  have count : items.size = ks.length := by
    rw [← Array.length_toList, hit, List.length_map]
  have old : ∀ {b : Addr}, s.heap.objs.size ≤ b → s.heap.get? b = none := fun {b} hb => by
    cases e : s.heap.get? b with
    | none => rfl
    | some o => exact absurd (Nat.lt_of_lt_of_le (Heap.lt_size e) hb) (Nat.lt_irrefl _)
  obtain ⟨c, tl, hmro⟩ := F.called_set.mro
  have m1 := F.called_set.made
  have m2 := F.called_set.sub
  have m3 := F.called_set.notType
  have m4 := F.called_set.canCreate
  have m5 := F.typeCall_set_1 (.ref l)
  refine wpAny_call (codeAny_of_tree (show wpAny _ _ (callAny (.type "set") _) _ _ _ from wpAny_pure ⟨Code.quiet_builtin _ (by decide +kernel), codeAny_builtin F.entry_type_call ?_⟩))
  rw [Around.under_plain (weight_type_call_type "set" [.ref l] []) rfl]
  repeat any_goals first | assumption | wp_step
  refine codeAny_mono (code_set_led1 (.ref l) (E := E) (Q₁ := fun u s1 => u = .ref s.heap.objs.size ∧ s1 = { s with heap := s.heap.push (voidSet w) }) ⟨rfl, rfl⟩) fun r s1 hr => ?_
  cases r with
  | error e => exact hr
  | ok fl =>
  cases fl with
  | ret u =>
    obtain ⟨rfl, rfl⟩ := hr
    have hS : (s.heap.push (voidSet w)).get? s.heap.objs.size = some (voidSet w) := Heap.get?_push_size _ rfl
    have hT : Shared.TypeIs { s with heap := s.heap.push (voidSet w) } (.ref s.heap.objs.size) "set" := ⟨_, hS, rfl⟩
    have m6 := F.called_set.init.lookup
    have m7 := F.called_set.init.bind (.ref s.heap.objs.size)
    repeat any_goals first | assumption | wp_step
    refine codeAny_mono (codeAny_call_builtin (R := wants (fun r s2 => r = .none ∧ ∃ h1 tk L es ep t, s2 = { s with heap := h1, toks := tk } ∧ SetTR P w h1 s.heap.objs.size L es ep t ∧ Held ks ks.length L ∧ ∀ b o, s.heap.get? b = some o → h1.get? b = some o) E)
      F.called_set.init.plain F.entry_set_init (check_set_init_1 hT ?_)) fun r2 s2 hr2 => ?_
    · have hl1 : (s.heap.push (voidSet w)).IsTuple l items := hl.push _
      obtain ⟨⟨c1, d1, t1, z1⟩, g1, rfl, n1, rfl⟩ := id hl1
      have k1 := F.sub_tuple_set
      have k2 := F.sub_tuple_frozenset
      have k3 : (Value.type "list" == Value.type "dict") = false := by decide
      unfold Builtin.«set.__init__» noKeywords Builtin.Frozenset.updateFrom
      generalize eIt : pyIter = It
      wp_walk
      subst eIt
      refine wpAny_pyIter_tuple hl1 (wpAny_bind (wpAny_runValue ?_))
      have lS : l ≠ s.heap.objs.size := fun z => by
        obtain ⟨o, ho, _⟩ := hl
        exact absurd (z ▸ Heap.lt_size ho) (Nat.lt_irrefl _)
      have sz : (s.heap.push (voidSet w)).objs.size = s.heap.objs.size + 1 := Heap.size_push ..
      have lI : l ≠ (s.heap.push (voidSet w)).objs.size := fun z => by
        obtain ⟨o, ho, _⟩ := hl
        rw [sz] at z
        exact absurd (Nat.lt_succ_of_lt (z ▸ Heap.lt_size ho)) (Nat.lt_irrefl _)
      refine adds (S := s.heap.objs.size) (h0 := s.heap) ((Walks.tuple (by simp [hh]) _ l lI items).toS) (fun m => ?_) count few (fun i v hv => ?_) tups (old (Nat.le_refl _)) (fun b hb => old ?_) room (fun s3 L es ep t mv hS3 g keep => ?_) items.size 0 _ (Nat.zero_add _)
        ⟨⟨_, Heap.get?_push_size _ rfl, rfl, rfl⟩, hl1.push _⟩ (fun b o e => Heap.get?_push_of_some _ (Heap.get?_push_of_some _ e)) (Moved.refl fun _ => rfl) ⟨[], #[], 0, _, setTR_fresh (Heap.get?_push_of_some _ hS), Held.zero ks⟩
      · rw [sz] at m
        rcases List.mem_cons.mp m with z | m
        · exact absurd z (Nat.ne_of_lt (Nat.lt_succ_self _))
        · exact lS (List.mem_singleton.mp m).symm
      · have z : items.toList[i]? = some v := by rw [Array.getElem?_toList]; exact hv
        rw [hit, List.getElem?_map] at z
        obtain ⟨p, hp, e⟩ := Option.map_eq_some_iff.mp z
        exact ⟨p, hp, e.symm⟩
      · rw [List.mem_singleton.mp hb, sz]
        exact Nat.le_succ _
      · obtain ⟨h3, g3, d3, k3', o3⟩ := s3
        obtain rfl : g3 = s.gens := mv.gens
        obtain rfl : d3 = s.drawn := mv.drawn
        obtain rfl : o3 = s.os := mv.os
        show wpAny _ _ _ _ _ _
        refine wpAny_pure (show wpAny _ _ (ret Value.none) _ _ _ from wpAny_pure ⟨rfl, h3, k3', L, es, ep, t, rfl, hS3, ?_, keep⟩)
        rw [← count]
        exact g
    · cases r2 with
      | error e => exact hr2
      | ok fl2 =>
      cases fl2 with
      | ret u =>
        obtain ⟨rfl, h1, tk, L, es, ep, t, rfl, hS1, g, keep⟩ := hr2
        repeat any_goals first | assumption | wp_step
        exact q _ _ _ _ _ _ hS1 g keep
      | _ => exact hr2.elim
  | _ => exact hr.elim
end
section
variable {X : Cx}
/-- set(xs), xs a list of tuples of ints, of which few are unlike -/
def rSetFewT (K : PySem.W.Frag) (P : Program) (w : World) : List V → Hp → VK → Prop := fun xs H Q => ∃ (l : Addr) (ks : List (Addr × List Int)), xs = [V.ref l] ∧ SqT K H l (ks.map fun p => V.ref p.1) ∧ (∀ p ∈ ks, SqT K H p.1 (p.2.map V.int)) ∧ FewOf ks ∧
  ∀ a L, H a = none → (∀ p ∈ L, p ∈ ks) → (∀ p ∈ ks, p.2 ∈ L.map (·.2)) → Q (.ref a) (upd H a (SetTO P w a L))
theorem cr_setFewT (hc : X.calm = true) (hu : X.A.units + 64 < cLine) : CallR X (.type "set") (rSetFewT X.K X.prog X.w) := by
  intro pins s σ H xs us Q I r h
  obtain ⟨l, ks, rfl, hl, hk, hf, q⟩ := h
  rw [Vals.ref1 r]
  obtain ⟨its, rv, pl, hz⟩ := I.tuple hl
  have hn : H s.heap.objs.size = none := I.hok.fresh (Nat.le_refl _)
  refine made_setU (P := X.prog) (w := X.w) (ks := ks) (I.ok.hd hc) pl (by simpa using refs_of_vals rv) (fun p hp => I.isT (hk p hp)) hf (by omega) fun h1 tk L es ep t R g k => ⟨.ref s.heap.objs.size, upd H s.heap.objs.size (SetTO X.prog X.w s.heap.objs.size L), ?_, rfl, ?_⟩
  · exact I.laid (t' := tk) k (Nat.le_refl _) (setTO_new R.t0)
  · refine q _ L hn g.1 fun p hp => ?_
    obtain ⟨j, hj, e⟩ := List.getElem_of_mem hp
    exact g.2 j p hj (by rw [List.getElem?_eq_getElem hj, e])
end
end L2

set_option linter.all false
set_option Elab.async false
set_option maxHeartbeats 1000000
/-! commutators: given turns stand for any turn -/
namespace Lt
def cm (x y : List Nat) : List Nat := prod (prod x y) (inv (prod y x))
section
variable {n : Nat}
theorem pas {x y : List Nat} (z : List Nat) (hx : IsP n x) (hy : IsP n y) : prod (prod x y) z = prod x (prod y z) := prod_assoc fun i hi => by rw [hy.len]; exact hx.lt i hi
theorem pc1 {x z : List Nat} (hx : IsP n x) (hz : IsP n z) : prod (inv x) (prod x z) = z := by
  rw [← pas z hx.inv hx, prod_inv_l hx, prod_still_l hz.len]
theorem pc2 {x z : List Nat} (hx : IsP n x) (hz : IsP n z) : prod x (prod (inv x) z) = z := by
  rw [← pas z hx hx.inv, prod_inv_r hx, prod_still_l hz.len]
theorem inv_inv {x : List Nat} (hx : IsP n x) : inv (inv x) = x := (inv_unique hx.inv hx (prod_inv_l hx)).symm
theorem IsP.cm {x y : List Nat} (hx : IsP n x) (hy : IsP n y) : IsP n (cm x y) := (hx.prod hy).prod (hy.prod hx).inv
theorem cm_step {t y g : List Nat} (ht : IsP n t) (hy : IsP n y) (hg : IsP n g) : cm t (prod y g) = prod (cm t y) (prod (prod y (cm t g)) (inv y)) := by
  have A : ∀ x y z, IsP n x → IsP n y → prod (prod x y) z = prod x (prod y z) := fun x y z a b => pas z a b
  have I : ∀ x y, IsP n x → IsP n y → inv (prod x y) = prod (inv y) (inv x) := fun x y a b => inv_prod a b
  have C1 : ∀ x z, IsP n x → IsP n z → prod (inv x) (prod x z) = z := fun x z a b => pc1 a b
  have C2 : ∀ x z, IsP n x → IsP n z → prod x (prod (inv x) z) = z := fun x z a b => pc2 a b
  have Pr : ∀ x y, IsP n x → IsP n y → IsP n (prod x y) := fun x y a b => a.prod b
  have V : ∀ x, IsP n x → IsP n (inv x) := fun x a => a.inv
  unfold cm
  simp (maxDischargeDepth := 30) only [A, I, C1, C2, Pr, V, ht, hy, hg]
theorem cm_flip {c y : List Nat} (hc : IsP n c) (hy : IsP n y) : prod (prod y c) (inv y) = prod (inv (cm c y)) c := by
  have A : ∀ x y z, IsP n x → IsP n y → prod (prod x y) z = prod x (prod y z) := fun x y z a b => pas z a b
  have I : ∀ x y, IsP n x → IsP n y → inv (prod x y) = prod (inv y) (inv x) := fun x y a b => inv_prod a b
  have I2 : ∀ x, IsP n x → inv (inv x) = x := fun x a => inv_inv a
  have C3 : ∀ x, IsP n x → prod (inv x) x = List.range n := fun x a => prod_inv_l a
  have S : ∀ x, IsP n x → prod x (List.range n) = x := fun x a => prod_still_r a.lt
  have Pr : ∀ x y, IsP n x → IsP n y → IsP n (prod x y) := fun x y a b => a.prod b
  have V : ∀ x, IsP n x → IsP n (inv x) := fun x a => a.inv
  unfold cm
  simp (maxDischargeDepth := 30) only [A, I, I2, C3, S, Pr, V, hc, hy]
theorem cm_still {t : List Nat} (ht : IsP n t) : cm t (List.range n) = List.range n := by
  unfold cm
  rw [prod_still_r ht.lt, prod_still_l ht.len, prod_inv_r ht]
theorem cm_self {t : List Nat} (ht : IsP n t) : cm t t = List.range n := prod_inv_r (ht.prod ht)
end
theorem Mk.one {gs : List (List Nat)} {n : Nat} (hg : ∀ g ∈ gs, IsP n g) {g : List Nat} (h : g ∈ gs) : Mk gs n g := by
  have z := Mk.step (Mk.still (gs := gs) (n := n)) h
  rw [prod_still_l (hg g h).len] at z
  exact z
theorem Mk.inv {gs : List (List Nat)} {n m : Nat} (hg : ∀ g ∈ gs, IsP n g) (hf : Few gs n m) {t : List Nat} (h : Mk gs n t) : Mk gs n (Lt.inv t) := by
  obtain ⟨N, h1, _, e⟩ := pw_back hg hf h
  obtain ⟨k, rfl⟩ : ∃ k, N = 1 + k := ⟨N - 1, by omega⟩
  have hP := h.isP hg
  rw [pw_add hP 1 k, pw_one hP] at e
  rw [← inv_unique hP (pw_isP hP k) e]
  exact h.pw hg k
theorem Mk.mono {gs hs : List (List Nat)} {n : Nat} (hh : ∀ g ∈ hs, IsP n g) (s : ∀ g ∈ gs, Mk hs n g) {t : List Nat} (h : Mk gs n t) : Mk hs n t := by
  induction h with
  | still => exact .still
  | step _ hg ih => exact ih.prod hh (s _ hg)
theorem Few.sub {gs hs : List (List Nat)} {n m : Nat} (hf : Few hs n m) (s : ∀ t, Mk gs n t → Mk hs n t) : Few gs n m := let ⟨D, h1, h2⟩ := hf; ⟨D, h1, fun t ht => h2 t (s t ht)⟩
/-- commutators with the given turns make the commutators with any turn -/
theorem cm_all {n m : Nat} {gs bs : List (List Nat)} {N : List Nat → Prop} (hN : ∀ t, N t → IsP n t) (hgs : ∀ g ∈ gs, IsP n g) (hbs : ∀ b ∈ bs, IsP n b) (hf : Few bs n m)
    (hc : ∀ t g, N t → g ∈ gs → N (cm t g)) (hb : ∀ t g, N t → g ∈ gs → cm t g ∈ bs) {x : List Nat} (hx : Mk gs n x) : ∀ t, N t → Mk bs n (cm t x) := by
  induction hx with
  | still => exact fun t ht => by rw [cm_still (hN t ht)]; exact .still
  | @step y g hy hg ih =>
    intro t ht
    have c := hc t g ht hg
    have hyP := hy.isP hgs
    rw [cm_step (hN t ht) hyP (hgs g hg), cm_flip (hN _ c) hyP]
    exact (ih t ht).prod hbs (((ih _ c).inv hbs hf).prod hbs (.one hbs (hb t g ht hg)))
/-- a part of a whole that is less is at most half of it -/
theorem half {n : Nat} {H T : List (List Nat)} (hT : ∀ t ∈ T, IsP n t) (nd : H.Nodup) (sub : ∀ h ∈ H, h ∈ T) (pr : ∀ a ∈ T, ∀ b ∈ T, prod a b ∈ T) (cl : ∀ a ∈ H, ∀ b ∈ H, prod (inv a) b ∈ H) {t : List Nat} (ht : t ∈ T) (hn : t ∉ H) : 2 * H.length ≤ T.length := by
  have tP := hT t ht
  have P := fun h hh => hT h (sub h hh)
  have z : (H ++ H.map fun h => prod h t).Nodup := by
    refine List.nodup_append.mpr ⟨nd, ?_, fun a ha b hb e => ?_⟩
    · refine List.pairwise_map.mpr (List.Pairwise.imp_of_mem (fun {a b} ha hb hne e => hne ?_) nd)
      have e2 := congrArg (fun x => prod x (inv t)) e
      have e2 : prod (prod a t) (inv t) = prod (prod b t) (inv t) := e2
      rw [pas _ (P a ha) tP, pas _ (P b hb) tP, prod_inv_r tP, prod_still_r (P a ha).lt, prod_still_r (P b hb).lt] at e2
      exact e2
    · obtain ⟨h, hh, rfl⟩ := List.mem_map.mp hb
      subst e
      have y := cl h hh _ ha
      rw [pc1 (P h hh) tP] at y
      exact hn y
  have l := nodup_len _ T z fun x hx => by
    rcases List.mem_append.mp hx with q | q
    · exact sub x q
    · obtain ⟨h, hh, rfl⟩ := List.mem_map.mp q
      exact pr _ (sub h hh) t ht
  rw [List.length_append, List.length_map] at l
  omega
end Lt

set_option Elab.async false
set_option linter.all false
set_option maxRecDepth 100000
set_option maxHeartbeats 4000000
namespace Lt
open PySem PySem.Spec PyProof.Rows L2
theorem for_enumL {K : PySem.W.Frag} {a : Addr} {xs : List V} {g : TG} {tb : TS} {D : Ends} {σ : L2.St} {H : Hp} (Pv : Nat → L2.St → Hp → Prop) (h0 : Pv 0 σ H) (hl : ∀ i σ H, i ≤ xs.length → Pv i σ H → SqL K H a xs)
    (hs : ∀ (i : Nat) (x : V) σ H T, xs[i]? = some x → Pv i σ H → H T = none → g (.ref T) σ (upd H T (.tup [nI i, x])) fun σ2 H2 => tb { D with nx := Pv (i + 1), ct := Pv (i + 1), bk := D.nx } σ2 H2) (hd : ∀ σ H, Pv xs.length σ H → D.nx σ H) :
    ∃ W : Nat → Nat → L2.St → Hp → Prop, (∃ m, W 0 m σ H) ∧ ∀ i m σ H, W i m σ H →
      ((Ite K a).stop i H ∧ D.nx σ H) ∨ ((Ite K a).go i H ∧ ∃ N : L2.St → Hp → Prop, (∀ σ' H', N σ' H' → ∃ m', m' < m ∧ W (i + 1) m' σ' H') ∧ ∀ x H', (Ite K a).yld i H x H' → g x σ H' fun σ2 H2 => tb { D with nx := N, ct := N, bk := D.nx } σ2 H2) := by
  refine ⟨fun i m σ H => m = xs.length - i ∧ i ≤ xs.length ∧ Pv i σ H, ⟨xs.length, by simp, Nat.zero_le _, h0⟩, ?_⟩
  rintro i m σ H ⟨rfl, hi, p⟩
  have q := hl i σ H hi p
  by_cases hlt : i < xs.length
  · refine .inr ⟨⟨xs, xs[i], q, by simp [hlt]⟩, Pv (i + 1), fun σ' H' p' => ⟨xs.length - (i + 1), by omega, rfl, hlt, p'⟩, fun x H' y => ?_⟩
    obtain ⟨T, z, rfl, hT, rfl, hz⟩ := y
    exact hs i z σ H T (hz xs q) p hT
  · exact .inl ⟨⟨xs, q, by omega⟩, hd σ H (by rw [show xs.length = i by omega]; exact p)⟩
section
variable {P : Program} {w : World} {K : PySem.W.Frag} {mg : Str → Option Value} {base : Heap}
/-! ### words_of, the makers a list -/
def spWordsL : Sp := fun vs H Q _ => ∃ (pm : Addr) (gs : List (List Nat)) (n : Nat), vs = [.ref pm, nI n] ∧ LT H pm gs ∧ (∀ g ∈ gs, IsP n g) ∧ n ≤ 1000 ∧ gs.length ≤ 1000 ∧
  ∀ d H' L, Same H H' → H d = none → DW H' d L → Wd gs n L → Q (.ref d) H'
theorem has_words_ofL (T : Top K mg "words_of" s_words_of ["makers", "size"]) (B : Bi mg) (C : Cn mg "MOST_TURNS" 240) (hS : Has P w K mg base CX0 1 "still_of" ["size"] spStill) (hP : Has P w K mg base CX0 1 "product_of" ["one", "other"] spProd) :
    Has P w K mg base CX0 2 "words_of" ["makers", "size"] spWordsL := by
  refine T.ok sc_words_of (fun vs H Q E h => ?_) (fun f cdv A outer s H vs Q E hr h => ?_)
  · obtain ⟨pm, gs, n, rfl, _⟩ := h
    rfl
  · obtain ⟨pm, gs, n, rfl, hms, hg, hn, hgl, q⟩ := h
    obtain ⟨tk, hC⟩ := C
    have hu := hu_of hr
    refine ⟨_, pss_cons (ps_set (i := 2) sc_words_of.nd rfl (Or.inl rfl) (pe_has hS hr (by rfl) (pa_cons (pv 1) pa_nil)))
      (pss_cons (ps_set (i := 3) sc_words_of.nd rfl (Or.inl rfl) (pe_dispT hu (pv 2) (pe_tup pa_nil)))
      (pss_cons (ps_set (i := 4) sc_words_of.nd rfl (Or.inl rfl) (pe_lst (pa_cons (pv 2) pa_nil)))
      (pss_cons (ps_while PassesOwn.never (PW.pt (pw_and (pt_truth (pv 4) (by intro _; rfl)) (pw_and1 (pt_cmpR op_le (pe_callB call_len_dT (by rfl) B.len PySem.boot_len (pa_cons (pv 3) pa_nil)) (pe_glob (v := .int 240) rfl hC ⟨_, rfl⟩) (nomark _)))))
        (pss_cons (ps_set (i := 5) sc_words_of.nd rfl (Or.inl rfl) (pe_lst pa_nil))
        (pss_cons (ps_for PassesOwn.never rfl (pi_list (pv 4)) (pg_name (i := 6) sc_words_of.nd rfl (Or.inl rfl))
          (pss_one (ps_for PassesOwn.never rfl (pi_enum (by rfl) B.enumerate (pa_cons (pv 0) pa_nil)) (pg_tup rfl (pgs_cons (pg_name (i := 7) sc_words_of.nd rfl (Or.inl rfl)) (pgs_cons (pg_name (i := 8) sc_words_of.nd rfl (Or.inl rfl)) pgs_nil)))
            (pss_cons (ps_set (i := 9) sc_words_of.nd rfl (Or.inl rfl) (pe_has hP hr (by rfl) (pa_cons (pv 6) (pa_cons (pv 8) pa_nil))))
            (pss_one (ps_if (pt_cmp (pc_dnotin hu (pv 9) (pv 3)))
              (pss_cons (ps_dput hu (pv 3) (pv 9) (pe_op op_catA (pe_dgetR hu (pv 3) (pv 6) (fun _ _ => rfl)) (pe_tup (pa_cons (pv 7) pa_nil))) rfl)
              (pss_one (ps_expr (pe_bm PySem.F.plainAttrs_list PySem.F.slot_list_append PySem.F.type_list_append mt_append (pv 5) (pa_cons (pv 9) pa_nil)))))
              pss_nil))))))
        (pss_one (ps_set (i := 4) sc_words_of.nd rfl (Or.inl rfl) (pv 5))))))
      (pss_one (ps_ret (pv 3)))))), ?_⟩
    refine ⟨_, rfl, n, rfl, hn, fun st H1 s1 hst => ?_⟩
    refine fun d hd => ⟨_, rfl, ⟨Nat.zero_le _, fun p hp => ?_⟩⟩
    have hpd : p ≠ d := fun z => by rw [z, upd_same] at hp; cases hp
    have s2 : Same H1 (upd (upd H1 d (.dT [])) p (.tup [])) := (same_new hd).trans (same_new hp)
    obtain ⟨b, ebv, hb⟩ := (hst.tm (.of s2)).key
    subst ebv
    refine ⟨b, keyN (List.range n), rfl, by rw [upd_ne hpd.symm, upd_same], hb, ?_⟩
    refine ⟨_, rfl, by show 1 ≤ sizeLine; decide, fun lv hlv => ?_⟩
    have hd0 : H d = none := s1.free hd
    have s3 : Same H1 (upd (upd (upd H1 d (.dT [])) p (.tup [])) d (.dT [(keyN (List.range n), .ref p)])) := same_mut s2 hd
    have s4 : Same H1 (upd (upd (upd (upd H1 d (.dT [])) p (.tup [])) d (.dT [(keyN (List.range n), .ref p)])) lv (.lst [.ref b])) := s3.trans (same_new hlv)
    have hdl : d ≠ lv := fun z => by rw [← z, upd_same] at hlv; cases hlv
    have hpl : p ≠ lv := fun z => by rw [← z, upd_ne hpd, upd_same] at hlv; cases hlv
    have hst' : TN (upd (upd (upd (upd H1 d (.dT [])) p (.tup [])) d (.dT [(keyN (List.range n), .ref p)])) lv (.lst [.ref b])) (.ref b) (List.range n) := (hst.tm (.of s4)).tn
    refine ⟨fun m σ H' => ∃ a, m = 240 - a ∧ WS H (.ref pm) (.ref b) n gs d a σ H', ⟨240, 0, rfl, ⟨⟨lv, none, none, none, none, none, rfl, [.ref b], upd_same, .cons hst' .nil⟩, s1.trans s4, ⟨[(keyN (List.range n), .ref p)], by rw [upd_ne hdl, upd_same], .cons ⟨rfl, p, rfl, .inl ?_⟩ .nil⟩, Nat.zero_le _, Nat.zero_le _⟩⟩, ?_⟩
    · rw [upd_ne hpl, upd_ne hpd, upd_same]
      rfl
    rintro m σ H' ⟨a, rfl, ⟨⟨lv, x5, x6, x7, x8, x9, rfl, xs, hlv', hxs⟩, sm, dw, le, le2⟩⟩
    have ret : (qq gs n a).length = a ∨ 240 < (qq gs n a).length → Q (.ref d) H' := fun h => q d H' _ sm hd0 dw ⟨a, rfl, le, h⟩
    have hxl : xs.length = (qq gs n a).length - a := by
      rw [Paired.length hxs, List.length_drop, List.length_map]
    refine ⟨_, rfl, !xs.isEmpty, .inl ⟨xs, SqL.of hlv', rfl⟩, ?_⟩
    refine ite2 (fun h => ?_) (fun h => ?_)
    rotate_left
    · refine iteF ⟨_, rfl, ret (.inl ?_)⟩
      cases xs with
      | nil => simp at hxl; omega
      | cons x xs => exact absurd rfl h
    obtain ⟨kvs, hkv, pkv⟩ := dw
    have hkl : kvs.length = (qq gs n a).length := Paired.length pkv
    refine ⟨_, rfl, d, kvs, rfl, hkv, _, _, rfl, rfl, _, rfl, ite2 (fun h2 => ?_) (fun h2 => ?_)⟩
    rotate_left
    · have h2 : ¬ ((kvs.length : Int) ≤ 240) := fun z => h2 (decide_eq_true z)
      exact ⟨_, rfl, ret (.inr (by omega))⟩
    have h2 : (kvs.length : Int) ≤ 240 := of_decide_eq_true h2
    have hpos : a < (qq gs n a).length := by
      cases xs with
      | nil => simp at h
      | cons x xs => rw [List.length_cons] at hxl; omega
    refine ⟨fun σ2 H2 => WS H (.ref pm) (.ref b) n gs d (qq gs n a).length σ2 H2, fun σ2 H2 hw => ⟨240 - (qq gs n a).length, by omega, _, rfl, hw⟩, ?_⟩
    -- longer = []
    refine ⟨Nat.zero_le _, fun lg hlg => ?_⟩
    have hlg0 : H lg = none := sm.free hlg
    have sl := same_new (o := .lst []) hlg
    obtain ⟨mxs, hpm, hmx⟩ := hms
    have hlvg : lv ≠ lg := ne_of_none hlv' hlg
    have hdg : d ≠ lg := ne_of_none hkv hlg
    have hlv0 : ∀ H2 : Hp, Same H' H2 → H2 lv = some (.lst xs) := fun H2 s => s _ _ hlv'
    refine ⟨_, rfl, lv, rfl, ⟨_, SqL.of (sl _ _ hlv')⟩, for_list (K := K) (a := lv) (xs := xs)
      (fun i σ2 H2 => ∃ y6 y7 y8 y9 M, σ2 = [some (.ref pm), some (nI n), some (.ref b), some (.ref d), some (.ref lv), some (.ref lg), y6, y7, y8, y9] ∧ Same H H2 ∧ qq gs n (a + i) = qq gs n a ++ M ∧ DW H2 d (qq gs n (a + i)) ∧ LT H2 lg (M.map (·.1)) ∧ H2 lv = some (.lst xs) ∧ Paired (TN H2) xs (((qq gs n a).map (·.1)).drop a))
      ⟨x6, x7, x8, x9, [], rfl, sm.trans sl, by rw [List.append_nil]; rfl, DW.same ⟨kvs, hkv, pkv⟩ sl, ⟨[], upd_same, .nil⟩, sl _ _ hlv', TNs.tm (.of sl) hxs⟩
      (fun i σ2 H2 _ ⟨_, _, _, _, _, _, _, _, _, _, h, _⟩ => SqL.of h) ?_ ?_⟩
    · rintro i x σ2 H2 hi ⟨y6, y7, y8, y9, M, rfl, sm2, eM, dw2, lt2, hlv2, hx2⟩
      obtain ⟨t, ht, htn⟩ := Paired.getL hx2 hi
      rw [List.getElem?_drop, List.getElem?_map] at ht
      obtain ⟨⟨t', w'⟩, hq, et⟩ := Option.map_eq_some_iff.mp ht
      have et : t' = t := et
      subst et
      have hstep := qq_step eM hq
      have htP : IsP n t' := Mk.isP hg (qq_mk gs n a t' (List.mem_map.mpr ⟨_, List.mem_of_getElem? hq, rfl⟩))
      refine ⟨_, rfl, pm, _, rfl, SqL.of (sm2 _ _ hpm), for_enumL (K := K) (xs := mxs)
        (fun j σ3 H3 => ∃ z7 z8 z9 M', σ3 = [some (.ref pm), some (nI n), some (.ref b), some (.ref d), some (.ref lv), some (.ref lg), some x, z7, z8, z9] ∧ Same H H3 ∧ grow t' w' (gs.take j) 0 (qq gs n (a + i)) = qq gs n a ++ M' ∧ DW H3 d (qq gs n a ++ M') ∧ LT H3 lg (M'.map (·.1)) ∧ H3 lv = some (.lst xs) ∧ Paired (TN H3) xs (((qq gs n a).map (·.1)).drop a))
        ⟨y7, y8, y9, M, rfl, sm2, eM, by rw [← eM]; exact dw2, lt2, hlv2, hx2⟩ (fun j σ3 H3 _ ⟨_, _, _, _, _, s, _⟩ => SqL.of (s _ _ hpm)) ?_ ?_⟩
      · rintro j y σ3 H3 T hj ⟨z7, z8, z9, M', rfl, sm3, eM', dw3, ⟨gz, hgz, pgz⟩, hlv3, hx3⟩ hT
        obtain ⟨g, hgj, hyg⟩ := Paired.getL hmx hj
        have hgP := hg g (List.mem_of_getElem? hgj)
        have sT := same_new (o := .tup [nI j, y]) hT
        refine ⟨T, _, rfl, SqT.of upd_same, rfl, nI j, _, rfl, y, _, rfl, rfl, ?_⟩
        obtain ⟨t2, ht2, htn3⟩ := Paired.getL hx3 hi
        rw [List.getElem?_drop, List.getElem?_map, hq] at ht2
        have ht2 : t' = t2 := Option.some.inj ht2
        subst ht2
        refine ⟨_, rfl, _, rfl, pr_call (htn3.tm (.of sT)) (hyg.tm (.of (sm3.trans sT))) htP hgP hn fun v H4 s4 hv => ?_⟩
        have s34 : Same H3 H4 := sT.trans s4
        have hvP := htP.prod hgP
        obtain ⟨b1, rfl, hb1⟩ := hv.key
        obtain ⟨kv4, hk4, pk4⟩ := dw3.same s34
        have hgz4 := s34 _ _ hgz
        have pgz4 := TNs.tm (.of s34) pgz
        have hlv4 := s34 _ _ hlv3
        have hx4 := TNs.tm (.of s34) hx3
        have hnd : ((qq gs n a ++ M').map (·.1)).Nodup := by rw [← eM']; exact grow_nd _ _ _ _ _ (qq_nd gs n (a + i))
        have hnx := grow_next (t := t') (w := w') hgj (qq gs n (a + i))
        rw [eM'] at hnx
        have sm4 : Same H H4 := sm3.trans s34
        refine ⟨_, rfl, _, rfl, d, _, rfl, DGet.t hk4 hb1, _, rfl, ?_⟩
        rw [dw_isSome pk4 hnd]
        by_cases hin : prod t' g ∈ (qq gs n a ++ M').map (·.1)
        · rw [if_pos hin] at hnx
          rw [decide_eq_true hin]
          exact iteF ⟨_, _, _, M', rfl, sm4, hnx, ⟨kv4, hk4, pk4⟩, ⟨gz, hgz4, pgz4⟩, hlv4, hx4⟩
        · rw [if_neg hin] at hnx
          rw [decide_eq_false hin]
          refine iteT ?_
          have hmem : (t', w') ∈ qq gs n a ++ M' := List.mem_append.mpr (.inl (List.mem_of_getElem? hq))
          obtain ⟨wv, hwv, hwn⟩ := dw_some pk4 hnd hmem
          obtain ⟨b2, rfl, hb2⟩ := (htn3.tm (.of s34)).key
          obtain ⟨pw, rfl, hpw⟩ := hwn
          have hwl : w'.length ≤ 240 := Nat.le_trans (qq_w gs n a _ (List.mem_of_getElem? hq)) le2
          refine ⟨_, rfl, _, rfl, d, .ref pw, kv4, _, _, rfl, rfl, .inl hk4, hb2, hwv, _, rfl, by show 1 ≤ sizeLine; decide, fun p hp => ?_⟩
          have s5 := same_new (o := .tup [nI j]) hp
          refine catA_tn (hpw.sm s5) upd_same (by omega) fun v5 H5 s6 hv5 => ?_
          have s45 := s5.trans s6
          have hk5 := s45 _ _ hk4
          have hkl4 : kv4.length = (grow t' w' (gs.take j) 0 (qq gs n (a + i))).length := by rw [Paired.length pk4, ← eM']
          have hsz : kv4.length ≤ 1000000 := by
            have h0 := grow_len t' w' (gs.take j) 0 (qq gs n (a + i))
            have h1 := qq_len_le gs n a i
            have h3 : i ≤ 240 := by
              have := (List.getElem?_eq_some_iff.mp hq).1
              omega
            have h4 : i * gs.length ≤ 240 * 1000 := Nat.mul_le_mul h3 hgl
            rw [List.length_take] at h0
            omega
          refine ⟨_, rfl, _, rfl, d, _, rfl, DPut.t hk5 (s45 _ _ hb1) (by rw [sizeLine_eq]; omega), ?_⟩
          rw [putK_new v5 (dw_none pk4 hin)]
          have t6 : Tm H5 (upd H5 d (.dT (kv4 ++ [(keyN (prod t' g), v5)]))) := Tm.dT hk5
          have hg6 : (upd H5 d (.dT (kv4 ++ [(keyN (prod t' g), v5)]))) lg = some (.lst gz) := by
            rw [upd_ne (ne_of hgz4 hk4 (fun z => nomatch z))]
            exact s45 _ _ hgz4
          have hgzl : gz.length ≤ kv4.length := by
            rw [Paired.length pgz, Paired.length pk4, List.length_map, List.length_append]
            omega
          refine ⟨_, rfl, .inl ⟨rfl, _, SqL.of hg6⟩, _, rfl, lg, _, _, rfl, rfl, hg6, by rw [sizeLine_eq]; omega, ?_⟩
          have t7 := Tm.lst (o := .lst (gz ++ [.ref b1])) hg6
          have tt := (Tm.of s45).trans (t6.trans t7)
          refine ⟨_, _, _, M' ++ [(prod t' g, w' ++ [j])], rfl, ?_, ?_, ⟨kv4 ++ [(keyN (prod t' g), v5)], ?_, ?_⟩, ⟨gz ++ [.ref b1], upd_same, ?_⟩, ?_, TNs.tm tt hx4⟩
          · exact same_mut (same_mut (sm4.trans s45) hd0) hlg0
          · rw [hnx, List.append_assoc]
          · rw [upd_ne hdg, upd_same]
          · rw [← List.append_assoc]
            exact Paired.app (DEs.tm tt pk4) (Paired.one ⟨rfl, hv5.tm (t6.trans t7)⟩)
          · rw [List.map_append]
            exact Paired.app (TNs.tm tt pgz4) (Paired.one (hv.tn.tm tt))
          · rw [upd_ne hlvg, upd_ne (ne_of hlv4 hk4 (fun z => nomatch z))]
            exact s45 _ _ hlv4
      · rintro σ3 H3 ⟨z7, z8, z9, M', rfl, sm3, eM', dw3, lt3, hlv3, hx3⟩
        have e : gs.take mxs.length = gs := by rw [Paired.length hmx, List.take_length]
        rw [e] at eM'
        refine ⟨_, _, _, _, M', rfl, sm3, ?_, ?_, lt3, hlv3, hx3⟩
        · show qq gs n (a + i + 1) = _
          rw [hstep, eM']
        · show DW H3 d (qq gs n (a + i + 1))
          rw [hstep, eM']
          exact dw3
    · rintro σ2 H2 ⟨y6, y7, y8, y9, M, rfl, sm2, eM, dw2, lt2, hlv2, hx2⟩
      have e : a + xs.length = (qq gs n a).length := by omega
      rw [e] at eM dw2
      refine ⟨_, rfl, ⟨⟨lg, _, _, _, _, _, rfl, ?_⟩, sm2, dw2, ?_, by omega⟩⟩
      · rw [eM, List.map_append, List.drop_append_of_le_length (by rw [List.length_map]; exact Nat.le_refl _), List.drop_of_length_le (by rw [List.length_map]; exact Nat.le_refl _), List.nil_append]
        exact lt2
      · rw [eM, List.length_append]
        omega
end
end Lt

set_option Elab.async false
set_option linter.all false
set_option maxRecDepth 100000
set_option maxHeartbeats 2000000
namespace Lt
open PySem PySem.Spec PyProof.Rows L2
/-- a list of turns that are keys -/
def LK (H : Hp) (a : Addr) (ts : List (List Nat)) : Prop := ∃ xs, H a = some (.lst xs) ∧ Paired (TK H) xs ts
theorem TKs.tm {H H' : Hp} (e : Tm H H') {xs : List V} {ts : List (List Nat)} (p : Paired (TK H) xs ts) : Paired (TK H') xs ts := paired_mono (fun _ _ r => TK.tm e r) p
/-- a dict with these turns as keys -/
def DKs (H : Hp) (d : Addr) (ks : List (List Nat)) : Prop := ∃ kvs, H d = some (.dT kvs) ∧ kvs.map (·.1) = ks.map keyN
theorem DW.dks {H : Hp} {d : Addr} {L : List (List Nat × List Nat)} (h : DW H d L) : DKs H d (L.map (·.1)) := by
  obtain ⟨kvs, h1, p⟩ := h
  refine ⟨kvs, h1, ?_⟩
  clear h1
  induction p with
  | nil => rfl
  | cons r _ ih => rw [List.map_cons, List.map_cons, List.map_cons, ih, r.1]
theorem dks_isSome : ∀ {kvs : List (List Key × V)} {ks : List (List Nat)}, kvs.map (·.1) = ks.map keyN → ∀ t, (valV kvs (keyN t)).isSome = decide (t ∈ ks)
  | [], ks, h, t => by
    cases ks with
    | nil => rfl
    | cons k ks => cases h
  | kv :: kvs, ks, h, t => by
    cases ks with
    | nil => cases h
    | cons k ks =>
      injection h with h1 h2
      have ih := dks_isSome h2 t
      have h1 : kv.1 = keyN k := h1
      by_cases hk : k = t
      · subst hk
        rw [valV_pos h1, decide_eq_true (List.mem_cons_self)]
        rfl
      · rw [valV_neg (by rw [h1]; exact fun z => hk (keyN_inj z)), ih]
        exact decide_eq_decide.mpr ⟨fun z => List.mem_cons_of_mem _ z, fun z => (List.mem_cons.mp z).resolve_left (fun y => hk y.symm)⟩
theorem Mk.nil {n : Nat} {t : List Nat} (h : Mk [] n t) : t = List.range n := by
  induction h with
  | still => rfl
  | step _ hg _ => cases hg
section
variable {P : Program} {w : World} {K : PySem.W.Frag} {mg : Str → Option Value} {base : Heap}
def spGroup : Sp := fun vs H Q _ => ∃ (ml : Addr) (ms : List (List Nat)) (n : Nat), vs = [.ref ml, nI n] ∧ LK H ml ms ∧ (∀ g ∈ ms, IsP n g) ∧ 1 ≤ n ∧ n ≤ 9 ∧ Few ms n 63 ∧
  ∀ p fl tv few ts H', Same H H' → H' p = some (.tup [.ref fl, tv]) → H fl = none → LT H' fl few → TT H' tv ts → (∀ g ∈ few, g ∈ ms) → few.length ≤ 63 → (∀ t, Mk few n t ↔ Mk ms n t) → ts.Nodup → (∀ t, t ∈ ts ↔ Mk ms n t) → Asc ts → Q (.ref p) H'
end
end Lt

set_option Elab.async false
set_option linter.all false
set_option maxRecDepth 100000
set_option maxHeartbeats 2000000
namespace Lt
open PySem PySem.Spec PyProof.Rows L2
/-- the commutators of the turns ts with the makers ms, in the order of the program -/
def brk (ts ms : List (List Nat)) : List (List Nat) := ts.flatMap fun t => ms.map (cm t)
theorem brk_next {ts ms : List (List Nat)} {i : Nat} {t : List Nat} (h : ts[i]? = some t) : brk (ts.take (i + 1)) ms = brk (ts.take i) ms ++ ms.map (cm t) := by
  unfold brk
  rw [List.take_add_one, h, List.flatMap_append]
  simp
theorem brk_mem {ts ms : List (List Nat)} {b : List Nat} : b ∈ brk ts ms ↔ ∃ t ∈ ts, ∃ g ∈ ms, b = cm t g := by
  unfold brk
  rw [List.mem_flatMap]
  exact ⟨fun ⟨t, h1, h2⟩ => ⟨t, h1, by obtain ⟨g, h3, h4⟩ := List.mem_map.mp h2; exact ⟨g, h3, h4.symm⟩⟩, fun ⟨t, h1, g, h2, e⟩ => ⟨t, h1, List.mem_map.mpr ⟨g, h2, e.symm⟩⟩⟩
theorem brk_len (ts ms : List (List Nat)) : (brk ts ms).length = ts.length * ms.length := by
  induction ts with
  | nil => simp [brk]
  | cons t ts ih =>
    have e : brk (t :: ts) ms = ms.map (cm t) ++ brk ts ms := by unfold brk; rw [List.flatMap_cons]
    rw [e, List.length_append, List.length_map, ih, List.length_cons, Nat.succ_mul, Nat.add_comm]
section
variable {P : Program} {w : World} {K : PySem.W.Frag} {mg : Str → Option Value} {base : Heap}
def spBracketsT : Sp := fun vs H Q _ => ∃ (tv mv : V) (ts ms : List (List Nat)) (n : Nat), vs = [tv, mv] ∧ TT H tv ts ∧ TT H mv ms ∧ (∀ g ∈ ts, IsP n g) ∧ (∀ g ∈ ms, IsP n g) ∧ 1 ≤ ts.length ∧ ts.length ≤ 63 ∧ ms.length ≤ 63 ∧ 1 ≤ n ∧ n ≤ 9 ∧ Few (brk ts ms) n 63 ∧
  ∀ p fl tv few us H', Same H H' → H' p = some (.tup [.ref fl, tv]) → H fl = none → LT H' fl few → TT H' tv us → (∀ g ∈ few, g ∈ brk ts ms) → few.length ≤ 63 → (∀ t, Mk few n t ↔ Mk (brk ts ms) n t) → us.Nodup → (∀ t, t ∈ us ↔ Mk (brk ts ms) n t) → Asc us → Q (.ref p) H'
end
end Lt

set_option Elab.async false
set_option linter.all false
set_option maxRecDepth 100000
set_option maxHeartbeats 2000000
namespace Lt
open PySem PySem.Spec PyProof.Rows L2
section
variable {P : Program} {w : World} {K : PySem.W.Frag} {mg : Str → Option Value} {base : Heap}
def spBracketsL : Sp := fun vs H Q _ => ∃ (tv : V) (ma : Addr) (ts ms : List (List Nat)) (n : Nat), vs = [tv, .ref ma] ∧ TT H tv ts ∧ LT H ma ms ∧ (∀ g ∈ ts, IsP n g) ∧ (∀ g ∈ ms, IsP n g) ∧ 1 ≤ ts.length ∧ ts.length ≤ 63 ∧ ms.length ≤ 63 ∧ 1 ≤ n ∧ n ≤ 9 ∧ Few (brk ts ms) n 63 ∧
  ∀ p fl tv few us H', Same H H' → H' p = some (.tup [.ref fl, tv]) → H fl = none → LT H' fl few → TT H' tv us → (∀ g ∈ few, g ∈ brk ts ms) → few.length ≤ 63 → (∀ t, Mk few n t ↔ Mk (brk ts ms) n t) → us.Nodup → (∀ t, t ∈ us ↔ Mk (brk ts ms) n t) → Asc us → Q (.ref p) H'
end
end Lt

set_option Elab.async false
set_option linter.all false
set_option maxRecDepth 100000
set_option maxHeartbeats 2000000
namespace Lt
open PySem PySem.Spec PyProof.Rows L2
/-- the next term: all that the commutators make, ascending -/
structure Nx (ms : List (List Nat)) (n : Nat) (A B : List (List Nat)) : Prop where
  nd : B.Nodup
  asc : Asc B
  mem : ∀ t, t ∈ B ↔ Mk (brk A ms) n t
/-- a series of terms, each the next one, up to the last that is less -/
structure Ser (ms : List (List Nat)) (n : Nat) (T0 : List (List Nat)) (Ts : List (List (List Nat))) : Prop where
  head : Ts[0]? = some T0
  step : ∀ i A B, Ts[i]? = some A → Ts[i + 1]? = some B → Nx ms n A B ∧ B.length ≠ A.length
  stop : ∀ i A, Ts[i]? = some A → Ts[i + 1]? = none → ∃ B, Nx ms n A B ∧ B.length = A.length
/-- a term: closed, and closed under commutators with ms -/
structure Tm1 (ls ms : List (List Nat)) (n : Nat) (A : List (List Nat)) : Prop where
  sub : ∀ t ∈ A, Mk ls n t
  still : List.range n ∈ A
  pr : ∀ a ∈ A, ∀ b ∈ A, prod a b ∈ A
  cm : ∀ t ∈ A, ∀ g ∈ ms, cm t g ∈ A
theorem Tm1.next {ls ms : List (List Nat)} {n : Nat} {A B : List (List Nat)} (hls : ∀ g ∈ ls, IsP n g) (hms : ∀ g ∈ ms, IsP n g) (h : Tm1 ls ms n A) (hx : Nx ms n A B) : Tm1 ls ms n B ∧ ∀ t ∈ B, t ∈ A := by
  have hA : ∀ t ∈ A, IsP n t := fun t ht => (h.sub t ht).isP hls
  have hb : ∀ b ∈ brk A ms, b ∈ A := fun b hb => by
    obtain ⟨t, h1, g, h2, rfl⟩ := brk_mem.mp hb
    exact h.cm t h1 g h2
  have hbP : ∀ b ∈ brk A ms, IsP n b := fun b hb' => hA b (hb b hb')
  have sub : ∀ t, Mk (brk A ms) n t → t ∈ A := fun t ht => by
    induction ht with
    | still => exact h.still
    | step _ hg ih => exact h.pr _ ih _ (hb _ hg)
  refine ⟨⟨fun t ht => h.sub t (sub t ((hx.mem t).mp ht)), (hx.mem _).mpr .still, fun a ha b hb' => (hx.mem _).mpr (((hx.mem a).mp ha).prod hbP ((hx.mem b).mp hb')), fun t ht g hg => ?_⟩, fun t ht => sub t ((hx.mem t).mp ht)⟩
  exact (hx.mem _).mpr (.one hbP (brk_mem.mpr ⟨t, sub t ((hx.mem t).mp ht), g, hg, rfl⟩))
theorem Tm1.whole {ls : List (List Nat)} {n m : Nat} {T0 : List (List Nat)} (hls : ∀ g ∈ ls, IsP n g) (hf : Few ls n m) (hT : ∀ t, t ∈ T0 ↔ Mk ls n t) : Tm1 ls ls n T0 := by
  refine ⟨fun t ht => (hT t).mp ht, (hT _).mpr .still, fun a ha b hb => (hT _).mpr (((hT a).mp ha).prod hls ((hT b).mp hb)), fun t ht g hg => (hT _).mpr ?_⟩
  have h1 := (hT t).mp ht
  have h2 := Mk.one hls hg
  exact (h1.prod hls h2).prod hls ((h2.prod hls h1).inv hls hf)
/-- a tuple, a list of tuples of turns -/
def TTT (H : Hp) (v : V) (Ts : List (List (List Nat))) : Prop := ∃ a xs, v = .ref a ∧ H a = some (.tup xs) ∧ Paired (TT H) xs Ts
theorem TTs.tm {H H' : Hp} (e : Tm H H') {xs : List V} {Ts : List (List (List Nat))} (p : Paired (TT H) xs Ts) : Paired (TT H') xs Ts := paired_mono (fun _ _ r => TT.tm e r) p
section
variable {P : Program} {w : World} {K : PySem.W.Frag} {mg : Str → Option Value} {base : Heap} {CL CM : Addr}
def spLower : Sp := fun vs H Q _ => ∃ (v : V) (ls : List (List Nat)) (n : Nat), vs = [v] ∧ Good H v ls n ∧ ∀ r H' T0 Ts, Same H H' → TTT H' r Ts → T0.Nodup → Asc T0 → (∀ t, t ∈ T0 ↔ Mk ls n t) → Ser ls n T0 Ts → Q r H'
end
end Lt

set_option Elab.async false
set_option linter.all false
set_option maxRecDepth 100000
set_option maxHeartbeats 2000000
namespace Lt
open PySem PySem.Spec PyProof.Rows L2
structure SerD (n : Nat) (T0 : List (List Nat)) (Ts : List (List (List Nat))) : Prop where
  head : Ts[0]? = some T0
  step : ∀ i A B, Ts[i]? = some A → Ts[i + 1]? = some B → Nx A n A B ∧ B.length ≠ A.length
  stop : ∀ i A, Ts[i]? = some A → Ts[i + 1]? = none → ∃ B, Nx A n A B ∧ B.length = A.length
theorem Tm1.self {ls : List (List Nat)} {n m : Nat} {T0 : List (List Nat)} (h : Tm1 ls ls n T0) (hls : ∀ g ∈ ls, IsP n g) (hf : Few ls n m) (hT : ∀ t, t ∈ T0 ↔ Mk ls n t) : Tm1 ls T0 n T0 :=
  ⟨h.sub, h.still, h.pr, fun t ht g hg => (hT _).mpr ((((hT t).mp ht).prod hls ((hT g).mp hg)).prod hls ((((hT g).mp hg).prod hls ((hT t).mp ht)).inv hls hf))⟩
end Lt

set_option Elab.async false
set_option linter.all false
set_option maxHeartbeats 1000000
namespace Lt
/-- there is one next term -/
theorem Nx.one {ms A B C : List (List Nat)} {n : Nat} (hn : n ≤ 9) (hP : ∀ b ∈ brk A ms, IsP n b) (h1 : Nx ms n A B) (h2 : Nx ms n A C) : B = C :=
  asc_one hn (fun t ht => ((h1.mem t).mp ht).isP hP) ((List.perm_ext_iff_of_nodup h1.nd h2.nd).mpr fun t => (h1.mem t).trans (h2.mem t).symm) h1.asc h2.asc
/-- the given turns or all turns: the same next term -/
theorem brk_whole {ls A T0 : List (List Nat)} {n m : Nat} (hls : ∀ g ∈ ls, IsP n g) (hf : Few ls n m) (hT : ∀ t, t ∈ T0 ↔ Mk ls n t) (At : Tm1 ls ls n A) (t : List Nat) : Mk (brk A ls) n t ↔ Mk (brk A T0) n t := by
  have hA : ∀ t ∈ A, IsP n t := fun t ht => (At.sub t ht).isP hls
  have hT0 : ∀ t ∈ T0, IsP n t := fun t ht => ((hT t).mp ht).isP hls
  have b1 : ∀ b ∈ brk A ls, IsP n b := fun b hb => by
    obtain ⟨x, h1, y, h2, rfl⟩ := brk_mem.mp hb
    exact (hA x h1).cm (hls y h2)
  have b2 : ∀ b ∈ brk A T0, IsP n b := fun b hb => by
    obtain ⟨x, h1, y, h2, rfl⟩ := brk_mem.mp hb
    exact (hA x h1).cm (hT0 y h2)
  have hfb : Few (brk A ls) n m := hf.sub fun t ht => ht.mono hls fun b hb => by
    obtain ⟨x, h1, y, h2, rfl⟩ := brk_mem.mp hb
    exact At.sub _ (At.cm x h1 y h2)
  refine ⟨fun h => h.mono b2 fun b hb => ?_, fun h => h.mono b1 fun b hb => ?_⟩
  · obtain ⟨x, h1, y, h2, rfl⟩ := brk_mem.mp hb
    exact .one b2 (brk_mem.mpr ⟨x, h1, y, (hT y).mpr (.one hls h2), rfl⟩)
  · obtain ⟨x, h1, y, h2, rfl⟩ := brk_mem.mp hb
    exact cm_all (N := fun t => t ∈ A) (gs := ls) (fun t ht => hA t ht) hls b1 hfb (fun t g ht hg => At.cm t ht g hg) (fun t g ht hg => brk_mem.mpr ⟨t, ht, g, hg, rfl⟩) ((hT y).mp h2) x h1
theorem Nx.whole {ls A B T0 : List (List Nat)} {n m : Nat} (hls : ∀ g ∈ ls, IsP n g) (hf : Few ls n m) (hT : ∀ t, t ∈ T0 ↔ Mk ls n t) (At : Tm1 ls ls n A) : Nx ls n A B ↔ Nx T0 n A B :=
  ⟨fun h => ⟨h.nd, h.asc, fun t => (h.mem t).trans (brk_whole hls hf hT At t)⟩, fun h => ⟨h.nd, h.asc, fun t => (h.mem t).trans (brk_whole hls hf hT At t).symm⟩⟩
/-- a next term that is less is at most half -/
theorem Nx.half {ls ms A B : List (List Nat)} {n m : Nat} (hls : ∀ g ∈ ls, IsP n g) (hms : ∀ g ∈ ms, IsP n g) (hf : Few ls n m) (At : Tm1 ls ms n A) (h : Nx ms n A B) (hne : B.length ≠ A.length) (hA : A.Nodup) : 2 * B.length ≤ A.length := by
  obtain ⟨Bt, Bs⟩ := At.next hls hms h
  have hAP : ∀ t ∈ A, IsP n t := fun t ht => (At.sub t ht).isP hls
  have bP : ∀ b ∈ brk A ms, IsP n b := fun b hb => by
    obtain ⟨x, h1, y, h2, rfl⟩ := brk_mem.mp hb
    exact (hAP x h1).cm (hms y h2)
  have hfb : Few (brk A ms) n m := hf.sub fun t ht => Bt.sub t ((h.mem t).mpr ht)
  obtain ⟨t, ht, hn⟩ : ∃ t ∈ A, t ∉ B := Classical.byContradiction fun z => by
    have l1 := nodup_len A B hA fun t ht => Classical.byContradiction fun y => z ⟨t, ht, y⟩
    have l2 := nodup_len B A h.nd Bs
    omega
  exact Lt.half hAP h.nd Bs At.pr (fun a ha b hb => (h.mem _).mpr ((((h.mem a).mp ha).inv bP hfb).prod bP ((h.mem b).mp hb))) ht hn
end Lt

set_option Elab.async false
set_option linter.all false
set_option maxRecDepth 100000
set_option maxHeartbeats 1000000
namespace Lt
open PySem PySem.Spec PyProof.Rows L2
theorem Paired.perm {α β : Type} {R : α → β → Prop} {ys xs : List α} (p : ys.Perm xs) : ∀ {ts : List β}, Paired R xs ts → ∃ us, Paired R ys us ∧ us.Perm ts := by
  induction p with
  | nil => intro ts h; cases h; exact ⟨[], .nil, List.Perm.refl _⟩
  | cons x _ ih =>
    intro ts h
    cases h with
    | cons r t =>
      obtain ⟨us, h1, h2⟩ := ih t
      exact ⟨_ :: us, .cons r h1, h2.cons _⟩
  | swap x y l =>
    intro ts h
    cases h with
    | cons r t =>
      cases t with
      | cons r2 t => exact ⟨_, .cons r2 (.cons r t), List.Perm.swap _ _ _⟩
  | trans _ _ ih1 ih2 =>
    intro ts h
    obtain ⟨us, h1, h2⟩ := ih2 h
    obtain ⟨ws, h3, h4⟩ := ih1 h1
    exact ⟨ws, h3, h4.trans h2⟩
theorem Paired.pairwise {α β : Type} {R : α → β → Prop} {S : α → α → Prop} {S' : β → β → Prop} (h : ∀ x y s t, R x s → R y t → S x y → S' s t) : ∀ {xs : List α} {ts : List β}, Paired R xs ts → xs.Pairwise S → ts.Pairwise S'
  | _, _, .nil, _ => .nil
  | _, _, .cons r t, .cons a b => .cons (fun s hs => by
      obtain ⟨i, hi, e⟩ := List.getElem_of_mem hs
      obtain ⟨x, hx, rx⟩ := Paired.getR t (show _[i]? = some s by rw [List.getElem?_eq_getElem hi, e])
      exact h _ _ _ _ r rx (a x (List.mem_of_getElem? hx))) (Paired.pairwise h t b)
theorem Paired.memL {α β : Type} {R : α → β → Prop} {xs : List α} {ts : List β} (p : Paired R xs ts) {x : α} (h : x ∈ xs) : ∃ t ∈ ts, R x t := by
  obtain ⟨i, hi, e⟩ := List.getElem_of_mem h
  obtain ⟨t, ht, r⟩ := Paired.getL p (show xs[i]? = some x by rw [List.getElem?_eq_getElem hi, e])
  exact ⟨t, List.mem_of_getElem? ht, r⟩
theorem paired_imp {α β : Type} {R R' : α → β → Prop} (h : ∀ a b, R a b → R' a b) : ∀ {xs : List α} {ts : List β}, Paired R xs ts → Paired R' xs ts := paired_mono h
/-- a list of turns whose objects are known -/
def LF (H : Hp) (a : Addr) (ts : List (List Nat)) : Prop := ∃ xs, H a = some (.lst xs) ∧ Paired (TF H) xs ts
theorem TFs.tm {H H' : Hp} (e : Tm H H') {xs : List V} {ts : List (List Nat)} (p : Paired (TF H) xs ts) : Paired (TF H') xs ts := paired_mono (fun _ _ r => TF.tm e r) p
theorem LF.same {H H' : Hp} {a : Addr} {ts : List (List Nat)} (h : LF H a ts) (e : Same H H') : LF H' a ts := let ⟨xs, h1, h2⟩ := h; ⟨xs, e _ _ h1, TFs.tm (.of e) h2⟩
theorem LF.step {K : PySem.W.Frag} {r sc : Addr} {ns : List Int} {H H' : Hp} {a : Addr} {ts : List (List Nat)} (h : LF H a ts) (ra : RowAt K H r sc ns) (hr : a ≠ r) (e : StepR r H H') : LF H' a ts := let ⟨xs, h1, h2⟩ := h; ⟨xs, e _ _ hr h1, TFs.tm (e.tm ra) h2⟩
theorem LF.lt {H : Hp} {a : Addr} {ts : List (List Nat)} (h : LF H a ts) : LT H a ts := let ⟨xs, h1, h2⟩ := h; ⟨xs, h1, paired_mono (fun _ _ r => TF.tn r) h2⟩
/-- the addresses and numbers -/
theorem ks_of {H : Hp} : ∀ {xs : List V} {ts : List (List Nat)}, Paired (TF H) xs ts → ∃ ks : List (Addr × List Int), xs = ks.map (fun p => V.ref p.1) ∧ ks.map (·.2) = ts.map iN ∧ ∀ p ∈ ks, ∃ t ∈ ts, p.2 = iN t ∧ TF H (.ref p.1) t
  | _, _, .nil => ⟨[], rfl, rfl, fun p h => by cases h⟩
  | _, _, .cons (a := x) (b := t) r s => by
    obtain ⟨ks, h1, h2, h3⟩ := ks_of s
    obtain ⟨a, o, e, ho, hd⟩ := id r
    refine ⟨(a, iN t) :: ks, by rw [e, h1]; rfl, by rw [List.map_cons, h2]; rfl, fun p hp => ?_⟩
    rcases List.mem_cons.mp hp with z | hp
    · rw [z]
      exact ⟨t, List.mem_cons_self, rfl, a, o, rfl, ho, hd⟩
    · obtain ⟨t', ht, z⟩ := h3 p hp
      exact ⟨t', List.mem_cons_of_mem _ ht, z⟩
theorem cut_one (xs : List V) (j : Nat) : cutV xs (some (j : Int)) (some ((j : Int) + 1)) = (xs.drop j).take 1 := by
  unfold cutV
  have e : ((j : Int) + 1) = ((j + 1 : Nat) : Int) := by omega
  rw [e, HT.sIx_nat, HT.sIx_nat]
  by_cases h : j < xs.length
  · rw [Nat.min_eq_left (Nat.le_of_lt h), Nat.min_eq_left h]
    congr 1
    omega
  · rw [Nat.min_eq_right (by omega), Nat.min_eq_right (by omega), List.drop_of_length_le (Nat.le_refl _), List.drop_of_length_le (by omega), List.take_nil, List.take_nil]
/-! ### the mirror -/
structure SpI (gs : List (List Nat)) (n j : Nat) (F : List (List Nat)) : Prop where
  nd : F.Nodup
  made : ∀ t ∈ F, Mk gs n t
  st : List.range n ∈ F
  cl : ∀ (i : Nat) (t : List Nat), i < j → F[i]? = some t → ∀ g ∈ gs, prod t g ∈ F
theorem SpI.skip {gs : List (List Nat)} {n j : Nat} {F : List (List Nat)} (h : SpI gs n j F) (hj : F.length ≤ j) : SpI gs n (j + 1) F :=
  ⟨h.nd, h.made, h.st, fun i t hi e => by
    have := (List.getElem?_eq_some_iff.mp e).1
    exact h.cl i t (by omega) e⟩
theorem SpI.next {gs : List (List Nat)} {n j : Nat} {F M : List (List Nat)} {one : List Nat} (h : SpI gs n j F) (h1 : F[j]? = some one) (hM : M.Nodup) (hM1 : ∀ t ∈ M, ∃ g ∈ gs, t = prod one g) (hM2 : ∀ g ∈ gs, prod one g ∈ M) :
    SpI gs n (j + 1) (F ++ M.filter fun t => decide (t ∉ F)) := by
  have hjl := (List.getElem?_eq_some_iff.mp h1).1
  have hone := h.made one (List.mem_of_getElem? h1)
  refine ⟨List.nodup_append.mpr ⟨h.nd, hM.filter _, fun a ha b hb e => ?_⟩, fun t ht => ?_, List.mem_append.mpr (.inl h.st), fun i t hi e g hg => ?_⟩
  · subst e
    have := (List.mem_filter.mp hb).2
    exact (of_decide_eq_true this) ha
  · rcases List.mem_append.mp ht with z | z
    · exact h.made t z
    · obtain ⟨g, hg, e⟩ := hM1 t (List.mem_filter.mp z).1
      rw [e]
      exact .step hone hg
  · rw [List.getElem?_append_left (by omega)] at e
    by_cases hij : i < j
    · exact List.mem_append.mpr (.inl (h.cl i t hij e g hg))
    · have : i = j := by omega
      subst this
      rw [h1] at e
      have e := Option.some.inj e
      subst e
      by_cases hin : prod one g ∈ F
      · exact List.mem_append.mpr (.inl hin)
      · exact List.mem_append.mpr (.inr (List.mem_filter.mpr ⟨hM2 g hg, decide_eq_true hin⟩))
theorem SpI.all {gs : List (List Nat)} {n j : Nat} {F : List (List Nat)} (h : SpI gs n j F) (hj : F.length ≤ j) : ∀ t, t ∈ F ↔ Mk gs n t := fun t => by
  refine ⟨h.made t, fun m => ?_⟩
  induction m with
  | still => exact h.st
  | @step t g _ hg ih =>
    obtain ⟨i, hi, e⟩ := List.getElem_of_mem ih
    exact h.cl i t (by omega) (by rw [List.getElem?_eq_getElem hi, e]) g hg
/-! ### a tuple or a list of turns -/
def GS (H : Hp) (v : V) (ts : List (List Nat)) : Prop := TT H v ts ∨ ∃ a, v = .ref a ∧ LT H a ts
theorem GS.same {H H' : Hp} {v : V} {ts : List (List Nat)} (h : GS H v ts) (e : Same H H') : GS H' v ts := by
  rcases h with h | ⟨a, rfl, h⟩
  · exact .inl (h.tm (.of e))
  · exact .inr ⟨a, rfl, h.same e⟩
def iSq (K : PySem.W.Frag) (i : Nat) : TI := fun σ H R => iTup K (tVar i) σ H R ∨ iList K (tVar i) σ H R
theorem pi_sq {X : Cx} {tg : Expr} {l : Expr} {i : Nat} (h : PE X l (tVar i)) : PI X tg l (iSq X.K i) :=
  ⟨fun pins s σ H R I q => q.elim ((pi_tup h).run pins s σ H R I) ((pi_list h).run pins s σ H R I)⟩
theorem sq_lc {K : PySem.W.Frag} {te : TE} {vs : List Nat} {σ : L2.St} {H1 : Hp} {β : Type} {i j : Nat} {gv : V} {gs : List (List Nat)} {Q : VK} (R : Hp → V → β → Prop) (ys : List β) (mono : ∀ H H' v b, Tm H H' → R H v b → R H' v b) (hgs : GS H1 gv gs) (hσ : σ[i]? = some (some gv)) (hz : gs.length ≤ 100000) (hy : ys.length = gs.length)
    (hw : ∀ x, wipe ((wipe σ vs).set j (some x)) vs = wipe σ vs)
    (he : ∀ (k : Nat) (x : V) (b : β) (g : List Nat), gs[k]? = some g → ys[k]? = some b → TN H1 x g → ∀ H, Same H1 H → ∀ Q : VK, (∀ v H', Same H H' → R H' v b → Q v H') → te ((wipe σ vs).set j (some x)) H Q)
    (hd : ∀ D H zs, H1 D = none → Same H1 H → H D = some (.lst zs) → Paired (R H) zs ys → Q (.ref D) H) : tLc (iSq K i) (gName j) tYes te vs σ H1 Q := by
  rcases hgs with ⟨a, xs, rfl, ha, p⟩ | ⟨a, rfl, xs, ha, p⟩
  · refine .inl ⟨_, hσ, a, rfl, ⟨_, SqT.of ha⟩, fun D hD => lc_tupM R ys mono (SqT.of ha) (fun H s => SqT.of (s _ _ ha)) (by rw [Paired.length p]; exact hz) (by rw [Paired.length p]; exact hy) hD hw (fun k x b hx hb => ?_) (fun H zs => hd D H zs hD)⟩
    obtain ⟨g, hg, r⟩ := Paired.getL p hx
    exact he k x b g hg hb r
  · refine .inr ⟨_, hσ, a, rfl, ⟨_, SqL.of ha⟩, fun D hD => lc_listM R ys mono (fun H s => SqL.of (s _ _ ha)) (by rw [Paired.length p]; exact hz) (by rw [Paired.length p]; exact hy) hD hw (fun k x b hx hb => ?_) (fun H zs => hd D H zs hD)⟩
    obtain ⟨g, hg, r⟩ := Paired.getL p hx
    exact he k x b g hg hb r
section
variable {P : Program} {w : World} {K : PySem.W.Frag} {mg : Str → Option Value} {base : Heap}
def spSpan : Sp := fun vs H Q _ => ∃ (gv : V) (gs : List (List Nat)) (n : Nat), vs = [nI n, gv] ∧ GS H gv gs ∧ (∀ g ∈ gs, IsP n g) ∧ 1 ≤ n ∧ n ≤ 9 ∧ gs.length ≤ 60 ∧ Few gs n 63 ∧
  ∀ p H' ts, Same H H' → H p = none → LF H' p ts → ts.Nodup → (∀ t, t ∈ ts ↔ Mk gs n t) → Asc ts → Q (.ref p) H'
theorem sc_law_span : FnScope ["places", "given", "found", "turn", "one", "later", "other"] ["places", "given"] (defScope s_law_span) := ⟨rfl, rfl, rfl, by decide +kernel, rfl, by decide +kernel, by decide +kernel⟩
theorem has_law_span (T : Top K mg "_law_span" s_law_span ["places", "given"]) (B : Bi mg) (hP : Has P w K mg base CX0 1 "_law_behind" ["one", "other"] spProdF) : Has P w K mg base CX0 2 "_law_span" ["places", "given"] spSpan := by
  refine T.ok sc_law_span (fun vs H Q E h => ?_) (fun f cdv A outer s H vs Q E hr h => ?_)
  · obtain ⟨gv, gs, n, rfl, _⟩ := h
    rfl
  · obtain ⟨gv, gs, n, rfl, hgv, hg, hn1, hn9, hgl, hf, q⟩ := h
    have hu64 := hr.units
    have hu65 : A.units + 3 + 65 < cLine := by have := hr.un; show A.units + 3 + 65 < cLine; have e : (A.deeper (envOfC "_law_span" (defScope s_law_span) s.heap.objs.size f cdv)).units = A.units + 3 := rfl; omega
    refine ⟨_, pss_cons (ps_set (i := 2) sc_law_span.nd rfl (Or.inr rfl) (pe_lst (pa_cons (pe_tupRgF (by rfl) (by rfl) B.tuple (prg_1 (by rfl) B.range (pv 0))) pa_nil)))
      (pss_cons (ps_for PassesOwn.never rfl (pi_range1 (by rfl) B.range (pa_cons pe_int pa_nil)) (pg_name (i := 3) sc_law_span.nd rfl (Or.inl rfl))
        (pss_one (ps_for PassesOwn.never rfl (pi_list (pe_slice sl_list (pv 2) (po_some (pv 3)) (po_some (pe_op op_add (pv 3) pe_int)))) (pg_name (i := 4) sc_law_span.nd rfl (Or.inr rfl))
          (pss_cons (ps_setLc (i := 5) (own := [("other", 6)]) (g := gName 6) (te := tCall spProdF [] E0 (tCons (tVar 4) (tCons (tVar 6) tNil))) (by rfl) sc_law_span.nd rfl rfl (sw_true rfl rfl rfl (by decide +kernel)) (pi_sq (pv 1)) (blkOk_by (own := [("other", 6)]) (N := ["places", "given", "found", "turn", "one", "later", "other"]) (sc := defScope s_law_span) (by decide +kernel))
            (fun _ _ _ _ _ => pg_name (i := 6) sc_law_span.nd rfl (Or.inl rfl)) (fun _ _ _ _ _ => pts_nil) (fun _ _ _ _ _ => pe_has hP hr (by rfl) (pa_cons (pv 4) (pa_cons (pv 6) pa_nil))))
          (pss_one (ps_set (i := 2) sc_law_span.nd rfl (Or.inr rfl) (pe_op op_cat (pv 2) (pe_lc (own := [("other", 6)]) (g := gName 6) (tt := tTest (tOp (rNotInD K) (tVar 6) (tVar 2))) (te := tVar 6) (by rfl) sc_law_span.nd
            (pi_list (pe_callB (cr_sortedT (by rfl)) (by rfl) B.sorted PyProof.Rows.boot_sorted (pa_cons (pe_callTy (cr_setOfT (by rfl) hu64) (by rfl) B.set PyProof.Rows.boot_set (pa_cons (pv 5) pa_nil)) pa_nil)))
            (blkOk_by (own := [("other", 6)]) (N := ["places", "given", "found", "turn", "one", "later", "other"]) (sc := defScope s_law_span) (by decide +kernel))
            (fun _ _ _ _ _ => pg_name (i := 6) sc_law_span.nd rfl (Or.inl rfl)) (fun _ _ _ _ _ => pts_one (pt_cmpR (op_notInD hu65) (pv 6) (pv 2) (by rfl))) (fun _ _ _ _ _ => pv 6)))))))))
      (pss_one (ps_ret (pe_callB (cr_sortT (d := n) (B := 9) hn1) (by rfl) B.sorted PyProof.Rows.boot_sorted (pa_cons (pv 2) pa_nil))))), ?_⟩
    refine ⟨_, rfl, n, rfl, .of_le (by omega) (by omega) (by omega) (by omega), fun q0 o ho hq0 => ⟨by show 1 ≤ sizeLine; decide, fun fl hfl => ?_⟩⟩
    have s1 := same_new (o := .frz o (.tup (rgV 0 n))) hq0
    have s2 := s1.trans (same_new (o := .lst [.ref q0]) hfl)
    have hq0l : q0 ≠ fl := fun z => by rw [← z, upd_same] at hfl; cases hfl
    refine ⟨300, rfl, by decide, by decide, for_range (lo := 0) (n := 300) (fun j σ H' => ∃ fl F x3 x4 x5 x6, σ = [some (nI n), some gv, some (.ref fl), x3, x4, x5, x6] ∧ Same H H' ∧ LF H' fl F ∧ SpI gs n j F)
      ⟨fl, [List.range n], none, none, none, none, rfl, s2, ⟨[.ref q0], upd_same, .cons ⟨q0, o, rfl, by rw [upd_ne hq0l, upd_same, rgV_nat], ho⟩ .nil⟩, ⟨List.pairwise_singleton _ _, fun t ht => by rw [List.mem_singleton.mp ht]; exact .still, List.mem_singleton.mpr rfl, fun i t hi => absurd hi (Nat.not_lt_zero i)⟩⟩ ?_ ?_⟩
    · rintro j σ H' hj ⟨fl, F, x3, x4, x5, x6, rfl, sm, ⟨xs, hxs, hp⟩, sp⟩
      simp only [Int.zero_add]
      have hFl : F.length ≤ 63 := hf.le sp.nd sp.made
      have hxl : xs.length = F.length := Paired.length hp
      refine ⟨_, rfl, _, rfl, (j : Int), rfl, _, rfl, (j : Int), 1, rfl, rfl, (j : Int) + 1, rfl, fl, xs, rfl, SqL.of hxs, fun sl hsl => ?_⟩
      have ssl := same_new (o := .lst (cutV xs (some (j : Int)) (some ((j : Int) + 1)))) hsl
      refine ⟨sl, rfl, ⟨_, SqL.of upd_same⟩, for_list (K := K) (a := sl) (xs := cutV xs (some (j : Int)) (some ((j : Int) + 1)))
        (fun i σ H2 => ∃ fl' F' x4 x5 x6, σ = [some (nI n), some gv, some (.ref fl'), some (nI j), x4, x5, x6] ∧ Same H' H2 ∧ LF H2 fl' F' ∧ (i = 0 → F' = F) ∧ (1 ≤ i → SpI gs n (j + 1) F') ∧ H2 sl = some (.lst (cutV xs (some (j : Int)) (some ((j : Int) + 1)))))
        ⟨fl, F, x4, x5, x6, rfl, ssl, LF.same ⟨xs, hxs, hp⟩ ssl, fun _ => rfl, fun h => absurd h (by omega), upd_same⟩ (fun i σ H2 _ ⟨_, _, _, _, _, _, _, _, _, _, h⟩ => SqL.of h) ?_ ?_⟩
      · rintro i x σ H2 hi ⟨fl', F', x4, x5, x6, rfl, sm1, ⟨xs2, hxs2, hp2⟩, h0, _, hsl2⟩
        have sm2 := sm.trans sm1
        rw [cut_one] at hi
        have hi0 : i = 0 := by
          have := (List.getElem?_eq_some_iff.mp hi).1
          rw [List.length_take] at this
          omega
        subst hi0
        have eF := h0 rfl
        subst eF
        rw [List.getElem?_take_of_lt (by omega), List.getElem?_drop, Nat.add_zero] at hi
        obtain ⟨one, hone, htf0⟩ := Paired.getL hp hi
        have hi := hone
        have htf : TF H2 x one := htf0.tm (.of sm1)
        have honeP := (sp.made one (List.mem_of_getElem? hone)).isP hg
        -- later
        dsimp only [gName, tSeq, tAsg, List.set]
        refine sq_lc TF (gs.map (prod one)) (fun _ _ _ _ e r => TF.tm e r) (hgv.same sm2) (by rfl) (by omega) (by rw [List.length_map]) (by intro _; rfl) (fun k y b g hgk hb hyg H3 s3 Q' q' => ?_) (fun D H3 zs hD s3 hz pz => ?_)
        · rw [List.getElem?_map, hgk] at hb
          have hb := Option.some.inj hb
          subst hb
          have hgP := hg g (List.mem_of_getElem? hgk)
          exact ⟨_, rfl, _, rfl, x, y, one, g, rfl, htf.tn.tm (.of s3), hyg.tm (.of s3), fun i hi => by rw [hgP.len]; exact honeP.lt i hi, by rw [honeP.len]; omega, q'⟩
        · -- found = found + [..]
          obtain ⟨ks, ek1, ek2, ek3⟩ := ks_of pz
          have hksl : ks.length < 64 := by
            have e := congrArg List.length ek2
            rw [List.length_map, List.length_map, List.length_map] at e
            omega
          have hks : ∀ p ∈ ks, SqT K H3 p.1 (p.2.map V.int) := fun p hp => by
            obtain ⟨t, _, e, a, o, ea, hao, _⟩ := ek3 p hp
            cases ea
            rw [e, show (iN t).map V.int = nIs t from (nIs_int t).symm]
            exact RT.sq (.inr ⟨o, hao⟩)
          have hz' : H3 D = some (.lst (ks.map fun p => V.ref p.1)) := by rw [hz, ek1]
          refine ⟨_, rfl, _, rfl, D, ks, rfl, SqL.of hz', hks, hksl, fun aS L haS hL1 hL2 => ?_⟩
          have s4 := same_new (o := SetTO P w aS L) haS
          have hLP : ∀ p ∈ L, ∃ t ∈ gs.map (prod one), p.2 = iN t ∧ TF H3 (.ref p.1) t := fun p hp => ek3 p (hL1 p hp)
          have hmulP : ∀ t ∈ gs.map (prod one), IsP n t := fun t ht => by
            obtain ⟨g, hgm, e⟩ := List.mem_map.mp ht
            rw [← e]
            exact honeP.prod (hg g hgm)
          refine ⟨aS, L, n, 9, rfl, upd_same, fun p hp => ?_, hn1, fun p hp => ?_, fun L' sp' pm nd h64 pw hsp' => ?_⟩
          · rcases hks p (hL1 p hp) with (z | ⟨o, z⟩) | z
            · exact .inl (.inl (s4 _ _ z))
            · exact .inl (.inr ⟨o, s4 _ _ z⟩)
            · exact .inr z
          · obtain ⟨t, ht, e, _⟩ := hLP p hp
            rw [e]
            exact ⟨by rw [iN_len, (hmulP t ht).len], bd_iN (hmulP t ht) hn9⟩
          have s5 := same_new (o := .lst (L'.map fun q : Addr × List Int => V.ref q.1)) hsp'
          have s45 := s4.trans s5
          refine ⟨sp', rfl, ⟨_, SqL.of upd_same⟩, fun D2 hD2 => ?_⟩
          have hL' : ∀ q ∈ L', q.2 = iN (q.2.map Int.toNat) ∧ q.2.map Int.toNat ∈ gs.map (prod one) ∧ TF H3 (.ref q.1) (q.2.map Int.toNat) := fun q hq => by
            obtain ⟨t, ht, e, tf⟩ := hLP q (pm.mem_iff.mp hq)
            have et : q.2.map Int.toNat = t := by
              rw [e]
              show (t.map Int.ofNat).map Int.toNat = t
              rw [List.map_map]
              exact (List.map_congr_left (g := id) fun _ _ => rfl).trans (List.map_id t)
            rw [et]
            exact ⟨e, ht, tf⟩
          have hM : (L'.map fun q : Addr × List Int => q.2.map Int.toNat).Nodup := by
            have e : (L'.map fun q : Addr × List Int => q.2.map Int.toNat).map iN = L'.map (·.2) := by
              rw [List.map_map]
              exact List.map_congr_left fun q hq => (hL' q hq).1.symm
            rw [← e] at nd
            exact nodup_of_map nd
          have hM1 : ∀ t ∈ (L'.map fun q : Addr × List Int => q.2.map Int.toNat), ∃ g ∈ gs, t = prod one g := fun t ht => by
            obtain ⟨q, hq, e⟩ := List.mem_map.mp ht
            obtain ⟨g, hgm, e2⟩ := List.mem_map.mp (hL' q hq).2.1
            exact ⟨g, hgm, by rw [← e, ← e2]⟩
          have hM2 : ∀ g ∈ gs, prod one g ∈ (L'.map fun q : Addr × List Int => q.2.map Int.toNat) := fun g hgm => by
            have h1 : iN (prod one g) ∈ ks.map (·.2) := by
              rw [ek2]
              exact List.mem_map.mpr ⟨_, List.mem_map.mpr ⟨g, hgm, rfl⟩, rfl⟩
            obtain ⟨p, hp, e⟩ := List.mem_map.mp h1
            obtain ⟨q, hq, e2⟩ := List.mem_map.mp (hL2 p hp)
            have hq' := pm.mem_iff.mpr hq
            refine List.mem_map.mpr ⟨q, hq', iN_inj ?_⟩
            rw [← (hL' q hq').1]
            exact e2.trans e
          have hlfl : L'.length ≤ 64 := Nat.le_of_lt h64
          have sB := s3.trans s45
          have hp2B := TFs.tm (.of sB) hp2
          have hxs2B := sB _ _ hxs2
          refine lc_list (xs := L'.map fun q : Addr × List Int => V.ref q.1) (fun i H4 => Same (upd (upd H3 aS (SetTO P w aS L)) sp' (.lst (L'.map fun q : Addr × List Int => V.ref q.1))) H4 ∧ ∃ zs, H4 D2 = some (.lst zs) ∧ Paired (TF H4) zs (((L'.map fun q : Addr × List Int => q.2.map Int.toNat).take i).filter fun t => decide (t ∉ F')) ∧ zs.length ≤ i)
            ⟨same_new hD2, [], upd_same, .nil, Nat.le_refl 0⟩ (fun i H4 _ h => SqL.of (h.1 _ _ upd_same)) ?_ ?_
          · rintro i x' H4 hi' ⟨sD, zs, hz4, pz4, hzl⟩
            rw [List.getElem?_map] at hi'
            obtain ⟨qe, hqe, rfl⟩ := Option.map_eq_some_iff.mp hi'
            have hqm := List.mem_of_getElem? hqe
            obtain ⟨_, ht1, ht2⟩ := hL' qe hqm
            have hil : i < 64 := by have := (List.getElem?_eq_some_iff.mp hqe).1; omega
            have tf4 : TF H4 (.ref qe.1) (qe.2.map Int.toNat) := ht2.tm (.of (s45.trans sD))
            have etake : (L'.map fun q : Addr × List Int => q.2.map Int.toNat).take (i + 1) = (L'.map fun q : Addr × List Int => q.2.map Int.toNat).take i ++ [qe.2.map Int.toNat] := by
              rw [List.take_add_one, List.getElem?_map, hqe]
              rfl
            refine ⟨rfl, _, rfl, _, rfl, dT (qe.2.map Int.toNat), F'.map dT, tf4.tn.dp, .lst (SqL.of (sD _ _ hxs2B)) (TNs.dp (paired_mono (fun _ _ r => TF.tn r) (TFs.tm (.of sD) hp2B))), sh_T _, sh_LT _, _, rfl, ?_⟩
            rw [any_dT]
            by_cases hin : qe.2.map Int.toNat ∈ F'
            · rw [decide_eq_true hin]
              refine iteF ⟨sD, zs, hz4, ?_, by omega⟩
              rw [etake, List.filter_append, List.filter_cons, if_neg (by simpa using hin), List.filter_nil, List.append_nil]
              exact pz4
            · rw [decide_eq_false hin]
              have t4 := Tm.lst (o := .lst (zs ++ [V.ref qe.1])) hz4
              refine iteT ⟨_, rfl, zs, hz4, by rw [sizeLine_eq]; omega, same_mut sD hD2, zs ++ [V.ref qe.1], upd_same, ?_, by rw [List.length_append]; show zs.length + 1 ≤ i + 1; omega⟩
              rw [etake, List.filter_append, List.filter_cons, if_pos (by simpa using hin), List.filter_nil]
              exact Paired.app (TFs.tm t4 pz4) (Paired.one (tf4.tm t4))
          · rintro H4 ⟨sD, zs, hz4, pz4, hzl⟩
            rw [List.length_map, show L'.length = (L'.map fun q : Addr × List Int => q.2.map Int.toNat).length from (List.length_map ..).symm, List.take_length] at pz4
            rw [List.length_map] at hzl
            have hxs4 := sD _ _ hxs2B
            have hx2l : xs2.length ≤ 63 := by rw [Paired.length hp2]; exact hFl
            refine ⟨fl', D2, xs2, zs, rfl, rfl, hxs4, hz4, by rw [sizeLine_eq]; omega, fun np hnp => ?_⟩
            have s6 := same_new (o := .lst (xs2 ++ zs)) hnp
            have sE := (sB.trans sD).trans s6
            refine ⟨np, _, _, _, _, rfl, sm1.trans sE, ⟨xs2 ++ zs, upd_same, Paired.app (TFs.tm (.of (sD.trans s6)) hp2B) (TFs.tm (.of s6) pz4)⟩, fun h => absurd h (by omega), fun _ => sp.next hi hM hM1 hM2, sE _ _ hsl2⟩
      · rintro σ H2 ⟨fl', F', x4, x5, x6, rfl, sm1, lf2, h0, h1, _⟩
        refine ⟨fl', F', _, _, _, _, rfl, sm.trans sm1, lf2, ?_⟩
        rw [cut_one, List.length_take, List.length_drop] at h0 h1
        by_cases hlt : j < xs.length
        · exact h1 (by omega)
        · rw [h0 (by omega)]
          exact sp.skip (by omega)
    · rintro σ H' ⟨fl, F, x3, x4, x5, x6, rfl, sm, ⟨xs, hxs, hp⟩, sp⟩
      have hFl : F.length ≤ 63 := hf.le sp.nd sp.made
      have hxl : xs.length = F.length := Paired.length hp
      refine ⟨_, rfl, fl, xs, rfl, SqL.of hxs, by omega, fun x hx => ?_, fun ys p pm pw hp2 => ?_⟩
      · obtain ⟨t, ht, a, o, rfl, hao, _⟩ := Paired.memL hp hx
        have htP := (sp.made t ht).isP hg
        exact ⟨iN t, ⟨a, rfl, by rw [show (iN t).map V.int = nIs t from (nIs_int t).symm]; exact RT.sq (.inr ⟨o, hao⟩)⟩, by rw [iN_len, htP.len], bd_iN htP hn9⟩
      · obtain ⟨ts, h1, h2⟩ := Paired.perm pm hp
        have s2 := same_new (o := .lst ys) hp2
        refine q p _ ts (sm.trans s2) (sm.free hp2) ⟨ys, upd_same, TFs.tm (.of s2) h1⟩ (h2.nodup_iff.mpr sp.nd) (fun t => h2.mem_iff.trans (sp.all (by omega) t)) ?_
        refine Paired.pairwise (R := TF H') (fun x y s t rx ry hxy => ?_) h1 pw
        obtain ⟨a, o, rfl, hao, _⟩ := rx
        obtain ⟨a', o', rfl, hao', _⟩ := ry
        exact hxy (iN s) (iN t) ⟨a, rfl, by rw [show (iN s).map V.int = nIs s from (nIs_int s).symm]; exact RT.sq (.inr ⟨o, hao⟩)⟩ ⟨a', rfl, by rw [show (iN t).map V.int = nIs t from (nIs_int t).symm]; exact RT.sq (.inr ⟨o', hao'⟩)⟩
end
end Lt

set_option linter.all false
set_option Elab.async false
set_option maxRecDepth 100000
/-! locks whose places are called otherwise; small locks -/
namespace Lt
def cj (s t : List Nat) : List Nat := prod (prod (inv s) t) s
theorem cj_isP {n : Nat} {s t : List Nat} (hs : IsP n s) (ht : IsP n t) : IsP n (cj s t) := (hs.inv.prod ht).prod hs
theorem cj_still {n : Nat} {s : List Nat} (hs : IsP n s) : cj s (List.range n) = List.range n := by
  unfold cj
  rw [prod_still_r hs.inv.lt, prod_inv_l hs]
theorem bd {n : Nat} {x y : List Nat} (hx : IsP n x) (hy : IsP n y) : ∀ i ∈ x, i < y.length := fun i hi => by rw [hy.len]; exact hx.lt i hi
theorem cj_prod {n : Nat} {s a b : List Nat} (hs : IsP n s) (ha : IsP n a) (hb : IsP n b) : cj s (prod a b) = prod (cj s a) (cj s b) := by
  unfold cj
  have h1 : prod (prod (prod (inv s) a) s) (prod (prod (inv s) b) s) = prod (prod (inv s) a) (prod s (prod (prod (inv s) b) s)) := prod_assoc (bd (hs.inv.prod ha) hs)
  have h2 : prod s (prod (prod (inv s) b) s) = prod b s := by
    rw [← prod_assoc (bd hs (hs.inv.prod hb)), ← prod_assoc (bd hs hs.inv), prod_inv_r hs, prod_still_l hb.len]
  rw [h1, h2, ← prod_assoc (bd hs.inv ha), prod_assoc (bd (hs.inv.prod ha) hb)]
theorem Mk.cj {gs : List (List Nat)} {n : Nat} {s : List Nat} (hg : ∀ g ∈ gs, IsP n g) (hs : IsP n s) {u : List Nat} (h : Mk (gs.map (Lt.cj s)) n u) : ∃ t, Mk gs n t ∧ u = Lt.cj s t := by
  induction h with
  | still => exact ⟨_, .still, (cj_still hs).symm⟩
  | @step a g _ hm ih =>
    obtain ⟨t, ht, e⟩ := ih
    obtain ⟨g', hg', e'⟩ := List.mem_map.mp hm
    exact ⟨_, .step ht hg', by rw [cj_prod hs (ht.isP hg) (hg g' hg'), e, e']⟩
theorem Few.cj {gs : List (List Nat)} {n m : Nat} {s : List Nat} (hg : ∀ g ∈ gs, IsP n g) (hs : IsP n s) (h : Few gs n m) : Few (gs.map (Lt.cj s)) n m := by
  obtain ⟨D, h1, h2⟩ := h
  refine ⟨D.map (Lt.cj s), by rw [List.length_map]; exact h1, fun u hu => ?_⟩
  obtain ⟨t, ht, e⟩ := hu.cj hg hs
  rw [e]
  exact List.mem_map.mpr ⟨t, h2 t ht, rfl⟩
theorem few_of {gs : List (List Nat)} {n k : Nat} (h : (qq gs n k).length ≤ k) : Few gs n k :=
  ⟨(qq gs n k).map (·.1), by rw [List.length_map]; exact h, fun t ht => (qq_full h t).mpr ht⟩
theorem Few.mono {gs : List (List Nat)} {n m m' : Nat} (h : Few gs n m) (l : m ≤ m') : Few gs n m' := let ⟨D, h1, h2⟩ := h; ⟨D, Nat.le_trans h1 l, h2⟩
/-- what is led where -/
theorem cj_at {n : Nat} {s t u : List Nat} (hs : IsP n s) (ht : IsP n t) (hl : u.length = n) (h : ∀ (i si ti : Nat), s[i]? = some si → t[i]? = some ti → u[si]? = s[ti]?) : u = cj s t := by
  apply List.ext_getElem?
  intro p
  by_cases hp : p < n
  · have hm : p ∈ s := hs.mem.mpr hp
    have hj := List.idxOf_lt_length_of_mem hm
    have hjn : s.idxOf p < n := by rw [← hs.len]; exact hj
    have e1 : s[s.idxOf p]? = some p := by rw [List.getElem?_eq_getElem hj, List.getElem_idxOf]
    have e2 : t[s.idxOf p]? = some (t[s.idxOf p]'(by rw [ht.len]; exact hjn)) := List.getElem?_eq_getElem _
    have htl : t[s.idxOf p]'(by rw [ht.len]; exact hjn) < s.length := by rw [hs.len]; exact ht.lt _ (List.getElem_mem _)
    rw [h _ _ _ e1 e2]
    unfold cj prod inv
    rw [List.getElem?_map, List.getElem?_map, List.getElem?_map, hs.len, List.getElem?_range hp]
    simp only [Option.map_some]
    rw [List.getD_eq_getElem?_getD (l := t), e2, Option.getD_some, List.getD_eq_getElem?_getD, List.getElem?_eq_getElem htl, Option.getD_some]
  · rw [List.getElem?_eq_none (by omega), List.getElem?_eq_none (by rw [(cj_isP hs ht).len]; omega)]
/-! ### all permutations of few places -/
def lists (n : Nat) : Nat → List (List Nat)
  | 0 => [[]]
  | k + 1 => (List.range n).flatMap fun a => (lists n k).map (a :: ·)
theorem mem_lists {n : Nat} : ∀ (t : List Nat), (∀ i ∈ t, i < n) → t ∈ lists n t.length
  | [], _ => List.mem_singleton.mpr rfl
  | a :: t, h => List.mem_flatMap.mpr ⟨a, List.mem_range.mpr (h a List.mem_cons_self), List.mem_map.mpr ⟨t, mem_lists t fun i hi => h i (List.mem_cons_of_mem _ hi), rfl⟩⟩
theorem few_all {gs : List (List Nat)} {n m : Nat} (hg : ∀ g ∈ gs, IsP n g) (h : ((lists n n).filter fun t => decide (IsP n t)).length ≤ m) : Few gs n m :=
  ⟨_, h, fun t ht => by
    have hp := ht.isP hg
    have z := mem_lists t hp.lt
    rw [hp.len] at z
    exact List.mem_filter.mpr ⟨z, decide_eq_true hp⟩⟩
theorem all4 : ((lists 4 4).filter fun t => decide (IsP 4 t)).length ≤ 60 := by decide +kernel
theorem all3 : ((lists 3 3).filter fun t => decide (IsP 3 t)).length ≤ 60 := by decide +kernel
theorem all2 : ((lists 2 2).filter fun t => decide (IsP 2 t)).length ≤ 60 := by decide +kernel
/-! ### the known locks -/
def known : List (List (List Nat)) := [[[1, 2, 3, 0]], [[1, 0, 3, 2], [2, 3, 0, 1]], [[1, 2, 3, 0], [3, 2, 1, 0]], [[1, 0, 2, 3, 4, 5], [0, 1, 3, 2, 4, 5], [0, 1, 2, 3, 5, 4]],
  [[1, 2, 3, 4, 5, 6, 7, 0]], [[1, 2, 3, 4, 5, 6, 7, 8, 0]], [[1, 2, 3, 0, 5, 6, 7, 4], [4, 7, 6, 5, 2, 1, 0, 3]], [[1, 2, 0, 3, 4, 5], [0, 1, 2, 4, 5, 3]], [[1, 2, 0], [1, 0, 2]],
  [[1, 2, 0, 3], [1, 0, 3, 2]], [[1, 2, 0, 3, 4], [0, 1, 2, 4, 3]], [[3, 4, 5, 6, 7, 8, 0, 1, 2], [0, 1, 2, 4, 5, 3, 8, 6, 7]], [[1, 2, 3, 4, 0], [1, 2, 0, 3, 4]], [[1, 2, 3, 0], [1, 0, 2, 3]],
  [[1, 2, 3, 4, 0], [0, 4, 3, 2, 1]]]
def fine (gs : List (List Nat)) : Bool := match gs with
  | [] => false
  | g :: _ => decide (gs.length ≤ 4) && decide (2 ≤ g.length) && decide (g.length ≤ 9) && gs.all (fun t => decide (IsP g.length t)) && decide ((qq gs g.length 60).length ≤ 60)
theorem known_fine : known.all fine = true := by decide +kernel
theorem fine_of {gs : List (List Nat)} (h : gs ∈ known) : ∃ n, 1 ≤ gs.length ∧ gs.length ≤ 4 ∧ 2 ≤ n ∧ n ≤ 9 ∧ (∀ g ∈ gs, IsP n g) ∧ Few gs n 60 := by
  have z := List.all_eq_true.mp known_fine gs h
  cases gs with
  | nil => cases z
  | cons g gs =>
    have z : (decide ((g :: gs).length ≤ 4) && decide (2 ≤ g.length) && decide (g.length ≤ 9) && (g :: gs).all (fun t => decide (IsP g.length t)) && decide ((qq (g :: gs) g.length 60).length ≤ 60)) = true := z
    simp only [Bool.and_eq_true, decide_eq_true_eq, List.all_eq_true] at z
    obtain ⟨⟨⟨⟨z1, z2⟩, z3⟩, z4⟩, z5⟩ := z
    exact ⟨g.length, by show 1 ≤ gs.length + 1; omega, z1, z2, z3, z4, few_of z5⟩
end Lt

set_option Elab.async false
set_option linter.all false
set_option maxRecDepth 100000
set_option maxHeartbeats 1000000
namespace Lt
open PySem PySem.Spec PyProof.Rows L2
/-! ### a written table of locks -/
def isInts : List Expr → List Nat → Bool
  | [], [] => true
  | .Constant (.int i) _ _ :: es, n :: t => decide (i = Int.ofNat n) && isInts es t
  | _, _ => false
def isTurns : List Expr → List (List Nat) → Bool
  | [], [] => true
  | .Tuple es _ _ :: r, t :: ts => isInts es t && isTurns r ts
  | _, _ => false
def isTab : List (Option Expr) → List Expr → List (Str × List (List Nat)) → Bool
  | [], [], [] => true
  | some (.Constant (.str x) _ _) :: ks, .Tuple es _ _ :: vs, (y, ts) :: tab => decide (x = y) && isTurns es ts && isTab ks vs tab
  | _, _, _ => false
theorem PA.imp {X : Cx} {es : List Expr} {t t' : TA} (h : PA X es t) (i : ∀ σ H Q, t' σ H Q → t σ H Q) : PA X es t' := ⟨fun pos pins s σ H Q I q => h.run pos pins s σ H Q I (i σ H Q q)⟩
theorem PE.imp {X : Cx} {e : Expr} {t t' : TE} (h : PE X e t) (i : ∀ σ H Q, t' σ H Q → t σ H Q) : PE X e t' := ⟨fun pins s σ H Q I q => h.run pins s σ H Q I (i σ H Q q)⟩
section
variable {X : Cx}
theorem pa_ints : ∀ {es : List Expr} {t : List Nat}, isInts es t = true → PA X es (fun _ H Q => Q (nIs t) H)
  | [], [], _ => pa_nil
  | [], _ :: _, h => by cases h
  | e :: es, [], h => by
    cases e with
    | Constant c j p => cases c <;> cases h
    | _ => cases h
  | e :: es, n :: t, h => by
    cases e with
    | Constant c j p =>
      cases c with
      | int i =>
        have h : (decide (i = Int.ofNat n) && isInts es t) = true := h
        rw [Bool.and_eq_true, decide_eq_true_eq] at h
        obtain ⟨rfl, h2⟩ := h
        exact PA.imp (pa_cons pe_int (pa_ints h2)) fun σ H Q q => q
      | _ => cases h
    | _ => cases h
theorem pe_turn {es : List Expr} {k : Nat} {pos : Pos} {t : List Nat} (h : isInts es t = true) (hl : t.length ≤ 1000) : PE X (.Tuple es k pos) (fun _ H Q => ∀ v H', Same H H' → TK H' v t → Q v H') :=
  PE.imp (pe_tup (pa_ints h)) fun σ H Q q => ⟨by rw [nIs_len, sizeLine_eq]; omega, fun p hp => q _ _ (same_new hp) ⟨p, rfl, upd_same⟩⟩
theorem pa_turns : ∀ {es : List Expr} {ts : List (List Nat)}, isTurns es ts = true → (∀ t ∈ ts, t.length ≤ 1000) → PA X es (fun _ H Q => ∀ vs H', Same H H' → Paired (TN H') vs ts → Q vs H')
  | [], [], _, _ => PA.imp pa_nil fun σ H Q q => q _ _ (Same.refl _) .nil
  | [], _ :: _, h, _ => by cases h
  | e :: es, [], h, _ => by cases e <;> cases h
  | e :: es, t :: ts, h, hl => by
    cases e with
    | Tuple es2 k pos =>
      have h : (isInts es2 t && isTurns es ts) = true := h
      rw [Bool.and_eq_true] at h
      refine PA.imp (pa_cons (pe_turn h.1 (hl t List.mem_cons_self)) (pa_turns h.2 fun x hx => hl x (List.mem_cons_of_mem _ hx))) fun σ H Q q => ?_
      exact fun v H1 s1 hv vs H2 s2 hvs => q _ _ (s1.trans s2) (.cons (hv.tn.tm (.of s2)) hvs)
    | _ => cases h
def Tb (H : Hp) (p : V × V) (x : Str × List (List Nat)) : Prop := p.1 = .str x.1 ∧ TT H p.2 x.2
theorem pps_tab {pos : Pos} : ∀ {ks : List (Option Expr)} {vs : List Expr} {tab : List (Str × List (List Nat))}, isTab ks vs tab = true → (∀ x ∈ tab, x.2.length ≤ 1000 ∧ ∀ t ∈ x.2, t.length ≤ 1000) →
    ∃ trs, PPs X pos ks vs trs ∧ ∀ σ H Q, (∀ ps H', Same H H' → Paired (Tb H') ps tab → Q ps H') → tPairs trs σ H Q
  | [], [], [], _, _ => ⟨[], pps_nil, fun σ H Q q => q _ _ (Same.refl _) .nil⟩
  | [], [], _ :: _, h, _ => by cases h
  | [], _ :: _, _, h, _ => by cases h
  | k :: ks, [], tab, h, _ => by
    cases k with
    | none => cases h
    | some e => cases e with
      | Constant c j p => cases c <;> cases h
      | _ => cases h
  | k :: ks, v :: vs, [], h, _ => by
    cases k with
    | none => cases h
    | some e => cases e with
      | Constant c j p => cases c <;> cases v <;> cases h
      | _ => cases h
  | k :: ks, v :: vs, (y, ts) :: tab, h, hl => by
    cases k with
    | none => cases h
    | some e => cases e with
      | Constant c j p => cases c with
        | str x => cases v with
          | Tuple es k2 pos2 =>
            have h : (decide (x = y) && isTurns es ts && isTab ks vs tab) = true := h
            rw [Bool.and_eq_true, Bool.and_eq_true, decide_eq_true_eq] at h
            obtain ⟨⟨rfl, h1⟩, h2⟩ := h
            obtain ⟨hl1, hl2⟩ := hl (x, ts) List.mem_cons_self
            obtain ⟨trs, p, r⟩ := pps_tab h2 fun z hz => hl z (List.mem_cons_of_mem _ hz)
            refine ⟨_, pps_cons pe_str (pe_tup (pa_turns h1 hl2)) p, fun σ H Q q => ?_⟩
            refine fun us H1 s1 hus => ⟨by rw [Paired.length hus, sizeLine_eq]; exact Nat.le_trans hl1 (by decide), fun pt hpt => ?_⟩
            have s2 := same_new (o := .tup us) hpt
            refine r σ _ _ fun ps H3 s3 hps => q _ _ ((s1.trans s2).trans s3) (.cons ⟨rfl, TT.tm (.of s3) ⟨pt, us, rfl, upd_same, TNs.tm (.of s2) hus⟩⟩ hps)
          | _ => cases h
        | _ => cases h
      | _ => cases h
/-- what a dict of names and locks holds -/
def DB (H : Hp) (kv : Key × V) (x : Str × List (List Nat)) : Prop := kv.1 = Sum.inr x.1 ∧ TT H kv.2 x.2
theorem tb_kvs {H : Hp} : ∀ {ps : List (V × V)} {tab : List (Str × List (List Nat))}, Paired (Tb H) ps tab → ∃ kvs : List (Key × V), ps = kvs.map (fun kv => (kV kv.1, kv.2)) ∧ Paired (DB H) kvs tab
  | _, _, .nil => ⟨[], rfl, .nil⟩
  | p :: _, x :: _, .cons r t => by
    obtain ⟨kvs, h1, h2⟩ := tb_kvs t
    refine ⟨(Sum.inr x.1, p.2) :: kvs, ?_, .cons ⟨rfl, r.2⟩ h2⟩
    rw [h1]
    have e : p = (V.str x.1, p.2) := Prod.ext r.1 rfl
    rw [e]
    rfl
theorem db_val {H : Hp} {x : Str} {ts : List (List Nat)} : ∀ {kvs : List (Key × V)} {tab : List (Str × List (List Nat))}, Paired (DB H) kvs tab → (tab.map (·.1)).Nodup → (x, ts) ∈ tab → ∃ v, valV kvs (Sum.inr x) = some v ∧ TT H v ts
  | _, _, .nil, _, h => by cases h
  | p :: ps, q :: qs, .cons r s, hn, h => by
    rw [List.map_cons] at hn
    obtain ⟨h1, h2⟩ := List.nodup_cons.mp hn
    rcases List.mem_cons.mp h with e | h
    · subst e
      exact ⟨p.2, valV_pos r.1, r.2⟩
    · have hne : ¬ p.1 = Sum.inr x := fun e => h1 (by
        rw [r.1] at e
        injection e with e
        rw [e]
        exact List.mem_map.mpr ⟨_, h, rfl⟩)
      rw [valV_neg hne]
      exact db_val s h2 h
theorem mergeK_nil {H : Hp} : ∀ {kvs : List (Key × V)} {tab : List (Str × List (List Nat))} {acc : List (Key × V)} {at_ : List (Str × List (List Nat))}, Paired (DB H) kvs tab → Paired (DB H) acc at_ → ((at_ ++ tab).map (·.1)).Nodup → mergeK acc kvs = acc ++ kvs
  | _, _, acc, _, .nil, _, _ => by
    show acc = acc ++ []
    rw [List.append_nil]
  | p :: ps, q :: qs, acc, at_, .cons r s, ha, hn => by
    have hnone : valV acc p.1 = none := by
      cases e : valV acc p.1 with
      | none => rfl
      | some v =>
        exfalso
        have m := valV_in e
        obtain ⟨kv, hkv, ekv⟩ := List.mem_map.mp m
        obtain ⟨y, hy, ry⟩ := Paired.memL ha hkv
        have e1 : y.1 = q.1 := by
          have z : (Sum.inr y.1 : Key) = Sum.inr q.1 := ry.1.symm.trans (ekv.trans r.1)
          injection z
        rw [List.map_append, List.map_cons] at hn
        exact (List.nodup_append.mp hn).2.2 y.1 (List.mem_map.mpr ⟨y, hy, rfl⟩) q.1 List.mem_cons_self e1
    show mergeK (putK acc p.1 p.2) ps = acc ++ p :: ps
    rw [putK_new p.2 hnone, mergeK_nil (acc := acc ++ [(p.1, p.2)]) (at_ := at_ ++ [q]) s (Paired.app ha (Paired.one r)) (by rw [List.append_assoc]; exact hn), List.append_assoc]
    rfl
/-- {'a': ((..), ..), ..} -/
def tTab (tab : List (Str × List (List Nat))) : TE := fun _ H Q => ∀ p H' kvs, Same H H' → H p = none → H' p = some (.dK kvs) → Paired (DB H') kvs tab → Q (.ref p) H'
theorem pe_tab {ks : List (Option Expr)} {vs : List Expr} {pos : Pos} {tab : List (Str × List (List Nat))} (h : isTab ks vs tab = true) (hl : ∀ x ∈ tab, x.2.length ≤ 1000 ∧ ∀ t ∈ x.2, t.length ≤ 1000) (hn : (tab.map (·.1)).Nodup) (h15 : tab.length ≤ 15)
    (hall : ks.all (·.isSome) = true) (hlen : ks.length = vs.length) (h0 : ks ≠ []) (hk15 : ks.length ≤ 15) : PE X (.Dict ks vs pos) (tTab tab) := by
  obtain ⟨trs, p, r⟩ := pps_tab (X := X) (pos := pos) h hl
  refine PE.imp (pe_disp p hall hlen h0 hk15) fun σ H Q q => ?_
  refine fun d hd => r σ _ _ fun ps H2 s2 hps => ⟨s2 _ _ upd_same, ?_⟩
  obtain ⟨kvs, e, hb⟩ := tb_kvs hps
  refine ⟨kvs, e, by rw [Paired.length hb]; exact h15, ?_⟩
  have em : mergeK [] kvs = kvs := mergeK_nil (acc := []) (at_ := []) hb .nil hn
  rw [em]
  have hd2 : H2 d = some (.dK []) := s2 _ _ upd_same
  have tm : Tm H2 (upd H2 d (.dK kvs)) := .mut hd2 (fun _ z => nomatch z) fun _ _ z => nomatch z
  have sH : Same H (upd H2 d (.dK kvs)) := same_mut ((same_new hd).trans s2) hd
  exact q d _ kvs sH hd upd_same (paired_mono (fun a b z => ⟨z.1, z.2.tm tm⟩) hb)
end
def names : List Str := ["four", "klein", "square", "cube", "eight", "nine", "quaternions", "threes", "three", "tetra", "six", "heis", "five", "whole", "ten"]
def table : List (Str × List (List Nat)) := names.zip known
theorem table_nd : (table.map (·.1)).Nodup := by decide +kernel
theorem table_len : ∀ x ∈ table, x.2.length ≤ 1000 ∧ ∀ t ∈ x.2, t.length ≤ 1000 := by decide +kernel
theorem table_known {x : Str × List (List Nat)} (h : x ∈ table) : x.2 ∈ known := by
  unfold table at h
  exact (List.of_mem_zip (a := x.1) (b := x.2) h).2
end Lt

set_option Elab.async false
set_option linter.all false
set_option maxRecDepth 100000
set_option maxHeartbeats 1000000
namespace Lt
open PySem PySem.Spec PyProof.Rows L2
theorem names_in : ∀ nm ∈ names, ∃ ts, (nm, ts) ∈ table := fun nm h => by
  have z : (names.all fun nm => table.any fun x => decide (x.1 = nm)) = true := by decide +kernel
  obtain ⟨x, hx, e⟩ := List.any_eq_true.mp (List.all_eq_true.mp z nm h)
  have e := of_decide_eq_true e
  exact ⟨x.2, by rw [← e]; exact hx⟩
theorem three_of {nm : Str} {ts : List (List Nat)} (h : (nm, ts) ∈ table) : ts.length ≤ 3 := by
  have z : (table.all fun x => decide (x.2.length ≤ 3)) = true := by decide +kernel
  exact of_decide_eq_true (List.all_eq_true.mp z _ h)
section
variable {P : Program} {w : World} {K : PySem.W.Frag} {mg : Str → Option Value} {base : Heap}
def spKnown (K : PySem.W.Frag) : Sp := fun vs H Q _ => ∃ (r kl sc : Addr) (ns : List Int) (kn : List Str), vs = [.ref r, .ref kl] ∧ RowAt K H r sc ns ∧ H kl = some (.lst (kn.map V.str)) ∧ kl ≠ r ∧ 1 ≤ kn.length ∧ kn.length ≤ 100 ∧ (∀ x ∈ kn, x ∈ names) ∧
  ∀ v H' ls n, ls.length ≤ 3 → GL ls n → Few ls n 60 → StepR r H H' → RowAt K H' r sc ns → TT H' v ls → Q v H'
theorem sc_law_known : FnScope ["row", "kinds", "locks", "lock", "order", "found", "turn", "named", "place", "comes"] ["row", "kinds"] (defScope s_law_known) := ⟨rfl, rfl, rfl, by decide +kernel, rfl, by decide +kernel, by decide +kernel⟩
theorem has_law_known (T : Top K mg "_law_known" s_law_known ["row", "kinds"]) (B : Bi mg) (hK : Has P w K mg base CX0 2 "_law_pick" ["row", "things"] (spPick K)) (hM : Has P w K mg base CX0 2 "_law_permutation" ["row", "places"] (spLawPerm K)) : Has P w K mg base CX0 3 "_law_known" ["row", "kinds"] (spKnown K) := by
  refine T.ok sc_law_known (fun vs H Q E h => ?_) (fun f cdv A outer s H vs Q E hr h => ?_)
  · obtain ⟨r, kl, sc, ns, kn, rfl, _⟩ := h
    rfl
  · obtain ⟨r, kl, sc, ns, kn, rfl, ra, hkl, hne, hk1, hk2, hkn, q⟩ := h
    have hu := hu_of hr
    refine ⟨_, pss_cons (ps_set (i := 2) sc_law_known.nd rfl (Or.inl rfl) (pe_tab (tab := table) (by decide +kernel) table_len table_nd (by decide) (by rfl) (by rfl) (fun z => by cases z) (by decide)))
      (pss_cons (ps_set (i := 3) sc_law_known.nd rfl (Or.inl rfl) (pe_dget hu (pv 2) (pe_has hK hr (by rfl) (pa_cons (pv 0) (pa_cons (pv 1) pa_nil))) (fun _ _ => rfl)))
      (pss_cons (ps_set (i := 4) sc_law_known.nd rfl (Or.inl rfl) (pe_has hM hr (by rfl) (pa_cons (pv 0) (pa_cons (pe_callB call_len_seq (by rfl) B.len PySem.boot_len (pa_cons (pe_ix ix_tup (pv 3) pe_int (fun _ _ => rfl)) pa_nil)) pa_nil))))
      (pss_cons (ps_set (i := 5) sc_law_known.nd rfl (Or.inl rfl) (pe_lst pa_nil))
      (pss_cons (ps_for PassesOwn.never rfl (pi_tup (pv 3)) (pg_name (i := 6) sc_law_known.nd rfl (Or.inl rfl))
        (pss_cons (ps_set (i := 7) sc_law_known.nd rfl (Or.inl rfl) (pe_op op_rep (pe_lst (pa_cons pe_int pa_nil)) (pe_callB call_len_seq (by rfl) B.len PySem.boot_len (pa_cons (pv 6) pa_nil))))
        (pss_cons (ps_for PassesOwn.never rfl (pi_enumT (by rfl) B.enumerate (pa_cons (pv 6) pa_nil)) (pg_tup rfl (pgs_cons (pg_name (i := 8) sc_law_known.nd rfl (Or.inl rfl)) (pgs_cons (pg_name (i := 9) sc_law_known.nd rfl (Or.inl rfl)) pgs_nil)))
          (pss_one (ps_asg (pe_ix ix_tup (pv 4) (pv 9) (fun _ _ => rfl)) (pg_sub (pv 7) (pe_ix ix_tup (pv 4) (pv 8) (fun _ _ => rfl)) set_list))))
        (pss_one (ps_expr (pe_bm PySem.F.plainAttrs_list PySem.F.slot_list_append PySem.F.type_list_append mt_append (pv 5) (pa_cons (pe_tupleOf (by rfl) B.tuple (pv 7)) pa_nil)))))))
      (pss_one (ps_ret (pe_tupleOf (by rfl) B.tuple (pv 5)))))))), ?_⟩
    refine fun d H1 kvs s1 hd hd1 hDB => ?_
    refine ⟨_, rfl, _, rfl, _, rfl, r, kl, sc, ns, kn.map V.str, rfl, ra.step s1, s1 _ _ hkl, hne, by rw [List.length_map]; exact hk1, by rw [List.length_map]; omega, fun x H2 hx st2 ra2 => ?_⟩
    obtain ⟨nm, hnm, rfl⟩ := List.mem_map.mp hx
    obtain ⟨ts, hts⟩ := names_in nm (hkn nm hnm)
    obtain ⟨n, hf1, hf2, hf3, hf4, hf5, hf6⟩ := fine_of (table_known hts)
    obtain ⟨lv, hlv, htt1⟩ := db_val hDB table_nd hts
    have hdr : d ≠ r := (ra.ne hd).symm
    have hd2 := st2 _ _ hdr hd1
    have htt2 := htt1.tm (st2.tm (ra.step s1))
    refine ⟨d, lv, rfl, by rw [← hlv]; exact DGet.k (k := Sum.inr nm) hd2, ?_⟩
    have gl : GL ts n := ⟨hf1, hf2, hf3, hf4, hf5⟩
    obtain ⟨a, xs, b, rfl, ha, hp, h0, t0, hbt, htl⟩ := htt2.head gl
    refine ⟨_, rfl, _, rfl, a, xs, 0, .ref b, rfl, rfl, SqT.of ha, h0, b, _, rfl, .inr hbt.sq, r, sc, ns, n, by rw [nIs_len, htl]; rfl, ra2, by omega, fun o H3 s hs st3 ra3 ho => ?_⟩
    have ha3 : H3 a = some (.tup xs) := (st3.tm ra2).1 _ _ ha
    have hp3 : Paired (TN H3) xs ts := TNs.tm (st3.tm ra2) hp
    obtain ⟨po, rfl, hpo⟩ := ho
    have st13 : StepR r H H3 := ((StepR.of s1).trans st2).trans st3
    refine ⟨Nat.zero_le _, fun fl hfl => ?_⟩
    have sl := same_new (o := .lst []) hfl
    refine ⟨_, rfl, a, rfl, ⟨_, SqT.of (sl _ _ ha3)⟩, for_tup (K := K) (a := a) (xs := xs) (fun i σ H' => ∃ x6 x7 x8 x9 us, σ = [some (.ref r), some (.ref kl), some (.ref d), some (.ref a), some (.ref po), some (.ref fl), x6, x7, x8, x9] ∧ Same H3 H' ∧ H' fl = some (.lst us) ∧ Paired (TN H') us ((ts.take i).map (cj s)))
      ⟨none, none, none, none, [], rfl, sl, upd_same, .nil⟩ (fun i σ H' _ ⟨_, _, _, _, _, _, s, _⟩ => SqT.of (s _ _ ha3)) ?_ ?_⟩
    · rintro i x σ H' hi ⟨x6, x7, x8, x9, us, rfl, sm, hus, pus⟩
      obtain ⟨t, ht, htn0⟩ := Paired.getL hp3 hi
      have htP := hf5 t (List.mem_of_getElem? ht)
      obtain ⟨pt, rfl, hpt⟩ := htn0.tm (.of sm)
      have hil : i < 4 := Nat.lt_of_lt_of_le (List.getElem?_eq_some_iff.mp ht).1 hf2
      refine ⟨by show 1 ≤ sizeLine; decide, fun l hl => ?_⟩
      have s5 := same_new (o := .lst [V.int 0]) hl
      refine ⟨_, rfl, pt, _, rfl, .inr (hpt.sm s5).sq, l, (t.length : Int), [V.int 0], rfl, by rw [nIs_len], upd_same, by omega, by rw [htP.len]; omega, ?_, fun nm hnm => ?_⟩
      · show 1 * (t.length : Int).toNat ≤ sizeLine
        rw [htP.len, sizeLine_eq]
        omega
      have s6 := s5.trans (same_new (o := .lst (List.replicate (t.length : Int).toNat [V.int 0]).flatten) hnm)
      have hnm0 : H' nm = none := s5.free hnm
      refine ⟨_, rfl, pt, _, rfl, (hpt.sm s6).sq, for_enumT (K := K) (xs := nIs t) (fun k σ2 H2' => ∃ (acc : List Nat) (y z : Option V), σ2 = [some (.ref r), some (.ref kl), some (.ref d), some (.ref a), some (.ref po), some (.ref fl), some (.ref pt), some (.ref nm), y, z] ∧ Same H' H2' ∧ H2' nm = some (.lst (nIs acc)) ∧ acc.length = n ∧ ∀ (i si ti : Nat), i < k → s[i]? = some si → t[i]? = some ti → acc[si]? = s[ti]?)
        ⟨List.replicate n 0, x8, x9, rfl, s6, by rw [upd_same, ← rep_zero, htP.len]; rfl, List.length_replicate .., fun i si ti h => absurd h (Nat.not_lt_zero i)⟩ (fun k σ2 H2' _ ⟨_, _, _, _, s, _⟩ => (hpt.sm s).sq) ?_ ?_⟩
      · rintro k y σ2 H2' T' hk ⟨acc, y8, y9, rfl, sm2, hnm2, hacc, hj⟩ hT'
        rw [nIs_get] at hk
        obtain ⟨m, hm, rfl⟩ := Option.map_eq_some_iff.mp hk
        have hmn : m < n := htP.lt m (List.mem_of_getElem? hm)
        have hkn' : k < n := by have := (List.getElem?_eq_some_iff.mp hm).1; rw [htP.len] at this; exact this
        have sT := same_new (o := .tup [nI k, nI m]) hT'
        have hnT : nm ≠ T' := ne_of_none hnm2 hT'
        have hsk : s[k]? = some (s[k]'(by rw [hs.len]; exact hkn')) := List.getElem?_eq_getElem _
        have hsm : s[m]? = some (s[m]'(by rw [hs.len]; exact hmn)) := List.getElem?_eq_getElem _
        generalize (s[k]'(by rw [hs.len]; exact hkn')) = sk at hsk
        generalize (s[m]'(by rw [hs.len]; exact hmn)) = smv at hsm
        have hskn : sk < n := hs.lt sk (List.mem_of_getElem? hsk)
        have hpo2 : (upd H2' T' (.tup [nI k, nI m])) po = some (.tup (nIs s)) := sT _ _ (sm2 _ _ (sm _ _ hpo))
        refine ⟨T', _, rfl, SqT.of upd_same, rfl, nI k, _, rfl, nI m, _, rfl, rfl, ?_⟩
        refine ⟨_, rfl, _, rfl, po, _, (m : Int), nI smv, rfl, rfl, SqT.of hpo2, atI_nat (by rw [nIs_get, hsm]; rfl), _, rfl, _, rfl, _, rfl, po, _, (k : Int), nI sk, rfl, rfl, SqT.of hpo2, atI_nat (by rw [nIs_get, hsk]; rfl), nm, nIs acc, (sk : Int), sk, rfl, rfl, sT _ _ hnm2, Evl.ixN_nat (by rw [nIs_len, hacc]; exact hskn), ?_⟩
        refine ⟨acc.set sk smv, _, _, rfl, same_mut (sm2.trans sT) hnm0, by rw [upd_same, nIs_set], by rw [List.length_set]; exact hacc, fun i si ti hik hsi hti => ?_⟩
        by_cases e : i = k
        · subst e
          rw [hsk] at hsi
          have hsi := Option.some.inj hsi
          subst hsi
          rw [hm] at hti
          have hti := Option.some.inj hti
          subst hti
          rw [List.getElem?_set_self (by omega), hsm]
        · have hne2 : sk ≠ si := fun z => e (nd_ix hs.nd hsi (z ▸ hsk))
          rw [List.getElem?_set_ne hne2]
          exact hj i si ti (by omega) hsi hti
      · rintro σ2 H2' ⟨acc, y8, y9, rfl, sm2, hnm2, hacc, hj⟩
        have ecj : acc = cj s t := cj_at hs htP hacc fun i si ti hsi hti => hj i si ti (by rw [nIs_len]; exact (List.getElem?_eq_some_iff.mp hti).1) hsi hti
        have hus2 := sm2 _ _ hus
        refine ⟨_, rfl, .inl ⟨rfl, _, SqL.of hus2⟩, _, rfl, .inl ⟨nm, nIs acc, rfl, SqL.of hnm2, fun p hp' => ?_⟩⟩
        have s7 := same_new (o := .tup (nIs acc)) hp'
        have hus3 := s7 _ _ hus2
        have husl : us.length ≤ 4 := by rw [Paired.length pus, List.length_map, List.length_take]; omega
        refine ⟨fl, us, _, rfl, rfl, hus3, by rw [sizeLine_eq]; omega, ?_⟩
        have t8 := Tm.lst (o := .lst (us ++ [V.ref p])) hus3
        refine ⟨_, _, _, _, us ++ [.ref p], rfl, same_mut ((sm.trans sm2).trans s7) hfl, upd_same, ?_⟩
        rw [List.take_add_one, ht, List.map_append]
        exact Paired.app (TNs.tm ((Tm.of (sm2.trans s7)).trans t8) pus) (Paired.one (TK.tn (TK.tm t8 ⟨p, rfl, by rw [upd_same, ecj]⟩)))
    · rintro σ H' ⟨x6, x7, x8, x9, us, rfl, sm, hus, pus⟩
      rw [Paired.length hp3, List.take_length] at pus
      refine ⟨_, rfl, .inl ⟨fl, us, rfl, SqL.of hus, fun p hp' => ?_⟩⟩
      have s7 := same_new (o := .tup us) hp'
      refine q _ _ (ts.map (cj s)) n (by rw [List.length_map]; exact three_of hts) ⟨by rw [List.length_map]; exact hf1, by rw [List.length_map]; exact hf2, hf3, hf4, fun g hg => ?_⟩ ((Few.cj hf5 hs hf6).mono (by omega)) (st13.trans (.of (sm.trans s7))) (ra3.step (sm.trans s7)) ⟨p, us, rfl, upd_same, TNs.tm (.of s7) pus⟩
      obtain ⟨t, ht, e⟩ := List.mem_map.mp hg
      rw [← e]
      exact cj_isP hs (hf5 t ht)
/-! ### _law_lock -/
def spLock (K : PySem.W.Frag) : Sp := fun vs H Q _ => ∃ (r kl sc : Addr) (ns : List Int) (kn : List Str), vs = [.ref r, .ref kl] ∧ RowAt K H r sc ns ∧ H kl = some (.lst (kn.map V.str)) ∧ kl ≠ r ∧ 1 ≤ kn.length ∧ kn.length ≤ 100 ∧ (∀ x ∈ kn, x ∈ names) ∧
  ∀ v H' ls n, ls.length ≤ 3 → GL ls n → Few ls n 60 → StepR r H H' → RowAt K H' r sc ns → TT H' v ls → Q v H'
theorem sc_law_lock : FnScope ["row", "kinds", "places", "turn"] ["row", "kinds"] (defScope s_law_lock) := ⟨rfl, rfl, rfl, by decide +kernel, rfl, by decide +kernel, by decide +kernel⟩
theorem few4 {ls : List (List Nat)} {n : Nat} (h1 : 2 ≤ n) (h2 : n ≤ 4) (hg : ∀ g ∈ ls, IsP n g) : Few ls n 60 := by
  have : n = 2 ∨ n = 3 ∨ n = 4 := by omega
  rcases this with e | e | e
  · subst e; exact (few_all hg all2).mono (by omega)
  · subst e; exact (few_all hg all3).mono (by omega)
  · subst e; exact (few_all hg all4).mono (by omega)
theorem has_law_lock (T : Top K mg "_law_lock" s_law_lock ["row", "kinds"]) (B : Bi mg) (hT : Has P w K mg base CX0 1 "_law_taken" ["row", "many"] (spTaken K)) (hK : Has P w K mg base CX0 3 "_law_known" ["row", "kinds"] (spKnown K)) (hM : Has P w K mg base CX0 2 "_law_permutation" ["row", "places"] (spLawPerm K)) :
    Has P w K mg base CX0 4 "_law_lock" ["row", "kinds"] (spLock K) := by
  refine T.ok sc_law_lock (fun vs H Q E h => ?_) (fun f cdv A outer s H vs Q E hr h => ?_)
  · obtain ⟨r, kl, sc, ns, kn, rfl, _⟩ := h
    rfl
  · obtain ⟨r, kl, sc, ns, kn, rfl, ra, hkl, hne, hk1, hk2, hkn, q⟩ := h
    have hr1 : Room 1 _ := hr.mono (by decide)
    have hr2 : Room 2 _ := hr.mono (by decide)
    refine ⟨_, pss_cons (ps_if (pt_cmpR op_gt (pe_has hT hr1 (by rfl) (pa_cons (pv 0) (pa_cons pe_int pa_nil))) pe_int (nomark _))
        (pss_one (ps_ret (pe_has hK hr (by rfl) (pa_cons (pv 0) (pa_cons (pv 1) pa_nil))))) pss_nil)
      (pss_cons (ps_set (i := 2) sc_law_lock.nd rfl (Or.inr rfl) (pe_op op_add pe_int (pe_has hT hr1 (by rfl) (pa_cons (pv 0) (pa_cons pe_int pa_nil)))))
      (pss_one (ps_ret (pe_tupleOf (by rfl) B.tuple (pe_lc (own := [("turn", 3)]) (g := gName 3) (te := tCall (spLawPerm K) [] E0 (tCons (tVar 0) (tCons (tVar 2) tNil))) (by rfl) sc_law_lock.nd
        (pi_range1 (by rfl) B.range (pa_cons (pe_op op_add pe_int (pe_has hT hr1 (by rfl) (pa_cons (pv 0) (pa_cons pe_int pa_nil)))) pa_nil)) (blkOk_by (own := [("turn", 3)]) (N := ["row", "kinds", "places", "turn"]) (sc := defScope s_law_lock) (by decide +kernel))
        (fun _ _ _ _ _ => pg_name (i := 3) sc_law_lock.nd rfl (Or.inl rfl)) (fun _ _ _ _ _ => pts_nil) (fun _ _ _ _ _ => pe_has hM hr2 (by rfl) (pa_cons (pv 0) (pa_cons (pv 2) pa_nil)))))))), ?_⟩
    refine ⟨_, rfl, r, sc, ns, 3, rfl, ra, by omega, by omega, fun x H1 hx st1 ra1 => ?_⟩
    refine ⟨(x : Int), 0, rfl, rfl, _, rfl, ite2 (fun h => ?_) (fun h => ?_)⟩
    · exact ⟨_, rfl, _, rfl, r, kl, sc, ns, kn, rfl, ra1, st1 _ _ hne hkl, hne, hk1, hk2, hkn, fun v H2 ls n l3 gl fw st2 ra2 tt => q v H2 ls n l3 gl fw (st1.trans st2) ra2 tt⟩
    · refine ⟨_, rfl, r, sc, ns, 3, rfl, ra1, by omega, by omega, fun y H2 hy st2 ra2 => ?_⟩
      refine ⟨2, (y : Int), rfl, rfl, ?_⟩
      refine ⟨_, rfl, r, sc, ns, 2, rfl, ra2, by omega, by omega, fun z H3 hz st3 ra3 => ?_⟩
      have st03 := (st1.trans st2).trans st3
      refine ⟨1, (z : Int), rfl, rfl, (1 : Int) + (z : Int), rfl, by omega, by omega, fun D hD => ?_⟩
      have hDr : D ≠ r := (ra3.ne hD).symm
      refine lc_range (lo := 0) (n := ((1 : Int) + (z : Int)).toNat) (fun i H' => StepR r H3 H' ∧ RowAt K H' r sc ns ∧ ∃ us ls, H' D = some (.lst us) ∧ Paired (TN H') us ls ∧ ls.length = i ∧ ∀ g ∈ ls, IsP (2 + y) g)
        ⟨.of (same_new hD), ra3.step (same_new hD), [], [], upd_same, .nil, rfl, fun g h => by cases h⟩ ?_ ?_
      · rintro i H' hi ⟨st4, ra4, us, ls, hus, pus, hll, hP⟩
        refine ⟨rfl, iteT (B := StepR r H3 H' ∧ RowAt K H' r sc ns ∧ ∃ us ls, H' D = some (.lst us) ∧ Paired (TN H') us ls ∧ ls.length = i ∧ ∀ g ∈ ls, IsP (2 + y) g) ⟨_, rfl, _, rfl, r, sc, ns, 2 + y, ?_, ra4, by omega, fun v H5 t ht st5 ra5 hv => ?_⟩⟩
        · show [V.ref r, V.int ((2 : Int) + (y : Int))] = [V.ref r, V.int ((2 + y : Nat) : Int)]
          rw [show ((2 + y : Nat) : Int) = (2 : Int) + (y : Int) by omega]
        · have hus5 := st5 _ _ hDr hus
          have t6 := Tm.lst (o := .lst (us ++ [v])) hus5
          refine ⟨us, hus5, by rw [Paired.length pus, hll, sizeLine_eq]; omega, (st4.trans st5).mut hD, RowAt.mut ra3 hD ra5, us ++ [v], ls ++ [t], upd_same, Paired.app (TNs.tm ((st5.tm ra4).trans t6) pus) (Paired.one (TK.tn (TK.tm t6 hv))), by rw [List.length_append, hll]; rfl, fun g hg => ?_⟩
          rcases List.mem_append.mp hg with z | z
          · exact hP g z
          · rw [List.mem_singleton.mp z]
            exact ht
      · rintro H' ⟨st4, ra4, us, ls, hus, pus, hll, hP⟩
        refine .inl ⟨D, us, rfl, SqL.of hus, fun p hp => ?_⟩
        have s7 := same_new (o := .tup us) hp
        exact q _ _ ls (2 + y) (by omega) ⟨by omega, by omega, by omega, by omega, hP⟩ (few4 (by omega) (by omega) hP) ((st03.trans st4).trans (.of s7)) (ra4.step s7) ⟨p, us, rfl, upd_same, TNs.tm (.of s7) pus⟩
end
end Lt

set_option Elab.async false
set_option linter.all false
set_option maxRecDepth 100000
set_option maxHeartbeats 4000000
namespace Lt
open PySem PySem.Spec PyProof.Rows L2
/-- a series of terms, the next one by commutators with M of the last -/
structure SerM (M : List (List Nat) → List (List Nat)) (n : Nat) (T0 : List (List Nat)) (Ts : List (List (List Nat))) : Prop where
  head : Ts[0]? = some T0
  step : ∀ i A B, Ts[i]? = some A → Ts[i + 1]? = some B → Nx (M A) n A B ∧ B.length ≠ A.length
  stop : ∀ i A, Ts[i]? = some A → Ts[i + 1]? = none → ∃ B, Nx (M A) n A B ∧ B.length = A.length
/-- what the terms are built with: all turns, or the term's -/
def Mb (b : Bool) (T0 A : List (List Nat)) : List (List Nat) := if b = true then T0 else A
/-- known turns in a list, known by name -/
def LV (H : Hp) (v : V) (ts : List (List Nat)) : Prop := ∃ a, v = .ref a ∧ LF H a ts
theorem LV.same {H H' : Hp} {v : V} {ts : List (List Nat)} (e : Same H H') (h : LV H v ts) : LV H' v ts := let ⟨a, e1, h1⟩ := h; ⟨a, e1, h1.same e⟩
theorem LVs.same {H H' : Hp} (e : Same H H') {xs : List V} {ts : List (List (List Nat))} (p : Paired (LV H) xs ts) : Paired (LV H') xs ts := paired_mono (fun _ _ r => r.same e) p
theorem tks_of {H : Hp} : ∀ {xs : List V} {ts : List (List Nat)}, Paired (TK H) xs ts → ∃ ks : List (Addr × List Int), xs = ks.map (fun p => V.ref p.1) ∧ ks.map (·.2) = ts.map iN ∧ ∀ p ∈ ks, ∃ t ∈ ts, p.2 = iN t ∧ TK H (.ref p.1) t
  | _, _, .nil => ⟨[], rfl, rfl, fun p h => by cases h⟩
  | _, _, .cons (a := x) (b := t) r s => by
    obtain ⟨ks, h1, h2, h3⟩ := tks_of s
    obtain ⟨a, e, ha⟩ := id r
    refine ⟨(a, iN t) :: ks, by rw [e, h1]; rfl, by rw [List.map_cons, h2]; rfl, fun p hp => ?_⟩
    rcases List.mem_cons.mp hp with z | hp
    · rw [z]
      exact ⟨t, List.mem_cons_self, rfl, a, rfl, ha⟩
    · obtain ⟨t', ht, z⟩ := h3 p hp
      exact ⟨t', List.mem_cons_of_mem _ ht, z⟩
theorem toN_iN (t : List Nat) : (iN t).map Int.toNat = t := by
  show (t.map Int.ofNat).map Int.toNat = t
  rw [List.map_map]
  exact (List.map_congr_left (g := id) fun _ _ => rfl).trans (List.map_id t)
/-- sorted(set(list of turns)) -/
theorem srt_set {P : Program} {w : World} {K : PySem.W.Frag} {H : Hp} {g n : Nat} {ga : Addr} {σ : L2.St} {xs : List V} {ts : List (List Nat)} {Q : List V → Hp → Prop} (hσ : σ[g]? = some (some (.ref ga))) (hga : H ga = some (.lst xs)) (p : Paired (TK H) xs ts) (hts : ∀ t ∈ ts, IsP n t) (h1 : 1 ≤ n) (h9 : n ≤ 9)
    (few : ∀ us : List (List Nat), us.Nodup → (∀ u ∈ us, u ∈ ts) → us.length ≤ 60) (q : ∀ sp H' us, Same H H' → LT H' sp us → us.Nodup → (∀ t, t ∈ us ↔ t ∈ ts) → us.length ≤ 60 → Q [.ref sp] H') :
    tCons (tCB (rSortedT K P w) (tCons (tCB (rSetFew K P w) (tCons (tVar g) tNil)) tNil)) tNil σ H Q := by
  obtain ⟨ks, e1, e2, e3⟩ := tks_of p
  have sq : ∀ p ∈ ks, SqT K H p.1 (p.2.map V.int) := fun p hp => by
    obtain ⟨t, _, e, a, ea, ha⟩ := e3 p hp
    cases ea
    rw [e, show (iN t).map V.int = nIs t from (nIs_int t).symm]
    exact SqT.of ha
  have hmk : ∀ p ∈ ks, p.2 = iN (p.2.map Int.toNat) ∧ p.2.map Int.toNat ∈ ts := fun p hp => by
    obtain ⟨t, ht, e, _⟩ := e3 p hp
    rw [e, toN_iN]
    exact ⟨rfl, ht⟩
  have ndm : ∀ L : List (Addr × List Int), (L.map (·.2)).Nodup → (∀ p ∈ L, p ∈ ks) → (L.map fun q => q.2.map Int.toNat).Nodup := fun L nd hL => by
    have e : (L.map fun q : Addr × List Int => q.2.map Int.toNat).map iN = L.map (·.2) := by
      rw [List.map_map]
      exact List.map_congr_left fun q hq => (hmk q (hL q hq)).1.symm
    rw [← e] at nd
    exact nodup_of_map nd
  refine ⟨_, hσ, ga, ks, rfl, SqL.of (by rw [hga, e1]), sq, fun L nd hL => ?_, fun a L ha hL1 hL2 => ?_⟩
  · have z := few _ (ndm L nd hL) fun u hu => by
      obtain ⟨q, hq, rfl⟩ := List.mem_map.mp hu
      exact (hmk q (hL q hq)).2
    rw [List.length_map] at z
    omega
  have s1 := same_new (o := SetTO P w a L) ha
  refine ⟨a, L, n, 9, rfl, upd_same, fun p hp => ?_, h1, fun p hp => ?_, fun L' sp pm nd h64 pw hsp => ?_⟩
  · rcases sq p (hL1 p hp) with (z | ⟨o, z⟩) | z
    · exact .inl (.inl (s1 _ _ z))
    · exact .inl (.inr ⟨o, s1 _ _ z⟩)
    · exact .inr z
  · obtain ⟨t, ht, e, _⟩ := e3 p (hL1 p hp)
    rw [e]
    exact ⟨by rw [iN_len, (hts t ht).len], bd_iN (hts t ht) h9⟩
  have s2 := same_new (o := .lst (L'.map fun q : Addr × List Int => V.ref q.1)) hsp
  have hL' : ∀ q ∈ L', q ∈ ks := fun q hq => hL1 q (pm.mem_iff.mp hq)
  refine q sp _ (L'.map fun q => q.2.map Int.toNat) (s1.trans s2) ⟨_, upd_same, ?_⟩ (ndm L' nd hL') (fun t => ⟨fun h => ?_, fun h => ?_⟩) ?_
  · refine paired_of_map fun q hq => ?_
    obtain ⟨t, _, e, z⟩ := e3 q (hL' q hq)
    rw [e, toN_iN]
    exact (z.tm (.of (s1.trans s2))).tn
  · obtain ⟨q, hq, rfl⟩ := List.mem_map.mp h
    exact (hmk q (hL' q hq)).2
  · have h1 : iN t ∈ ks.map (·.2) := by
      rw [e2]
      exact List.mem_map.mpr ⟨t, h, rfl⟩
    obtain ⟨p, hp, e⟩ := List.mem_map.mp h1
    obtain ⟨q, hq, e4⟩ := List.mem_map.mp (hL2 p hp)
    refine List.mem_map.mpr ⟨q, pm.mem_iff.mpr hq, ?_⟩
    rw [e4, e, toN_iN]
  · exact few _ (ndm L' nd hL') fun u hu => by
      obtain ⟨q, hq, rfl⟩ := List.mem_map.mp hu
      exact (hmk q (hL' q hq)).2
theorem cm_eq {n : Nat} {x y : List Nat} (hx : IsP n x) (hy : IsP n y) : prod (prod x y) (prod (inv x) (inv y)) = cm x y := by
  unfold cm
  rw [inv_prod hy hx]
end Lt

set_option Elab.async false
set_option linter.all false
set_option maxHeartbeats 1000000
/-! the number of turns of a lock divides that of all permutations; one series -/
namespace Lt
/-- all orders of the first k of l -/
def perms : Nat → List Nat → List (List Nat)
  | 0, _ => [[]]
  | k + 1, l => l.flatMap fun a => (perms k (l.erase a)).map (a :: ·)
def fac : Nat → Nat
  | 0 => 1
  | k + 1 => (k + 1) * fac k
theorem flat_len {α β : Type} {f : α → List β} {m : Nat} : ∀ (l : List α), (∀ a ∈ l, (f a).length = m) → (l.flatMap f).length = l.length * m
  | [], _ => by simp
  | a :: l, h => by
    rw [List.flatMap_cons, List.length_append, h a List.mem_cons_self, flat_len l fun b hb => h b (List.mem_cons_of_mem _ hb), List.length_cons, Nat.succ_mul, Nat.add_comm]
theorem perms_len : ∀ (k : Nat) (l : List Nat), l.length = k → (perms k l).length = fac k
  | 0, _, _ => rfl
  | k + 1, l, h => by
    show (l.flatMap _).length = _
    rw [flat_len (m := fac k) l fun a ha => by rw [List.length_map, perms_len k _ (by rw [List.length_erase_of_mem ha, h]; rfl)], h]
    rfl
theorem perms_mem : ∀ (k : Nat) (l t : List Nat), l.length = k → (t ∈ perms k l ↔ t.Perm l)
  | 0, l, t, h => by
    have e : l = [] := List.length_eq_zero_iff.mp h
    subst e
    show t ∈ [[]] ↔ _
    rw [List.mem_singleton]
    exact List.perm_nil.symm
  | k + 1, l, t, h => by
    show t ∈ l.flatMap _ ↔ _
    rw [List.mem_flatMap]
    constructor
    · rintro ⟨a, ha, ht⟩
      obtain ⟨u, hu, rfl⟩ := List.mem_map.mp ht
      have hu := (perms_mem k (l.erase a) u (by rw [List.length_erase_of_mem ha, h]; rfl)).mp hu
      exact (hu.cons a).trans (List.perm_cons_erase ha).symm
    · intro p
      cases t with
      | nil =>
        have z := p.length_eq
        rw [h] at z
        cases z
      | cons a u =>
        obtain ⟨ha, hu⟩ := List.cons_perm_iff_perm_erase.mp p
        exact ⟨a, ha, List.mem_map.mpr ⟨u, (perms_mem k (l.erase a) u (by rw [List.length_erase_of_mem ha, h]; rfl)).mpr hu, rfl⟩⟩
theorem perms_nd : ∀ (k : Nat) (l : List Nat), l.Nodup → (perms k l).Nodup
  | 0, _, _ => List.pairwise_singleton _ _
  | k + 1, l, h => by
    refine List.pairwise_flatMap.mpr ⟨fun a _ => List.pairwise_map.mpr ((perms_nd k _ (h.erase a)).imp fun hne e => hne (by injection e)), h.imp fun {a b} hne x hx y hy e => ?_⟩
    obtain ⟨u, _, rfl⟩ := List.mem_map.mp hx
    obtain ⟨v, _, rfl⟩ := List.mem_map.mp hy
    injection e with e1 e2
    exact hne e1
/-- a closed part divides what it acts on -/
theorem lag {n : Nat} {H : List (List Nat)} (nd : H.Nodup) (hP : ∀ h ∈ H, IsP n h) (hi : ∀ a ∈ H, ∀ b ∈ H, prod (inv a) b ∈ H) (hs : List.range n ∈ H) (hpr : ∀ a ∈ H, ∀ b ∈ H, prod a b ∈ H) :
    ∀ (m : Nat) (U : List (List Nat)), U.length = m → U.Nodup → (∀ u ∈ U, IsP n u) → (∀ h ∈ H, ∀ u ∈ U, prod h u ∈ U) → H.length ∣ U.length := by
  intro m
  induction m using Nat.strongRecOn with
  | _ m ih =>
    intro U hm ndU uP cl
    cases U with
    | nil => exact Nat.dvd_zero _
    | cons u V =>
      have hu : u ∈ u :: V := List.mem_cons_self
      have iu := uP u hu
      -- the coset
      have ndC : (H.map fun h => prod h u).Nodup := List.pairwise_map.mpr (List.Pairwise.imp_of_mem (fun {a b} ha hb hne e => hne (by
        have e2 : prod (prod a u) (inv u) = prod (prod b u) (inv u) := congrArg (fun x => prod x (inv u)) e
        rw [pas _ (hP a ha) iu, pas _ (hP b hb) iu, prod_inv_r iu, prod_still_r (hP a ha).lt, prod_still_r (hP b hb).lt] at e2
        exact e2)) nd)
      have subC : ∀ x ∈ H.map fun h => prod h u, x ∈ u :: V := fun x hx => by
        obtain ⟨h, hh, rfl⟩ := List.mem_map.mp hx
        exact cl h hh u hu
      generalize hC : (H.map fun h => prod h u) = C at ndC subC
      have lC : C.length = H.length := by rw [← hC, List.length_map]
      have pm : (u :: V).Perm (C ++ (u :: V).filter fun x => decide (x ∉ C)) := by
        refine (List.perm_ext_iff_of_nodup ndU (List.nodup_append.mpr ⟨ndC, ndU.filter _, fun a ha b hb e => ?_⟩)).mpr fun x => ⟨fun hx => ?_, fun hx => ?_⟩
        · subst e
          exact of_decide_eq_true (List.mem_filter.mp hb).2 ha
        · by_cases c : x ∈ C
          · exact List.mem_append.mpr (.inl c)
          · exact List.mem_append.mpr (.inr (List.mem_filter.mpr ⟨hx, decide_eq_true c⟩))
        · rcases List.mem_append.mp hx with z | z
          · exact subC x z
          · exact (List.mem_filter.mp z).1
      have pl := pm.length_eq
      rw [List.length_append, lC] at pl
      have h1 : 1 ≤ H.length := List.length_pos_of_mem hs
      have z := ih ((u :: V).filter fun x => decide (x ∉ C)).length (by omega) _ rfl (ndU.filter _) (fun x hx => uP x (List.mem_filter.mp hx).1) (fun h hh x hx => by
        obtain ⟨h3, h4⟩ := List.mem_filter.mp hx
        refine List.mem_filter.mpr ⟨cl h hh x h3, decide_eq_true fun hc => of_decide_eq_true h4 ?_⟩
        rw [← hC] at hc ⊢
        obtain ⟨g, hg, e⟩ := List.mem_map.mp hc
        refine List.mem_map.mpr ⟨prod (inv h) g, hi h hh g hg, ?_⟩
        have e : prod g u = prod h x := e
        show prod (prod (inv h) g) u = x
        rw [pas _ (hP h hh).inv (hP g hg), e, pc1 (hP h hh) (uP x h3)])
      rw [pl]
      exact Nat.dvd_add (Nat.dvd_refl _) z
theorem order_dvd {ls : List (List Nat)} {n m : Nat} {T0 : List (List Nat)} (hls : ∀ g ∈ ls, IsP n g) (hf : Few ls n m) (nd : T0.Nodup) (hT : ∀ t, t ∈ T0 ↔ Mk ls n t) : T0.length ∣ fac n := by
  have hl : (List.range n).length = n := List.length_range
  have z := lag (n := n) nd (fun h hh => ((hT h).mp hh).isP hls) (fun a ha b hb => (hT _).mpr ((((hT a).mp ha).inv hls hf).prod hls ((hT b).mp hb))) ((hT _).mpr .still) (fun a ha b hb => (hT _).mpr (((hT a).mp ha).prod hls ((hT b).mp hb)))
    _ (perms n (List.range n)) rfl (perms_nd n _ List.nodup_range) (fun u hu => (perms_mem n _ u hl).mp hu) (fun h hh u hu => (perms_mem n _ _ hl).mpr ((((hT h).mp hh).isP hls).prod ((perms_mem n _ u hl).mp hu)))
  rw [perms_len n _ hl] at z
  exact z
theorem fac_dvd {n : Nat} (h : n ≤ 9) : fac n ∣ 362880 := by
  have : n = 0 ∨ n = 1 ∨ n = 2 ∨ n = 3 ∨ n = 4 ∨ n = 5 ∨ n = 6 ∨ n = 7 ∨ n = 8 ∨ n = 9 := by omega
  rcases this with e | e | e | e | e | e | e | e | e | e <;> subst e <;> decide +kernel
/-! ### there is one series -/
theorem ser_one {M : List (List Nat) → List (List Nat)} {n : Nat} (hn : n ≤ 9) {T0 : List (List Nat)} {I : List (List Nat) → Prop} (hI : ∀ A, I A → ∀ b ∈ brk A (M A), IsP n b) (h0 : I T0) (hs : ∀ A B, I A → Nx (M A) n A B → I B) {Ts Us : List (List (List Nat))}
    (a : SerM M n T0 Ts) (b : SerM M n T0 Us) : Ts = Us := by
  have key : ∀ i : Nat, Ts[i]? = Us[i]? ∧ ∀ A, Ts[i]? = some A → I A := fun i => by
    induction i with
    | zero =>
      refine ⟨a.head.trans b.head.symm, fun A e => ?_⟩
      rw [a.head] at e
      rw [← Option.some.inj e]
      exact h0
    | succ i ih =>
      obtain ⟨e, hi⟩ := ih
      cases e1 : Ts[i]? with
      | none =>
        have n1 := List.getElem?_eq_none_iff.mp e1
        rw [e1] at e
        have n2 := List.getElem?_eq_none_iff.mp e.symm
        rw [List.getElem?_eq_none (by omega), List.getElem?_eq_none (by omega)]
        exact ⟨rfl, fun A e => by cases e⟩
      | some A =>
        have e2 : Us[i]? = some A := by rw [← e, e1]
        have iA := hi A e1
        have one : ∀ {B C}, Nx (M A) n A B → Nx (M A) n A C → B = C := fun h1 h2 => h1.one hn (hI A iA) h2
        cases t1 : Ts[i + 1]? with
        | none =>
          obtain ⟨B, nB, lB⟩ := a.stop i A e1 t1
          cases t2 : Us[i + 1]? with
          | none => exact ⟨rfl, fun A e => by cases e⟩
          | some C =>
            obtain ⟨nC, lC⟩ := b.step i A C e2 t2
            rw [one nB nC] at lB
            exact absurd lB lC
        | some B =>
          obtain ⟨nB, lB⟩ := a.step i A B e1 t1
          cases t2 : Us[i + 1]? with
          | none =>
            obtain ⟨C, nC, lC⟩ := b.stop i A e2 t2
            rw [one nB nC] at lB
            exact absurd lC lB
          | some C =>
            obtain ⟨nC, lC⟩ := b.step i A C e2 t2
            rw [one nB nC]
            refine ⟨rfl, fun A' e => ?_⟩
            rw [← Option.some.inj e]
            exact hs A C iA nC
  exact List.ext_getElem? fun i => (key i).1
section
variable {ls T0 : List (List Nat)} {n m : Nat} (hls : ∀ g ∈ ls, IsP n g) (hf : Few ls n m) (hT : ∀ t, t ∈ T0 ↔ Mk ls n t)
include hls hf hT
theorem mbP {b : Bool} {A : List (List Nat)} (At : Tm1 ls (Mb b T0 A) n A) : ∀ g ∈ Mb b T0 A, IsP n g := by
  cases b
  · exact fun t ht => (At.sub t ht).isP hls
  · exact fun t ht => ((hT t).mp ht).isP hls
theorem tm_next {b : Bool} {A B : List (List Nat)} (At : Tm1 ls (Mb b T0 A) n A) (h : Nx (Mb b T0 A) n A B) : Tm1 ls (Mb b T0 B) n B := by
  obtain ⟨Bt, Bs⟩ := At.next hls (mbP hls hf hT At) h
  refine ⟨Bt.sub, Bt.still, Bt.pr, fun t ht g hg => Bt.cm t ht g ?_⟩
  cases b
  · exact Bs g hg
  · exact hg
theorem tm_first (b : Bool) : Tm1 ls (Mb b T0 T0) n T0 := by
  cases b
  · exact (Tm1.whole hls hf hT).self hls hf hT
  · exact (Tm1.whole hls hf hT).self hls hf hT
theorem serM_one (hn : n ≤ 9) {b : Bool} {Ts Us : List (List (List Nat))} (h1 : SerM (Mb b T0) n T0 Ts) (h2 : SerM (Mb b T0) n T0 Us) : Ts = Us :=
  ser_one hn (I := fun A => Tm1 ls (Mb b T0 A) n A) (fun A At b hb => by
    obtain ⟨x, hx, y, hy, rfl⟩ := brk_mem.mp hb
    exact ((At.sub x hx).isP hls).cm (mbP hls hf hT At y hy)) (tm_first hls hf hT b) (fun A B At h => tm_next hls hf hT At h) h1 h2
theorem serM_lower {Ts : List (List (List Nat))} (h : Ser ls n T0 Ts) : SerM (Mb true T0) n T0 Ts := by
  have inv : ∀ (i : Nat) A, Ts[i]? = some A → Tm1 ls ls n A := fun i => by
    induction i with
    | zero =>
      intro A e
      rw [h.head] at e
      rw [← Option.some.inj e]
      exact Tm1.whole hls hf hT
    | succ i ih =>
      intro B e
      have l := (List.getElem?_eq_some_iff.mp e).1
      have e1 : Ts[i]? = some (Ts[i]'(by omega)) := List.getElem?_eq_getElem _
      exact ((ih _ e1).next hls hls (h.step i _ B e1 e).1).1
  exact ⟨h.head, fun i A B h1 h2 => ⟨(Nx.whole hls hf hT (inv i A h1)).mp (h.step i A B h1 h2).1, (h.step i A B h1 h2).2⟩, fun i A h1 h2 => let ⟨B, x, y⟩ := h.stop i A h1 h2; ⟨B, (Nx.whole hls hf hT (inv i A h1)).mp x, y⟩⟩
end
theorem serM_derived {n : Nat} {T0 : List (List Nat)} {Ts : List (List (List Nat))} (h : SerD n T0 Ts) : SerM (Mb false T0) n T0 Ts := ⟨h.head, h.step, h.stop⟩
/-- a commutator is still where both orders are alike -/
theorem cm_still_iff {n : Nat} {x y : List Nat} (hx : IsP n x) (hy : IsP n y) : cm x y = List.range n ↔ prod x y = prod y x := by
  unfold cm
  constructor
  · intro e
    have e2 : prod (prod (prod x y) (inv (prod y x))) (prod y x) = prod (List.range n) (prod y x) := congrArg (fun z => prod z (prod y x)) e
    rw [pas _ (hx.prod hy) (hy.prod hx).inv, prod_inv_l (hy.prod hx), prod_still_r (hx.prod hy).lt, prod_still_l (hy.prod hx).len] at e2
    exact e2
  · intro e
    rw [e]
    exact prod_inv_r (hy.prod hx)
end Lt

set_option Elab.async false
set_option linter.all false
set_option maxRecDepth 100000
set_option maxHeartbeats 2000000
namespace Lt
open PySem PySem.Spec PyProof.Rows L2
section
variable {P : Program} {w : World} {K : PySem.W.Frag} {mg : Str → Option Value} {base : Heap}
def spBrackets : Sp := fun vs H Q E => spBracketsT vs H Q E ∨ spBracketsL vs H Q E
end
end Lt

set_option Elab.async false
set_option linter.all false
set_option maxRecDepth 100000
set_option maxHeartbeats 2000000
namespace Lt
open PySem PySem.Spec PyProof.Rows L2
/-- the makers: the lock, or a list apart from the terms' -/
def MkAt (H : Hp) (tl : Addr) (mv : V) (ms : List (List Nat)) : Prop := TT H mv ms ∨ ∃ fl, mv = .ref fl ∧ fl ≠ tl ∧ LT H fl ms
theorem MkAt.brk {H : Hp} {tl : Addr} {tv mv : V} {ts ms : List (List Nat)} {n : Nat} {Q : VK} {E : XK} (h : MkAt H tl mv ms) (ht : TT H tv ts) (h1 : ∀ g ∈ ts, IsP n g) (h2 : ∀ g ∈ ms, IsP n g) (h3 : 1 ≤ ts.length) (h4 : ts.length ≤ 63) (h5 : ms.length ≤ 63) (h6 : 1 ≤ n) (h7 : n ≤ 9) (hf : Few (Lt.brk ts ms) n 63)
    (q : ∀ p fl tv few us H', Same H H' → H' p = some (.tup [.ref fl, tv]) → H fl = none → LT H' fl few → TT H' tv us → (∀ g ∈ few, g ∈ Lt.brk ts ms) → few.length ≤ 63 → (∀ t, Mk few n t ↔ Mk (Lt.brk ts ms) n t) → us.Nodup → (∀ t, t ∈ us ↔ Mk (Lt.brk ts ms) n t) → Asc us → Q (.ref p) H') : spBrackets ([tv, mv] ++ []) H Q E := by
  rcases h with h | ⟨fl, rfl, _, h⟩
  · exact .inl ⟨tv, mv, ts, ms, n, rfl, ht, h, h1, h2, h3, h4, h5, h6, h7, hf, q⟩
  · exact .inr ⟨tv, fl, ts, ms, n, rfl, ht, h, h1, h2, h3, h4, h5, h6, h7, hf, q⟩
section
variable {P : Program} {w : World} {K : PySem.W.Frag} {mg : Str → Option Value} {base : Heap} {CL CM : Addr}
def spDerived : Sp := fun vs H Q _ => ∃ (v : V) (ls : List (List Nat)) (n : Nat), vs = [v] ∧ Good H v ls n ∧ ∀ r H' T0 Ts, Same H H' → TTT H' r Ts → T0.Nodup → Asc T0 → (∀ t, t ∈ T0 ↔ Mk ls n t) → SerD n T0 Ts → Q r H'
end
end Lt

set_option Elab.async false
set_option linter.all false
set_option maxRecDepth 100000
set_option maxHeartbeats 2000000
namespace Lt
open PySem PySem.Spec PyProof.Rows L2
theorem ttt_last {H : Hp} {v : V} {Ts : List (List (List Nat))} {T0 : List (List Nat)} (h : TTT H v Ts) (h0 : Ts[0]? = some T0) : ∃ a xs z A, v = .ref a ∧ H a = some (.tup (xs ++ [z])) ∧ Ts.getLast? = some A ∧ TT H z A := by
  obtain ⟨a, xs, rfl, ha, p⟩ := h
  have hne : xs ≠ [] := fun e => by
    subst e
    cases p
    cases h0
  obtain ⟨ys, z, rfl⟩ : ∃ ys z, xs = ys ++ [z] := ⟨xs.dropLast, xs.getLast hne, (List.dropLast_concat_getLast hne).symm⟩
  obtain ⟨A, hA, hz⟩ := Paired.getL p (i := ys.length) (x := z) List.getElem?_concat_length
  refine ⟨a, ys, z, A, rfl, ha, ?_, hz⟩
  have l := Paired.length p
  rw [List.length_append] at l
  have e1 : ([z] : List V).length = 1 := rfl
  rw [List.getLast?_eq_getElem?, show Ts.length - 1 = ys.length by omega]
  exact hA
section
variable {P : Program} {w : World} {K : PySem.W.Frag} {mg : Str → Option Value} {base : Heap}
def spDying : Sp := fun vs H Q _ => ∃ (v : V) (ls : List (List Nat)) (n : Nat), vs = [v] ∧ Good H v ls n ∧ ∀ H' T0 Ts A, Same H H' → T0.Nodup → Asc T0 → (∀ t, t ∈ T0 ↔ Mk ls n t) → Ser ls n T0 Ts → Ts.getLast? = some A → Q (.bl (decide (A.length = 1))) H'
theorem dec_len (k : Nat) : decide (V.int (k : Int) = V.int 1) = decide (k = 1) := decide_eq_decide.mpr ⟨fun h => by injection h with h; omega, fun h => by rw [h]; rfl⟩
end
end Lt

set_option Elab.async false
set_option linter.all false
set_option maxRecDepth 100000
set_option maxHeartbeats 2000000
namespace Lt
open PySem PySem.Spec PyProof.Rows L2
section
variable {P : Program} {w : World} {K : PySem.W.Frag} {mg : Str → Option Value} {base : Heap}
def spSolved : Sp := fun vs H Q _ => ∃ (v : V) (ls : List (List Nat)) (n : Nat), vs = [v] ∧ Good H v ls n ∧ ∀ H' T0 Ts A, Same H H' → T0.Nodup → Asc T0 → (∀ t, t ∈ T0 ↔ Mk ls n t) → SerD n T0 Ts → Ts.getLast? = some A → Q (.bl (decide (A.length = 1))) H'
end
end Lt

set_option Elab.async false
set_option linter.all false
set_option maxRecDepth 100000
set_option maxHeartbeats 2000000
namespace Lt
open PySem PySem.Spec PyProof.Rows L2
/-- k without its parts p -/
def strip (p : Nat) : Nat → Nat → Nat
  | 0, k => k
  | f + 1, k => if k % p = 0 ∧ 1 ≤ k ∧ 2 ≤ p then strip p f (k / p) else k
/-- the prime of whose power k is, from 1 on -/
def primeOf (k : Nat) : Option Nat := match (List.range' 2 (k - 1)).find? fun p => decide (k % p = 0) with
  | none => none
  | some p => if strip p 64 k = 1 then some p else none
theorem strip_id {p f k : Nat} (h : ¬ k % p = 0) : strip p f k = k := by
  cases f with
  | zero => rfl
  | succ f =>
    show (if k % p = 0 ∧ 1 ≤ k ∧ 2 ≤ p then _ else k) = k
    rw [if_neg fun z => h z.1]
theorem strip_div {p f k : Nat} (h : k % p = 0) (h1 : 1 ≤ k) (h2 : 2 ≤ p) : strip p (f + 1) k = strip p f (k / p) := if_pos ⟨h, h1, h2⟩
/-- enough turns are enough -/
theorem strip_more {p : Nat} (h2 : 2 ≤ p) : ∀ (f k : Nat), k ≤ f → ∀ f', k ≤ f' → 1 ≤ k → strip p f k = strip p f' k
  | 0, k, h, _, _, h1 => absurd h1 (by omega)
  | f + 1, k, h, 0, h', h1 => absurd h1 (by omega)
  | f + 1, k, h, f' + 1, h', h1 => by
    by_cases hk : k % p = 0
    · rw [strip_div hk h1 h2, strip_div hk h1 h2]
      have hd : k / p < k := Nat.div_lt_self (by omega) (by omega)
      have hp : 1 ≤ k / p := Nat.div_pos (Nat.le_of_dvd (by omega) (Nat.dvd_of_mod_eq_zero hk)) (by omega)
      exact strip_more h2 f (k / p) (by omega) f' (by omega) hp
    · rw [strip_id hk, strip_id hk]
section
variable {X : Cx}
theorem ip_fdivNN : PIp X .FloorDiv (fun x y H Q => ∃ n m : Nat, x = .int (n : Int) ∧ y = .int (m : Int) ∧ (1 ≤ m ∧ n < 1073741824 ∧ m < 1073741824) ∧ Q (.int ((n / m : Nat) : Int)) H) := by
  intro pins s σ H x y v u Q I r1 r2 h
  obtain ⟨n, m, rfl, rfl, hm, q⟩ := h
  obtain ⟨t, rfl⟩ := r1
  obtain ⟨t', rfl⟩ := r2
  have e : ((n : Int)).fdiv (m : Int) = ((n / m : Nat) : Int) := by
    rw [Int.fdiv_eq_ediv_of_nonneg _ (by omega), Int.natCast_ediv]
  refine ifloordiv_int (by omega) ?_ (.inl (PyProof.noPylong_small (by omega)))
  rw [e]
  exact ⟨.int _, H, I.tok _, ⟨_, rfl⟩, q⟩
theorem op_modNN : OpR X (binaryOp .Mod) (fun x y H Q => ∃ n m : Nat, x = .int (n : Int) ∧ y = .int (m : Int) ∧ 1 ≤ m ∧ Q (.int ((n % m : Nat) : Int)) H) := by
  intro pins s σ H x y v u Q I rx ry h
  obtain ⟨n, m, rfl, rfl, c, q⟩ := h
  refine op_modN pins s σ H _ _ v u Q I rx ry ⟨_, _, rfl, rfl, by omega, ?_⟩
  have e : Int.fmod (n : Int) (m : Int) = ((n % m : Nat) : Int) := by rw [Int.fmod_eq_emod_of_nonneg _ (by omega), Int.natCast_emod]
  show Q (.int (Int.fmod (n : Int) (m : Int))) H
  rw [e]
  exact q
end
section
variable {P : Program} {w : World} {K : PySem.W.Frag} {mg : Str → Option Value} {base : Heap} {CL CM : Addr}
theorem fmod_nat2 (k p : Nat) : Int.fmod (k : Int) (p : Int) = ((k % p : Nat) : Int) := by
  rw [Int.fmod_eq_emod_of_nonneg _ (by omega), Int.natCast_emod]
theorem dec_zero (k : Nat) : decide (V.int (k : Int) = V.int 0) = decide (k = 0) := decide_eq_decide.mpr ⟨fun h => by injection h with h; omega, fun h => by rw [h]; rfl⟩
def ovN : Option Nat → V
  | none => .non
  | some p => nI p
def spPrime : Sp := fun vs H Q _ => ∃ (v : V) (ls : List (List Nat)) (n : Nat), vs = [v] ∧ Good H v ls n ∧ ∀ H' (T0 : List (List Nat)), Same H H' → T0.Nodup → (∀ t, t ∈ T0 ↔ Mk ls n t) → Q (ovN (primeOf T0.length)) H'
theorem sc_prime : FnScope ["lock", "many", "part"] ["lock"] (defScope s_prime) := ⟨rfl, rfl, rfl, by decide +kernel, rfl, by decide +kernel, by decide +kernel⟩
theorem has_prime (T : Top K mg "prime" s_prime ["lock"]) (B : Bi mg) (hA : Has P w K mg base (L2.CX P w) 6 "all_turns" ["lock"] (spAll CL CM)) : Has P w K mg base CX0 7 "prime" ["lock"] spPrime := by
  refine T.ok sc_prime (fun vs H Q E h => ?_) (fun f cdv A outer s H vs Q E hr h => ?_)
  · obtain ⟨v, ls, n, rfl, _⟩ := h
    rfl
  · obtain ⟨v, ls, n, rfl, g, q⟩ := h
    refine ⟨_, pss_cons (ps_set (i := 1) sc_prime.nd rfl (Or.inl rfl) (pe_callB call_len_seq (by rfl) B.len PySem.boot_len (pa_cons (pe_hasL hA hr (by rfl) (pa_cons (pv 0) pa_nil)) pa_nil)))
      (pss_cons (ps_for PassesOwn.never rfl (pi_range2 (by rfl) B.range (pa_cons pe_int (pa_cons (pe_op op_add (pv 1) pe_int) pa_nil))) (pg_name (i := 2) sc_prime.nd rfl (Or.inl rfl))
        (pss_one (ps_if (pt_cmpR op_eq (pe_op op_modNN (pv 1) (pv 2)) pe_int (nomark _))
          (pss_cons (ps_while PassesOwn.never (pt_cmpR op_eq (pe_op op_modNN (pv 1) (pv 2)) pe_int (nomark _)) (pss_one (ps_aug (i := 1) sc_prime.nd rfl (Or.inl rfl) (pv 2) ip_fdivNN)))
          (pss_one (ps_ret (pe_ifExp (pt_cmpR op_eq (pv 1) pe_int (nomark _)) (pv 2) pe_non)))) pss_nil)))
      (pss_one (ps_ret pe_non))), ?_⟩
    refine ⟨_, rfl, v, rfl, lockIn_good g.tt g.gl g.few (by omega) fun L hL h240 => ⟨?_, fun r0 H1 T0 s1 htt hperm hasc => ?_⟩⟩
    · obtain ⟨_, _, _, z⟩ := g.few.wd (by omega) hL
      omega
    have eL := g.wd hL
    subst eL
    have hnd : T0.Nodup := (List.Perm.nodup_iff hperm).mpr (by rw [LL_eq]; exact qq_nd ls n 300)
    have hmem : ∀ t, t ∈ T0 ↔ Mk ls n t := fun t => (hperm.mem_iff).trans (g.mem t)
    have h63 := g.few.le hnd fun t h => (hmem t).mp h
    have h1 : 1 ≤ T0.length := List.length_pos_of_mem ((hmem _).mpr .still)
    obtain ⟨ta, tx, rfl, hta, pt⟩ := htt
    have hl := Paired.length pt
    refine ⟨ta, tx, rfl, .inr (SqT.of hta), ?_⟩
    rw [hl]
    have Q' : ∀ H', Same H1 H' → Q (ovN (primeOf T0.length)) H' := fun H' s => q H' T0 (s1.trans s) hnd hmem
    generalize hk : T0.length = k at *
    refine ⟨_, rfl, (k : Int), 1, rfl, rfl, 2, (k : Int) + 1, rfl, ⟨by omega, by omega, by omega, by omega⟩, for_range (lo := 2) (n := ((k : Int) + 1 - 2).toNat)
      (fun i σ H' => ∃ x2, σ = [some v, some (nI k), x2] ∧ Same H1 H' ∧ ∀ j, j < i → ¬ k % (2 + j) = 0) ⟨none, rfl, .refl _, fun j hj => absurd hj (Nat.not_lt_zero j)⟩ ?_ ?_⟩
    · rintro i σ H' hi ⟨x2, rfl, st, hno⟩
      rw [show (2 + (i : Int)) = ((2 + i : Nat) : Int) by omega]
      have hi2 : i + 2 ≤ k := by omega
      refine ⟨_, rfl, _, rfl, k, 2 + i, rfl, rfl, by omega, rfl, decide (k % (2 + i) = 0), congrArg V.bl (dec_zero _), ?_⟩
      by_cases hd : k % (2 + i) = 0
      · rw [decide_eq_true hd]
        have hfind : primeOf k = if strip (2 + i) 64 k = 1 then some (2 + i) else none := by
          unfold primeOf
          have e : (List.range' 2 (k - 1)).find? (fun p => decide (k % p = 0)) = some (2 + i) := by
            rw [List.find?_range'_eq_some]
            refine ⟨decide_eq_true hd, ?_, fun j h1 h2 => ?_⟩
            · simp only [List.mem_range'_1]
              omega
            · obtain ⟨m, rfl⟩ : ∃ m, j = 2 + m := ⟨j - 2, by omega⟩
              simpa using hno m (by omega)
          rw [e]
        refine iteT ⟨fun m σ2 H2 => ∃ y, σ2 = [some v, some (nI y), some (nI (2 + i))] ∧ Same H1 H2 ∧ m = y ∧ 1 ≤ y ∧ y ≤ 63 ∧ strip (2 + i) 64 k = strip (2 + i) 64 y, ⟨k, k, rfl, st, rfl, h1, h63, rfl⟩, ?_⟩
        rintro m σ2 H2 ⟨y, rfl, st2, rfl, hy1, hy2, hs⟩
        refine ⟨_, rfl, _, rfl, m, 2 + i, rfl, rfl, by omega, rfl, decide (m % (2 + i) = 0), congrArg V.bl (dec_zero _), ?_⟩
        by_cases hm : m % (2 + i) = 0
        · rw [decide_eq_true hm]
          have hlt : m / (2 + i) < m := Nat.div_lt_self (by omega) (by omega)
          have hpos : 1 ≤ m / (2 + i) := Nat.div_pos (Nat.le_of_dvd (by omega) (Nat.dvd_of_mod_eq_zero hm)) (by omega)
          refine iteT ⟨fun σ3 H3 => σ3 = [some v, some (nI (m / (2 + i))), some (nI (2 + i))] ∧ Same H1 H3, fun σ3 H3 ⟨e1, e2⟩ => ⟨m / (2 + i), hlt, m / (2 + i), e1, e2, rfl, hpos, by omega, ?_⟩, ?_⟩
          · rw [hs, strip_div hm hy1 (by omega)]
            exact strip_more (by omega) 63 _ (by omega) 64 (by omega) hpos
          · exact ⟨_, rfl, _, rfl, m, 2 + i, rfl, rfl, ⟨by omega, by omega, by omega⟩, rfl, st2⟩
        · rw [decide_eq_false hm]
          rw [strip_id hm] at hs
          refine iteF ⟨_, rfl, rfl, decide (m = 1), congrArg V.bl (dec_len m), ?_⟩
          by_cases h1m : m = 1
          · rw [decide_eq_true h1m]
            rw [hs, if_pos h1m] at hfind
            have z := Q' H2 st2
            rw [hfind] at z
            exact iteT ⟨_, rfl, z⟩
          · rw [decide_eq_false h1m]
            rw [hs, if_neg h1m] at hfind
            have z := Q' H2 st2
            rw [hfind] at z
            exact iteF z
      · rw [decide_eq_false hd]
        refine iteF ⟨_, rfl, st, fun j hj => ?_⟩
        by_cases e : j = i
        · rw [e]
          exact hd
        · exact hno j (by omega)
    · rintro σ H' ⟨x2, rfl, st, hno⟩
      have z := Q' H' st
      have e : primeOf k = none := by
        unfold primeOf
        have e2 : (List.range' 2 (k - 1)).find? (fun p => decide (k % p = 0)) = none := by
          rw [List.find?_eq_none]
          intro p hp
          have hp2 : 2 ≤ p ∧ p < 2 + (k - 1) := List.mem_range'_1.mp hp
          obtain ⟨m, rfl⟩ : ∃ m, p = 2 + m := ⟨p - 2, by omega⟩
          simpa using hno m (by omega)
        rw [e2]
      rw [e] at z
      exact z
end
end Lt

set_option Elab.async false
set_option linter.all false
set_option maxRecDepth 100000
set_option maxHeartbeats 2000000
namespace Lt
open PySem PySem.Spec PyProof.Rows L2
/-- what the law takes for the prime -/
def lawP (k : Nat) : Option Nat := match [2, 3, 5, 7].filter fun p => decide (k % p = 0) with
  | [p] => some p
  | _ => none
theorem lawP_eq {k : Nat} (h1 : 1 ≤ k) (h2 : k ≤ 60) (hd : k ∣ 362880) : primeOf k = lawP k := by
  have z : ((List.range 61).all fun k => decide (k = 0) || decide (362880 % k ≠ 0) || decide (primeOf k = lawP k)) = true := by decide +kernel
  have y := List.all_eq_true.mp z k (List.mem_range.mpr (by omega))
  rw [Bool.or_eq_true, Bool.or_eq_true, decide_eq_true_eq, decide_eq_true_eq, decide_eq_true_eq] at y
  rcases y with (y | y) | y
  · omega
  · exact absurd (Nat.mod_eq_zero_of_dvd hd) y
  · exact y
end Lt

set_option Elab.async false
set_option linter.all false
set_option maxRecDepth 100000
set_option maxHeartbeats 1000000
namespace Lt
open PySem PySem.Spec PyProof.Rows L2
/-! ### _law_alike, of equal data -/
def Pl : Nat → PyData → Prop
  | _, .int _ => True
  | _, .none => True
  | k + 1, .tuple ds => ds.length ≤ 1000 ∧ ∀ e ∈ ds, Pl k e
  | k + 1, .list ds => ds.length ≤ 1000 ∧ ∀ e ∈ ds, Pl k e
  | _, _ => False
def isTL (d : PyData) : Bool := isTup d || isLst d
theorem kit_TL {K : PySem.W.Frag} (d : PyData) : PySem.W.kitAny K (.type (tyN d)) [.type "tuple", .type "list"] = some (isTL d) := by
  refine kitAny_cons (b := isTup d) (kit_ty (kit_tup d)) (fun h => ?_) (fun h => by unfold isTL; rw [h]; rfl)
  refine kitAny_cons (b := isLst d) (kit_ty (kit_lst d)) (fun h2 => ?_) (fun h2 => by unfold isTL; rw [h, h2]; rfl)
  unfold isTL
  rw [h, h2]
  exact kitAny_nil
theorem cls_TL : Paired ClsV [V.ty "tuple", V.ty "list"] [.type "tuple", .type "list"] := .cons (.ty _) (.cons (.ty _) .nil)
section
variable {P : Program} {w : World} {K : PySem.W.Frag} {mg : Str → Option Value} {base : Heap}
def spAlike (k : Nat) : Sp := fun vs H Q _ => ∃ (v u : V) (d : PyData), vs = [v, u] ∧ Rp H v d ∧ Rp H u d ∧ Pl k d ∧ ∀ H', Same H H' → Q (.bl true) H'
theorem sc_law_alike : FnScope ["found", "due", "k"] ["found", "due"] (defScope s_law_alike) := ⟨rfl, rfl, rfl, by decide +kernel, rfl, by decide +kernel, by decide +kernel⟩
theorem Rp.ix {K : PySem.W.Frag} {H : Hp} {a : Addr} {xs : List V} {i : Nat} {v : V} {Q : VK} (h : H a = some (.lst xs) ∨ RT H a xs) (hi : xs[i]? = some v) (q : Q v H) : rIx K (.ref a) (.int ((0 : Int) + (i : Nat))) H Q := by
  have e : atI xs ((0 : Int) + (i : Nat)) = some v := by rw [Int.zero_add]; exact atI_nat hi
  rcases h with h | h
  · exact .inl ⟨a, xs, _, v, rfl, rfl, SqL.of h, e, q⟩
  · exact .inr (.inl ⟨a, xs, _, v, rfl, rfl, h.sq, e, q⟩)
theorem RpAll.getR {H : Hp} : ∀ {ds : List PyData} {vs : List V} {i : Nat}, RpAll H vs ds → i < ds.length → ∃ v d, vs[i]? = some v ∧ ds[i]? = some d ∧ Rp H v d := fun {ds vs i} h hi => by
  have hl := h.len
  have hv : vs[i]? = some (vs[i]'(by omega)) := List.getElem?_eq_getElem (by omega)
  obtain ⟨d, h1, h2⟩ := h.get hv
  exact ⟨_, d, hv, h1, h2⟩
/-- a list or tuple -/
theorem Rp.seq {H : Hp} {v : V} {d : PyData} (h : Rp H v d) (ht : isTL d = true) : ∃ a xs ds, v = .ref a ∧ (H a = some (.lst xs) ∨ RT H a xs) ∧ RpAll H xs ds ∧ (d = .tuple ds ∨ d = .list ds) := by
  cases h with
  | lst h a => exact ⟨_, _, _, rfl, .inl h, a, .inr rfl⟩
  | tup h a => exact ⟨_, _, _, rfl, .inr h, a, .inl rfl⟩
  | non => cases ht
  | bl => cases ht
  | int => cases ht
  | str => cases ht
theorem sq_or {K : PySem.W.Frag} {H : Hp} {a : Addr} {xs : List V} (h : H a = some (.lst xs) ∨ RT H a xs) : SqL K H a xs ∨ SqT K H a xs := by
  rcases h with h | h
  · exact .inl (SqL.of h)
  · exact .inr h.sq
theorem or_same {H H' : Hp} {a : Addr} {xs : List V} (s : Same H H') (h : H a = some (.lst xs) ∨ RT H a xs) : H' a = some (.lst xs) ∨ RT H' a xs := by
  rcases h with h | h
  · exact .inl (s _ _ h)
  · exact .inr (h.sm s)
theorem has_law_alike (T : Top K mg "_law_alike" s_law_alike ["found", "due"]) (B : Bi mg) : ∀ k, Has P w K mg base CX0 (k + 1) "_law_alike" ["found", "due"] (spAlike k) := by
  have step : ∀ (k : Nat) (sp : Sp) (hsp : ∀ (v u : V) (d : PyData) (H : Hp) (Q : VK), (∃ k', k = k' + 1 ∧ Pl k' d) → Rp H v d → Rp H u d → (∀ H', Same H H' → Q (.bl true) H') → sp [v, u] H Q E0), Has P w K mg base CX0 k "_law_alike" ["found", "due"] sp → Has P w K mg base CX0 (k + 1) "_law_alike" ["found", "due"] (spAlike k) := by
    intro k sp hsp hA
    refine T.ok sc_law_alike (fun vs H Q E h => ?_) (fun f cdv A outer s H vs Q E hr h => ?_)
    · obtain ⟨v, u, d, rfl, _⟩ := h
      rfl
    · obtain ⟨v, u, d, rfl, hv, hu, hp, q⟩ := h
      refine ⟨_, pss_cons (ps_if (pt_val (pe_callB call_isiT (by rfl) B.isinstance PyProof.Rows.boot_isinstance (pa_cons (pv 1) (pa_cons (pe_tup (pa_cons (pe_bltn (by rfl) B.tuple PyProof.Rows.boot_tuple (rr_ty "tuple")) (pa_cons (pe_bltn (by rfl) B.list PyProof.Rows.boot_list (rr_ty "list")) pa_nil))) pa_nil))))
          (pss_cons (ps_if (PW.pt (pw_or (pt_not (pt_val (pe_callB call_isiT (by rfl) B.isinstance PyProof.Rows.boot_isinstance (pa_cons (pv 0) (pa_cons (pe_tup (pa_cons (pe_bltn (by rfl) B.tuple PyProof.Rows.boot_tuple (rr_ty "tuple")) (pa_cons (pe_bltn (by rfl) B.list PyProof.Rows.boot_list (rr_ty "list")) pa_nil))) pa_nil)))))
            (pw_or1 (pt_cmpR op_ne (pe_callB call_isi (by rfl) B.isinstance PyProof.Rows.boot_isinstance (pa_cons (pv 0) (pa_cons (pe_bltn (by rfl) B.list PyProof.Rows.boot_list (rr_ty "list")) pa_nil))) (pe_callB call_isi (by rfl) B.isinstance PyProof.Rows.boot_isinstance (pa_cons (pv 1) (pa_cons (pe_bltn (by rfl) B.list PyProof.Rows.boot_list (rr_ty "list")) pa_nil))) (nomark _)))))
            (pss_one (ps_ret pe_bl)) pss_nil)
          (pss_cons (ps_if (pt_cmpR op_ne (pe_callB call_len_seq (by rfl) B.len PySem.boot_len (pa_cons (pv 0) pa_nil)) (pe_callB call_len_seq (by rfl) B.len PySem.boot_len (pa_cons (pv 1) pa_nil)) (nomark _)) (pss_one (ps_ret pe_bl)) pss_nil)
          (pss_one (ps_ret (pe_cmpR (op_eqD hr.units) (pe_lc (own := [("k", 2)]) (g := gName 2) (tt := tNot (tB (tCall sp [] E0 (tCons (tOp (rIx K) (tVar 0) (tVar 2)) (tCons (tOp (rIx K) (tVar 1) (tVar 2)) tNil))))) (te := tVar 2) (by rfl) sc_law_alike.nd (pi_range1 (by rfl) B.range (pa_cons (pe_callB call_len_seq (by rfl) B.len PySem.boot_len (pa_cons (pv 1) pa_nil)) pa_nil))
              (blkOk_by (own := [("k", 2)]) (N := ["found", "due", "k"]) (sc := defScope s_law_alike) (by decide +kernel)) (fun _ _ _ _ _ => pg_name (i := 2) sc_law_alike.nd rfl (Or.inl rfl))
              (fun _ _ _ _ _ => pts_one (pt_not (pt_val (pe_has hA hr (by rfl) (pa_cons (pe_ix ix_seq (pv 0) (pv 2) (fun _ _ => rfl)) (pa_cons (pe_ix ix_seq (pv 1) (pv 2) (fun _ _ => rfl)) pa_nil))))))
              (fun _ _ _ _ _ => pv 2)) (pe_lst pa_nil) (nomark _)))))) pss_nil)
        (pss_cons (ps_if (PW.pt (pw_or (pt_cmp (pc_isN (pv 1))) (pw_or1 (pt_val (pe_callB call_isi (by rfl) B.isinstance PyProof.Rows.boot_isinstance (pa_cons (pv 1) (pa_cons (pe_bltn (by rfl) B.str PyProof.Rows.boot_str (rr_ty "str")) pa_nil)))))))
          (pss_one (ps_ret (pe_and (pe_cmpR (op_eqD hr.units) (pv 0) (pv 1) (nomark _)) (pe_one (pe_cmpR op_eq (pe_callB call_isi (by rfl) B.isinstance PyProof.Rows.boot_isinstance (pa_cons (pv 0) (pa_cons (pe_bltn (by rfl) B.str PyProof.Rows.boot_str (rr_ty "str")) pa_nil))) (pe_callB call_isi (by rfl) B.isinstance PyProof.Rows.boot_isinstance (pa_cons (pv 1) (pa_cons (pe_bltn (by rfl) B.str PyProof.Rows.boot_str (rr_ty "str")) pa_nil))) (nomark _)))))) pss_nil)
        (pss_one (ps_ret (pe_and (pe_callB call_isi (by rfl) B.isinstance PyProof.Rows.boot_isinstance (pa_cons (pv 0) (pa_cons (pe_bltn (by rfl) B.int PyProof.Rows.boot_int (rr_ty "int")) pa_nil)))
          (pe_and (pe_cmpR op_eq (pe_callB call_isi (by rfl) B.isinstance PyProof.Rows.boot_isinstance (pa_cons (pv 0) (pa_cons (pe_bltn (by rfl) B.bool PyProof.Rows.boot_bool (rr_ty "bool")) pa_nil))) (pe_callB call_isi (by rfl) B.isinstance PyProof.Rows.boot_isinstance (pa_cons (pv 1) (pa_cons (pe_bltn (by rfl) B.bool PyProof.Rows.boot_bool (rr_ty "bool")) pa_nil))) (nomark _))
            (pe_one (pe_cmpR op_eq (pv 0) (pv 1) (nomark _)))))))), ?_⟩
      refine ⟨_, rfl, by show 2 ≤ sizeLine; decide, fun tp htp => ?_⟩
      have s1 := same_new (o := .tup [V.ty "tuple", V.ty "list"]) htp
      have hv1 := Rp.same s1 _ _ hv
      have hu1 := Rp.same s1 _ _ hu
      refine ⟨u, tp, _, _, _, isTL d, rfl, upd_same, cls_TL, rp_ty hu1, kit_TL d, isTL d, rfl, ?_⟩
      by_cases hT : isTL d = true
      · rw [hT]
        refine iteT ⟨_, rfl, by show 2 ≤ sizeLine; decide, fun tp2 htp2 => ?_⟩
        have s2 := same_new (o := .tup [V.ty "tuple", V.ty "list"]) htp2
        have s12 := s1.trans s2
        have hv2 := Rp.same s2 _ _ hv1
        have hu2 := Rp.same s2 _ _ hu1
        refine ⟨v, tp2, _, _, _, isTL d, rfl, upd_same, cls_TL, rp_ty hv2, kit_TL d, isTL d, rfl, ?_⟩
        rw [hT]
        refine iteF ⟨_, rfl, v, .ty "list", _, _, isLst d, rfl, .ty _, rp_ty hv2, kit_ty (kit_lst d), _, rfl, u, .ty "list", _, _, isLst d, rfl, .ty _, rp_ty hu2, kit_ty (kit_lst d), rfl, _, rfl, iteNS rfl ?_⟩
        obtain ⟨a, xs, ds, rfl, ha, hx, hd⟩ := hv2.seq hT
        obtain ⟨b, ys, ds2, rfl, hb, hy, hd2⟩ := hu2.seq hT
        have eds : ds2 = ds := by
          rcases hd with e | e <;> rcases hd2 with e2 | e2 <;> rw [e] at e2 <;> first | (injection e2 with z; exact z.symm) | cases e2
        subst eds
        have hxl := hx.len
        have hyl := hy.len
        have hpl : ∃ k', k = k' + 1 ∧ ds2.length ≤ 1000 ∧ ∀ e ∈ ds2, Pl k' e := by
          cases k with
          | zero => rcases hd with e | e <;> rw [e] at hp <;> exact hp.elim
          | succ k' => rcases hd with e | e <;> rw [e] at hp <;> exact ⟨k', rfl, hp⟩
        obtain ⟨k', ek, hl, hpe⟩ := hpl
        refine ⟨_, rfl, a, xs, rfl, sq_or ha, _, rfl, b, ys, rfl, sq_or hb, rfl, _, rfl, iteNS (by rw [hxl, hyl]) ?_⟩
        refine ⟨_, rfl, b, ys, rfl, sq_or hb, (ys.length : Int), rfl, by omega, by omega, fun D hD => ?_⟩
        refine lc_range (lo := 0) (n := (ys.length : Int).toNat) (fun i H' => Same (upd (upd H tp (.tup [V.ty "tuple", V.ty "list"])) tp2 (.tup [V.ty "tuple", V.ty "list"])) H' ∧ H' D = some (.lst [])) ⟨same_new hD, upd_same⟩ ?_ ?_
        · rintro i H' hi ⟨sm, hDl⟩
          refine ⟨rfl, ?_⟩
          have hid : i < ds2.length := by omega
          obtain ⟨x1, d1, e1, e2, r1⟩ := hx.getR hid
          obtain ⟨x2, d2, e3, e4, r2⟩ := hy.getR hid
          have ed : d1 = d2 := Option.some.inj (e2.symm.trans e4)
          subst ed
          refine ⟨_, rfl, _, rfl, Rp.ix (or_same sm ha) e1 ⟨_, rfl, _, rfl, Rp.ix (or_same sm hb) e3 ?_⟩⟩
          refine hsp x1 x2 d1 H' _ ⟨k', ek, hpe d1 (List.mem_of_getElem? e2)⟩ (Rp.same sm _ _ r1) (Rp.same sm _ _ r2) fun H4 s4 => ?_
          exact ⟨true, rfl, iteF ⟨sm.trans s4, s4 _ _ hDl⟩⟩
        · rintro H' ⟨sm, hDl⟩
          refine ⟨Nat.zero_le _, fun p2 hp2 => ?_⟩
          have s5 := same_new (o := .lst []) hp2
          refine ⟨.list [], .list [], .lst (SqL.of (s5 _ _ hDl)) .nil, .lst (SqL.of upd_same) .nil, rfl, rfl, ?_⟩
          exact q _ ((s12.trans sm).trans s5)
      · have hF : isTL d = false := by simpa using hT
        rw [hF]
        have hi : (∃ i, d = .int i) ∨ d = .none := by
          cases d with
          | int i => exact .inl ⟨i, rfl⟩
          | tuple ds => exact absurd rfl hT
          | list ds => exact absurd rfl hT
          | none => exact .inr rfl
          | bool b => cases k <;> exact hp.elim
          | str b => cases k <;> exact hp.elim
          | dict b => cases k <;> exact hp.elim
        rcases hi with ⟨i, rfl⟩ | rfl
        rotate_left
        · cases hv
          cases hu
          refine iteF ⟨_, rfl, _, rfl, iteT (iteT ?_)⟩
          refine ⟨_, rfl, _, rfl, .none, .none, .non, .non, rfl, rfl, true, congrArg V.bl rfl, iteT ?_⟩
          exact ⟨_, rfl, .non, .ty "str", _, _, false, rfl, .ty _, .base .non, kit_ty (kit_str .none), _, rfl, .non, .ty "str", _, _, false, rfl, .ty _, .base .non, kit_ty (kit_str .none), rfl, q _ s1⟩
        cases hv
        cases hu
        refine iteF ⟨_, rfl, _, rfl, iteF ?_⟩
        refine ⟨_, rfl, .int i, .ty "str", _, _, false, rfl, .ty _, .base (.int i), kit_ty (kit_str (.int i)), false, rfl, iteF ?_⟩
        refine ⟨_, rfl, .int i, .ty "int", _, _, true, rfl, .ty _, .base (.int i), kit_ty (kit_int (.int i)), true, rfl, iteT ?_⟩
        refine ⟨_, rfl, .int i, .ty "bool", _, _, false, rfl, .ty _, .base (.int i), kit_ty (kit_bool (.int i)), _, rfl, .int i, .ty "bool", _, _, false, rfl, .ty _, .base (.int i), kit_ty (kit_bool (.int i)), rfl, true, rfl, iteT ?_⟩
        refine ⟨_, rfl, _, rfl, rfl, ?_⟩
        have e : decide (V.int i = V.int i) = true := decide_eq_true rfl
        rw [e]
        exact q _ s1
  intro k
  induction k with
  | zero =>
    obtain ⟨f, fd, hm, F, b⟩ := T
    exact step 0 (fun _ _ _ _ => False) (fun v u d H Q h _ _ _ => by obtain ⟨k', e, _⟩ := h; cases e) ⟨f, fd, hm, F.kp, b, ⟨fun _ _ _ _ h => h.elim, fun _ _ _ _ _ _ _ _ _ _ _ _ _ h => h.elim⟩⟩
  | succ k ih => exact step (k + 1) (spAlike k) (fun v u d H Q h hv hu q => by
      obtain ⟨k', e, hp⟩ := h
      cases e
      exact ⟨v, u, d, rfl, hv, hu, hp, q⟩) ih
end
end Lt

set_option Elab.async false
set_option linter.all false
set_option maxRecDepth 100000
set_option maxHeartbeats 2000000
/-! the last part of a polynomial is its longest; parts as data -/
namespace Lt
open PySem PySem.Spec PyProof.Rows L2 NdefX LamX LmX MaX
/-! ### the last part is the longest -/
theorem len_mono : ((List.range 64).all fun t => (List.range 64).all fun u => decide (kc t ≤ kc u → (insOf t).length ≤ (insOf u).length)) = true := by decide +kernel
theorem len_le {t u : Nat} (ht : t < 64) (hu : u < 64) (h : kc t ≤ kc u) : (insOf t).length ≤ (insOf u).length :=
  of_decide_eq_true (List.all_eq_true.mp (List.all_eq_true.mp len_mono t (List.mem_range.mpr ht)) u (List.mem_range.mpr hu)) h
theorem foldl_max_last : ∀ (l : List Nat) (a x : Nat), a ≤ x → (∀ y ∈ l, y ≤ x) → (l ++ [x]).foldl max a = x
  | [], a, x, h, _ => by
    show max a x = x
    omega
  | y :: l, a, x, h, hl => foldl_max_last l (max a y) x (by have := hl y List.mem_cons_self; omega) fun z hz => hl z (List.mem_cons_of_mem _ hz)
theorem polyL_lt {p n : Nat} {bs : List Nat} (hn : n ≤ 6) {t : Nat} (h : t ∈ polyL p n bs) : t < 64 := by
  unfold polyL at h
  have := List.mem_range.mp (List.mem_mergeSort.mp (List.mem_filter.mp h).1)
  have := pow6 hn
  omega
open PySem.W in
theorem polyL_sorted {p n : Nat} {bs : List Nat} (hn : n ≤ 6) : (polyL p n bs).Pairwise (fun a b => kc a ≤ kc b) := by
  have T1 := sortLe_total (listOrd itemOrd) false fun t => PySem.W.keyToks (encT (facG p n bs) t)
  have h := (List.pairwise_mergeSort (le := PySem.W.dataLe false (encT (facG p n bs))) T1.trans (fun a b => by rw [Bool.or_eq_true]; exact T1.total a b) (List.range (2 ^ n))).filter fun t => facG p n bs t != 0
  refine List.Pairwise.imp_of_mem ?_ h
  intro a b ha hb e
  rw [le_of_key (encT_key _) (polyL_lt hn ha) (polyL_lt hn hb)] at e
  exact of_decide_eq_true e
theorem degV_last {p n : Nat} {bs pre : List Nat} {t : Nat} (hn : n ≤ 6) (e : polyL p n bs = pre ++ [t]) : degV (polyL p n bs) = nI (insOf t).length := by
  have hs := polyL_sorted (p := p) (bs := bs) hn
  have hm : ∀ x ∈ polyL p n bs, x < 64 := fun x hx => polyL_lt hn hx
  rw [e] at hs hm ⊢
  unfold degV
  rw [if_neg (by simp), List.map_append]
  show nI ((pre.map (fun t => (insOf t).length) ++ [(insOf t).length]).foldl max 0) = _
  rw [foldl_max_last _ _ _ (Nat.zero_le _) fun y hy => ?_]
  obtain ⟨u, hu, rfl⟩ := List.mem_map.mp hy
  have := (List.pairwise_append.mp hs).2.2 u hu t (List.mem_singleton.mpr rfl)
  exact len_le (hm u (List.mem_append.mpr (.inl hu))) (hm t (by simp)) this
/-! ### the task that asks all -/
theorem all_fac : ∀ m, 1 ≤ m → m ≤ 5 → ∀ p ∈ primes, ((List.range (2 ^ m)).filter fun t => facG p m (allT m) t != 0) = [2 ^ m - 1] := by
  have h : ∀ m, m ≤ 5 → 1 ≤ m → (primes.all fun p => decide (((List.range (2 ^ m)).filter fun t => facG p m (allT m) t != 0) = [2 ^ m - 1])) = true := by decide +kernel
  intro m h1 h5 p hp
  exact of_decide_eq_true (List.all_eq_true.mp (h m h5 h1) p hp)
theorem ins_all : ∀ m, m ≤ 5 → (insOf (2 ^ m - 1)).length = m := by decide +kernel
theorem deg_all {m p : Nat} (h1 : 1 ≤ m) (h5 : m ≤ 5) (hp : p ∈ primes) : degV (polyL p m (allT m)) = nI m := by
  have e : polyL p m (allT m) = [2 ^ m - 1] := by
    have pm : (polyL p m (allT m)).Perm [2 ^ m - 1] := by
      rw [← all_fac m h1 h5 p hp]
      exact (List.mergeSort_perm _ _).filter _
    exact List.perm_singleton.mp pm
  rw [degV_last (pre := []) (t := 2 ^ m - 1) (by omega) e, ins_all m h5]
theorem tsk_all {m p : Nat} (h1 : 1 ≤ m) (h6 : m ≤ 6) (hp : p ∈ primes) : Tsk p m (allT m) := by
  refine ⟨hp, fun b hb => ?_, ?_, h1, h6⟩
  · unfold allT at hb
    rcases List.mem_append.mp hb with h | h
    · rw [List.eq_of_mem_replicate h]
      decide
    · rw [List.mem_singleton.mp h]
      decide
  · unfold allT
    have := Nat.two_pow_pos m
    rw [List.length_append, List.length_replicate]
    show 2 ^ m - 1 + 1 = 2 ^ m
    omega
/-! ### parts as data -/
theorem dep_part (g : Nat → Int) : ∀ ts : List Nat, PyData.depthAll (ts.map (partD g)) ≤ 2
  | [] => Nat.zero_le _
  | t :: ts => by
    show max (max (PyData.depthAll ((insOf t).map dN) + 1) (max 0 0) + 1) (PyData.depthAll (ts.map (partD g))) ≤ 2
    rw [depth_nats]
    have := dep_part g ts
    omega
theorem can_part (g : Nat → Int) : ∀ ts : List Nat, PyData.canLayAll0 (ts.map (partD g)) = true
  | [] => rfl
  | t :: ts => by
    show ((PyData.canLayAll0 ((insOf t).map dN) && (true && true)) && PyData.canLayAll0 (ts.map (partD g))) = true
    rw [can_nats, can_part g ts]
    rfl
theorem sh_part (g : Nat → Int) (ts : List Nat) : SeqAt.shaped (.list (ts.map (partD g))) = true := by
  show (PyData.canLayAll0 (ts.map (partD g)) && decide (PyData.depthAll (ts.map (partD g)) + 1 ≤ 64)) = true
  have := dep_part g ts
  rw [can_part, decide_eq_true (by omega)]
  rfl
theorem eqv_part (g : Nat → Int) (ts : List Nat) : PyData.eqv (.list (ts.map (partD g))) (.list []) = decide (ts = []) := by
  cases ts with
  | nil => rfl
  | cons => rfl
theorem Pl_part (g : Nat → Int) {ts : List Nat} (h : ts.length ≤ 1000) : Pl 3 (.tuple (ts.map (partD g))) := by
  refine ⟨by rw [List.length_map]; exact h, fun e he => ?_⟩
  obtain ⟨t, _, rfl⟩ := List.mem_map.mp he
  refine ⟨by show 2 ≤ 1000; decide, fun e he => ?_⟩
  simp only [List.mem_cons, List.not_mem_nil, or_false] at he
  rcases he with rfl | rfl
  · refine ⟨by rw [List.length_map]; have := insOf_len t; omega, fun e he => ?_⟩
    obtain ⟨k, _, rfl⟩ := List.mem_map.mp he
    exact trivial
  · exact trivial
theorem Pl_T {t : List Nat} (h : t.length ≤ 1000) : Pl 3 (dT t) := by
  refine ⟨by rw [List.length_map]; exact h, fun e he => ?_⟩
  obtain ⟨k, _, rfl⟩ := List.mem_map.mp he
  exact trivial
end Lt

set_option Elab.async false
set_option linter.all false
set_option maxRecDepth 100000
set_option maxHeartbeats 2000000
/-! sorted(set(..)) of turns, told exactly; rows.py: degrees -/
namespace Lt
open PySem PySem.Spec PyProof.Rows L2
/-- the unlike ones in their order -/
structure Srt (ts us : List (List Nat)) : Prop where
  nd : us.Nodup
  mem : ∀ t, t ∈ us ↔ t ∈ ts
  asc : Asc us
theorem Srt.one {n : Nat} {ts us vs : List (List Nat)} (h9 : n ≤ 9) (hts : ∀ t ∈ ts, IsP n t) (a : Srt ts us) (b : Srt ts vs) : us = vs :=
  asc_one h9 (fun t ht => hts t ((a.mem t).mp ht)) ((List.perm_ext_iff_of_nodup a.nd b.nd).mpr fun t => (a.mem t).trans (b.mem t).symm) a.asc b.asc
def LTK (H : Hp) (a : Addr) (ts : List (List Nat)) : Prop := ∃ xs, H a = some (.lst xs) ∧ Paired (TK H) xs ts
theorem srt_tail {P : Program} {w : World} {K : PySem.W.Frag} {H : Hp} {n : Nat} {xs : List V} {ts : List (List Nat)} (p : Paired (TK H) xs ts) (hts : ∀ t ∈ ts, IsP n t) (h1 : 1 ≤ n) (h9 : n ≤ 9)
    (few : ∀ us : List (List Nat), us.Nodup → (∀ u ∈ us, u ∈ ts) → us.length ≤ 62) :
    ∃ ks : List (Addr × List Int), xs = ks.map (fun p => V.ref p.1) ∧ (∀ p ∈ ks, SqT K H p.1 (p.2.map V.int)) ∧ FewOf ks ∧ ∀ a L, H a = none → (∀ p ∈ L, p ∈ ks) → (∀ p ∈ ks, p.2 ∈ L.map (·.2)) → ∀ Q : VK, (∀ sp H' us, Same H H' → LTK H' sp us → Srt ts us → Q (.ref sp) H') → rSortedT K P w [.ref a] (upd H a (SetTO P w a L)) Q := by
  obtain ⟨ks, e1, e2, e3⟩ := tks_of p
  have sq : ∀ p ∈ ks, SqT K H p.1 (p.2.map V.int) := fun p hp => by
    obtain ⟨t, _, e, a, ea, ha⟩ := e3 p hp
    cases ea
    rw [e, show (iN t).map V.int = nIs t from (nIs_int t).symm]
    exact SqT.of ha
  have hmk : ∀ p ∈ ks, p.2 = iN (p.2.map Int.toNat) ∧ p.2.map Int.toNat ∈ ts := fun p hp => by
    obtain ⟨t, ht, e, _⟩ := e3 p hp
    rw [e, toN_iN]
    exact ⟨rfl, ht⟩
  have ndm : ∀ L : List (Addr × List Int), (L.map (·.2)).Nodup → (∀ p ∈ L, p ∈ ks) → (L.map fun q => q.2.map Int.toNat).Nodup := fun L nd hL => by
    have e : (L.map fun q : Addr × List Int => q.2.map Int.toNat).map iN = L.map (·.2) := by
      rw [List.map_map]
      exact List.map_congr_left fun q hq => (hmk q (hL q hq)).1.symm
    rw [← e] at nd
    exact nodup_of_map nd
  refine ⟨ks, e1, sq, fun L nd hL => ?_, fun a L ha hL1 hL2 Q q => ?_⟩
  · have z := few _ (ndm L nd hL) fun u hu => by
      obtain ⟨q, hq, rfl⟩ := List.mem_map.mp hu
      exact (hmk q (hL q hq)).2
    rw [List.length_map] at z
    exact z
  have s1 := same_new (o := SetTO P w a L) ha
  refine ⟨a, L, n, 9, rfl, upd_same, fun p hp => ?_, h1, fun p hp => ?_, fun L' sp pm nd h64 pw hsp => ?_⟩
  · rcases sq p (hL1 p hp) with (z | ⟨o, z⟩) | z
    · exact .inl (.inl (s1 _ _ z))
    · exact .inl (.inr ⟨o, s1 _ _ z⟩)
    · exact .inr z
  · obtain ⟨t, ht, e, _⟩ := e3 p (hL1 p hp)
    rw [e]
    exact ⟨by rw [iN_len, (hts t ht).len], bd_iN (hts t ht) h9⟩
  have s2 := same_new (o := .lst (L'.map fun q : Addr × List Int => V.ref q.1)) hsp
  have hL' : ∀ q ∈ L', q ∈ ks := fun q hq => hL1 q (pm.mem_iff.mp hq)
  refine q sp _ (L'.map fun q => q.2.map Int.toNat) (s1.trans s2) ⟨_, upd_same, ?_⟩ ⟨ndm L' nd hL', fun t => ⟨fun h => ?_, fun h => ?_⟩, ?_⟩
  · refine paired_of_map fun q hq => ?_
    obtain ⟨t, _, e, z⟩ := e3 q (hL' q hq)
    rw [e, toN_iN]
    exact z.tm (.of (s1.trans s2))
  · obtain ⟨q, hq, rfl⟩ := List.mem_map.mp h
    exact (hmk q (hL' q hq)).2
  · have h1 : iN t ∈ ks.map (·.2) := by
      rw [e2]
      exact List.mem_map.mpr ⟨t, h, rfl⟩
    obtain ⟨p, hp, e⟩ := List.mem_map.mp h1
    obtain ⟨q, hq, e4⟩ := List.mem_map.mp (hL2 p hp)
    refine List.mem_map.mpr ⟨q, pm.mem_iff.mpr hq, ?_⟩
    rw [e4, e, toN_iN]
  · refine List.pairwise_map.mpr (List.Pairwise.imp_of_mem ?_ pw)
    intro a b ha hb h
    have e1 := (hmk a (hL' a ha)).1
    have e2 := (hmk b (hL' b hb)).1
    rw [e1, e2] at h
    exact h
/-- a task with a yes has a polynomial with a part -/
theorem Gm_zero {p : Int} (hp : 0 < p) : ∀ (k : Nat) (f : Nat → Int), (∀ t, 0 ≤ f t ∧ f t < p) → (∀ t, t < 2 ^ k → Gm p f k t = 0) → ∀ t, t < 2 ^ k → f t = 0
  | 0, f, _, h, t, ht => h t ht
  | k + 1, f, hf, h, t, ht => by
    have low : ∀ u, u < 2 ^ k → Gm p f k u = 0 := fun u hu => by
      have hn : ¬ u / 2 ^ k % 2 = 1 := by rw [Nat.div_eq_of_lt hu]; decide
      have := h u (by rw [Nat.pow_succ]; omega)
      unfold Gm at this
      rw [if_neg hn] at this
      exact this
    by_cases hb : t / 2 ^ k % 2 = 1
    · obtain ⟨u, hu, rfl⟩ := split_bit ht hb
      refine Gm_zero hp k (fun s => f (2 ^ k + s)) (fun s => hf _) (fun v hv => ?_) u hu
      have hbv : (2 ^ k + v) / 2 ^ k % 2 = 1 := by
        rw [Nat.add_div_left _ (Nat.two_pow_pos k), Nat.div_eq_of_lt hv]
      have := h (2 ^ k + v) (by rw [Nat.pow_succ]; omega)
      unfold Gm at this
      rw [if_pos hbv, Nat.add_sub_cancel_left, low v hv, Int.sub_zero, Gm_shift p k k f v (Nat.le_refl _)] at this
      have r := Gm_red (p := p) (f := fun s => f (2 ^ k + s)) hp (fun s => hf _) k v
      rw [Int.emod_eq_of_lt r.1 r.2] at this
      exact this
    · exact Gm_zero hp k f hf low t (low_bit ht hb)
theorem polyL_ne {p k : Nat} {bs : List Nat} (tk : Tsk p k bs) (h1 : 1 ∈ bs) : polyL p k bs ≠ [] := fun e => by
  obtain ⟨_, p2, _⟩ := prime_in tk.hp
  have hf : ∀ t, 0 ≤ fT bs t ∧ fT bs t < (p : Int) := fun t => by
    unfold fT
    refine ⟨Int.natCast_nonneg _, ?_⟩
    have : bs.getD t 0 ≤ 1 := by
      rw [List.getD_eq_getElem?_getD]
      cases e : bs[t]? with
      | none => exact Nat.zero_le _
      | some b => exact tk.b1 b (List.mem_of_getElem? e)
    omega
  have z : ∀ t, t < 2 ^ k → Gm p (fT bs) k t = 0 := fun t ht => by
    refine Classical.byContradiction fun hn => ?_
    have : t ∈ polyL p k bs := by
      unfold polyL
      refine List.mem_filter.mpr ⟨List.mem_mergeSort.mpr (List.mem_range.mpr ht), ?_⟩
      exact bne_iff_ne.mpr hn
    rw [e] at this
    cases this
  obtain ⟨i, hi, ei⟩ := List.getElem_of_mem h1
  have y := Gm_zero (p := p) (by omega) k (fT bs) hf z i (by rw [← tk.len]; exact hi)
  unfold fT at y
  rw [List.getD_eq_getElem?_getD, List.getElem?_eq_getElem hi, ei] at y
  exact absurd y (by decide)
/-- a degree as data -/
def degD (ts : List Nat) : PyData := if ts = [] then .none else dN ((ts.map fun t => (insOf t).length).foldl max 0)
theorem degV_rp {H : Hp} (ts : List Nat) : Rp H (degV ts) (degD ts) := by
  unfold degV degD
  split
  · exact .non
  · exact .int _
theorem yesT_tsk {p n k : Nat} {ss : List StepT} {t : List Nat} (hp : p ∈ primes) (k1 : 1 ≤ k) (k6 : k ≤ 6) : Tsk p k (yesT (valsK n k ss) t) := by
  refine ⟨hp, fun b hb => ?_, by unfold yesT; rw [List.length_map, valsK_len], k1, k6⟩
  obtain ⟨x, _, rfl⟩ := List.mem_map.mp hb
  split
  · exact Nat.le_refl _
  · exact Nat.zero_le _
theorem prime_lock {ls : List (List Nat)} {n : Nat} {H : Hp} {v : V} (g : Good H v ls n) (h60 : (LL ls n).length ≤ 60) : primeOf (LL ls n).length = lawP (LL ls n).length := by
  have nd := LL_nd ls n
  have hm := fun t => g.mem t
  have := order_dvd g.gl.2.2.2.2 g.few nd hm
  rw [List.length_map] at this
  refine lawP_eq ?_ h60 (Nat.dvd_trans this (fac_dvd g.gl.2.2.2.1))
  have := List.length_pos_of_mem ((hm _).mpr .still)
  rw [List.length_map] at this
  exact this
theorem lawP_in {k p : Nat} (h : lawP k = some p) : p ∈ primes := by
  unfold lawP at h
  split at h
  · rename_i q e
    obtain rfl := Option.some.inj h
    have : q ∈ [2, 3, 5, 7].filter fun p => decide (k % p = 0) := by rw [e]; exact List.mem_singleton.mpr rfl
    exact (List.mem_filter.mp this).1
  · cases h
section
variable {P : Program} {w : World} {K : PySem.W.Frag} {mg : Str → Option Value} {base : Heap} {CL CM CT CN CR CK CP : Addr}
/-- degrees, as data -/
def degsD (p n k : Nat) (ss : List StepT) (us : List (List Nat)) : PyData := .tuple (us.map fun t => .tuple [dT t, degD (polyL p k (yesT (valsK n k ss) t))])
theorem RowIn.imp {H : Hp} {E : XK} {rv : V} {ls : List (List Nat)} {n k : Nat} {q q' : List StepT → Prop} (h : RowIn CR H E rv ls n k q) (i : ∀ ss, RwK H rv ss → RowOk ls n k ss → q ss → q' ss) : RowIn CR H E rv ls n k q' := by
  rcases h with ⟨ss, a, b, c⟩ | h
  · exact .inl ⟨ss, a, b, i ss a b c⟩
  · exact .inr h
/-- a pair of a turn and a degree -/
def DgAt (p n k : Nat) (ss : List StepT) (H : Hp) (v : V) (t : List Nat) : Prop := ∃ b x, v = .ref b ∧ H b = some (.tup [x, degV (polyL p k (yesT (valsK n k ss) t))]) ∧ TK H x t
theorem DgAt.tm {p n k : Nat} {ss : List StepT} {H H' : Hp} {v : V} {t : List Nat} (e : Tm H H') (h : DgAt p n k ss H v t) : DgAt p n k ss H' v t := let ⟨b, x, h1, h2, h3⟩ := h; ⟨b, x, h1, e.1 _ _ h2, h3.tm e⟩
theorem DgAts.rp {p n k : Nat} {ss : List StepT} {H : Hp} : ∀ {xs : List V} {us : List (List Nat)}, Paired (DgAt p n k ss H) xs us → RpAll H xs (us.map fun t => .tuple [dT t, degD (polyL p k (yesT (valsK n k ss) t))])
  | _, _, .nil => .nil
  | _, _, .cons ⟨b, x, e, hb, hx⟩ s => by
    subst e
    exact .cons (.tup (.inl hb) (.cons hx.tn.rp (.cons (degV_rp _) .nil))) (DgAts.rp s)
/-- degrees, where they stand -/
def DgT (p n k : Nat) (ss : List StepT) (H : Hp) (v : V) (us : List (List Nat)) : Prop := ∃ a xs, v = .ref a ∧ H a = some (.tup xs) ∧ Paired (DgAt p n k ss H) xs us
theorem DgT.tm {p n k : Nat} {ss : List StepT} {H H' : Hp} {v : V} {us : List (List Nat)} (e : Tm H H') (h : DgT p n k ss H v us) : DgT p n k ss H' v us := let ⟨a, xs, h1, h2, h3⟩ := h; ⟨a, xs, h1, e.1 _ _ h2, paired_mono (fun _ _ r => r.tm e) h3⟩
theorem DgT.rp {p n k : Nat} {ss : List StepT} {H : Hp} {v : V} {us : List (List Nat)} (h : DgT p n k ss H v us) : Rp H v (degsD p n k ss us) := let ⟨a, xs, h1, h2, h3⟩ := h; h1 ▸ .tup (.inl h2) (DgAts.rp h3)
def spDegrees (CR CP : Addr) : Sp := fun vs H Q E => ∃ (v rv : V) (ls : List (List Nat)) (n k : Nat), vs = [v, nI k, rv] ∧ Good H v ls n ∧ (LL ls n).length ≤ 60 ∧ 1 ≤ k ∧ k ≤ 6 ∧
  RowIn CR H E rv ls n k fun ss => (lawP (LL ls n).length = none → Bad0 CP H E) ∧ ∀ p, lawP (LL ls n).length = some p → ∀ r H' us, Same H H' → Srt (valsK n k ss) us → DgT p n k ss H' r us → Q r H'
theorem sc_degrees : FnScope ["lock", "inputs", "row", "reached", "base", "turn"] ["lock", "inputs", "row"] (defScope s_degrees) := ⟨rfl, rfl, rfl, by decide +kernel, rfl, by decide +kernel, by decide +kernel⟩
abbrev tSrt (K : PySem.W.Frag) (P : Program) (w : World) (g : Nat) : TE := tCB (rSortedT K P w) (tCons (tCB (rSetFewT K P w) (tCons (tVar g) tNil)) tNil)
theorem has_degrees (T : Top K mg "degrees" s_degrees ["lock", "inputs", "row"]) (B : Bi mg) (X0 : Err0 K mg "NotPrime" CP) (hW : Has P w K mg base (L2.CX P w) 6 "worths" ["lock", "inputs", "row"] (spWorths CN CR)) (hP : Has P w K mg base CX0 7 "prime" ["lock"] spPrime) (hD : Has P w K mg base (L2.CX P w) 5 "degree" ["prime", "table"] (spDeg CN CK))
    (hY : Has P w K mg base CX0 1 "yes_where" ["reached", "turn"] spYes) : Has P w K mg base (L2.CX P w) 8 "degrees" ["lock", "inputs", "row"] (spDegrees CR CP) := by
  refine T.okX sc_degrees (fun vs H Q E h => ?_) (fun f cdv A outer s H vs Q E hr h => ?_)
  · obtain ⟨v, rv, ls, n, k, rfl, _⟩ := h
    rfl
  · obtain ⟨v, rv, ls, n, k, rfl, g, h60, k1, k6, rin⟩ := h
    have hu := hr.units
    have hr6 : Room 6 _ := hr.mono (by decide)
    have hr5 : Room 5 _ := hr.mono (by decide)
    have hr1 : Room 1 _ := hr.mono (by decide)
    refine ⟨_, pss_cons (ps_set (i := 3) sc_degrees.nd rfl (Or.inr rfl) (pe_hasX (E := E) hW hr6 (by rfl) (passes_call (takes_of rfl rfl rfl rfl) (fun _ _ _ _ h => h)) (pa_cons (pv 0) (pa_cons (pv 1) (pa_cons (pv 2) pa_nil)))))
      (pss_cons (ps_set (i := 4) sc_degrees.nd rfl (Or.inr rfl) (pe_has hP hr (by rfl) (pa_cons (pv 0) pa_nil)))
      (pss_cons (ps_if (pt_cmp (pc_isN (pv 4))) (pss_one (ps_raise rfl (takes_of rfl rfl rfl rfl) (pmk_err0 X0 (by rfl)))) pss_nil)
      (pss_one (ps_ret (pe_tupleOf (by rfl) B.tuple (pe_lc (own := [("turn", 5)]) (g := gName 5) (te := tTup (tCons (tVar 5) (tCons (tCall (spDeg CN CK) [] E0 (tCons (tVar 4) (tCons (tCall spYes [] E0 (tCons (tVar 3) (tCons (tVar 5) tNil))) tNil))) tNil))) (by rfl) sc_degrees.nd
        (pi_list (pe_callB (cr_sortedT (by rfl)) (by rfl) B.sorted PyProof.Rows.boot_sorted (pa_cons (pe_callTy (cr_setFewT (by rfl) hu) (by rfl) B.set PyProof.Rows.boot_set (pa_cons (pv 3) pa_nil)) pa_nil)))
        (blkOk_by (own := [("turn", 5)]) (N := ["lock", "inputs", "row", "reached", "base", "turn"]) (sc := defScope s_degrees) (by decide +kernel))
        (fun _ _ _ _ _ => pg_name (i := 5) sc_degrees.nd rfl (Or.inl rfl)) (fun _ _ _ _ _ => pts_nil) (fun _ _ _ _ _ => pe_tup (pa_cons (pv 5) (pa_cons (pe_hasL hD hr5 (by rfl) (pa_cons (pv 4) (pa_cons (pe_has hY hr1 (by rfl) (pa_cons (pv 3) (pa_cons (pv 5) pa_nil))) pa_nil))) pa_nil))))))))), ?_⟩
    refine ⟨_, rfl, _, rfl, _, rfl, v, nI k, rv, ls, n, rfl, g, .inr ⟨k, rfl, k1, k6, rin.imp fun ss hrk ok ⟨q0, q1⟩ r H1 s1 tt => ?_⟩⟩
    refine ⟨_, rfl, v, ls, n, rfl, g.same s1, fun H2 T0 s2 nd0 mem0 => ?_⟩
    have hlen : T0.length = (LL ls n).length := by
      have pm : T0.Perm ((LL ls n).map (·.1)) := (List.perm_ext_iff_of_nodup nd0 (LL_nd ls n)).mpr fun t => (mem0 t).trans (g.mem t).symm
      rw [pm.length_eq, List.length_map]
    rw [hlen, prime_lock g h60]
    have s02 := s1.trans s2
    cases hp : lawP (LL ls n).length with
    | none => exact ⟨_, rfl, true, rfl, iteT (q0 hp H2 s02)⟩
    | some p =>
      refine ⟨_, rfl, false, congrArg V.bl (decide_eq_false (by intro z; cases z)), iteF ?_⟩
      have pp := lawP_in hp
      obtain ⟨ra, rx, rfl, hra, prx⟩ := id (show TTK H2 r (valsK n k ss) from let ⟨a, xs, e, ha, p⟩ := tt; ⟨a, xs, e, s2 _ _ ha, paired_mono (fun _ _ r => TK.tm (.of s2) r) p⟩)
      have hvP : ∀ t ∈ valsK n k ss, Mk ls n t := fun t ht => by
        obtain ⟨i, _, rfl⟩ := List.mem_map.mp ht
        exact valK_mk g.gl.2.2.2.2 ok.ok i
      have n1 := g.gl.2.2.1
      have lrx := Paired.length prx
      rw [valsK_len] at lrx
      have h64 := pow6 k6
      obtain ⟨ks, e1, sq, few, tail⟩ := srt_tail (P := P) (w := w) (K := K) (n := n) prx (fun t ht => g.isP (hvP t ht)) (by omega) g.gl.2.2.2.1 (fun us nd hus => by
        have := nodup_len us ((LL ls n).map (·.1)) nd fun u hu => (g.mem u).mpr (hvP u (hus u hu))
        rw [List.length_map] at this
        omega)
      refine ⟨_, rfl, ra, ks, rfl, SqT.of (by rw [hra, e1]), sq, few, fun a L ha h1 h2 => ?_⟩
      dsimp only [tNil]
      refine tail a L ha h1 h2 _ fun sp H3 us s3 ⟨zs, hsp, pz⟩ sr => ⟨sp, rfl, ⟨zs, SqL.of hsp⟩, fun D hD => ?_⟩
      have us62 : us.length ≤ 62 := by
        have := nodup_len us ((LL ls n).map (·.1)) sr.nd fun u hu => (g.mem u).mpr (hvP u ((sr.mem u).mp hu))
        rw [List.length_map] at this
        omega
      refine lc_listM (K := K) (xs := zs) (DgAt p n k ss) us (fun _ _ _ _ e r => r.tm e) (fun H4 s4 => SqL.of (s4 _ _ hsp)) (by rw [Paired.length pz]; omega) (Paired.length pz).symm hD (fun x => rfl) (fun i x t hx ht H4 s4 Q4 q4 => ?_) (fun H4 ys s4 hy py => ?_)
      · obtain ⟨t', ht', rx⟩ := Paired.getL pz hx
        rw [ht] at ht'
        cases ht'
        have s24 := s3.trans s4
        have rx4 := rx.tm (.of s4)
        have tt4 : TT H4 (.ref ra) (valsK n k ss) := TT.tm (.of s24) ⟨ra, _, rfl, hra, paired_mono (fun _ _ r => r.tn) prx⟩
        refine ⟨_, rfl, _, rfl, _, rfl, _, rfl, .ref ra, x, valsK n k ss, t, rfl, tt4, rx4.tn, by rw [valsK_len]; omega, fun y H5 s5 ty => ?_⟩
        have tk : Tsk p k (yesT (valsK n k ss) t) := yesT_tsk pp k1 k6
        refine ⟨nI p, y, dT (yesT (valsK n k ss) t), rfl, rfl, ty.tn.rp, lenT (by rw [tk.len]; omega), .inl ⟨p, k, _, rfl, ty, rfl, tk, fun H6 s6 => ⟨by show 2 ≤ sizeLine; decide, fun tp htp => ?_⟩⟩⟩
        have s7 := same_new (o := .tup [x, degV (polyL p k (yesT (valsK n k ss) t))]) htp
        exact q4 _ _ (s5.trans (s6.trans s7)) ⟨tp, x, rfl, upd_same, rx4.tm (.of (s5.trans (s6.trans s7)))⟩
      · refine .inl ⟨D, ys, rfl, SqL.of hy, fun tp htp => ?_⟩
        have s5 := same_new (o := .tup ys) htp
        exact q1 p hp _ _ us (s02.trans (s3.trans (s4.trans s5))) sr ⟨tp, ys, rfl, upd_same, paired_mono (fun _ _ r => r.tm (.of s5)) py⟩
end
end Lt

set_option Elab.async false
set_option linter.all false
set_option maxRecDepth 100000
set_option maxHeartbeats 1000000
/-! k06: a drawn row -/
namespace Lt
open PySem PySem.Spec PyProof.Rows L2
theorem pmem {α β : Type} {R : α → β → Prop} : ∀ {xs : List α} {ys : List β} {x : α}, Paired R xs ys → x ∈ xs → ∃ y ∈ ys, R x y
  | _, _, _, .cons r t, h => by
    rcases List.mem_cons.mp h with rfl | h
    · exact ⟨_, List.mem_cons_self, r⟩
    · obtain ⟨y, hy, q⟩ := pmem t h
      exact ⟨y, List.mem_cons_of_mem _ hy, q⟩
section
variable {P : Program} {w : World} {K : PySem.W.Frag} {mg : Str → Option Value} {base : Heap}
def spDrawn (K : PySem.W.Frag) : Sp := fun vs H Q _ => ∃ (r sc wa : Addr) (ns : List Int) (ws : List V) (ts : List (List Nat)) (k most : Nat), vs = [.ref r, .ref wa, nI k, nI most] ∧ RowAt K H r sc ns ∧ H wa = some (.lst ws) ∧ wa ≠ r ∧ Paired (TK H) ws ts ∧ 1 ≤ ts.length ∧ ts.length ≤ 1000 ∧ 1 ≤ k ∧ k ≤ 1000 ∧ most ≤ 100 ∧
  ∀ v H' ss, StepR r H H' → RowAt K H' r sc ns → RwK H' v ss → (∀ s ∈ ss, s.1 < k ∧ s.2.1 ∈ ts ∧ s.2.2 ∈ ts) → ss.length ≤ most → Q v H'
theorem sc_law_drawn_row : FnScope ["row", "whole", "inputs", "most", "found", "turn"] ["row", "whole", "inputs", "most"] (defScope s_law_drawn_row) := ⟨rfl, rfl, rfl, by decide +kernel, rfl, by decide +kernel, by decide +kernel⟩
theorem has_law_drawn_row (T : Top K mg "_law_drawn_row" s_law_drawn_row ["row", "whole", "inputs", "most"]) (B : Bi mg) (hT : Has P w K mg base CX0 1 "_law_taken" ["row", "many"] (spTaken K)) (hP : Has P w K mg base CX0 2 "_law_pick" ["row", "things"] (spPick K)) : Has P w K mg base CX0 3 "_law_drawn_row" ["row", "whole", "inputs", "most"] (spDrawn K) := by
  refine T.ok sc_law_drawn_row (fun vs H Q E h => ?_) (fun f cdv A outer s H vs Q E hr h => ?_)
  · obtain ⟨r, sc, wa, ns, ws, ts, k, most, rfl, _⟩ := h
    rfl
  · obtain ⟨r, sc, wa, ns, ws, ts, k, most, rfl, ra, hw, hwr, pw, t1, t1000, k1, k1000, hm, q⟩ := h
    have hr1 : Room 1 _ := hr.mono (by decide)
    refine ⟨_, pss_cons (ps_set (i := 4) sc_law_drawn_row.nd rfl (Or.inl rfl) (pe_lst pa_nil))
      (pss_cons (ps_for PassesOwn.never rfl (pi_range1 (by rfl) B.range (pa_cons (pe_has hT hr1 (by rfl) (pa_cons (pv 0) (pa_cons (pe_op op_add (pv 3) pe_int) pa_nil))) pa_nil)) (pg_name (i := 5) sc_law_drawn_row.nd rfl (Or.inl rfl))
        (pss_one (ps_expr (pe_bm PySem.F.plainAttrs_list PySem.F.slot_list_append PySem.F.type_list_append mt_append (pv 4) (pa_cons (pe_tup (pa_cons (pe_has hT hr1 (by rfl) (pa_cons (pv 0) (pa_cons (pv 2) pa_nil))) (pa_cons (pe_has hP hr (by rfl) (pa_cons (pv 0) (pa_cons (pv 1) pa_nil))) (pa_cons (pe_has hP hr (by rfl) (pa_cons (pv 0) (pa_cons (pv 1) pa_nil))) pa_nil)))) pa_nil)))))
      (pss_one (ps_ret (pe_tupleOf (by rfl) B.tuple (pv 4))))), ?_⟩
    have lw := Paired.length pw
    refine ⟨Nat.zero_le _, fun lf hlf => ?_⟩
    have s1 := same_new (o := .lst []) hlf
    have hfr : lf ≠ r := (ra.ne hlf).symm
    have ra1 := ra.step s1
    refine ⟨_, rfl, _, rfl, (most : Int), 1, rfl, rfl, r, sc, ns, most + 1, ?_, ra1, by omega, by omega, fun g H2 hg st2 ra2 => ⟨(g : Int), rfl, by omega, by omega, ?_⟩⟩
    · show [V.ref r, V.int ((most : Int) + 1)] = [V.ref r, nI (most + 1)]
      have : (most : Int) + 1 = ((most + 1 : Nat) : Int) := by omega
      rw [this]
      rfl
    have kf2 := st2 _ _ hfr (upd_same (H := H) (a := lf) (o := HO.lst []))
    refine for_range (lo := 0) (n := (g : Int).toNat) (fun i σ H' => ∃ y5 zs ss, σ = [some (.ref r), some (.ref wa), some (nI k), some (nI most), some (.ref lf), y5] ∧ StepR r H H' ∧ RowAt K H' r sc ns ∧ H' lf = some (.lst zs) ∧ Paired (StK H') zs ss ∧ (∀ s ∈ ss, s.1 < k ∧ s.2.1 ∈ ts ∧ s.2.2 ∈ ts) ∧ ss.length = i)
      ⟨none, [], [], rfl, (StepR.of s1).trans st2, ra2, kf2, .nil, (fun s h => by cases h), rfl⟩ ?_ ?_
    · rintro i σ H' hi ⟨y5, zs, ss, rfl, st, ra', hz, pz, ok, hl⟩
      have lz := Paired.length pz
      have W : ∀ {H1}, StepR r H H1 → RowAt K H1 r sc ns → H1 wa = some (.lst ws) := fun sx _ => sx _ _ hwr hw
      refine ⟨_, rfl, .inl ⟨rfl, zs, SqL.of hz⟩, _, rfl, _, rfl, r, sc, ns, k, rfl, ra', k1, k1000, fun o H3 ho st3 ra3 => ?_⟩
      have st03 := st.trans st3
      refine ⟨_, rfl, _, rfl, r, wa, sc, ns, ws, rfl, ra3, W st03 ra3, hwr, by omega, by omega, fun x H4 hx st4 ra4 => ?_⟩
      have st04 := st03.trans st4
      refine ⟨_, rfl, _, rfl, r, wa, sc, ns, ws, rfl, ra4, W st04 ra4, hwr, by omega, by omega, fun y H5 hy st5 ra5 => ?_⟩
      have st05 := st04.trans st5
      refine ⟨by show 3 ≤ sizeLine; decide, fun p hp => ?_⟩
      have s6 := same_new (o := .tup [nI o, x, y]) hp
      obtain ⟨tx, htx, rx⟩ := pmem pw hx
      obtain ⟨ty, hty, ry⟩ := pmem pw hy
      have tm06 := (st05.tm ra).trans (Tm.of s6)
      have st35 := st3.trans (st4.trans st5)
      have tm36 := (st35.tm ra').trans (Tm.of s6)
      have hz6 := s6 _ _ (st35 _ _ hfr hz)
      have ra6 := ra5.step s6
      refine ⟨lf, zs, .ref p, rfl, rfl, hz6, by rw [sizeLine_eq]; omega, _, zs ++ [.ref p], ss ++ [(o, tx, ty)], rfl, (st05.trans (.of s6)).mut hlf, RowAt.mut ra hlf ra6, upd_same, ?_, fun s hs => ?_, by rw [List.length_append, hl]; rfl⟩
      · have tmL : Tm (upd H5 p (.tup [nI o, x, y])) (upd (upd H5 p (.tup [nI o, x, y])) lf (.lst (zs ++ [.ref p]))) := Tm.lst hz6
        refine Paired.app (paired_mono (fun _ _ r => StK.tm (tm36.trans tmL) r) pz) (Paired.one ?_)
        exact StK.tm tmL ⟨p, x, y, rfl, upd_same, rx.tm tm06, ry.tm tm06⟩
      · rcases List.mem_append.mp hs with h | h
        · exact ok s h
        · rw [List.mem_singleton.mp h]
          exact ⟨ho, htx, hty⟩
    · rintro σ H' ⟨y5, zs, ss, rfl, st, ra', hz, pz, ok, hl⟩
      refine ⟨_, rfl, .inl ⟨lf, zs, rfl, SqL.of hz, fun p hp => ?_⟩⟩
      have s6 := same_new (o := .tup zs) hp
      exact q (.ref p) _ ss (st.trans (.of s6)) (ra'.step s6) ⟨p, zs, rfl, upd_same, paired_mono (fun _ _ r => StK.tm (.of s6) r) pz⟩ ok (by omega)
end
end Lt

set_option Elab.async false
set_option linter.all false
set_option maxRecDepth 100000
set_option maxHeartbeats 2000000
/-! table_of without a text -/
namespace Lt
open PySem PySem.Spec PyProof.Rows L2
section
variable {P : Program} {w : World} {K : PySem.W.Frag} {mg : Str → Option Value} {base : Heap} {CB CS : Addr}
def spFTS (CS : Addr) : Sp := fun vs H Q E => ∃ (m : Nat) (v : V) (d : PyData), vs = [nI m, v] ∧ 1 ≤ m ∧ m ≤ 6 ∧ Rp H v d ∧ isStr d = false ∧ Bad0 CS H E
end
end Lt

set_option Elab.async false
set_option linter.all false
set_option maxRecDepth 100000
set_option maxHeartbeats 2000000
/-! k06: the law's lambdas -/
namespace Lt
open PySem PySem.Spec PyProof.Rows L2 NdefX LamX LmX MaX
abbrev lawN : List Str := ["script", "row", "whole", "due", "one", "table", "drawn", "sizes", "told", "rows", "parts", "e", "words", "step_odds", "works", "work", "at", "inputs", "lock", "places", "step", "steps", "turn", "bits", "other"]
theorem sc_law : FnScope lawN ["script"] (defScope s_law) := ⟨rfl, rfl, rfl, by decide +kernel, rfl, by decide +kernel, by decide +kernel⟩
abbrev LX (P : Program) (w : World) (K : PySem.W.Frag) (mg : Str → Option Value) (base : Heap) (f : Addr) (cd : Value) (A : Around) (outer : List Env) (s : Shared) (H : Hp) (E : XK) : Cx := cxOf CX0 P w K mg base lawN "law" (defScope s_law) f cd A outer s H E
def lawS (i : Nat) : Stmt := (defBody s_law).getD i (.Pass ⟨0, 0, 0, 0⟩)
def lm0 : Expr := itemX 0 (valX (lawS 18))
def lm1 : Expr := itemX 1 (valX (lawS 18))
def lm2 : Expr := argX 0 (valX (lawS 19))
def lm3 : Expr := itemX 0 (rightX (valX (lawS 20)))
theorem nsc0 : NScope ["at", "inputs", "lock", "step", "steps"] [] ["at", "inputs", "lock", "step", "steps"] (lamS lm0) := nscope_by (by decide +kernel)
theorem nsc1 : NScope ["a", "lock", "steps"] ["a"] ["lock", "steps"] (lamS lm1) := nscope_by (by decide +kernel)
theorem nsc2 : NScope ["b", "inputs", "lock", "places", "steps"] ["b"] ["inputs", "lock", "places", "steps"] (lamS lm2) := nscope_by (by decide +kernel)
theorem nsc3 : NScope ["c", "lock", "steps", "turn"] ["c"] ["lock", "steps", "turn"] (lamS lm3) := nscope_by (by decide +kernel)
theorem lb0 : ndefB (defScope s_law) (lamS lm0) ["at", "inputs", "lock", "step", "steps"] = true := by decide +kernel
theorem lb1 : ndefB (defScope s_law) (lamS lm1) ["lock", "steps"] = true := by decide +kernel
theorem lb2 : ndefB (defScope s_law) (lamS lm2) ["inputs", "lock", "places", "steps"] = true := by decide +kernel
theorem lb3 : ndefB (defScope s_law) (lamS lm3) ["lock", "steps", "turn"] = true := by decide +kernel
section
variable {P : Program} {w : World} {K : PySem.W.Frag} {mg : Str → Option Value} {base : Heap} {CR CN CT CK CP c Pt : Addr}
abbrev LmA (cells : List (Str × Addr)) (lm : Expr) (dV : Value) (c' f : Addr) : HO := LmO f (lmF q_lam (lamP lm) (lamS lm) cells c') (lamB lm) dV
/-- what the law calls of the program -/
structure Has6 (P : Program) (w : World) (K : PySem.W.Frag) (mg : Str → Option Value) (base : Heap) (CR CN CT CK CP : Addr) : Prop where
  worths : Has P w K mg base (L2.CX P w) 6 "worths" ["lock", "inputs", "row"] (spWorths CN CR)
  written : Has P w K mg base (L2.CX P w) 6 "written" ["lock", "inputs", "row", "turn"] (spWritten CN CR CT)
  writes : Has P w K mg base (L2.CX P w) 6 "writes" ["lock", "table", "row", "turn"] (spWrites CR CT CK)
  degrees : Has P w K mg base (L2.CX P w) 8 "degrees" ["lock", "inputs", "row"] (spDegrees CR CP)
abbrev tCat3 (K : PySem.W.Frag) : TE := tOp (rCatA K) (tOp (rCatA K) (L2.tSl (rSlA K) (tVar 4) tNoPart (tPart (tVar 0))) (tTup (tCons (tVar 3) tNil))) (L2.tSl (rSlA K) (tVar 4) (tPart (tVar 0)) tNoPart)
/-- what work() asks: the name holds one of the four -/
def RW6 (K : PySem.W.Frag) (CR CN CT CK : Addr) (cells : List (Str × Addr)) (W : WX) (f : Addr) : TE := fun σ H Q =>
  (∃ c', H f = some (LmA cells lm0 .none c' f) ∧ H c' = some (CodeO c' q_lam) ∧
    (tCall (spWorths CN CR) [] (WE W σ) (tCons (tVar 2) (tCons (tVar 1) (tCons (tCat3 K) tNil)))) (startF ["at", "inputs", "lock", "step", "steps"] [] ([16, 17, 18, 20, 21].map (slotAt σ))) H Q) ∨
  (∃ c' p, H f = some (LmA cells lm1 (.ref p) c' f) ∧ H p = some (.tup [V.int 0]) ∧ H c' = some (CodeO c' q_lam) ∧
    (tCall (spWorths CN CR) [] (WE W σ) (tCons (tVar 1) (tCons (tC (.int 7)) (tCons (tVar 2) tNil)))) (startF ["a", "lock", "steps"] [V.int 0] ([18, 21].map (slotAt σ))) H Q) ∨
  (∃ c' p, H f = some (LmA cells lm2 (.ref p) c' f) ∧ H p = some (.tup [V.int 0]) ∧ H c' = some (CodeO c' q_lam) ∧
    (tCall (spWritten CN CR CT) [] (WE W σ) (tCons (tVar 2) (tCons (tVar 1) (tCons (tVar 4) (tCons (tOp (rRepA K) (tTup (tCons (tC (.int 0)) tNil)) (tVar 3)) tNil))))) (startF ["b", "inputs", "lock", "places", "steps"] [V.int 0] ([17, 18, 19, 21].map (slotAt σ))) H Q) ∨
  (∃ c' p, H f = some (LmA cells lm3 (.ref p) c' f) ∧ H p = some (.tup [V.int 0]) ∧ H c' = some (CodeO c' q_lam) ∧
    (tCall (spWrites CR CT CK) [] (WE W σ) (tCons (tVar 1) (tCons (tTup (tCons (tC (.int 0)) (tCons (tC (.int 1)) (tCons (tC (.int 1)) tNil)))) (tCons (tVar 2) (tCons (tVar 3) tNil))))) (startF ["c", "lock", "steps", "turn"] [V.int 0] ([18, 21, 22].map (slotAt σ))) H Q)
theorem r_run {f0 : Addr} {cd : Value} {A : Around} {outer : List Env} {s0 : Shared} {H0 : Hp} {E0' : XK} {W : WX} {pn : List (Addr × Obj)} {xe : Value → Shared → Prop}
    (hr : Room 10 (LX P w K mg base f0 cd A outer s0 H0 E0').A) (L : Has6 P w K mg base CR CN CT CK CP)
    (tk : Takes ((LX P w K mg base f0 cd A outer s0 H0 E0').tr pn xe) W) (f : Addr) (pins : List (Addr × Obj)) (s : Shared) (σ : L2.St) (H : Hp) (Q : VK) (I : Inv ((LX P w K mg base f0 cd A outer s0 H0 E0').tr pn xe) pins σ H s)
    (h : RW6 K CR CN CT CK (LX P w K mg base f0 cd A outer s0 H0 E0').env.cells W f σ H Q) : PySem.W.FnAt f s.heap ∧ wpAny (model P w) (LX P w K mg base f0 cd A outer s0 H0 E0').A (call (.ref f) []) (EP ((LX P w K mg base f0 cd A outer s0 H0 E0').tr pn xe) pins σ Q) xe s := by
  rcases h with ⟨c', h1, h2, h3⟩ | ⟨c', p, h1, h2, h3, h4⟩ | ⟨c', p, h1, h2, h3, h4⟩ | ⟨c', p, h1, h2, h3, h4⟩
  · exact lm_run (k := 9) (us := []) (js := [16, 17, 18, 20, 21]) I nsc0 h1 h2 (fun _ _ _ => .of_eq rfl) .nil rfl (Caps.made I.ok (ndef_free lb0) (ndef_fr lb0) rfl) hr (passAt tk σ)
      (fun hr2 => pe_hasX (E := WE W σ) L.worths (hr2.mono (by decide)) (by rfl) (passes_call (takes_of rfl rfl rfl rfl) (fun _ _ _ _ h => h)) (pa_cons (pv 2) (pa_cons (pv 1) (pa_cons (pe_op op_catA (pe_op op_catA (pe_slice sl_tupA (pv 4) po_none (po_some (pv 0))) (pe_tup (pa_cons (pv 3) pa_nil))) (pe_slice sl_tupA (pv 4) (po_some (pv 0)) po_none)) pa_nil)))) h3
  · obtain ⟨u, o, n, r, ho, hd⟩ := dflt_of I h2
    exact lm_run (k := 9) (us := [u]) (js := [18, 21]) I nsc1 h1 h3 (fun _ _ _ => .of_defaults rfl ho hd rfl rfl) (.cons r .nil) rfl (Caps.made I.ok (ndef_free lb1) (ndef_fr lb1) rfl) hr (passAt tk σ)
      (fun hr2 => pe_hasX (E := WE W σ) L.worths (hr2.mono (by decide)) (by rfl) (passes_call (takes_of rfl rfl rfl rfl) (fun _ _ _ _ h => h)) (pa_cons (pv 1) (pa_cons pe_int (pa_cons (pv 2) pa_nil)))) h4
  · obtain ⟨u, o, n, r, ho, hd⟩ := dflt_of I h2
    exact lm_run (k := 9) (us := [u]) (js := [17, 18, 19, 21]) I nsc2 h1 h3 (fun _ _ _ => .of_defaults rfl ho hd rfl rfl) (.cons r .nil) rfl (Caps.made I.ok (ndef_free lb2) (ndef_fr lb2) rfl) hr (passAt tk σ)
      (fun hr2 => pe_hasX (E := WE W σ) L.written (hr2.mono (by decide)) (by rfl) (passes_call (takes_of rfl rfl rfl rfl) (fun _ _ _ _ h => h)) (pa_cons (pv 2) (pa_cons (pv 1) (pa_cons (pv 4) (pa_cons (pe_op op_repA (pe_tup (pa_cons pe_int pa_nil)) (pv 3)) pa_nil))))) h4
  · obtain ⟨u, o, n, r, ho, hd⟩ := dflt_of I h2
    exact lm_run (k := 9) (us := [u]) (js := [18, 21, 22]) I nsc3 h1 h3 (fun _ _ _ => .of_defaults rfl ho hd rfl rfl) (.cons r .nil) rfl (Caps.made I.ok (ndef_free lb3) (ndef_fr lb3) rfl) hr (passAt tk σ)
      (fun hr2 => pe_hasX (E := WE W σ) L.writes (hr2.mono (by decide)) (by rfl) (passes_call (takes_of rfl rfl rfl rfl) (fun _ _ _ _ h => h)) (pa_cons (pv 1) (pa_cons (pe_tup (pa_cons pe_int (pa_cons pe_int (pa_cons pe_int pa_nil)))) (pa_cons (pv 2) (pa_cons (pv 3) pa_nil))))) h4
end
end Lt

set_option Elab.async false
set_option linter.all false
set_option maxRecDepth 100000
set_option maxHeartbeats 2000000
/-! (0,) * k, read -/
namespace Lt
open PySem PySem.Spec PyProof.Rows L2
theorem rep_read {K : PySem.W.Frag} {l : Addr} {k : Nat} {H2 : Hp} {Q : VK} (hl : H2 l = none) (h1 : 1 ≤ k) (h2 : k ≤ 1000) (q : ∀ a' H3, Same H2 H3 → H3 a' = some (.tup (nIs (List.replicate k 0))) → Q (.ref a') H3) : rRepA K (.ref l) (.int (k : Int)) (upd H2 l (.tup [V.int 0])) Q := by
  have s0 := same_new (o := .tup [V.int 0]) hl
  refine ⟨l, (k : Int), [V.int 0], rfl, rfl, SqT.of upd_same, (fun z => (by cases z)), (by omega), (by omega), (by show 1 ≤ 1000; decide), fun z => q l _ s0 ?_, fun z p hp => q p _ (s0.trans (same_new hp)) ?_⟩
  · have : k = 1 := by omega
    rw [this]
    exact upd_same
  · rw [upd_same, Int.toNat_natCast, rep_flat]
theorem pend {α β : Type} {R : α → β → Prop} : ∀ {xs : List α} {bs : List β} {b : β}, Paired R xs (bs ++ [b]) → ∃ pre x, xs = pre ++ [x] ∧ R x b
  | _, [], b, h => by
    cases h with
    | @cons x _ xs _ r t =>
      cases t
      exact ⟨[], x, rfl, r⟩
  | _, c :: bs, b, h => by
    cases h with
    | @cons x _ xs _ r t =>
      obtain ⟨pre, y, e, q⟩ := pend t
      exact ⟨x :: pre, y, by rw [e]; rfl, q⟩
theorem lapp : ∀ (l : List Nat), l ≠ [] → ∃ pre t, l = pre ++ [t]
  | [], h => absurd rfl h
  | a :: l, _ => by
    cases l with
    | nil => exact ⟨[], a, rfl⟩
    | cons b l =>
      obtain ⟨pre, t, e⟩ := lapp (b :: l) (by simp)
      exact ⟨a :: pre, t, by rw [e]; rfl⟩
theorem at_end (xs : List V) (x : V) : atI (xs ++ [x]) (-1) = some x := by
  have e : ixN (xs ++ [x]).length (-1) = some xs.length := by
    unfold ixN
    rw [if_neg (by decide), List.length_append, if_pos (by show -((xs.length + 1 : Nat) : Int) ≤ -1; omega)]
    congr 1
    show (-1 + ((xs.length + 1 : Nat) : Int)).toNat = _
    omega
  unfold atI
  rw [e]
  show (xs ++ [x])[xs.length]? = some x
  simp
end Lt

set_option Elab.async false
set_option linter.all false
set_option maxRecDepth 100000
set_option maxHeartbeats 2000000
/-! k06: the loop over the lambdas -/
namespace Lt
open PySem PySem.Spec PyProof.Rows L2 NdefX LamX LmX MaX
theorem cutV_take (xs : List V) {i : Nat} (h : i ≤ xs.length) : cutV xs none (some (i : Int)) = xs.take i := by
  unfold cutV
  rw [HT.sIx_none, HT.sIx_nat, Nat.min_eq_left h, List.drop_zero, Nat.sub_zero]
theorem cutV_drop (xs : List V) {i : Nat} (h : i ≤ xs.length) : cutV xs (some (i : Int)) none = xs.drop i := by
  unfold cutV
  rw [HT.sIx_none, HT.sIx_nat, Nat.min_eq_left h]
  exact List.take_of_length_le (by rw [List.length_drop]; omega)
theorem sl_take {K : PySem.W.Frag} {a : Addr} {xs : List V} {i : Nat} {H : Hp} {Q : VK} (ha : H a = some (.tup xs)) (hi : i ≤ xs.length) (q : ∀ p H', Same H H' → H' p = some (.tup (xs.take i)) → Q (.ref p) H') : rSlA K (.ref a) none (some (i : Int)) H Q := by
  refine ⟨a, xs, rfl, SqT.of ha, fun ⟨_, h⟩ => ?_, fun _ p hp => ?_⟩
  · rw [HT.sIx_nat, Nat.min_eq_left hi] at h
    exact q a H (Same.refl _) (by rw [h, List.take_length]; exact ha)
  · exact q p _ (same_new hp) (by rw [upd_same, cutV_take xs hi])
theorem sl_drop {K : PySem.W.Frag} {a : Addr} {xs : List V} {i : Nat} {H : Hp} {Q : VK} (ha : H a = some (.tup xs)) (hi : i ≤ xs.length) (q : ∀ p H', Same H H' → H' p = some (.tup (xs.drop i)) → Q (.ref p) H') : rSlA K (.ref a) (some (i : Int)) none H Q := by
  refine ⟨a, xs, rfl, SqT.of ha, fun ⟨h, _⟩ => ?_, fun _ p hp => ?_⟩
  · rw [HT.sIx_nat, Nat.min_eq_left hi] at h
    exact q a H (Same.refl _) (by rw [h, List.drop_zero]; exact ha)
  · exact q p _ (same_new hp) (by rw [upd_same, cutV_drop xs hi])
theorem catA_read {K : PySem.W.Frag} {a b : Addr} {xs ys : List V} {H : Hp} {Q : VK} (ha : H a = some (.tup xs)) (hb : H b = some (.tup ys)) (hl : xs.length + ys.length ≤ 1000) (q : ∀ p H', Same H H' → H' p = some (.tup (xs ++ ys)) → Q (.ref p) H') : rCatA K (.ref a) (.ref b) H Q := by
  refine ⟨a, b, xs, ys, rfl, rfl, SqT.of ha, SqT.of hb, by rw [sizeLine_eq]; omega, fun e => q b H (Same.refl _) (by rw [e]; exact hb), fun _ e => q a H (Same.refl _) (by rw [e, List.append_nil]; exact ha), fun _ _ p hp => q p _ (same_new hp) upd_same⟩
theorem cat3_read {K : PySem.W.Frag} {σ : L2.St} {a : Addr} {xs : List V} {i : Nat} {v : V} {H : Hp} {Q : VK} (h0 : σ[0]? = some (some (nI i))) (h3 : σ[3]? = some (some v)) (h4 : σ[4]? = some (some (.ref a))) (ha : H a = some (.tup xs)) (hi : i ≤ xs.length) (hl : xs.length ≤ 900)
    (q : ∀ p H', Same H H' → H' p = some (.tup (xs.take i ++ [v] ++ xs.drop i)) → Q (.ref p) H') : tCat3 K σ H Q := by
  refine ⟨_, h4, _, h0, (i : Int), rfl, sl_take ha hi fun p1 H1 s1 k1 => ⟨_, h3, by show 1 ≤ sizeLine; decide, fun p2 hp2 => ?_⟩⟩
  have s2 := same_new (o := .tup [v]) hp2
  refine catA_read (s2 _ _ k1) upd_same (by rw [List.length_take]; show min i xs.length + 1 ≤ 1000; omega) fun p3 H3 s3 k3 => ⟨_, h4, _, h0, (i : Int), rfl, ?_⟩
  have s13 := s1.trans (s2.trans s3)
  refine sl_drop (Q := fun y H4 => rCatA K (.ref p3) y H4 Q) (s13 _ _ ha) hi fun p4 H4 s4 k4 => catA_read (s4 _ _ k3) k4 (by rw [List.length_append, List.length_take, List.length_drop]; show min i xs.length + 1 + _ ≤ 1000; omega) fun p5 H5 s5 k5 => q p5 H5 (s13.trans (s4.trans s5)) k5
theorem RpAll.app {H : Hp} : ∀ {xs : List V} {ds : List PyData} {ys : List V} {es : List PyData}, RpAll H xs ds → RpAll H ys es → RpAll H (xs ++ ys) (ds ++ es)
  | _, _, _, _, .nil, h => h
  | _, _, _, _, .cons r t, h => .cons r (RpAll.app t h)
/-- a part of a step that is none -/
def AtD (H : Hp) (x : V) (e : PyData) : Prop := (∃ i, x = .int i ∧ e = .int i) ∨ (∃ b, x = .bl b ∧ e = .bool b) ∨ ∃ t, TN H x t ∧ e = dT t ∧ t.length ≤ 1000
theorem AtD.tm {H H' : Hp} {x : V} {e : PyData} (s : Tm H H') (h : AtD H x e) : AtD H' x e := by
  rcases h with h | h | ⟨t, h, e, l⟩
  · exact .inl h
  · exact .inr (.inl h)
  · exact .inr (.inr ⟨t, h.tm s, e, l⟩)
theorem AtD.rp {H : Hp} {x : V} {e : PyData} (h : AtD H x e) : Rp H x e := by
  rcases h with ⟨i, rfl, rfl⟩ | ⟨b, rfl, rfl⟩ | ⟨t, h, rfl, _⟩
  · exact .int _
  · exact .bl _
  · exact h.rp
theorem AtDs.rp {H : Hp} : ∀ {xs : List V} {es : List PyData}, Paired (AtD H) xs es → RpAll H xs es
  | _, _, .nil => .nil
  | _, _, .cons r t => .cons r.rp (AtDs.rp t)
/-- a wrong step -/
def StB (H : Hp) (r wl : Addr) (v : V) (d : PyData) : Prop := (v = .non ∧ d = .none) ∨ (∃ a xs ds, v = .ref a ∧ H a = some (.tup xs) ∧ d = .tuple ds ∧ Paired (AtD H) xs ds ∧ ds.length ≤ 1000) ∨
  ∃ a x l t, v = .ref a ∧ H a = some (.tup [nI 0, x, .ref l]) ∧ TN H x t ∧ t.length ≤ 1000 ∧ H l = some (.lst (nIs t)) ∧ l ≠ r ∧ l ≠ wl ∧ d = .tuple [.int 0, dT t, .list (t.map dN)]
theorem StB.rp {H : Hp} {r wl : Addr} {v : V} {d : PyData} (h : StB H r wl v d) : Rp H v d := by
  rcases h with ⟨rfl, rfl⟩ | ⟨a, xs, ds, rfl, ha, rfl, hx, _⟩ | ⟨a, x, l, t, rfl, ha, hx, _, hl, _, _, rfl⟩
  · exact .non
  · exact .tup (.inl ha) (AtDs.rp hx)
  · exact .tup (.inl ha) (.cons (.int _) (.cons hx.rp (.cons (.lst hl (rp_nats t)) .nil)))
theorem StB.sml {H : Hp} {r wl : Addr} {v : V} {d : PyData} (h : StB H r wl v d) : Sml3 d := by
  rcases h with ⟨rfl, rfl⟩ | ⟨a, xs, ds, rfl, ha, rfl, hx, hl⟩ | ⟨a, x, l, t, rfl, ha, hx, h1000, hl, _, _, rfl⟩
  · intro ds e; cases e
  · intro ds' e
    injection e with e
    subst e
    refine ⟨hl, fun e he es ee => ?_⟩
    obtain ⟨i, hi, ei⟩ := List.getElem_of_mem he
    obtain ⟨x, _, hx⟩ := Paired.getR hx (show ds[i]? = some e by rw [List.getElem?_eq_getElem hi, ei])
    rcases hx with ⟨j, _, rfl⟩ | ⟨b, _, rfl⟩ | ⟨t, _, rfl, ht⟩
    · cases ee
    · cases ee
    · exact lenT ht _ ee
  · intro ds' e
    injection e with e
    subst e
    refine ⟨by show 3 ≤ 1000; decide, fun e he es ee => ?_⟩
    simp only [List.mem_cons, List.not_mem_nil, or_false] at he
    rcases he with rfl | rfl | rfl
    · cases ee
    · exact lenT h1000 _ ee
    · cases ee
theorem StB.kp {H H' : Hp} {r wl : Addr} {v : V} {d : PyData} {xs ys : List V} (h : StB H r wl v d) (s : Kp2 wl r H H') (h1 : H wl = some (.lst xs)) (h2 : H r = some (.lst ys)) : StB H' r wl v d := by
  have tm := s.tm h1 h2
  rcases h with h | ⟨a, xs, ds, rfl, ha, e, hx, hl⟩ | ⟨a, x, l, t, rfl, ha, hx, h1000, hl, n1, n2, e⟩
  · exact .inl h
  · exact .inr (.inl ⟨a, xs, ds, rfl, tm.1 _ _ ha, e, paired_mono (fun _ _ r => r.tm tm) hx, hl⟩)
  · exact .inr (.inr ⟨a, x, l, t, rfl, tm.1 _ _ ha, hx.tm tm, h1000, s _ _ n2 n1 hl, n1, n2, e⟩)
theorem StB.ext {H H' : Hp} {r wl : Addr} {v : V} {d : PyData} (h : StB H r wl v d) (s : ExtN H H') : StB H' r wl v d := by
  have tm := extN_tm s
  rcases h with h | ⟨a, xs, ds, rfl, ha, e, hx, hl⟩ | ⟨a, x, l, t, rfl, ha, hx, h1000, hl, n1, n2, e⟩
  · exact .inl h
  · exact .inr (.inl ⟨a, xs, ds, rfl, tm.1 _ _ ha, e, paired_mono (fun _ _ r => r.tm tm) hx, hl⟩)
  · exact .inr (.inr ⟨a, x, l, t, rfl, tm.1 _ _ ha, hx.tm tm, h1000, s _ _ hl (fun _ z => nomatch z), n1, n2, e⟩)
section
variable {P : Program} {w : World} {K : PySem.W.Frag} {mg : Str → Option Value} {base : Heap} {CR CN CT CK CP c Pt : Addr}
/-- the words of a loop -/
def wds (i : Nat) : List V := [nI i, .str "number", .str "turn", .str "task"]
def LmAt (H : Hp) (cells : List (Str × Addr)) (lm : Expr) (f : Addr) : Prop := ∃ c' p, H f = some (LmA cells lm (.ref p) c' f) ∧ H p = some (.tup [V.int 0]) ∧ H c' = some (CodeO c' q_lam)
def LmAt0 (H : Hp) (cells : List (Str × Addr)) (lm : Expr) (f : Addr) : Prop := ∃ c', H f = some (LmA cells lm .none c' f) ∧ H c' = some (CodeO c' q_lam)
def tsW (K : PySem.W.Frag) (z : V) (_ : Addr) (_ : Value) (_ : Option Addr) : TS := tDrop (tBM K "list" rAppend (tVar 12) (tCons (tC z) tNil))
def tsP (K : PySem.W.Frag) (CR : Addr) (a : Addr) (cls : Value) (d : Option Addr) : TS := tDrop (tBM K "list" rAppend (tVar 12) (tCons (tXf a cls d CR "place" (tVar 11)) tNil))
def cls4 (K : PySem.W.Frag) (CR CN CT CK : Addr) : List Cl := [(.ref CR, tsP K CR), (.ref CN, tsW K (.str "number")), (.ref CT, tsW K (.str "turn")), (.ref CK, tsW K (.str "task"))]
def tTry (K : PySem.W.Frag) (CR CN CT CK : Addr) (cells : List (Str × Addr)) : TS := fun D σ H => tDrop (fun σ H Q => ∃ f, σ[15]? = some (some (.ref f)) ∧ RW6 K CR CN CT CK cells (wMA K 11 (fun _ _ _ _ => False) D (cls4 K CR CN CT CK)) f σ H Q) D σ H
structure Ex4 (P : Program) (w : World) (K : PySem.W.Frag) (mg : Str → Option Value) (base : Heap) (CR CN CT CK : Addr) : Prop where
  eR : ErrI P w K mg base "BadRow" "place" CR
  gN : mg "BadNumber" = some (.ref CN)
  gT : mg "BadTurn" = some (.ref CT)
  gK : mg "BadTask" = some (.ref CK)
  rr : PySem.W.exmOne K (.ref CR) (.ref CR) = some true
  nn : PySem.W.exmOne K (.ref CN) (.ref CN) = some true
  tt : PySem.W.exmOne K (.ref CT) (.ref CT) = some true
  kk : PySem.W.exmOne K (.ref CK) (.ref CK) = some true
  nr : PySem.W.exmOne K (.ref CN) (.ref CR) = some false
  tr : PySem.W.exmOne K (.ref CT) (.ref CR) = some false
  tn : PySem.W.exmOne K (.ref CT) (.ref CN) = some false
  kr : PySem.W.exmOne K (.ref CK) (.ref CR) = some false
  kn : PySem.W.exmOne K (.ref CK) (.ref CN) = some false
  kt : PySem.W.exmOne K (.ref CK) (.ref CT) = some false
/-- what the loop over the lambdas needs -/
structure TryAt (K : PySem.W.Frag) (H : Hp) (r sc wl : Addr) (ns : List Int) (n k : Nat) (ls : List (List Nat)) (ss : List StepT) (i : Nat) (lv sv tv v : V) (t : List Nat) (d : PyData) : Prop where
  row : RowAt K H r sc ns
  good : Good H lv ls n
  k1 : 1 ≤ k
  k4 : k ≤ 4
  rw_ : RwK H sv ss
  ok : RowOk ls n k ss
  s8 : ss.length ≤ 8
  i8 : i ≤ ss.length
  tk : TK H tv t
  mt : Mk ls n t
  st : StB H r wl v d
  bad : stepD (LL ls n) k d = false
theorem cl_wds (i : Nat) : PyData.canLayAll0 [dN i, .str "number", .str "turn", .str "task"] = true := by
  show (true && PyData.canLayAll0 [.str "number", .str "turn", .str "task"]) = true
  decide +kernel
theorem sh_wds (i : Nat) : SeqAt.shaped (.list [dN i, .str "number", .str "turn", .str "task"]) = true := by
  have h1 : PyData.depthAll [dN i, .str "number", .str "turn", .str "task"] = 0 := rfl
  have h2 := cl_wds i
  show (PyData.canLayAll0 [dN i, .str "number", .str "turn", .str "task"] && decide (PyData.depthAll [dN i, .str "number", .str "turn", .str "task"] + 1 ≤ 64)) = true
  rw [h1, h2]
  rfl
theorem no7 : outD (.int 7) := .inr ⟨7, rfl, by omega⟩
theorem noT3 : isTask (dT [0, 1, 1]) = false := by decide +kernel
theorem RowIn.bad {H : Hp} {E : XK} {v : V} {ls : List (List Nat)} {n k i : Nat} {ss : List StepT} {d : PyData} {q : List StepT → Prop} {p : Addr} {xs : List V} {lv : V} (g : Good H lv ls n) (hp : H p = some (.tup (xs.take i ++ [v] ++ xs.drop i))) (hx : Paired (StK H) xs ss) (ok : RowOk ls n k ss) (s8 : ss.length ≤ 8) (i8 : i ≤ ss.length)
    (hv : Rp H v d) (sm : Sml3 d) (bd : stepD (LL ls n) k d = false) (bad : BadF CR "place" (nI i) H E) : RowIn CR H E (.ref p) ls n k q := by
  refine .inr ⟨(ss.take i).map dS, d, (ss.drop i).map dS, .tup (.inl hp) ?_, ?_, fun x hx => ?_, fun x hx => ok.step g x ?_, bd, ?_⟩
  · rw [List.append_assoc]
    exact RpAll.app (StKs.rp (Paired.tk i hx)) (.cons hv (StKs.rp (Paired.dr i hx)))
  · rw [List.length_append, List.length_cons, List.length_map, List.length_map, List.length_take, List.length_drop]
    omega
  · rcases List.mem_append.mp hx with h | h
    · obtain ⟨s, hs, rfl⟩ := List.mem_map.mp h
      exact ok.sml g _ (List.mem_map.mpr ⟨s, List.mem_of_mem_take hs, rfl⟩)
    · rcases List.mem_cons.mp h with rfl | h
      · exact sm
      · obtain ⟨s, hs, rfl⟩ := List.mem_map.mp h
        exact ok.sml g _ (List.mem_map.mpr ⟨s, List.mem_of_mem_drop hs, rfl⟩)
  · obtain ⟨s, hs, rfl⟩ := List.mem_map.mp hx
    exact List.mem_map.mpr ⟨s, List.mem_of_mem_take hs, rfl⟩
  · rw [List.length_map, List.length_take, Nat.min_eq_left i8]
    exact bad
theorem law_try {TS : List (Addr × Str)} {f0 : Addr} {A : Around} {outer : List Env} {s0 : Shared} {H0 : Hp} {E0' : XK} (hr : Room 10 (LX P w K mg base f0 (.ref c) A outer s0 H0 E0').A) (TB : TabB base mg c Pt) (hm : (Pt, q_lam) ∈ TS) (hone : ∀ p ∈ TS, p.1 = Pt → p.2 = q_lam)
    (L : Has6 P w K mg base CR CN CT CK CP) (X3 : Ex4 P w K mg base CR CN CT CK) :
    ∃ t, PSs (LX P w K mg base f0 (.ref c) A outer s0 H0 E0') ((defBody s_law).drop 20) t ∧ ∀ (D : Ends) (H : Hp) (x0 x1 x2 x3 x4 x5 x6 x7 x8 x9 x10 x11 x13 x15 x23 x24 : Option V) (r sc wl fl fa fb fd : Addr) (ns : List Int) (n k : Nat) (ls : List (List Nat)) (ss : List StepT) (i : Nat) (lv sv tv v : V) (u : List Nat) (d : PyData),
      TryAt K H r sc wl ns n k ls ss i lv sv tv v u d → wl ≠ r → (∃ H9, RowAt K H9 r sc ns ∧ H9 wl = none) → H wl = some (.lst []) → H fl = some (.lst [.ref fa, .ref fb, .ref fd]) → LmAt0 H (LX P w K mg base f0 (.ref c) A outer s0 H0 E0').env.cells lm0 fa → LmAt H (LX P w K mg base f0 (.ref c) A outer s0 H0 E0').env.cells lm1 fb → LmAt H (LX P w K mg base f0 (.ref c) A outer s0 H0 E0').env.cells lm2 fd →
      Tabs TS H → (∀ H', D.rt (.bl true) H') → t D [x0, x1, x2, x3, x4, x5, x6, x7, x8, x9, x10, x11, some (.ref wl), x13, some (.ref fl), x15, some (nI i), some (nI k), some lv, some (nI n), some v, some sv, some tv, x23, x24] H := by
  have hu := hr.units
  refine ⟨_, pss_cons (ps_for (passes_of rfl) rfl (pi_list (pe_op op_cat (pv 14) (pe_lst (pa_cons (pe_lm1 (T := TS) TB rfl hm hone (ndef_free lb3) rfl rfl pe_int) pa_nil)))) (pg_name (i := 15) sc_law.nd rfl (Or.inl rfl))
      (pss_one (ps_try_asM (n := "e") (i := 11) (l := cls4 K CR CN CT CK) (tb := fun W => tDrop (fun σ H Q => ∃ f, σ[15]? = some (some (.ref f)) ∧ RW6 K CR CN CT CK (LX P w K mg base f0 (.ref c) A outer s0 H0 E0').env.cells W f σ H Q)) (Wo := fun _ _ _ _ => False) rfl rfl sc_law.nd rfl rfl L2.takes0
        (fun W pn xe tk _ => pss_one (ps_expr (pe_ap0 (fun f pins s σ H Q I h => r_run hr L tk f pins s σ H Q I h) rfl (Or.inl rfl))))
        (.cons ⟨rfl, by decide, Or.inl X3.eR.g⟩ (fun a oe cls d pn hz hf => pss_one (ps_expr (by exact (pe_bm PySem.F.plainAttrs_list PySem.F.slot_list_append PySem.F.type_list_append mt_append (pv 12) (pa_cons (pe_xf X3.eR.xf X3.eR.no hz hf (pv 11)) pa_nil)))))
        (.cons ⟨rfl, by decide, Or.inl X3.gN⟩ (fun a oe cls d pn hz hf => pss_one (ps_expr (by exact (pe_bm PySem.F.plainAttrs_list PySem.F.slot_list_append PySem.F.type_list_append mt_append (pv 12) (pa_cons pe_str pa_nil)))))
        (.cons ⟨rfl, by decide, Or.inl X3.gT⟩ (fun a oe cls d pn hz hf => pss_one (ps_expr (by exact (pe_bm PySem.F.plainAttrs_list PySem.F.slot_list_append PySem.F.type_list_append mt_append (pv 12) (pa_cons pe_str pa_nil)))))
        (.cons ⟨rfl, by decide, Or.inl X3.gK⟩ (fun a oe cls d pn hz hf => pss_one (ps_expr (by exact (pe_bm PySem.F.plainAttrs_list PySem.F.slot_list_append PySem.F.type_list_append mt_append (pv 12) (pa_cons pe_str pa_nil))))) .nil)))))))
    (pss_one (ps_ret (pe_cmpR (op_eqD hu) (pv 12) (pe_lst (pa_cons (pv 16) (pa_cons pe_str (pa_cons pe_str (pa_cons pe_str pa_nil))))) (nomark _)))), ?_⟩
  intro D H x0 x1 x2 x3 x4 x5 x6 x7 x8 x9 x10 x11 x13 x15 x23 x24 r sc wl fl fa fb fd ns n k ls ss i lv sv tv v u d F nwr h9 hwl hfl la lb lc hTb q
  refine ⟨_, rfl, hTb, fun pe fe ce H1 e1 T1 _ fe1 pe1 ce1 => ⟨by show 1 ≤ sizeLine; decide, fun dl hdl => ?_⟩⟩
  have nt : ∀ {xs : List V}, ∀ ps, HO.lst xs ≠ .tbl ps := fun _ z => nomatch z
  have s2 := same_new (o := .lst [V.ref fe]) hdl
  have hfl2 := s2 _ _ (e1 _ _ hfl nt)
  refine ⟨_, _, _, _, rfl, rfl, hfl2, upd_same, by show 3 + 1 ≤ sizeLine; decide, fun gl hgl => ?_⟩
  have s3 := same_new (o := .lst ([V.ref fa, V.ref fb, V.ref fd] ++ [V.ref fe])) hgl
  have s23 := s2.trans s3
  have e13 : ExtN H (upd (upd H1 dl (.lst [V.ref fe])) gl (.lst ([V.ref fa, V.ref fb, V.ref fd] ++ [V.ref fe]))) := e1.trans (extN_of s23)
  have kgl : (upd (upd H1 dl (.lst [V.ref fe])) gl (.lst ([V.ref fa, V.ref fb, V.ref fd] ++ [V.ref fe]))) gl = some (.lst [V.ref fa, V.ref fb, V.ref fd, V.ref fe]) := upd_same
  have kwl := e13 _ _ hwl nt
  have ngw : gl ≠ wl := fun z => by rw [z] at hgl; rw [s2 _ _ (e1 _ _ hwl nt)] at hgl; cases hgl
  have row3 := F.row.extN e13
  have tm3 := extN_tm e13
  have ngr : gl ≠ r := fun z => by
    obtain ⟨_, _, _, R⟩ := F.row
    rw [z] at hgl; rw [s2 _ _ (e1 _ _ R.at_ nt)] at hgl; cases hgl
  have la3 : LmAt0 _ (LX P w K mg base f0 (.ref c) A outer s0 H0 E0').env.cells lm0 fa := let ⟨c', a, b⟩ := la; ⟨c', e13 _ _ a lmO_is.2, e13 _ _ b codeO_is.2⟩
  have lb3 : LmAt _ (LX P w K mg base f0 (.ref c) A outer s0 H0 E0').env.cells lm1 fb := let ⟨c', p', a, b, d⟩ := lb; ⟨c', p', e13 _ _ a lmO_is.2, e13 _ _ b (fun _ z => nomatch z), e13 _ _ d codeO_is.2⟩
  have lc3 : LmAt _ (LX P w K mg base f0 (.ref c) A outer s0 H0 E0').env.cells lm2 fd := let ⟨c', p', a, b, d⟩ := lc; ⟨c', p', e13 _ _ a lmO_is.2, e13 _ _ b (fun _ z => nomatch z), e13 _ _ d codeO_is.2⟩
  have ld3 : LmAt _ (LX P w K mg base f0 (.ref c) A outer s0 H0 E0').env.cells lm3 fe := ⟨ce, pe, s23 _ _ fe1, s23 _ _ pe1, s23 _ _ ce1⟩
  have good3 := F.good.tm tm3
  have rw3 := F.rw_.tm tm3
  have tk3 := F.tk.tm tm3
  have st3 := F.st.ext e13
  generalize upd (upd H1 dl (.lst [V.ref fe])) gl (.lst ([V.ref fa, V.ref fb, V.ref fd] ++ [V.ref fe])) = Hb at *
  obtain ⟨h9, r9, w9⟩ := h9
  obtain ⟨_, _, _, Rb⟩ := id row3
  have k1 := F.k1
  have k4 := F.k4
  refine ⟨gl, rfl, ⟨_, SqL.of kgl⟩, for_list (K := K) (g := gName 15) (tb := tTry K CR CN CT CK (LX P w K mg base f0 (.ref c) A outer s0 H0 E0').env.cells) (a := gl) (xs := [V.ref fa, V.ref fb, V.ref fd, V.ref fe])
    (fun j σ H' => ∃ xe xw, σ = [x0, x1, x2, x3, x4, x5, x6, x7, x8, x9, x10, xe, some (.ref wl), x13, some (.ref fl), xw, some (nI i), some (nI k), some lv, some (nI n), some v, some sv, some tv, x23, x24] ∧ Kp2 wl r Hb H' ∧ RowAt K H' r sc ns ∧ H' wl = some (.lst ((wds i).take j)))
    ⟨x11, x15, rfl, .refl _ _ _, row3, kwl⟩ (fun i σ H' _ ⟨_, _, _, s, _⟩ => SqL.of (s _ _ ngw ngr kgl)) ?_ ?_⟩
  · rintro j x σ H' hi ⟨xe, xw, rfl, st, ra, hw⟩
    have hi4 : j < 4 := (List.getElem?_eq_some_iff.mp hi).1
    have KL : ∀ {b o}, Hb b = some o → (∀ zs, o ≠ .lst zs) → H' b = some o := fun h n => st.at_ kwl Rb.at_ h n
    have tmH := st.tm kwl Rb.at_
    have good' := good3.tm tmH
    have rw' := rw3.tm tmH
    have tk' := tk3.tm tmH
    have app : ∀ (z : V) (D' : Ends) (H5 : Hp) (a : Addr), (wds i).take (j + 1) = (wds i).take j ++ [z] → Kp2 wl r Hb H5 → RowAt K H5 r sc ns → H5 wl = some (.lst ((wds i).take j)) →
        (∀ xe' H5, Kp2 wl r Hb H5 → RowAt K H5 r sc ns → H5 wl = some (.lst ((wds i).take (j + 1))) → D'.nx [x0, x1, x2, x3, x4, x5, x6, x7, x8, x9, x10, xe', some (.ref wl), x13, some (.ref fl), some x, some (nI i), some (nI k), some lv, some (nI n), some v, some sv, some tv, x23, x24] H5) →
        rAppend (.ref wl) [z] H5 fun y H6 => D'.nx ([x0, x1, x2, x3, x4, x5, x6, x7, x8, x9, x10, some (.ref a), some (.ref wl), x13, some (.ref fl), some x, some (nI i), some (nI k), some lv, some (nI n), some v, some sv, some tv, x23, x24].set 11 none) H6 := by
      intro z D' H5 a ez st5 ra5 hw5 nx
      refine ⟨wl, _, _, rfl, rfl, hw5, Nat.lt_of_le_of_lt (List.length_take_le ..) (by rw [sizeLine_eq]; omega), ?_⟩
      refine nx none _ (st5.trans (.l (StepR.put _ _ _))) (r9.far' w9 ra5 (StepR.put _ _ _)) ?_
      rw [upd_same, ez]
    have hx : j = 0 ∨ j = 1 ∨ j = 2 ∨ j = 3 := by omega
    have word : ∀ (z : V) (D' : Ends) (cls : Value) (d : Option Addr) (H5 : Hp), (wds i).take (j + 1) = (wds i).take j ++ [z] → Kp2 wl r Hb H5 → RowAt K H5 r sc ns → H5 wl = some (.lst ((wds i).take j)) → ∀ a : Addr,
        (∀ xe' H5, Kp2 wl r Hb H5 → RowAt K H5 r sc ns → H5 wl = some (.lst ((wds i).take (j + 1))) → D'.nx [x0, x1, x2, x3, x4, x5, x6, x7, x8, x9, x10, xe', some (.ref wl), x13, some (.ref fl), some x, some (nI i), some (nI k), some lv, some (nI n), some v, some sv, some tv, x23, x24] H5) →
        tsW K z a cls d { nx := fun σ' H' => D'.nx (σ'.set 11 none) H', rt := D'.rt, bk := fun σ' H' => D'.bk (σ'.set 11 none) H', ct := fun σ' H' => D'.ct (σ'.set 11 none) H' } [x0, x1, x2, x3, x4, x5, x6, x7, x8, x9, x10, some (.ref a), some (.ref wl), x13, some (.ref fl), some x, some (nI i), some (nI k), some lv, some (nI n), some v, some sv, some tv, x23, x24] H5 := by
      intro z D' cls d H5 ez st5 ra5 hw5 a nx
      exact ⟨_, rfl, .inl ⟨rfl, _, SqL.of hw5⟩, app z D' H5 a ez st5 ra5 hw5 nx⟩
    obtain ⟨ra0, rx, rfl, hra, prx⟩ := id rw'
    have lrx := Paired.length prx
    have s8 := F.s8
    have i8 := F.i8
    rcases hx with rfl | rfl | rfl | rfl
    · obtain rfl : V.ref fa = x := Option.some.inj hi
      obtain ⟨c', g1, g2⟩ := la3
      refine ⟨fa, rfl, .inl ⟨c', KL g1 lmO_is.1, KL g2 codeO_is.1, ?_⟩⟩
      refine ⟨_, rfl, _, rfl, cat3_read (i := i) (v := v) rfl rfl rfl hra (by omega) (by omega) fun p H5 s5 hp => ?_⟩
      refine ⟨lv, nI k, .ref p, ls, n, rfl, good'.same s5, .inr ⟨k, rfl, k1, by omega, RowIn.bad (good'.same s5) hp (paired_mono (fun _ _ r => StK.tm (.of s5) r) prx) F.ok s8 i8 ((st3.kp st kwl Rb.at_).rp.same s5) (st3.kp st kwl Rb.at_).sml F.bad fun dd H7 s7 hdd => ?_⟩⟩
      have s57 := s5.trans s7
      refine ⟨true, X3.rr, fun _ a ha => ⟨_, rfl, .inl ⟨rfl, _, SqL.of (s57 _ _ hw)⟩, _, rfl, rfl, rfl, dd, _, nI i, rfl, hdd, rfl, ?_⟩, fun q => (by cases q)⟩
      exact app (nI i) { nx := fun σ H' => ∃ xe xw, σ = [x0, x1, x2, x3, x4, x5, x6, x7, x8, x9, x10, xe, some (.ref wl), x13, some (.ref fl), xw, some (nI i), some (nI k), some lv, some (nI n), some v, some (.ref ra0), some tv, x23, x24] ∧ Kp2 wl r Hb H' ∧ RowAt K H' r sc ns ∧ H' wl = some (.lst ((wds i).take 1)), rt := D.rt } H7 a rfl (st.trans (.of s57)) (ra.step s57) (s57 _ _ hw) fun xe' H6 a b c => ⟨xe', _, rfl, a, b, c⟩
    · obtain rfl : V.ref fb = x := Option.some.inj hi
      obtain ⟨c', p', g1, g2, g3⟩ := lb3
      refine ⟨fb, rfl, .inr (.inl ⟨c', p', KL g1 lmO_is.1, KL g2 (fun _ z => nomatch z), KL g3 codeO_is.1, ?_⟩)⟩
      refine ⟨_, rfl, _, rfl, lv, .int 7, .ref ra0, ls, n, rfl, good', .inl ⟨.int 7, .int 7, no7, fun H7 s7 => ?_⟩⟩
      exact ⟨false, X3.nr, fun q => (by cases q), fun _ => ⟨true, X3.nn, fun _ a ha => word (.str "number") _ (.ref CN) none H7 rfl (st.trans (.of s7)) (ra.step s7) (s7 _ _ hw) a (fun xe' H6 a b c => ⟨xe', _, rfl, a, b, c⟩), fun q => (by cases q)⟩⟩
    · obtain rfl : V.ref fd = x := Option.some.inj hi
      obtain ⟨c', p', g1, g2, g3⟩ := lc3
      refine ⟨fd, rfl, .inr (.inr (.inl ⟨c', p', KL g1 lmO_is.1, KL g2 (fun _ z => nomatch z), KL g3 codeO_is.1, ?_⟩))⟩
      have n2 := good3.gl.2.2.1
      have n9 := good3.gl.2.2.2.1
      refine ⟨_, rfl, _, rfl, _, rfl, by show 1 ≤ sizeLine; decide, fun l1 hl1 => ⟨_, rfl, rep_read (k := n) hl1 (by omega) (by omega) fun p1 H5 s5 hp1 => ?_⟩⟩
      have noP : ¬ Mk ls n (List.replicate n 0) := fun m => by
        have nd := (good3.isP m).nd
        obtain ⟨n', rfl⟩ : ∃ n', n = n' + 2 := ⟨n - 2, by omega⟩
        rw [List.replicate_succ, List.replicate_succ] at nd
        exact absurd List.mem_cons_self (List.nodup_cons.mp nd).1
      refine ⟨lv, .ref ra0, .ref p1, ls, n, k, rfl, good'.same s5, k1, by omega, .inl ⟨ss, (show RwK H' (.ref ra0) ss from ⟨ra0, rx, rfl, hra, prx⟩).tm (.of s5), F.ok, .inr ⟨dT (List.replicate n 0), TN.rp ⟨p1, rfl, .inl hp1⟩, lenT (by rw [List.length_replicate]; omega), by rw [isTurnD_dT]; exact decide_eq_false fun h => noP ((good3.mem _).mp h), fun H7 s7 => ?_⟩⟩⟩
      have s57 := s5.trans s7
      exact ⟨false, X3.tr, fun q => (by cases q), fun _ => ⟨false, X3.tn, fun q => (by cases q), fun _ => ⟨true, X3.tt, fun _ a ha => word (.str "turn") _ (.ref CT) none H7 rfl (st.trans (.of s57)) (ra.step s57) (s57 _ _ hw) a (fun xe' H6 a b c => ⟨xe', _, rfl, a, b, c⟩), fun q => (by cases q)⟩⟩⟩
    · obtain rfl : V.ref fe = x := Option.some.inj hi
      obtain ⟨c', p', g1, g2, g3⟩ := ld3
      refine ⟨fe, rfl, .inr (.inr (.inr ⟨c', p', KL g1 lmO_is.1, KL g2 (fun _ z => nomatch z), KL g3 codeO_is.1, ?_⟩))⟩
      refine ⟨_, rfl, by show 3 ≤ sizeLine; decide, fun p1 hp1 => ?_⟩
      have s5 := same_new (o := .tup [V.int 0, .int 1, .int 1]) hp1
      have kp1 : TN (upd H' p1 (.tup [V.int 0, .int 1, .int 1])) (.ref p1) [0, 1, 1] := ⟨p1, rfl, .inl upd_same⟩
      refine ⟨_, rfl, _, rfl, lv, .ref p1, .ref ra0, tv, ls, n, rfl, good'.same s5, .inl ⟨dT [0, 1, 1], kp1.rp, lenT (by show 3 ≤ 1000; decide), noT3, fun H7 s7 => ?_⟩⟩
      have s57 := s5.trans s7
      exact ⟨false, X3.kr, fun q => (by cases q), fun _ => ⟨false, X3.kn, fun q => (by cases q), fun _ => ⟨false, X3.kt, fun q => (by cases q), fun _ => ⟨true, X3.kk, fun _ a ha => word (.str "task") _ (.ref CK) none H7 rfl (st.trans (.of s57)) (ra.step s57) (s57 _ _ hw) a (fun xe' H6 a b c => ⟨xe', _, rfl, a, b, c⟩), fun q => (by cases q)⟩⟩⟩⟩
  · rintro σ H' ⟨xe, xw, rfl, st, ra, hw⟩
    refine ⟨_, rfl, _, rfl, by show 4 ≤ sizeLine; decide, fun p1 hp1 => ?_⟩
    have s5 := same_new (o := .lst [nI i, .str "number", .str "turn", .str "task"]) hp1
    refine ⟨.list [dN i, .str "number", .str "turn", .str "task"], .list [dN i, .str "number", .str "turn", .str "task"], .lst (SqL.of (s5 _ _ hw)) (.cons (.int _) (.cons (.str _) (.cons (.str _) (.cons (.str _) .nil)))), .lst (SqL.of upd_same) (.cons (.int _) (.cons (.str _) (.cons (.str _) (.cons (.str _) .nil)))), sh_wds i, sh_wds i, ?_⟩
    have e : PyData.eqv (.list [dN i, .str "number", .str "turn", .str "task"]) (.list [dN i, .str "number", .str "turn", .str "task"]) = true := SeqAt.eqv_refl _ (cl_wds i)
    rw [e]
    exact q _
end
end Lt

set_option Elab.async false
set_option linter.all false
set_option maxRecDepth 100000
set_option maxHeartbeats 4000000
/-! k06: the wrong step, the lambdas are made -/
namespace Lt
open PySem PySem.Spec PyProof.Rows L2 NdefX LamX LmX MaX
/-- what the draws have left -/
structure MidAt (K : PySem.W.Frag) (H : Hp) (r sc : Addr) (ns : List Int) (n k : Nat) (ls : List (List Nat)) (ss : List StepT) (lv sv tv : V) (t : List Nat) : Prop where
  row : RowAt K H r sc ns
  good : Good H lv ls n
  k1 : 1 ≤ k
  k4 : k ≤ 4
  rw_ : RwK H sv ss
  ok : RowOk ls n k ss
  s8 : ss.length ≤ 8
  tk : TK H tv t
  mt : Mk ls n t
theorem MidAt.ext {K : PySem.W.Frag} {H H' : Hp} {r sc : Addr} {ns : List Int} {n k : Nat} {ls : List (List Nat)} {ss : List StepT} {lv sv tv : V} {t : List Nat} (F : MidAt K H r sc ns n k ls ss lv sv tv t) (e : ExtN H H') : MidAt K H' r sc ns n k ls ss lv sv tv t :=
  { F with row := F.row.extN e, good := F.good.tm (extN_tm e), rw_ := F.rw_.tm (extN_tm e), tk := F.tk.tm (extN_tm e) }
theorem MidAt.step {K : PySem.W.Frag} {H H' : Hp} {r sc : Addr} {ns : List Int} {n k : Nat} {ls : List (List Nat)} {ss : List StepT} {lv sv tv : V} {t : List Nat} (F : MidAt K H r sc ns n k ls ss lv sv tv t) (s : StepR r H H') (ra : RowAt K H' r sc ns) : MidAt K H' r sc ns n k ls ss lv sv tv t :=
  { F with row := ra, good := F.good.tm (s.tm F.row), rw_ := F.rw_.tm (s.tm F.row), tk := F.tk.tm (s.tm F.row) }
section
variable {P : Program} {w : World} {K : PySem.W.Frag} {mg : Str → Option Value} {base : Heap} {CR CN CT CK CP c Pt : Addr}
theorem law_lams {TS : List (Addr × Str)} {f0 : Addr} {A : Around} {outer : List Env} {s0 : Shared} {H0 : Hp} {E0' : XK} (hr : Room 10 (LX P w K mg base f0 (.ref c) A outer s0 H0 E0').A) (B : Bi mg) (TB : TabB base mg c Pt) (hm : (Pt, q_lam) ∈ TS) (hone : ∀ p ∈ TS, p.1 = Pt → p.2 = q_lam)
    (L : Has6 P w K mg base CR CN CT CK CP) (X3 : Ex4 P w K mg base CR CN CT CK) (hT : Has P w K mg base CX0 1 "_law_taken" ["row", "many"] (spTaken K)) (hK : Has P w K mg base CX0 2 "_law_pick" ["row", "things"] (spPick K)) :
    ∃ t, PSs (LX P w K mg base f0 (.ref c) A outer s0 H0 E0') ((defBody s_law).drop 14) t ∧ ∀ (D : Ends) (H : Hp) (x0 x2 x3 x4 x5 x6 x7 x8 x9 x10 x11 x12 x13 x14 x15 x16 x20 x23 x24 : Option V) (r sc : Addr) (ns : List Int) (n k : Nat) (ls : List (List Nat)) (ss : List StepT) (lv sv tv : V) (u : List Nat),
      MidAt K H r sc ns n k ls ss lv sv tv u → Tabs TS H → (∀ H', D.rt (.bl true) H') → t D [x0, some (.ref r), x2, x3, x4, x5, x6, x7, x8, x9, x10, x11, x12, x13, x14, x15, x16, some (nI k), some lv, some (nI n), x20, some sv, some tv, x23, x24] H := by
  have hu := hr.units
  have hr1 : Room 1 _ := hr.mono (by decide)
  have hr2 : Room 2 _ := hr.mono (by decide)
  obtain ⟨tt, ht, qt⟩ := law_try (outer := outer) (s0 := s0) (H0 := H0) (E0' := E0') hr TB hm hone L X3
  refine ⟨_, pss_cons (ps_set (i := 12) sc_law.nd rfl (Or.inl rfl) (pe_lst pa_nil))
    (pss_cons (ps_set (i := 16) sc_law.nd rfl (Or.inr rfl) (pe_has hT hr1 (by rfl) (pa_cons (pv 1) (pa_cons (pe_op op_add (pe_callB call_len_seq (by rfl) B.len PySem.boot_len (pa_cons (pv 21) pa_nil)) pe_int) pa_nil))))
    (pss_cons (ps_set (i := 13) sc_law.nd rfl (Or.inl rfl) (pe_lst (pa_cons pe_non (pa_cons (pe_tup (pa_cons pe_int (pa_cons (pv 22) pa_nil))) (pa_cons (pe_tup (pa_cons (pv 17) (pa_cons (pv 22) (pa_cons (pv 22) pa_nil)))) pa_nil)))))
    (pss_cons (ps_set (i := 20) sc_law.nd rfl (Or.inr rfl) (pe_has hK hr2 (by rfl) (pa_cons (pv 1) (pa_cons (pe_op op_cat (pv 13) (pe_lst (pa_cons (pe_tup (pa_cons pe_bl (pa_cons (pv 22) (pa_cons (pv 22) pa_nil)))) (pa_cons (pe_tup (pa_cons pe_int (pa_cons (pe_tup (pa_cons pe_int pa_nil)) (pa_cons (pv 22) pa_nil)))) (pa_cons (pe_tup (pa_cons pe_int (pa_cons (pv 22) (pa_cons (pe_callTy call_list_of (by rfl) B.list PyProof.Rows.boot_list (pa_cons (pv 22) pa_nil)) pa_nil)))) pa_nil))))) pa_nil))))
    (pss_cons (ps_set (i := 14) sc_law.nd rfl (Or.inl rfl) (pe_lst (pa_cons (pe_lm0 (T := TS) TB rfl hm hone (ndef_free lb0) rfl) (pa_cons (pe_lm1 (T := TS) TB rfl hm hone (ndef_free lb1) rfl rfl pe_int) pa_nil))))
    (pss_cons (ps_expr (pe_bm PySem.F.plainAttrs_list PySem.F.slot_list_append PySem.F.type_list_append mt_append (pv 14) (pa_cons (pe_lm1 (T := TS) TB rfl hm hone (ndef_free lb2) rfl rfl pe_int) pa_nil)))
    ht))))), ?_⟩
  intro D H x0 x2 x3 x4 x5 x6 x7 x8 x9 x10 x11 x12 x13 x14 x15 x16 x20 x23 x24 r sc ns n k ls ss lv sv tv u F hTb q
  have nt : ∀ {xs : List V}, ∀ ps, HO.lst xs ≠ .tbl ps := fun _ z => nomatch z
  refine ⟨Nat.zero_le _, fun wl hwl => ?_⟩
  have s1 := same_new (o := .lst []) hwl
  have kw : (upd H wl (.lst [])) wl = some (.lst []) := upd_same
  have nwr : wl ≠ r := (F.row.ne hwl).symm
  have F1 := F.ext (extN_of s1)
  have T1 := hTb.ext s1
  have h9 : ∃ H9, RowAt K H9 r sc ns ∧ H9 wl = none := ⟨H, F.row, hwl⟩
  generalize upd H wl (.lst []) = H1 at *
  obtain ⟨ra0, rx, rfl, hra, prx⟩ := id F1.rw_
  have lrx := Paired.length prx
  have s8 := F.s8
  refine ⟨_, rfl, _, rfl, ra0, rx, rfl, .inr (SqT.of hra), (rx.length : Int), 1, rfl, rfl, r, sc, ns, rx.length + 1, ?_, F1.row, by omega, by omega, fun i H2 hi st2 ra2 => ?_⟩
  · show [V.ref r, V.int ((rx.length : Int) + 1)] = [V.ref r, nI (rx.length + 1)]
    have : (rx.length : Int) + 1 = ((rx.length + 1 : Nat) : Int) := by omega
    rw [this]
    rfl
  have F2 := F1.step st2 ra2
  have T2 := Tabs.rowX F1.row st2 T1
  have kw2 := st2 _ _ nwr kw
  obtain ⟨ta, rfl, hta⟩ := id F2.tk
  have tn2 : TN H2 (.ref ta) u := F2.tk.tn
  refine ⟨_, rfl, by show 2 ≤ sizeLine; decide, fun t1 ht1 => ⟨_, rfl, _, rfl, _, rfl, by show 3 ≤ sizeLine; decide, fun t2 ht2 => ⟨by show 3 ≤ sizeLine; decide, fun ol hol => ?_⟩⟩⟩
  have sa := same_new (o := .tup [V.int 0, .ref ta]) ht1
  have sb := same_new (o := .tup [nI k, .ref ta, .ref ta]) ht2
  have so := same_new (o := .lst [V.non, .ref t1, .ref t2]) hol
  have ka := (sb.trans so) _ _ (upd_same (H := H2) (a := t1) (o := HO.tup [V.int 0, .ref ta]))
  have kb := so _ _ (upd_same (a := t2) (o := HO.tup [nI k, .ref ta, .ref ta]))
  have ko := upd_same (H := upd (upd H2 t1 (.tup [V.int 0, .ref ta])) t2 (.tup [nI k, .ref ta, .ref ta])) (a := ol) (o := HO.lst [V.non, .ref t1, .ref t2])
  have s2o := sa.trans (sb.trans so)
  generalize upd (upd (upd H2 t1 (.tup [V.int 0, .ref ta])) t2 (.tup [nI k, .ref ta, .ref ta])) ol (.lst [V.non, .ref t1, .ref t2]) = Ho at *
  have hta' := s2o _ _ hta
  refine ⟨_, rfl, _, rfl, _, rfl, _, rfl, by show 3 ≤ sizeLine; decide, fun t3 ht3 => ⟨by show 1 ≤ sizeLine; decide, fun t4 ht4 => ⟨_, rfl, by show 3 ≤ sizeLine; decide, fun t5 ht5 => ?_⟩⟩⟩
  refine ⟨_, rfl, _, rfl, ta, nIs u, rfl, .inr (SqT.of ?_), fun ll hll => ⟨by show 3 ≤ sizeLine; decide, fun t6 ht6 => ⟨by show 3 ≤ sizeLine; decide, fun l2 hl2 => ?_⟩⟩⟩
  · exact (((same_new ht3).trans (same_new ht4)).trans (same_new ht5)) _ _ hta'
  have s3 := same_new (o := .tup [V.bl true, .ref ta, .ref ta]) ht3
  have s4 := same_new (o := .tup [V.int 0]) ht4
  have s5 := same_new (o := .tup [V.int 0, .ref t4, .ref ta]) ht5
  have s6 := same_new (o := .lst (nIs u)) hll
  have s7 := same_new (o := .tup [V.int 0, .ref ta, .ref ll]) ht6
  have s8' := same_new (o := .lst [V.ref t3, .ref t5, .ref t6]) hl2
  refine ⟨ol, l2, _, _, rfl, rfl, (s3.trans (s4.trans (s5.trans (s6.trans (s7.trans s8'))))) _ _ ko, upd_same, by show 3 + 3 ≤ sizeLine; decide, fun kl hkl => ?_⟩
  have s9 := same_new (o := .lst ([V.non, .ref t1, .ref t2] ++ [V.ref t3, .ref t5, .ref t6])) hkl
  have s89 := s8'.trans s9
  have s79 := s7.trans s89
  have s69 := s6.trans s79
  have s59 := s5.trans s69
  have s49 := s4.trans s59
  have s39 := s3.trans s49
  have k3 := s49 _ _ (upd_same (H := Ho) (a := t3) (o := HO.tup [V.bl true, .ref ta, .ref ta]))
  have k4 := s59 _ _ (upd_same (a := t4) (o := HO.tup [V.int 0]))
  have k5 := s69 _ _ (upd_same (a := t5) (o := HO.tup [V.int 0, .ref t4, .ref ta]))
  have k6 := s79 _ _ (upd_same (a := ll) (o := HO.lst (nIs u)))
  have k7 := s89 _ _ (upd_same (a := t6) (o := HO.tup [V.int 0, .ref ta, .ref ll]))
  have kwo := s2o _ _ kw2
  have rowO := F2.row.step s2o
  have nlr : ll ≠ r := (RowAt.ne (rowO.step (s3.trans (s4.trans s5))) hll).symm
  have nlw : ll ≠ wl := fun z => by
    rw [z] at hll
    rw [(s3.trans (s4.trans s5)) _ _ kwo] at hll
    cases hll
  have nkr : kl ≠ r := (RowAt.ne (rowO.step (s3.trans (s4.trans (s5.trans (s6.trans (s7.trans s8')))))) hkl).symm
  have s2Z := s2o.trans s39
  have FZ := F2.ext (extN_of s2Z)
  have TZ := T2.ext s2Z
  have kaZ := s39 _ _ ka
  have kbZ := s39 _ _ kb
  have kwZ := s2Z _ _ kw2
  have htaZ := s2Z _ _ hta
  have kk : (upd (upd (upd (upd (upd (upd (upd Ho t3 (.tup [V.bl true, .ref ta, .ref ta])) t4 (.tup [V.int 0])) t5 (.tup [V.int 0, .ref t4, .ref ta])) ll (.lst (nIs u))) t6 (.tup [V.int 0, .ref ta, .ref ll])) l2 (.lst [V.ref t3, .ref t5, .ref t6])) kl (.lst ([V.non, .ref t1, .ref t2] ++ [V.ref t3, .ref t5, .ref t6]))) kl = some (.lst [V.non, .ref t1, .ref t2, .ref t3, .ref t5, .ref t6]) := upd_same
  generalize upd (upd (upd (upd (upd (upd (upd Ho t3 (.tup [V.bl true, .ref ta, .ref ta])) t4 (.tup [V.int 0])) t5 (.tup [V.int 0, .ref t4, .ref ta])) ll (.lst (nIs u))) t6 (.tup [V.int 0, .ref ta, .ref ll])) l2 (.lst [V.ref t3, .ref t5, .ref t6])) kl (.lst ([V.non, .ref t1, .ref t2] ++ [V.ref t3, .ref t5, .ref t6])) = Hz at *
  refine ⟨r, kl, sc, ns, _, rfl, FZ.row, kk, nkr, by show 1 ≤ 6; decide, by show 6 ≤ 1000; decide, fun y H5 hy st5 ra5 => ?_⟩
  have F5 := FZ.step st5 ra5
  have T5 := Tabs.rowX FZ.row st5 TZ
  have kw5 := st5 _ _ nwr kwZ
  obtain ⟨_, _, _, RZ⟩ := id FZ.row
  have KT : ∀ {b xs}, Hz b = some (.tup xs) → H5 b = some (.tup xs) := fun h => st5 _ _ (ne_of h RZ.at_ (fun z => nomatch z)) h
  have tn5 : TN H5 (.ref ta) u := F5.tk.tn
  have uP := F5.good.isP F5.mt
  have n2 := F5.good.gl.2.2.1
  have n9 := F5.good.gl.2.2.2.1
  have ul : u.length ≤ 1000 := by rw [uP.len]; omega
  have it0 : isTurnD (LL ls n) (dT [0]) = false := by
    rw [isTurnD_dT]
    refine decide_eq_false fun h => ?_
    have := (F5.good.isP ((F5.good.mem _).mp h)).len
    have : n = 1 := this.symm
    omega
  obtain ⟨d, hst, hbad⟩ : ∃ d, StB H5 r wl y d ∧ stepD (LL ls n) k d = false := by
    simp only [List.mem_cons, List.not_mem_nil, or_false] at hy
    rcases hy with rfl | rfl | rfl | rfl | rfl | rfl
    · exact ⟨.none, .inl ⟨rfl, rfl⟩, rfl⟩
    · exact ⟨.tuple [.int 0, dT u], .inr (.inl ⟨t1, _, _, rfl, KT kaZ, rfl, .cons (.inl ⟨0, rfl, rfl⟩) (.cons (.inr (.inr ⟨u, tn5, rfl, ul⟩)) .nil), by show 2 ≤ 1000; decide⟩), rfl⟩
    · refine ⟨.tuple [dN k, dT u, dT u], .inr (.inl ⟨t2, _, _, rfl, KT kbZ, rfl, .cons (.inl ⟨k, rfl, rfl⟩) (.cons (.inr (.inr ⟨u, tn5, rfl, ul⟩)) (.cons (.inr (.inr ⟨u, tn5, rfl, ul⟩)) .nil)), by show 3 ≤ 1000; decide⟩), ?_⟩
      show (ownD k (.int (k : Int)) && _ && _) = false
      have : ownD k (.int (k : Int)) = false := by
        show (decide ((0 : Int) ≤ (k : Int)) && decide ((k : Int) < (k : Int))) = false
        rw [decide_eq_false (Int.lt_irrefl _), Bool.and_false]
      rw [this]
      rfl
    · exact ⟨.tuple [.bool true, dT u, dT u], .inr (.inl ⟨t3, _, _, rfl, KT k3, rfl, .cons (.inr (.inl ⟨true, rfl, rfl⟩)) (.cons (.inr (.inr ⟨u, tn5, rfl, ul⟩)) (.cons (.inr (.inr ⟨u, tn5, rfl, ul⟩)) .nil)), by show 3 ≤ 1000; decide⟩), rfl⟩
    · refine ⟨.tuple [.int 0, dT [0], dT u], .inr (.inl ⟨t5, _, _, rfl, KT k5, rfl, .cons (.inl ⟨0, rfl, rfl⟩) (.cons (.inr (.inr ⟨[0], ⟨t4, rfl, .inl (KT k4)⟩, rfl, by decide⟩)) (.cons (.inr (.inr ⟨u, tn5, rfl, ul⟩)) .nil)), by show 3 ≤ 1000; decide⟩), ?_⟩
      show (_ && isTurnD (LL ls n) (dT [0]) && _) = false
      rw [it0, Bool.and_false, Bool.false_and]
    · refine ⟨.tuple [.int 0, dT u, .list (u.map dN)], .inr (.inr ⟨t6, .ref ta, ll, u, rfl, KT k7, tn5, ul, st5 _ _ nlr k6, nlr, nlw, rfl⟩), ?_⟩
      show (_ && _ && isTurnD (LL ls n) (.list _)) = false
      have : isTurnD (LL ls n) (.list (u.map dN)) = false := rfl
      rw [this, Bool.and_false]
  refine ⟨T5, fun fa ca H6 e6 T6 _ fa6 ca6 => ⟨T6, fun pb fb cb H7 e7 T7 _ fb7 pb7 cb7 => ⟨by show 2 ≤ sizeLine; decide, fun fl hfl => ?_⟩⟩⟩
  have s10 := same_new (o := .lst [V.ref fa, V.ref fb]) hfl
  have e58 : ExtN H5 (upd H7 fl (.lst [V.ref fa, V.ref fb])) := (e6.trans e7).trans (extN_of s10)
  have kfl : (upd H7 fl (.lst [V.ref fa, V.ref fb])) fl = some (.lst [V.ref fa, V.ref fb]) := upd_same
  have F7 := F5.ext (e6.trans e7)
  have F8 := F5.ext e58
  have T8 : Tabs TS (upd H7 fl (.lst [V.ref fa, V.ref fb])) := T7.ext s10
  have fa8 := s10 _ _ (e7 _ _ fa6 lmO_is.2)
  have ca8 := s10 _ _ (e7 _ _ ca6 codeO_is.2)
  have fb8 := s10 _ _ fb7
  have pb8 := s10 _ _ pb7
  have cb8 := s10 _ _ cb7
  have st8 := hst.ext e58
  have kw8 := e58 _ _ kw5 nt
  have nfr : fl ≠ r := (RowAt.ne F7.row hfl).symm
  have nfw : fl ≠ wl := fun z => by
    rw [z] at hfl
    rw [(e6.trans e7) _ _ kw5 nt] at hfl
    cases hfl
  generalize upd H7 fl (.lst [V.ref fa, V.ref fb]) = H8 at *
  refine ⟨_, rfl, .inl ⟨rfl, _, SqL.of kfl⟩, T8, fun pc fc cc H9 e9 T9 _ fc9 pc9 cc9 => ?_⟩
  have kf9 := e9 _ _ kfl nt
  refine ⟨fl, _, _, rfl, rfl, kf9, by show 2 < sizeLine; decide, ?_⟩
  have F9 := F8.ext e9
  have st : StepR fl H9 (upd H9 fl (.lst ([V.ref fa, V.ref fb] ++ [V.ref fc]))) := StepR.put _ _ _
  have row10 : RowAt K (upd H9 fl (.lst ([V.ref fa, V.ref fb] ++ [V.ref fc]))) r sc ns := F7.row.far' hfl F9.row st
  have tm10 := stepR_tml st kf9
  have ES : ∀ {b o}, H8 b = some o → (∀ zs, o ≠ .lst zs) → (∀ ps, o ≠ .tbl ps) → (upd H9 fl (.lst ([V.ref fa, V.ref fb] ++ [V.ref fc]))) b = some o := fun h n1 n2 => st _ _ (ne_of h kfl (n1 _)) (e9 _ _ h n2)
  have ES9 : ∀ {b o}, H9 b = some o → (∀ zs, o ≠ .lst zs) → (upd H9 fl (.lst ([V.ref fa, V.ref fb] ++ [V.ref fc]))) b = some o := fun h n1 => st _ _ (ne_of h kf9 (n1 _)) h
  have kw9 := e9 _ _ kw8 nt
  have st9 := st8.ext e9
  have st10 : StB (upd H9 fl (.lst ([V.ref fa, V.ref fb] ++ [V.ref fc]))) r wl y d := by
    rcases st9 with h | ⟨a, xs, ds, e1, h1, e2, hx, hl⟩ | ⟨a, x, l, t, e1, h1, hx, h1000, hl, n1, n2, e2⟩
    · exact .inl h
    · exact .inr (.inl ⟨a, xs, ds, e1, tm10.1 _ _ h1, e2, paired_mono (fun _ _ r => r.tm tm10) hx, hl⟩)
    · have nlf : l ≠ fl := fun z => by
        rw [z, kf9] at hl
        injection hl with hl
        injection hl with hl
        cases t with
        | nil => cases hl
        | cons a t => injection hl with hl _; cases hl
      exact .inr (.inr ⟨a, x, l, t, e1, tm10.1 _ _ h1, hx.tm tm10, h1000, st _ _ nlf hl, n1, n2, e2⟩)
  refine qt D _ x0 _ x2 x3 x4 x5 x6 x7 x8 x9 x10 x11 _ x15 x23 x24 r sc wl fl fa fb fc ns n k ls ss i lv (.ref ra0) (.ref ta) y u d ⟨row10, F9.good.tm tm10, F.k1, F.k4, F9.rw_.tm tm10, F.ok, F.s8, by omega, F9.tk.tm tm10, F.mt, st10, hbad⟩ nwr h9 (st _ _ nfw.symm kw9) upd_same ⟨ca, ES fa8 lmO_is.1 lmO_is.2, ES ca8 codeO_is.1 codeO_is.2⟩ ⟨cb, pb, ES fb8 lmO_is.1 lmO_is.2, ES pb8 (fun _ z => nomatch z) (fun _ z => nomatch z), ES cb8 codeO_is.1 codeO_is.2⟩ ⟨cc, pc, ES9 fc9 lmO_is.1, ES9 pc9 (fun _ z => nomatch z), ES9 cc9 codeO_is.1⟩ (fun p hp => ?_) q
  obtain ⟨ps, h1, h2, h3⟩ := T9 p hp
  refine ⟨ps, st _ _ (ne_of h1 kf9 (fun z => nomatch z)) h1, h2, fun pos cv hc => ?_⟩
  obtain ⟨c, e1, e2⟩ := h3 pos cv hc
  exact ⟨c, e1, st _ _ (ne_of e2 kf9 (codeO_is.1 _)) e2⟩
end
end Lt

set_option Elab.async false
set_option linter.all false
set_option maxRecDepth 100000
set_option maxHeartbeats 2000000
/-! _law_span: its turns are new -/
namespace Lt
open PySem PySem.Spec PyProof.Rows L2
/-- .. and not of G -/
def TFn (G H : Hp) (v : V) (t : List Nat) : Prop := TF H v t ∧ ∀ a, v = .ref a → G a = none
theorem TFn.tn {G H : Hp} {v : V} {t : List Nat} (h : TFn G H v t) : TN H v t := h.1.tn
theorem TFn.tm {G H H' : Hp} {v : V} {t : List Nat} (e : Tm H H') (h : TFn G H v t) : TFn G H' v t := ⟨h.1.tm e, h.2⟩
def LFn (G H : Hp) (a : Addr) (ts : List (List Nat)) : Prop := ∃ xs, H a = some (.lst xs) ∧ Paired (TFn G H) xs ts
theorem TFns.tm {G H H' : Hp} (e : Tm H H') {xs : List V} {ts : List (List Nat)} (p : Paired (TFn G H) xs ts) : Paired (TFn G H') xs ts := paired_mono (fun _ _ r => TFn.tm e r) p
theorem LFn.same {G H H' : Hp} {a : Addr} {ts : List (List Nat)} (h : LFn G H a ts) (e : Same H H') : LFn G H' a ts := let ⟨xs, h1, h2⟩ := h; ⟨xs, e _ _ h1, TFns.tm (.of e) h2⟩
theorem LFn.lf {G H : Hp} {a : Addr} {ts : List (List Nat)} (h : LFn G H a ts) : LF H a ts := let ⟨xs, h1, h2⟩ := h; ⟨xs, h1, paired_mono (fun _ _ r => r.1) h2⟩
theorem ks_ofn {G H : Hp} : ∀ {xs : List V} {ts : List (List Nat)}, Paired (TFn G H) xs ts → ∃ ks : List (Addr × List Int), xs = ks.map (fun p => V.ref p.1) ∧ ks.map (·.2) = ts.map iN ∧ ∀ p ∈ ks, ∃ t ∈ ts, p.2 = iN t ∧ TFn G H (.ref p.1) t
  | _, _, .nil => ⟨[], rfl, rfl, fun p h => by cases h⟩
  | _, _, .cons (a := x) (b := t) r s => by
    obtain ⟨ks, h1, h2, h3⟩ := ks_ofn s
    obtain ⟨⟨a, o, e, ho, hd⟩, hn⟩ := id r
    subst e
    refine ⟨(a, iN t) :: ks, by rw [h1]; rfl, by rw [List.map_cons, h2]; rfl, fun p hp => ?_⟩
    rcases List.mem_cons.mp hp with z | hp
    · rw [z]
      exact ⟨t, List.mem_cons_self, rfl, ⟨a, o, rfl, ho, hd⟩, hn⟩
    · obtain ⟨t', ht, z⟩ := h3 p hp
      exact ⟨t', List.mem_cons_of_mem _ ht, z⟩
section
variable {P : Program} {w : World} {K : PySem.W.Frag} {mg : Str → Option Value} {base : Heap}
def spProdFn : Sp := fun vs H Q _ => ∃ (a b : V) (x y : List Nat), vs = [a, b] ∧ TN H a x ∧ TN H b y ∧ (∀ i ∈ x, i < y.length) ∧ x.length ≤ 1000 ∧ ∀ v H', Same H H' → TFn H H' v (prod x y) → Q v H'
theorem has_law_behindFn (T : Top K mg "_law_behind" s_law_behind ["one", "other"]) (B : Bi mg) : Has P w K mg base CX0 1 "_law_behind" ["one", "other"] spProdFn := by
  refine T.ok sc_law_behind (fun vs H Q E h => ?_) (fun f cdv A outer s H vs Q E hr h => ?_)
  · obtain ⟨a, b, x, y, rfl, _⟩ := h
    rfl
  · obtain ⟨a, b, x, y, rfl, ha, hb, hxy, hx, q⟩ := h
    refine ⟨_, pss_one (ps_ret (pe_tupleOfF (by rfl) B.tuple (pe_lc (own := [("place", 2)]) (g := gName 2) (te := tOp (rIxT K) (tVar 1) (tVar 2)) (by rfl) sc_law_behind.nd (pi_tup (pv 0)) (blkOk_by (own := [("place", 2)]) (N := ["one", "other", "place"]) (sc := defScope s_law_behind) (by decide +kernel))
      (fun _ _ _ _ _ => pg_name (i := 2) sc_law_behind.nd rfl (Or.inl rfl)) (fun _ _ _ _ _ => pts_nil) (fun _ _ _ _ _ => pe_ix ix_tup (pv 1) (pv 2) (fun _ _ => rfl))))), ?_⟩
    obtain ⟨pa, rfl, ea⟩ := ha
    obtain ⟨pb, rfl, eb⟩ := hb
    refine ⟨_, rfl, pa, rfl, ⟨_, ea.sq⟩, fun D hD => lc_tupM RN (prod x y) (fun _ _ _ _ _ r => r) ea.sq (fun H' sm => (ea.sm sm).sq) (by rw [nIs_len]; omega) (by rw [prod_len, nIs_len]) hD (fun x => rfl) (fun i v n hi hn H' sm Q' q' => ?_) (fun H' zs sm hz pr => ?_)⟩
    · rw [nIs_get] at hi
      obtain ⟨m, hm, rfl⟩ := Option.map_eq_some_iff.mp hi
      have hlt := hxy m (List.mem_of_getElem? hm)
      have e : n = y.getD m 0 := by
        have z : (prod x y)[i]? = some (y.getD m 0) := by
          unfold prod
          rw [List.getElem?_map, hm]
          rfl
        exact Option.some.inj (hn.symm.trans z)
      refine ⟨_, rfl, _, rfl, pb, _, _, nI n, rfl, rfl, (eb.sm sm).sq, atI_nat ?_, q' _ _ (Same.refl _) rfl⟩
      rw [nIs_get, e, List.getD_eq_getElem?_getD, List.getElem?_eq_getElem hlt]
      rfl
    · refine ⟨D, zs, rfl, SqL.of hz, fun p o ho hp => q _ _ (sm.trans (same_new hp)) ⟨⟨p, o, rfl, by rw [upd_same, RN.all pr], ho⟩, fun a e => by cases e; exact sm.free hp⟩⟩
def spSpanN : Sp := fun vs H Q _ => ∃ (gv : V) (gs : List (List Nat)) (n : Nat), vs = [nI n, gv] ∧ GS H gv gs ∧ (∀ g ∈ gs, IsP n g) ∧ 1 ≤ n ∧ n ≤ 9 ∧ gs.length ≤ 60 ∧ Few gs n 63 ∧
  ∀ p H' ts, Same H H' → H p = none → LFn H H' p ts → ts.Nodup → (∀ t, t ∈ ts ↔ Mk gs n t) → Asc ts → Q (.ref p) H'
theorem has_law_spanN (T : Top K mg "_law_span" s_law_span ["places", "given"]) (B : Bi mg) (hP : Has P w K mg base CX0 1 "_law_behind" ["one", "other"] spProdFn) : Has P w K mg base CX0 2 "_law_span" ["places", "given"] spSpanN := by
  refine T.ok sc_law_span (fun vs H Q E h => ?_) (fun f cdv A outer s H vs Q E hr h => ?_)
  · obtain ⟨gv, gs, n, rfl, _⟩ := h
    rfl
  · obtain ⟨gv, gs, n, rfl, hgv, hg, hn1, hn9, hgl, hf, q⟩ := h
    have hu64 := hr.units
    have hu65 : A.units + 3 + 65 < cLine := by have := hr.un; show A.units + 3 + 65 < cLine; have e : (A.deeper (envOfC "_law_span" (defScope s_law_span) s.heap.objs.size f cdv)).units = A.units + 3 := rfl; omega
    refine ⟨_, pss_cons (ps_set (i := 2) sc_law_span.nd rfl (Or.inr rfl) (pe_lst (pa_cons (pe_tupRgF (by rfl) (by rfl) B.tuple (prg_1 (by rfl) B.range (pv 0))) pa_nil)))
      (pss_cons (ps_for PassesOwn.never rfl (pi_range1 (by rfl) B.range (pa_cons pe_int pa_nil)) (pg_name (i := 3) sc_law_span.nd rfl (Or.inl rfl))
        (pss_one (ps_for PassesOwn.never rfl (pi_list (pe_slice sl_list (pv 2) (po_some (pv 3)) (po_some (pe_op op_add (pv 3) pe_int)))) (pg_name (i := 4) sc_law_span.nd rfl (Or.inr rfl))
          (pss_cons (ps_setLc (i := 5) (own := [("other", 6)]) (g := gName 6) (te := tCall spProdFn [] E0 (tCons (tVar 4) (tCons (tVar 6) tNil))) (by rfl) sc_law_span.nd rfl rfl (sw_true rfl rfl rfl (by decide +kernel)) (pi_sq (pv 1)) (blkOk_by (own := [("other", 6)]) (N := ["places", "given", "found", "turn", "one", "later", "other"]) (sc := defScope s_law_span) (by decide +kernel))
            (fun _ _ _ _ _ => pg_name (i := 6) sc_law_span.nd rfl (Or.inl rfl)) (fun _ _ _ _ _ => pts_nil) (fun _ _ _ _ _ => pe_has hP hr (by rfl) (pa_cons (pv 4) (pa_cons (pv 6) pa_nil))))
          (pss_one (ps_set (i := 2) sc_law_span.nd rfl (Or.inr rfl) (pe_op op_cat (pv 2) (pe_lc (own := [("other", 6)]) (g := gName 6) (tt := tTest (tOp (rNotInD K) (tVar 6) (tVar 2))) (te := tVar 6) (by rfl) sc_law_span.nd
            (pi_list (pe_callB (cr_sortedT (by rfl)) (by rfl) B.sorted PyProof.Rows.boot_sorted (pa_cons (pe_callTy (cr_setOfT (by rfl) hu64) (by rfl) B.set PyProof.Rows.boot_set (pa_cons (pv 5) pa_nil)) pa_nil)))
            (blkOk_by (own := [("other", 6)]) (N := ["places", "given", "found", "turn", "one", "later", "other"]) (sc := defScope s_law_span) (by decide +kernel))
            (fun _ _ _ _ _ => pg_name (i := 6) sc_law_span.nd rfl (Or.inl rfl)) (fun _ _ _ _ _ => pts_one (pt_cmpR (op_notInD hu65) (pv 6) (pv 2) (by rfl))) (fun _ _ _ _ _ => pv 6)))))))))
      (pss_one (ps_ret (pe_callB (cr_sortT (d := n) (B := 9) hn1) (by rfl) B.sorted PyProof.Rows.boot_sorted (pa_cons (pv 2) pa_nil))))), ?_⟩
    refine ⟨_, rfl, n, rfl, .of_le (by omega) (by omega) (by omega) (by omega), fun q0 o ho hq0 => ⟨by show 1 ≤ sizeLine; decide, fun fl hfl => ?_⟩⟩
    have s1 := same_new (o := .frz o (.tup (rgV 0 n))) hq0
    have s2 := s1.trans (same_new (o := .lst [.ref q0]) hfl)
    have hq0l : q0 ≠ fl := fun z => by rw [← z, upd_same] at hfl; cases hfl
    refine ⟨300, rfl, by decide, by decide, for_range (lo := 0) (n := 300) (fun j σ H' => ∃ fl F x3 x4 x5 x6, σ = [some (nI n), some gv, some (.ref fl), x3, x4, x5, x6] ∧ Same H H' ∧ LFn H H' fl F ∧ SpI gs n j F)
      ⟨fl, [List.range n], none, none, none, none, rfl, s2, ⟨[.ref q0], upd_same, .cons ⟨⟨q0, o, rfl, by rw [upd_ne hq0l, upd_same, rgV_nat], ho⟩, fun a e => by cases e; exact hq0⟩ .nil⟩, ⟨List.pairwise_singleton _ _, fun t ht => by rw [List.mem_singleton.mp ht]; exact .still, List.mem_singleton.mpr rfl, fun i t hi => absurd hi (Nat.not_lt_zero i)⟩⟩ ?_ ?_⟩
    · rintro j σ H' hj ⟨fl, F, x3, x4, x5, x6, rfl, sm, ⟨xs, hxs, hp⟩, sp⟩
      simp only [Int.zero_add]
      have hFl : F.length ≤ 63 := hf.le sp.nd sp.made
      have hxl : xs.length = F.length := Paired.length hp
      refine ⟨_, rfl, _, rfl, (j : Int), rfl, _, rfl, (j : Int), 1, rfl, rfl, (j : Int) + 1, rfl, fl, xs, rfl, SqL.of hxs, fun sl hsl => ?_⟩
      have ssl := same_new (o := .lst (cutV xs (some (j : Int)) (some ((j : Int) + 1)))) hsl
      refine ⟨sl, rfl, ⟨_, SqL.of upd_same⟩, for_list (K := K) (a := sl) (xs := cutV xs (some (j : Int)) (some ((j : Int) + 1)))
        (fun i σ H2 => ∃ fl' F' x4 x5 x6, σ = [some (nI n), some gv, some (.ref fl'), some (nI j), x4, x5, x6] ∧ Same H' H2 ∧ LFn H H2 fl' F' ∧ (i = 0 → F' = F) ∧ (1 ≤ i → SpI gs n (j + 1) F') ∧ H2 sl = some (.lst (cutV xs (some (j : Int)) (some ((j : Int) + 1)))))
        ⟨fl, F, x4, x5, x6, rfl, ssl, LFn.same ⟨xs, hxs, hp⟩ ssl, fun _ => rfl, fun h => absurd h (by omega), upd_same⟩ (fun i σ H2 _ ⟨_, _, _, _, _, _, _, _, _, _, h⟩ => SqL.of h) ?_ ?_⟩
      · rintro i x σ H2 hi ⟨fl', F', x4, x5, x6, rfl, sm1, ⟨xs2, hxs2, hp2⟩, h0, _, hsl2⟩
        have sm2 := sm.trans sm1
        rw [cut_one] at hi
        have hi0 : i = 0 := by
          have := (List.getElem?_eq_some_iff.mp hi).1
          rw [List.length_take] at this
          omega
        subst hi0
        have eF := h0 rfl
        subst eF
        rw [List.getElem?_take_of_lt (by omega), List.getElem?_drop, Nat.add_zero] at hi
        obtain ⟨one, hone, htf0⟩ := Paired.getL hp hi
        have hi := hone
        have htf : TFn H H2 x one := htf0.tm (.of sm1)
        have honeP := (sp.made one (List.mem_of_getElem? hone)).isP hg
        -- later
        dsimp only [gName, tSeq, tAsg, List.set]
        refine sq_lc (TFn H) (gs.map (prod one)) (fun _ _ _ _ e r => TFn.tm e r) (hgv.same sm2) (by rfl) (by omega) (by rw [List.length_map]) (by intro _; rfl) (fun k y b g hgk hb hyg H3 s3 Q' q' => ?_) (fun D H3 zs hD s3 hz pz => ?_)
        · rw [List.getElem?_map, hgk] at hb
          have hb := Option.some.inj hb
          subst hb
          have hgP := hg g (List.mem_of_getElem? hgk)
          exact ⟨_, rfl, _, rfl, x, y, one, g, rfl, htf.tn.tm (.of s3), hyg.tm (.of s3), fun i hi => by rw [hgP.len]; exact honeP.lt i hi, by rw [honeP.len]; omega, fun v H9 s9 t9 => q' v H9 s9 ⟨t9.1, fun a e => (sm2.trans s3).free (t9.2 a e)⟩⟩
        · -- found = found + [..]
          obtain ⟨ks, ek1, ek2, ek3⟩ := ks_ofn pz
          have hksl : ks.length < 64 := by
            have e := congrArg List.length ek2
            rw [List.length_map, List.length_map, List.length_map] at e
            omega
          have hks : ∀ p ∈ ks, SqT K H3 p.1 (p.2.map V.int) := fun p hp => by
            obtain ⟨t, _, e, ⟨a, o, ea, hao, _⟩, _⟩ := ek3 p hp
            cases ea
            rw [e, show (iN t).map V.int = nIs t from (nIs_int t).symm]
            exact RT.sq (.inr ⟨o, hao⟩)
          have hz' : H3 D = some (.lst (ks.map fun p => V.ref p.1)) := by rw [hz, ek1]
          refine ⟨_, rfl, _, rfl, D, ks, rfl, SqL.of hz', hks, hksl, fun aS L haS hL1 hL2 => ?_⟩
          have s4 := same_new (o := SetTO P w aS L) haS
          have hLP : ∀ p ∈ L, ∃ t ∈ gs.map (prod one), p.2 = iN t ∧ TFn H H3 (.ref p.1) t := fun p hp => ek3 p (hL1 p hp)
          have hmulP : ∀ t ∈ gs.map (prod one), IsP n t := fun t ht => by
            obtain ⟨g, hgm, e⟩ := List.mem_map.mp ht
            rw [← e]
            exact honeP.prod (hg g hgm)
          refine ⟨aS, L, n, 9, rfl, upd_same, fun p hp => ?_, hn1, fun p hp => ?_, fun L' sp' pm nd h64 pw hsp' => ?_⟩
          · rcases hks p (hL1 p hp) with (z | ⟨o, z⟩) | z
            · exact .inl (.inl (s4 _ _ z))
            · exact .inl (.inr ⟨o, s4 _ _ z⟩)
            · exact .inr z
          · obtain ⟨t, ht, e, _⟩ := hLP p hp
            rw [e]
            exact ⟨by rw [iN_len, (hmulP t ht).len], bd_iN (hmulP t ht) hn9⟩
          have s5 := same_new (o := .lst (L'.map fun q : Addr × List Int => V.ref q.1)) hsp'
          have s45 := s4.trans s5
          refine ⟨sp', rfl, ⟨_, SqL.of upd_same⟩, fun D2 hD2 => ?_⟩
          have hL' : ∀ q ∈ L', q.2 = iN (q.2.map Int.toNat) ∧ q.2.map Int.toNat ∈ gs.map (prod one) ∧ TFn H H3 (.ref q.1) (q.2.map Int.toNat) := fun q hq => by
            obtain ⟨t, ht, e, tf⟩ := hLP q (pm.mem_iff.mp hq)
            have et : q.2.map Int.toNat = t := by
              rw [e]
              show (t.map Int.ofNat).map Int.toNat = t
              rw [List.map_map]
              exact (List.map_congr_left (g := id) fun _ _ => rfl).trans (List.map_id t)
            rw [et]
            exact ⟨e, ht, tf⟩
          have hM : (L'.map fun q : Addr × List Int => q.2.map Int.toNat).Nodup := by
            have e : (L'.map fun q : Addr × List Int => q.2.map Int.toNat).map iN = L'.map (·.2) := by
              rw [List.map_map]
              exact List.map_congr_left fun q hq => (hL' q hq).1.symm
            rw [← e] at nd
            exact nodup_of_map nd
          have hM1 : ∀ t ∈ (L'.map fun q : Addr × List Int => q.2.map Int.toNat), ∃ g ∈ gs, t = prod one g := fun t ht => by
            obtain ⟨q, hq, e⟩ := List.mem_map.mp ht
            obtain ⟨g, hgm, e2⟩ := List.mem_map.mp (hL' q hq).2.1
            exact ⟨g, hgm, by rw [← e, ← e2]⟩
          have hM2 : ∀ g ∈ gs, prod one g ∈ (L'.map fun q : Addr × List Int => q.2.map Int.toNat) := fun g hgm => by
            have h1 : iN (prod one g) ∈ ks.map (·.2) := by
              rw [ek2]
              exact List.mem_map.mpr ⟨_, List.mem_map.mpr ⟨g, hgm, rfl⟩, rfl⟩
            obtain ⟨p, hp, e⟩ := List.mem_map.mp h1
            obtain ⟨q, hq, e2⟩ := List.mem_map.mp (hL2 p hp)
            have hq' := pm.mem_iff.mpr hq
            refine List.mem_map.mpr ⟨q, hq', iN_inj ?_⟩
            rw [← (hL' q hq').1]
            exact e2.trans e
          have hlfl : L'.length ≤ 64 := Nat.le_of_lt h64
          have sB := s3.trans s45
          have hp2B := TFns.tm (.of sB) hp2
          have hxs2B := sB _ _ hxs2
          refine lc_list (xs := L'.map fun q : Addr × List Int => V.ref q.1) (fun i H4 => Same (upd (upd H3 aS (SetTO P w aS L)) sp' (.lst (L'.map fun q : Addr × List Int => V.ref q.1))) H4 ∧ ∃ zs, H4 D2 = some (.lst zs) ∧ Paired (TFn H H4) zs (((L'.map fun q : Addr × List Int => q.2.map Int.toNat).take i).filter fun t => decide (t ∉ F')) ∧ zs.length ≤ i)
            ⟨same_new hD2, [], upd_same, .nil, Nat.le_refl 0⟩ (fun i H4 _ h => SqL.of (h.1 _ _ upd_same)) ?_ ?_
          · rintro i x' H4 hi' ⟨sD, zs, hz4, pz4, hzl⟩
            rw [List.getElem?_map] at hi'
            obtain ⟨qe, hqe, rfl⟩ := Option.map_eq_some_iff.mp hi'
            have hqm := List.mem_of_getElem? hqe
            obtain ⟨_, ht1, ht2⟩ := hL' qe hqm
            have hil : i < 64 := by have := (List.getElem?_eq_some_iff.mp hqe).1; omega
            have tf4 : TFn H H4 (.ref qe.1) (qe.2.map Int.toNat) := ht2.tm (.of (s45.trans sD))
            have etake : (L'.map fun q : Addr × List Int => q.2.map Int.toNat).take (i + 1) = (L'.map fun q : Addr × List Int => q.2.map Int.toNat).take i ++ [qe.2.map Int.toNat] := by
              rw [List.take_add_one, List.getElem?_map, hqe]
              rfl
            refine ⟨rfl, _, rfl, _, rfl, dT (qe.2.map Int.toNat), F'.map dT, tf4.tn.dp, .lst (SqL.of (sD _ _ hxs2B)) (TNs.dp (paired_mono (fun _ _ r => TFn.tn r) (TFns.tm (.of sD) hp2B))), sh_T _, sh_LT _, _, rfl, ?_⟩
            rw [any_dT]
            by_cases hin : qe.2.map Int.toNat ∈ F'
            · rw [decide_eq_true hin]
              refine iteF ⟨sD, zs, hz4, ?_, by omega⟩
              rw [etake, List.filter_append, List.filter_cons, if_neg (by simpa using hin), List.filter_nil, List.append_nil]
              exact pz4
            · rw [decide_eq_false hin]
              have t4 := Tm.lst (o := .lst (zs ++ [V.ref qe.1])) hz4
              refine iteT ⟨_, rfl, zs, hz4, by rw [sizeLine_eq]; omega, same_mut sD hD2, zs ++ [V.ref qe.1], upd_same, ?_, by rw [List.length_append]; show zs.length + 1 ≤ i + 1; omega⟩
              rw [etake, List.filter_append, List.filter_cons, if_pos (by simpa using hin), List.filter_nil]
              exact Paired.app (TFns.tm t4 pz4) (Paired.one (tf4.tm t4))
          · rintro H4 ⟨sD, zs, hz4, pz4, hzl⟩
            rw [List.length_map, show L'.length = (L'.map fun q : Addr × List Int => q.2.map Int.toNat).length from (List.length_map ..).symm, List.take_length] at pz4
            rw [List.length_map] at hzl
            have hxs4 := sD _ _ hxs2B
            have hx2l : xs2.length ≤ 63 := by rw [Paired.length hp2]; exact hFl
            refine ⟨fl', D2, xs2, zs, rfl, rfl, hxs4, hz4, by rw [sizeLine_eq]; omega, fun np hnp => ?_⟩
            have s6 := same_new (o := .lst (xs2 ++ zs)) hnp
            have sE := (sB.trans sD).trans s6
            refine ⟨np, _, _, _, _, rfl, sm1.trans sE, ⟨xs2 ++ zs, upd_same, Paired.app (TFns.tm (.of (sD.trans s6)) hp2B) (TFns.tm (.of s6) pz4)⟩, fun h => absurd h (by omega), fun _ => sp.next hi hM hM1 hM2, sE _ _ hsl2⟩
      · rintro σ H2 ⟨fl', F', x4, x5, x6, rfl, sm1, lf2, h0, h1, _⟩
        refine ⟨fl', F', _, _, _, _, rfl, sm.trans sm1, lf2, ?_⟩
        rw [cut_one, List.length_take, List.length_drop] at h0 h1
        by_cases hlt : j < xs.length
        · exact h1 (by omega)
        · rw [h0 (by omega)]
          exact sp.skip (by omega)
    · rintro σ H' ⟨fl, F, x3, x4, x5, x6, rfl, sm, ⟨xs, hxs, hp⟩, sp⟩
      have hFl : F.length ≤ 63 := hf.le sp.nd sp.made
      have hxl : xs.length = F.length := Paired.length hp
      refine ⟨_, rfl, fl, xs, rfl, SqL.of hxs, by omega, fun x hx => ?_, fun ys p pm pw hp2 => ?_⟩
      · obtain ⟨t, ht, ⟨a, o, rfl, hao, _⟩, _⟩ := Paired.memL hp hx
        have htP := (sp.made t ht).isP hg
        exact ⟨iN t, ⟨a, rfl, by rw [show (iN t).map V.int = nIs t from (nIs_int t).symm]; exact RT.sq (.inr ⟨o, hao⟩)⟩, by rw [iN_len, htP.len], bd_iN htP hn9⟩
      · obtain ⟨ts, h1, h2⟩ := Paired.perm pm hp
        have s2 := same_new (o := .lst ys) hp2
        refine q p _ ts (sm.trans s2) (sm.free hp2) ⟨ys, upd_same, TFns.tm (.of s2) h1⟩ (h2.nodup_iff.mpr sp.nd) (fun t => h2.mem_iff.trans (sp.all (by omega) t)) ?_
        refine Paired.pairwise (R := TFn H H') (fun x y s t rx ry hxy => ?_) h1 pw
        obtain ⟨⟨a, o, rfl, hao, _⟩, _⟩ := rx
        obtain ⟨⟨a', o', rfl, hao', _⟩, _⟩ := ry
        exact hxy (iN s) (iN t) ⟨a, rfl, by rw [show (iN s).map V.int = nIs s from (nIs_int s).symm]; exact RT.sq (.inr ⟨o, hao⟩)⟩ ⟨a', rfl, by rw [show (iN t).map V.int = nIs t from (nIs_int t).symm]; exact RT.sq (.inr ⟨o', hao'⟩)⟩
end
end Lt

set_option Elab.async false
set_option linter.all false
set_option maxRecDepth 100000
set_option maxHeartbeats 4000000
/-! k06: the degrees -/
namespace Lt
open PySem PySem.Spec PyProof.Rows L2 NdefX LamX LmX MaX
theorem Pl_degs {p n k : Nat} {ss : List StepT} {us : List (List Nat)} (h : us.length ≤ 1000) (hu : ∀ t ∈ us, t.length ≤ 1000) : Pl 3 (degsD p n k ss us) := by
  refine ⟨by rw [List.length_map]; exact h, fun e he => ?_⟩
  obtain ⟨t, ht, rfl⟩ := List.mem_map.mp he
  refine ⟨by show 2 ≤ 1000; decide, fun e he => ?_⟩
  simp only [List.mem_cons, List.not_mem_nil, or_false] at he
  rcases he with rfl | rfl
  · refine ⟨by rw [List.length_map]; exact hu t ht, fun e he => ?_⟩
    obtain ⟨k, _, rfl⟩ := List.mem_map.mp he
    exact trivial
  · unfold degD
    split
    · exact trivial
    · exact trivial
/-- all that the law calls -/
structure LawHas (P : Program) (w : World) (K : PySem.W.Frag) (mg : Str → Option Value) (base : Heap) (TS : List (Addr × Str)) (CR CN CT CK CP : Addr) : Prop where
  bi : Bi mg
  h6 : Has6 P w K mg base CR CN CT CK CP
  ex : Ex4 P w K mg base CR CN CT CK
  gP : mg "NotPrime" = some (.ref CP)
  pp : PySem.W.exmOne K (.ref CP) (.ref CP) = some true
  parts : Has P w K mg base CX0 6 "_law_parts" ["prime_v", "table"] (spParts TS)
  alike : ∀ k, Has P w K mg base CX0 (k + 1) "_law_alike" ["found", "due"] (spAlike k)
  taken : Has P w K mg base CX0 1 "_law_taken" ["row", "many"] (spTaken K)
  pick : Has P w K mg base CX0 2 "_law_pick" ["row", "things"] (spPick K)
  bits : Has P w K mg base CX0 1 "_law_bits" ["inputs"] spLBits
  is_ : Has P w K mg base CX0 1 "_law_is" ["found", "due"] spIs
  lock : Has P w K mg base CX0 4 "_law_lock" ["row", "kinds"] (spLock K)
  span : Has P w K mg base CX0 2 "_law_span" ["places", "given"] spSpanN
  drawn : Has P w K mg base CX0 3 "_law_drawn_row" ["row", "whole", "inputs", "most"] (spDrawn K)
  value : Has P w K mg base CX0 2 "_law_value" ["places", "steps", "bits"] spValue
def tryBody : Stmt → List Stmt
  | .Try b _ _ _ _ => b
  | _ => []
abbrev rInt1 : List V → Hp → VK → Prop := fun xs H Q => (∃ i, xs = [.int i] ∧ Q (.int i) H) ∨ ∃ k, xs = [.bl k] ∧ Q (.int (if k then 1 else 0)) H
abbrev rLenQ (K : PySem.W.Frag) : List V → Hp → VK → Prop := fun xs H Q => ∃ p ys, xs = [.ref p] ∧ (SqL K H p ys ∨ SqT K H p ys) ∧ Q (.int ys.length) H
/-- int(i == j) -/
abbrev tEqI (K : PySem.W.Frag) (i j : Nat) : TE := tCB rInt1 (tCons (tOp (rEqD K) (tVar i) (tVar j)) tNil)
abbrev tYes1 (K : PySem.W.Frag) (d i j : Nat) : TE := tThen (tLc (iList K (tVar d)) (gName i) tYes (tEqI K i j) [i]) (kTup K)
abbrev tLast (K : PySem.W.Frag) : TE := tCB (rLenQ K) (tCons (tOp (rIxT K) (tOp (rIxL K) (tVar 10) (tUn (rU fun i => .int (-i)) (tC (.int 1)))) (tC (.int 0))) tNil)
abbrev tForB (K : PySem.W.Frag) (Ts : List (Addr × Str)) : L2.TS := tSeq (tAsg (tCall (spParts Ts) [] E0 (tCons (tOp (rIxL K) (tVar 7) (tC (.int 0))) (tCons (tYes1 K 3 24 4) tNil))) (gName 10)) (tDrop (tBM K "list" rAppend (tVar 9) (tCons (tTup (tCons (tVar 4) (tCons (tLast K) tNil))) tNil)))
abbrev tSrtL (K : PySem.W.Frag) (P : Program) (w : World) (g : Nat) : TE := tCB (rSortedT K P w) (tCons (tCB (rSetFew K P w) (tCons (tVar g) tNil)) tNil)
def tDeg (P : Program) (w : World) (K : PySem.W.Frag) (Ts : List (Addr × Str)) (CR CP : Addr) (W : WX) : L2.TS :=
  tSeq (tAsg (tCallS (spDegrees CR CP) (WE W) (tCons (tVar 18) (tCons (tVar 17) (tCons (tVar 21) tNil)))) (gName 8))
  (tSeq (tIfS (tTest (tOp rNe (tCB (rLenQ K) (tCons (tVar 7) tNil)) (tC (.int 1)))) (tRet (tC (.bl false))) tNext)
  (tSeq (tAsg (tLst tNil) (gName 9))
  (tSeq (tFor (iList K (tSrtL K P w 3)) (gName 4) (tForB K Ts))
  (tIfS (tNot (tB (tCall (spAlike 3) [] E0 (tCons (tVar 8) (tCons (tThen (tVar 9) (kTup K)) tNil))))) (tRet (tC (.bl false))) tNext))))
section
variable {P : Program} {w : World} {K : PySem.W.Frag} {mg : Str → Option Value} {base : Heap} {CR CN CT CK CP c Pt : Addr}
theorem deg_body {TS : List (Addr × Str)} {f0 : Addr} {A : Around} {outer : List Env} {s0 : Shared} {H0 : Hp} {E0' : XK} (hr : Room 10 (LX P w K mg base f0 (.ref c) A outer s0 H0 E0').A) (L : LawHas P w K mg base TS CR CN CT CK CP)
    (W : WX) (pn : List (Addr × Obj)) (xe : Value → Shared → Prop) (tk : Takes ((LX P w K mg base f0 (.ref c) A outer s0 H0 E0').tr pn xe) W) (hp : PassesOwn (model P w) (LX P w K mg base f0 (.ref c) A outer s0 H0 E0').A (LX P w K mg base f0 (.ref c) A outer s0 H0 E0').env xe) :
    PSs ((LX P w K mg base f0 (.ref c) A outer s0 H0 E0').tr pn xe) (tryBody (lawS 13)) (tDeg P w K TS CR CP W) := by
  have hu := hr.units
  have B := L.bi
  have hr8 : Room 8 (LX P w K mg base f0 (.ref c) A outer s0 H0 E0').A := hr.mono (by decide)
  have hr6 : Room 6 (LX P w K mg base f0 (.ref c) A outer s0 H0 E0').A := hr.mono (by decide)
  have hr4 : Room 4 (LX P w K mg base f0 (.ref c) A outer s0 H0 E0').A := hr.mono (by decide)
  exact pss_cons (ps_set (i := 8) sc_law.nd rfl (Or.inl rfl) (pe_hasS L.h6.degrees hr8 (by rfl) (fun σ => passAt tk σ) (pa_cons (pv 18) (pa_cons (pv 17) (pa_cons (pv 21) pa_nil)))))
    (pss_cons (ps_if (pt_cmpR op_ne (pe_callB call_len_seq (by rfl) B.len PySem.boot_len (pa_cons (pv 7) pa_nil)) pe_int (nomark _)) (pss_one (ps_ret pe_bl)) pss_nil)
    (pss_cons (ps_set (i := 9) sc_law.nd rfl (Or.inl rfl) (pe_lst pa_nil))
    (pss_cons (ps_for hp rfl (pi_list (pe_callB (cr_sortedT (by rfl)) (by rfl) B.sorted PyProof.Rows.boot_sorted (pa_cons (pe_callTy (cr_setFew (by rfl) (by exact hu)) (by rfl) B.set PyProof.Rows.boot_set (pa_cons (pv 3) pa_nil)) pa_nil))) (pg_name (i := 4) sc_law.nd rfl (Or.inr rfl))
      (pss_cons (ps_set (i := 10) sc_law.nd rfl (Or.inl rfl) (pe_has L.parts hr6 (by rfl) (pa_cons (pe_ix ix_list (pv 7) pe_int (fun _ _ => rfl)) (pa_cons (pe_tupleOf (by rfl) B.tuple
        (pe_lc (own := [("other", 24)]) (g := gName 24) (te := tEqI K 24 4) (by rfl) sc_law.nd (pi_list (pv 3)) (blkOk_by (own := [("other", 24)]) (N := lawN) (sc := defScope s_law) (by decide +kernel))
          (fun _ _ _ _ _ => pg_name (i := 24) sc_law.nd rfl (Or.inl rfl)) (fun _ _ _ _ _ => pts_nil) (fun _ _ _ _ _ => pe_callTy call_int1 (by rfl) B.int PyProof.Rows.boot_int (pa_cons (pe_cmpR (by refine op_eqD ?_; exact hu) (pv 24) (pv 4) (nomark _)) pa_nil)))) pa_nil))))
      (pss_one (ps_expr (pe_bm PySem.F.plainAttrs_list PySem.F.slot_list_append PySem.F.type_list_append mt_append (pv 9) (pa_cons (pe_tup (pa_cons (pv 4) (pa_cons (pe_callB call_len_seq (by rfl) B.len PySem.boot_len (pa_cons (pe_ix ix_tup (pe_ix ix_list (pv 10) (pe_un un_neg pe_int) (fun _ _ => rfl)) pe_int (fun _ _ => rfl)) pa_nil)) pa_nil))) pa_nil))))))
    (pss_one (ps_if (pt_not (pt_val (pe_has (L.alike 3) hr4 (by rfl) (pa_cons (pv 8) (pa_cons (pe_tupleOf (by rfl) B.tuple (pv 9)) pa_nil))))) (pss_one (ps_ret pe_bl)) pss_nil)))))
end
end Lt

set_option Elab.async false
set_option linter.all false
set_option maxRecDepth 100000
set_option maxHeartbeats 4000000
/-! k06: the sizes and the degrees, read -/
namespace Lt
open PySem PySem.Spec PyProof.Rows L2 NdefX LamX LmX MaX
theorem lawP_one {m p : Nat} (h : lawP m = some p) : ([2, 3, 5, 7].filter fun p => decide (m % p = 0)) = [p] := by
  unfold lawP at h
  split at h
  · rename_i q e
    obtain rfl := Option.some.inj h
    exact e
  · cases h
theorem lawP_none {m : Nat} (h : lawP m = none) : ([2, 3, 5, 7].filter fun p => decide (m % p = 0)).length ≠ 1 := fun e => by
  unfold lawP at h
  obtain ⟨q, e⟩ := List.length_eq_one_iff.mp e
  rw [e] at h
  cases h
/-- all but what is at a, and the tables, stays -/
def Kx (a : Addr) (H H' : Hp) : Prop := ∀ b o, b ≠ a → (∀ ps, o ≠ .tbl ps) → H b = some o → H' b = some o
theorem Kx.tm {a : Addr} {H H' : Hp} {xs : List V} (s : Kx a H H') (h : H a = some (.lst xs)) : Tm H H' :=
  ⟨fun b ys e => s b _ (ne_of e h (fun z => nomatch z)) (fun _ z => nomatch z) e, fun b o ys e => s b _ (ne_of e h (fun z => nomatch z)) (fun _ z => nomatch z) e⟩
section
variable {P : Program} {w : World} {K : PySem.W.Frag} {mg : Str → Option Value} {base : Heap} {CR CN CT CK CP c Pt : Addr}
theorem law_degs {TS : List (Addr × Str)} {f0 : Addr} {A : Around} {outer : List Env} {s0 : Shared} {H0 : Hp} {E0' : XK} (hr : Room 10 (LX P w K mg base f0 (.ref c) A outer s0 H0 E0').A) (TB : TabB base mg c Pt) (hm : (Pt, q_lam) ∈ TS) (hone : ∀ p ∈ TS, p.1 = Pt → p.2 = q_lam)
    (L : LawHas P w K mg base TS CR CN CT CK CP) :
    ∃ t, PSs (LX P w K mg base f0 (.ref c) A outer s0 H0 E0') ((defBody s_law).drop 12) t ∧ ∀ (D : Ends) (H : Hp) (x0 x4 x5 x6 x7 x8 x9 x10 x11 x12 x13 x14 x15 x16 x20 x23 x24 : Option V) (r sc wp dl : Addr) (ns : List Int) (n k : Nat) (ls : List (List Nat)) (ss : List StepT) (lv sv tv : V) (u : List Nat) (ws ds : List V),
      MidAt K H r sc ns n k ls ss lv sv tv u → H wp = some (.lst ws) → ws.length = (LL ls n).length → (LL ls n).length ≤ 60 → H dl = some (.lst ds) → Paired (TK H) ds (valsK n k ss) → Tabs TS H → (∀ H', D.rt (.bl true) H') →
      t D [x0, some (.ref r), some (.ref wp), some (.ref dl), x4, x5, x6, x7, x8, x9, x10, x11, x12, x13, x14, x15, x16, some (nI k), some lv, some (nI n), x20, some sv, some tv, x23, x24] H := by
  have hu := hr.units
  have B := L.bi
  obtain ⟨tt, ht, qt⟩ := law_lams (outer := outer) (s0 := s0) (H0 := H0) (E0' := E0') hr B TB hm hone L.h6 L.ex L.taken L.pick
  refine ⟨_, pss_cons (ps_setLc (i := 7) (own := [("one", 4)]) (g := gName 4) (te := tVar 4) (tt := tTest (tOp rEq (tOp (fun x y H Q => ∃ n m : Nat, x = .int (n : Int) ∧ y = .int (m : Int) ∧ 1 ≤ m ∧ Q (.int ((n % m : Nat) : Int)) H) (tCB (Evl.rLenS K) (tCons (tVar 2) tNil)) (tVar 4)) (tC (.int 0)))) (by rfl) sc_law.nd rfl rfl (sw_true rfl rfl rfl (by decide +kernel))
      (pi_list (pe_lst (pa_cons pe_int (pa_cons pe_int (pa_cons pe_int (pa_cons pe_int pa_nil)))))) (blkOk_by (own := [("one", 4)]) (N := lawN) (sc := defScope s_law) (by decide +kernel))
      (fun _ _ _ _ _ => pg_name (i := 4) sc_law.nd rfl (Or.inl rfl))
      (fun _ _ _ _ _ => pts_one (pt_cmpR op_eq (by exact pe_op op_modNN (pe_callB call_len_seq (by rfl) B.len PySem.boot_len (pa_cons (pv 2) pa_nil)) (pv 4)) pe_int (nomark _)))
      (fun _ _ _ _ _ => pv 4))
    (pss_cons (ps_try_as (i := 11) (tb := fun W => tDeg P w K TS CR CP W) (ts := fun a cls d => tIfS (tTest (tOp rEq (tCB (rLenQ K) (tCons (tVar 7) tNil)) (tC (.int 1)))) (tRet (tC (.bl false))) tNext) (Wout := fun _ _ _ _ => False) rfl rfl sc_law.nd rfl rfl ⟨rfl, by decide, Or.inl L.gP⟩ L2.takes0
        (fun W pn xe tk hp => deg_body hr L W pn xe tk hp)
        (fun a oe cls d pn hz hf => pss_one (ps_if (by exact (pt_cmpR op_eq (pe_callB call_len_seq (by rfl) B.len PySem.boot_len (pa_cons (pv 7) pa_nil)) pe_int (nomark _))) (pss_one (ps_ret pe_bl)) pss_nil)))
    ht), ?_⟩
  intro D H x0 x4 x5 x6 x7 x8 x9 x10 x11 x12 x13 x14 x15 x16 x20 x23 x24 r sc wp dl ns n k ls ss lv sv tv u ws ds F hwp hwl h60 hdl pds hTb q
  generalize hm0 : (LL ls n).length = m at *
  refine ⟨Nat.le_of_ble_eq_true rfl, fun pl hpl => ?_⟩
  have s1 := same_new (o := .lst [V.int 2, V.int 3, V.int 5, V.int 7]) hpl
  refine ⟨pl, rfl, ⟨_, SqL.of upd_same⟩, fun D1 hD => ?_⟩
  refine lc_list (K := K) (a := pl) (xs := [2, 3, 5, 7].map nI) (fun i H' => Same (upd H pl (.lst [V.int 2, V.int 3, V.int 5, V.int 7])) H' ∧ H' D1 = some (.lst ((([2, 3, 5, 7].take i).filter fun p => decide (m % p = 0)).map nI)))
    ⟨same_new hD, upd_same⟩ (fun i H' _ h => SqL.of (h.1 _ _ upd_same)) ?_ ?_
  · rintro i x H' hi ⟨sm, hD1⟩
    rw [List.getElem?_map] at hi
    obtain ⟨p, hp, rfl⟩ := Option.map_eq_some_iff.mp hi
    have hp1 : 1 ≤ p := by
      have z : ∀ p ∈ [2, 3, 5, 7], 1 ≤ p := by decide
      exact z p (List.mem_of_getElem? hp)
    have et : (([2, 3, 5, 7].take (i + 1)).filter fun p => decide (m % p = 0)) = (([2, 3, 5, 7].take i).filter fun p => decide (m % p = 0)) ++ if m % p = 0 then [p] else [] := by
      rw [List.take_add_one, hp, List.filter_append]
      congr 1
      show List.filter (fun p => decide (m % p = 0)) [p] = _
      by_cases c : m % p = 0
      · rw [List.filter_cons, if_pos (by simpa using c), if_pos c, List.filter_nil]
      · rw [List.filter_cons, if_neg (by simpa using c), if_neg c, List.filter_nil]
    have hil : i < 4 := (List.getElem?_eq_some_iff.mp hp).1
    refine ⟨rfl, _, rfl, wp, ws, rfl, .inl (SqL.of (sm _ _ (s1 _ _ hwp))), _, rfl, m, p, by rw [hwl], rfl, hp1, rfl, decide (m % p = 0), congrArg V.bl (dec_zero _), ?_⟩
    by_cases c : m % p = 0
    · rw [decide_eq_true c]
      rw [if_pos c] at et
      refine iteT ⟨_, rfl, _, hD1, ?_, same_mut sm hD, ?_⟩
      · rw [sizeLine_eq, List.length_map]
        have := List.length_filter_le (fun p => decide (m % p = 0)) ([2, 3, 5, 7].take i)
        rw [List.length_take] at this
        omega
      · rw [upd_same, et, List.map_append]
        rfl
    · rw [decide_eq_false c]
      rw [if_neg c, List.append_nil] at et
      exact iteF ⟨sm, by rw [et]; exact hD1⟩
  rintro H2 ⟨sm, hD2⟩
  rw [show ([2, 3, 5, 7].map nI).length = 4 from rfl, show [2, 3, 5, 7].take 4 = [2, 3, 5, 7] from rfl] at hD2
  have s2 := s1.trans sm
  have F2 := F.ext (extN_of s2)
  have T2 := hTb.ext s2
  have hwp2 := s2 _ _ hwp
  have hdl2 := s2 _ _ hdl
  have pds2 : Paired (TK H2) ds (valsK n k ss) := paired_mono (fun _ _ r => TK.tm (.of s2) r) pds
  have k1 := F.k1
  have k4 := F.k4
  refine ⟨_, rfl, _, rfl, _, rfl, lv, sv, ls, n, k, rfl, F2.good, by rw [hm0]; exact h60, k1, by omega, .inl ⟨ss, F2.rw_, F2.ok, fun hnone H3 s3 => ?_, fun p hp told H3 us s3 sr dg => ?_⟩⟩
  · -- raised
    refine ⟨true, L.pp, fun _ a ha => ?_, fun q => (by cases q)⟩
    rw [hm0] at hnone
    have hne := lawP_none hnone
    refine ⟨_, rfl, D1, _, rfl, .inl (SqL.of (s3 _ _ hD2)), rfl, false, congrArg V.bl (decide_eq_false fun z => hne ?_), iteF ?_⟩
    · injection z with z
      rw [List.length_map] at z
      exact Int.ofNat.inj z
    · exact qt D H3 _ _ _ _ _ _ _ _ _ _ _ _ _ _ _ _ _ _ _ r sc ns n k ls ss lv sv tv u (F2.ext (extN_of s3)) (T2.ext s3) q
  · rw [hm0] at hp
    have eF := lawP_one hp
    have pp := lawP_in hp
    rw [eF] at hD2
    have nt : ∀ {xs : List V}, ∀ ps, HO.lst xs ≠ .tbl ps := fun _ z => nomatch z
    have F3 := F2.ext (extN_of s3)
    have T3 := T2.ext s3
    have hdl3 := s3 _ _ hdl2
    have hD3 := s3 _ _ hD2
    have pds3 : Paired (TK H3) ds (valsK n k ss) := paired_mono (fun _ _ r => TK.tm (.of s3) r) pds2
    refine ⟨_, rfl, D1, _, rfl, .inl (SqL.of hD3), rfl, false, congrArg (fun b => V.bl (!b)) (decide_eq_true rfl), iteF ⟨Nat.zero_le _, fun rl hrl => ?_⟩⟩
    have s4 := same_new (o := .lst []) hrl
    have r9 := F3.row
    have F4 := F3.ext (extN_of s4)
    have T4 := T3.ext s4
    have hdl4 := s4 _ _ hdl3
    have hD4 := s4 _ _ hD3
    have pds4 : Paired (TK (upd H3 rl (.lst []))) ds (valsK n k ss) := paired_mono (fun _ _ r => TK.tm (.of s4) r) pds3
    have dg4 := dg.tm (.of s4)
    have krl : (upd H3 rl (.lst [])) rl = some (.lst []) := upd_same
    have ndr : dl ≠ rl := ne_of_none hdl3 hrl
    have nDr : D1 ≠ rl := ne_of_none hD3 hrl
    generalize upd H3 rl (.lst []) = H4 at *
    have g4 := F4.good
    have n1 := g4.gl.2.2.1
    have n9 := g4.gl.2.2.2.1
    have lds := Paired.length pds4
    rw [valsK_len] at lds
    have h64 := pow6 (show k ≤ 6 by omega)
    have hvM : ∀ t ∈ valsK n k ss, Mk ls n t := fun t ht => by
      obtain ⟨i, _, rfl⟩ := List.mem_map.mp ht
      exact valK_mk g4.gl.2.2.2.2 F4.ok.ok i
    obtain ⟨ks, e1, sq, few, tail⟩ := srt_tail (P := P) (w := w) (K := K) (n := n) pds4 (fun t ht => g4.isP (hvM t ht)) (by omega) n9 (fun vs nd hvs => by
      have := nodup_len vs ((LL ls n).map (·.1)) nd fun v hv => (g4.mem v).mpr (hvM v (hvs v hv))
      rw [List.length_map] at this
      omega)
    refine ⟨_, rfl, dl, ks, rfl, SqL.of (by rw [hdl4, e1]), sq, few, fun a0 L0 ha0 h1 h2 => ?_⟩
    dsimp only [tNil]
    refine tail a0 L0 ha0 h1 h2 _ fun sp H5 us2 s5 ⟨zs, hsp, pz⟩ sr2 => ?_
    have eus : us2 = us := Srt.one n9 (fun t ht => g4.isP (hvM t ht)) sr2 sr
    subst eus
    have us62 : us2.length ≤ 62 := by
      have := nodup_len us2 ((LL ls n).map (·.1)) sr.nd fun u hu => (g4.mem u).mpr (hvM u ((sr.mem u).mp hu))
      rw [List.length_map] at this
      omega
    have F5 := F4.ext (extN_of s5)
    have T5 := T4.ext s5
    have hdl5 := s5 _ _ hdl4
    have hD5 := s5 _ _ hD4
    have krl5 := s5 _ _ krl
    have pds5 : Paired (TK H5) ds (valsK n k ss) := paired_mono (fun _ _ r => TK.tm (.of s5) r) pds4
    have dg5 := dg4.tm (.of s5)
    have nsr : sp ≠ rl := fun z => by
      rw [z, krl5] at hsp
      injection hsp with hsp
      injection hsp with hsp
      subst hsp
      cases pz
      have : valK n ss 0 ∈ ([] : List (List Nat)) := (sr.mem _).mpr (List.mem_map.mpr ⟨0, List.mem_range.mpr (Nat.two_pow_pos k), rfl⟩)
      cases this
    refine ⟨sp, rfl, ⟨zs, SqL.of hsp⟩, for_list (K := K) (g := gName 4) (tb := tForB K TS) (D := ⟨_, D.rt, D.bk, D.ct⟩) (a := sp) (xs := zs) (fun i σ H' => ∃ y4 y10, σ = [x0, some (.ref r), some (.ref wp), some (.ref dl), y4, x5, x6, some (.ref D1), some told, some (.ref rl), y10, x11, x12, x13, x14, x15, x16, some (nI k), some lv, some (nI n), x20, some sv, some tv, x23, x24] ∧ Kx rl H5 H' ∧ Tabs TS H' ∧ RowAt K H' r sc ns ∧ ∃ rs, H' rl = some (.lst rs) ∧ Paired (DgAt p n k ss H') rs (us2.take i))
      ⟨x4, x10, rfl, fun _ _ _ _ h => h, T5, F5.row, [], krl5, .nil⟩ (fun i σ H' _ ⟨_, _, _, kx, _⟩ => SqL.of (kx _ _ nsr nt hsp)) ?_ ?_⟩
    · rintro i x σ H' hi ⟨y4, y10, rfl, kx, T', ra', rs, hrs, prs⟩
      obtain ⟨t, ht, rx⟩ := Paired.getL pz hi
      have tm' := kx.tm krl5
      have hdl' := kx _ _ ndr nt hdl5
      have hD' := kx _ _ nDr nt hD5
      have pds' : Paired (TK H') ds (valsK n k ss) := paired_mono (fun _ _ r => TK.tm tm' r) pds5
      have rx' := rx.tm tm'
      have tmem : t ∈ valsK n k ss := (sr.mem t).mp (List.mem_of_getElem? ht)
      have tskt : Tsk p k (yesT (valsK n k ss) t) := yesT_tsk pp k1 (by omega)
      refine ⟨_, rfl, D1, _, 0, nI p, rfl, rfl, SqL.of hD', rfl, _, rfl, dl, rfl, ⟨_, SqL.of hdl'⟩, fun D5 hD5' => ?_⟩
      refine lc_listM (K := K) (j := 24) (xs := ds) RN (yesT (valsK n k ss) t) (fun _ _ _ _ _ r => r) (fun H6 s6 => SqL.of (s6 _ _ hdl')) (by omega) (by rw [tskt.len, lds]) hD5' (fun x => rfl) (fun j y b hy hb H6 s6 Q6 q6 => ?_) (fun H6 ys s6 hys pys => ?_)
      · obtain ⟨o, ho, ro⟩ := Paired.getL pds' hy
        have eb : b = if o = t then 1 else 0 := by
          unfold yesT at hb
          rw [List.getElem?_map, ho] at hb
          exact (Option.some.inj hb).symm
        subst eb
        refine ⟨_, rfl, _, rfl, dT o, dT t, (ro.tm (.of s6)).tn.dp, (rx'.tm (.of s6)).tn.dp, sh_T _, sh_T _, .inr ⟨decide (o = t), by rw [eqv_dT], ?_⟩⟩
        by_cases e : o = t
        · rw [decide_eq_true e]
          rw [if_pos e] at q6
          exact q6 _ _ (Same.refl _) rfl
        · rw [decide_eq_false e]
          rw [if_neg e] at q6
          exact q6 _ _ (Same.refl _) rfl
      refine .inl ⟨D5, ys, rfl, SqL.of hys, fun tp htp => ?_⟩
      have s7 := same_new (o := .tup ys) htp
      have s67 := s6.trans s7
      have ktp : TK (upd H6 tp (.tup ys)) (.ref tp) (yesT (valsK n k ss) t) := tn_of upd_same (RN.all pys)
      refine ⟨p, _, k, .ref tp, rfl, tskt, ktp, T'.ext s67, fun l H8 e8 T8 ⟨zp, hl, pzp⟩ => ?_⟩
      have e08 : ExtN H' H8 := (extN_of s67).trans e8
      have hrs8 := e08 _ _ hrs nt
      have ra8 := ra'.extN e08
      have tm8 := extN_tm e08
      have rx8 := rx'.tm tm8
      have hne : polyL p k (yesT (valsK n k ss) t) ≠ [] := polyL_ne tskt (List.mem_map.mpr ⟨t, tmem, if_pos rfl⟩)
      obtain ⟨pre, tl, et⟩ := lapp _ hne
      rw [et] at pzp
      obtain ⟨zq, z, rfl, b, pt2, rfl, hb, hpt2⟩ := pend pzp
      refine ⟨_, rfl, .inl ⟨rfl, _, SqL.of hrs8⟩, _, rfl, _, rfl, 1, rfl, l, _, -1, _, rfl, rfl, SqL.of hl, at_end zq _, b, _, 0, .ref pt2, rfl, rfl, SqT.of hb, rfl, pt2, nIs (insOf tl), rfl, .inr (SqT.of hpt2), by show 2 ≤ sizeLine; decide, fun wp2 hwp2 => ?_⟩
      have s9 := same_new (o := .tup [x, V.int ((nIs (insOf tl)).length : Nat)]) hwp2
      have hrs9 := s9 _ _ hrs8
      have lrs := Paired.length prs
      have hi62 : i < 62 := by have := (List.getElem?_eq_some_iff.mp ht).1; omega
      refine ⟨rl, rs, .ref wp2, rfl, rfl, hrs9, by rw [lrs, List.length_take, sizeLine_eq]; omega, ?_⟩
      have st : StepR rl (upd H8 wp2 (.tup [x, V.int ((nIs (insOf tl)).length : Nat)])) (upd (upd H8 wp2 (.tup [x, V.int ((nIs (insOf tl)).length : Nat)])) rl (.lst (rs ++ [.ref wp2]))) := StepR.put _ _ _
      have tm9 : Tm (upd H8 wp2 (.tup [x, V.int ((nIs (insOf tl)).length : Nat)])) (upd (upd H8 wp2 (.tup [x, V.int ((nIs (insOf tl)).length : Nat)])) rl (.lst (rs ++ [.ref wp2]))) := Tm.lst (o := .lst (rs ++ [.ref wp2])) hrs9
      refine ⟨_, _, rfl, fun b' o nb no h => ?_, ?_, r9.far' hrl (ra8.step s9) st, _, upd_same, ?_⟩
      · exact (upd_ne nb).trans (s9 _ _ (e08 _ _ (kx _ _ nb no h) no))
      · intro pq hpq
        obtain ⟨ps, g1, g2, g3⟩ := (T8.ext s9) pq hpq
        refine ⟨ps, st _ _ (ne_of g1 hrs9 (fun z => nomatch z)) g1, g2, fun pos cv hc => ?_⟩
        obtain ⟨c, e1, e2⟩ := g3 pos cv hc
        exact ⟨c, e1, st _ _ (ne_of e2 hrs9 (codeO_is.1 _)) e2⟩
      · rw [List.take_add_one, ht]
        refine Paired.app (paired_mono (fun _ _ r => r.tm ((tm8.trans (.of s9)).trans tm9)) prs) (Paired.one ⟨wp2, x, rfl, tm9.1 _ _ ?_, rx8.tm ((Tm.of s9).trans tm9)⟩)
        rw [upd_same, degV_last (by omega) et, nIs_len]
        rfl
    · rintro σ H' ⟨y4, y10, rfl, kx, T', ra', rs, hrs, prs⟩
      rw [Paired.length pz, List.take_length] at prs
      have tm' := kx.tm krl5
      refine ⟨_, rfl, _, rfl, .inl ⟨rl, rs, rfl, SqL.of hrs, fun tp htp => ?_⟩⟩
      have s6 := same_new (o := .tup rs) htp
      have dg' : DgT p n k ss (upd H' tp (.tup rs)) (.ref tp) us2 := ⟨tp, rs, rfl, upd_same, paired_mono (fun _ _ r => r.tm (.of s6)) prs⟩
      refine ⟨told, .ref tp, degsD p n k ss us2, rfl, ((dg5.tm tm').tm (.of s6)).rp, dg'.rp, Pl_degs (by omega) (fun t ht => ?_), fun H9 s9 => ⟨true, rfl, iteF ?_⟩⟩
      · rw [(g4.isP (hvM t ((sr.mem t).mp ht))).len]
        omega
      have s69 := s6.trans s9
      refine qt D H9 _ _ _ _ _ _ _ _ _ _ _ _ _ _ _ _ _ _ _ r sc ns n k ls ss lv sv tv u ?_ (T'.ext s69) q
      have tm9 := tm'.trans (.of s69)
      exact { F5 with row := ra'.step s69, good := F5.good.tm tm9, rw_ := F5.rw_.tm tm9, tk := F5.tk.tm tm9 }
end
end Lt

set_option Elab.async false
set_option linter.all false
set_option maxRecDepth 100000
set_option maxHeartbeats 4000000
/-! k06: the tables -/
namespace Lt
open PySem PySem.Spec PyProof.Rows L2 NdefX LamX LmX MaX
theorem Pl_TT {ts : List (List Nat)} (h : ts.length ≤ 1000) (hu : ∀ t ∈ ts, t.length ≤ 1000) : Pl 3 (.tuple (ts.map dT)) := by
  refine ⟨by rw [List.length_map]; exact h, fun e he => ?_⟩
  obtain ⟨t, ht, rfl⟩ := List.mem_map.mp he
  refine ⟨by rw [List.length_map]; exact hu t ht, fun e he => ?_⟩
  obtain ⟨k, _, rfl⟩ := List.mem_map.mp he
  exact trivial
/-- what the first draws have left -/
structure DrawAt (K : PySem.W.Frag) (H : Hp) (r sc wp dl : Addr) (ns : List Int) (n k : Nat) (ls : List (List Nat)) (ss : List StepT) (lv sv : V) (ts : List (List Nat)) : Prop where
  row : RowAt K H r sc ns
  good : Good H lv ls n
  l60 : (LL ls n).length ≤ 60
  k1 : 1 ≤ k
  k4 : k ≤ 4
  rw_ : RwK H sv ss
  ok : RowOk ls n k ss
  s8 : ss.length ≤ 8
  wh : LTK H wp ts
  wl : ts.length = (LL ls n).length
  wm : ∀ t ∈ ts, Mk ls n t
  du : LTK H dl (valsK n k ss)
  nwr : wp ≠ r
  ndr : dl ≠ r
theorem LTK.step {K : PySem.W.Frag} {H H' : Hp} {r sc a : Addr} {ns : List Int} {ts : List (List Nat)} (h : LTK H a ts) (n : a ≠ r) (ra : RowAt K H r sc ns) (s : StepR r H H') : LTK H' a ts := let ⟨xs, h1, h2⟩ := h; ⟨xs, s _ _ n h1, paired_mono (fun _ _ q => TK.tm (s.tm ra) q) h2⟩
theorem LTK.same {H H' : Hp} {a : Addr} {ts : List (List Nat)} (h : LTK H a ts) (s : Same H H') : LTK H' a ts := let ⟨xs, h1, h2⟩ := h; ⟨xs, s _ _ h1, paired_mono (fun _ _ q => TK.tm (.of s) q) h2⟩
section
variable {K : PySem.W.Frag} {H H' : Hp} {r sc wp dl : Addr} {ns : List Int} {n k : Nat} {ls : List (List Nat)} {ss : List StepT} {lv sv : V} {ts : List (List Nat)}
theorem DrawAt.same (F : DrawAt K H r sc wp dl ns n k ls ss lv sv ts) (s : Same H H') : DrawAt K H' r sc wp dl ns n k ls ss lv sv ts :=
  { F with row := F.row.step s, good := F.good.same s, rw_ := F.rw_.tm (.of s), wh := F.wh.same s, du := F.du.same s }
theorem DrawAt.step (F : DrawAt K H r sc wp dl ns n k ls ss lv sv ts) (s : StepR r H H') (ra : RowAt K H' r sc ns) : DrawAt K H' r sc wp dl ns n k ls ss lv sv ts :=
  { F with row := ra, good := F.good.tm (s.tm F.row), rw_ := F.rw_.tm (s.tm F.row), wh := F.wh.step F.nwr F.row s, du := F.du.step F.ndr F.row s }
end
section
variable {P : Program} {w : World} {K : PySem.W.Frag} {mg : Str → Option Value} {base : Heap} {CR CN CT CK CP c Pt : Addr}
/-- tuple([int(x == one) for x in list]), read -/
theorem yes1_read {σ : L2.St} {d i j : Nat} {dl : Addr} {ts : List (List Nat)} {t : List Nat} {v : V} {H : Hp} {Q : VK} (hij : i ≠ j) (hσd : σ[d]? = some (some (.ref dl))) (hi : i < σ.length) (hσj : σ[j]? = some (some v)) (hw : ∀ x, wipe ((wipe σ [i]).set i (some x)) [i] = wipe σ [i])
    (hd : LTK H dl ts) (hl : ts.length ≤ 1000) (ht : TN H v t) (q : ∀ p H', Same H H' → TK H' (.ref p) (yesT ts t) → Q (.ref p) H') : tYes1 K d i j σ H Q := by
  obtain ⟨xs, hx, px⟩ := hd
  have lx := Paired.length px
  have hji : (wipe σ [i])[j]? = some (some v) := by
    show (σ.set i none)[j]? = _
    rw [List.getElem?_set_ne hij]
    exact hσj
  refine ⟨_, hσd, dl, rfl, ⟨_, SqL.of hx⟩, fun D hD => ?_⟩
  refine lc_listM (K := K) (j := i) (xs := xs) RN (yesT ts t) (fun _ _ _ _ _ r => r) (fun H6 s6 => SqL.of (s6 _ _ hx)) (by omega) (by unfold yesT; rw [List.length_map, lx]) hD hw (fun m y b hy hb H6 s6 Q6 q6 => ?_) (fun H6 ys s6 hys pys => ?_)
  · obtain ⟨o, ho, ro⟩ := Paired.getL px hy
    have eb : b = if o = t then 1 else 0 := by
      unfold yesT at hb
      rw [List.getElem?_map, ho] at hb
      exact (Option.some.inj hb).symm
    subst eb
    refine ⟨y, ?_, v, ?_, dT o, dT t, (ro.tm (.of s6)).tn.dp, (ht.tm (.of s6)).dp, sh_T _, sh_T _, .inr ⟨decide (o = t), by rw [eqv_dT], ?_⟩⟩
    · rw [List.getElem?_set_self (by show i < (σ.set i none).length; rw [List.length_set]; exact hi)]
    · rw [List.getElem?_set_ne hij]
      exact hji
    · by_cases e : o = t
      · rw [decide_eq_true e]
        rw [if_pos e] at q6
        exact q6 _ _ (Same.refl _) rfl
      · rw [decide_eq_false e]
        rw [if_neg e] at q6
        exact q6 _ _ (Same.refl _) rfl
  · exact .inl ⟨D, ys, rfl, SqL.of hys, fun tp htp => q tp _ (s6.trans (same_new htp)) (tn_of upd_same (RN.all pys))⟩
theorem law_tabs {TS : List (Addr × Str)} {f0 : Addr} {A : Around} {outer : List Env} {s0 : Shared} {H0 : Hp} {E0' : XK} (hr : Room 10 (LX P w K mg base f0 (.ref c) A outer s0 H0 E0').A) (TB : TabB base mg c Pt) (hm : (Pt, q_lam) ∈ TS) (hone : ∀ p ∈ TS, p.1 = Pt → p.2 = q_lam)
    (L : LawHas P w K mg base TS CR CN CT CK CP) :
    ∃ t, PSs (LX P w K mg base f0 (.ref c) A outer s0 H0 E0') ((defBody s_law).drop 6) t ∧ ∀ (D : Ends) (H : Hp) (x0 x4 x5 x6 x7 x8 x9 x10 x11 x12 x13 x14 x15 x16 x20 x22 x23 x24 : Option V) (r sc wp dl : Addr) (ns : List Int) (n k : Nat) (ls : List (List Nat)) (ss : List StepT) (lv sv : V) (ts : List (List Nat)),
      DrawAt K H r sc wp dl ns n k ls ss lv sv ts → Tabs TS H → (∀ H', D.rt (.bl true) H') →
      t D [x0, some (.ref r), some (.ref wp), some (.ref dl), x4, x5, x6, x7, x8, x9, x10, x11, x12, x13, x14, x15, x16, some (nI k), some lv, some (nI n), x20, some sv, x22, x23, x24] H := by
  have hu := hr.units
  have B := L.bi
  have hr1 : Room 1 (LX P w K mg base f0 (.ref c) A outer s0 H0 E0').A := hr.mono (by decide)
  have hr2 : Room 2 (LX P w K mg base f0 (.ref c) A outer s0 H0 E0').A := hr.mono (by decide)
  have hr4 : Room 4 (LX P w K mg base f0 (.ref c) A outer s0 H0 E0').A := hr.mono (by decide)
  have hr6 : Room 6 (LX P w K mg base f0 (.ref c) A outer s0 H0 E0').A := hr.mono (by decide)
  obtain ⟨tt, ht, qt⟩ := law_degs (outer := outer) (s0 := s0) (H0 := H0) (E0' := E0') hr TB hm hone L
  refine ⟨_, pss_cons (ps_set (i := 22) sc_law.nd rfl (Or.inr rfl) (pe_has L.pick hr2 (by rfl) (pa_cons (pv 1) (pa_cons (pe_lst (pa_cons (pe_has L.pick hr2 (by rfl) (pa_cons (pv 1) (pa_cons (pv 2) pa_nil))) (pa_cons (pe_has L.pick hr2 (by rfl) (pa_cons (pv 1) (pa_cons (pv 3) pa_nil))) pa_nil))) pa_nil))))
    (pss_cons (ps_set (i := 5) sc_law.nd rfl (Or.inl rfl) (pe_tupleOf (by rfl) B.tuple
        (pe_lc (own := [("one", 4)]) (g := gName 4) (te := tEqI K 4 22) (by rfl) sc_law.nd (pi_list (pv 3)) (blkOk_by (own := [("one", 4)]) (N := lawN) (sc := defScope s_law) (by decide +kernel))
          (fun _ _ _ _ _ => pg_name (i := 4) sc_law.nd rfl (Or.inl rfl)) (fun _ _ _ _ _ => pts_nil) (fun _ _ _ _ _ => pe_callTy call_int1 (by rfl) B.int PyProof.Rows.boot_int (pa_cons (pe_cmpR (by refine op_eqD ?_; exact hu) (pv 4) (pv 22) (nomark _)) pa_nil)))))
    (pss_cons (ps_if (pt_not (pt_val (pe_has (L.alike 3) hr4 (by rfl) (pa_cons (pe_hasL L.h6.worths hr6 (by rfl) (pa_cons (pv 18) (pa_cons (pv 17) (pa_cons (pv 21) pa_nil)))) (pa_cons (pe_tupleOf (by rfl) B.tuple (pv 3)) pa_nil))))) (pss_one (ps_ret pe_bl)) pss_nil)
    (pss_cons (ps_if (pt_not (pt_val (pe_has (L.alike 3) hr4 (by rfl) (pa_cons (pe_hasL L.h6.written hr6 (by rfl) (pa_cons (pv 18) (pa_cons (pv 17) (pa_cons (pv 21) (pa_cons (pv 22) pa_nil))))) (pa_cons (pv 5) pa_nil))))) (pss_one (ps_ret pe_bl)) pss_nil)
    (pss_cons (ps_set (i := 6) sc_law.nd rfl (Or.inl rfl) (pe_has L.pick hr2 (by rfl) (pa_cons (pv 1) (pa_cons (pe_lst (pa_cons (pv 5) (pa_cons (pe_tupleOf (by rfl) B.tuple
        (pe_lc (own := [("one", 4)]) (g := gName 4) (te := tCall (spTaken K) [] E0 (tCons (tVar 1) (tCons (tC (.int 2)) tNil))) (by rfl) sc_law.nd (pi_list (pv 3)) (blkOk_by (own := [("one", 4)]) (N := lawN) (sc := defScope s_law) (by decide +kernel))
          (fun _ _ _ _ _ => pg_name (i := 4) sc_law.nd rfl (Or.inl rfl)) (fun _ _ _ _ _ => pts_nil) (fun _ _ _ _ _ => pe_has L.taken hr1 (by rfl) (pa_cons (pv 1) (pa_cons pe_int pa_nil))))) pa_nil))) pa_nil))))
    (pss_cons (ps_if (pt_not (pt_val (pe_has L.is_ hr1 (by rfl) (pa_cons (pe_hasL L.h6.writes hr6 (by rfl) (pa_cons (pv 18) (pa_cons (pv 6) (pa_cons (pv 21) (pa_cons (pv 22) pa_nil))))) (pa_cons (pe_cmpR (op_eqD hu) (pv 6) (pv 5) (nomark _)) pa_nil))))) (pss_one (ps_ret pe_bl)) pss_nil)
    ht))))), ?_⟩
  intro D H x0 x4 x5 x6 x7 x8 x9 x10 x11 x12 x13 x14 x15 x16 x20 x22 x23 x24 r sc wp dl ns n k ls ss lv sv ts F hTb q
  have k1 := F.k1
  have k4 := F.k4
  have h64 := pow6 (show k ≤ 6 by omega)
  have n2 := F.good.gl.2.2.1
  have n9 := F.good.gl.2.2.2.1
  have hvM : ∀ t ∈ valsK n k ss, Mk ls n t := fun t ht => by
    obtain ⟨i, _, rfl⟩ := List.mem_map.mp ht
    exact valK_mk F.good.gl.2.2.2.2 F.ok.ok i
  have wl1 : 1 ≤ (LL ls n).length := by
    have := List.length_pos_of_mem ((F.good.mem _).mpr .still)
    rwa [List.length_map] at this
  obtain ⟨ws, hws, pws⟩ := id F.wh
  have lws := Paired.length pws
  have wl := F.wl
  have l60 := F.l60
  refine ⟨_, rfl, _, rfl, _, rfl, r, wp, sc, ns, ws, rfl, F.row, hws, F.nwr, by omega, by omega, fun x H1 hx st1 ra1 => ?_⟩
  have F1 := F.step st1 ra1
  obtain ⟨ds, hds, pds⟩ := id F1.du
  have lds := Paired.length pds
  rw [valsK_len] at lds
  have p2k := Nat.two_pow_pos k
  refine ⟨_, rfl, _, rfl, r, dl, sc, ns, ds, rfl, ra1, hds, F.ndr, by omega, by omega, fun y H2 hy st2 ra2 => ⟨by show 2 ≤ sizeLine; decide, fun l hl => ?_⟩⟩
  have F2 := F1.step st2 ra2
  have T2 := Tabs.rowX F1.row st2 (Tabs.rowX F.row st1 hTb)
  have sl := same_new (o := .lst [x, y]) hl
  have nlr : l ≠ r := (ra2.ne hl).symm
  have F3 := F2.same sl
  have T3 := T2.ext sl
  refine ⟨r, l, sc, ns, [x, y], rfl, F3.row, upd_same, nlr, by show 1 ≤ 2; decide, by show 2 ≤ 1000; decide, fun tv H4 htv st4 ra4 => ?_⟩
  have F4 := F3.step st4 ra4
  have T4 := Tabs.rowX F3.row st4 T3
  obtain ⟨u, tku, mu⟩ : ∃ u, TK H4 tv u ∧ Mk ls n u := by
    simp only [List.mem_cons, List.not_mem_nil, or_false] at htv
    have tm := (Tm.of sl).trans (st4.tm F3.row)
    rcases htv with rfl | rfl
    · obtain ⟨t, ht, rt⟩ := pmem pws hx
      exact ⟨t, (rt.tm ((st1.tm F.row).trans (st2.tm F1.row))).tm tm, F.wm t ht⟩
    · obtain ⟨t, ht, rt⟩ := pmem pds hy
      exact ⟨t, (rt.tm (st2.tm F1.row)).tm tm, hvM t ht⟩
  have tskP : ∀ p ∈ primes, Tsk p k (yesT (valsK n k ss) u) := fun p hp => yesT_tsk hp k1 (by omega)
  have tsk2 := tskP 2 (by decide)
  refine yes1_read (ts := valsK n k ss) (t := u) (v := tv) (by decide) rfl (by show 4 < 25; decide) rfl (fun x => rfl) F4.du (by rw [valsK_len]; omega) tku.tn fun tp H5 s5 ktp => ?_
  have F5 := F4.same s5
  have T5 := T4.ext s5
  have tku5 := tku.tm (.of s5)
  refine ⟨_, rfl, _, rfl, _, rfl, lv, nI k, sv, ls, n, rfl, F5.good, .inr ⟨k, rfl, k1, by omega, .inl ⟨ss, F5.rw_, F5.ok, fun w1 H6 s6 tt1 => ?_⟩⟩⟩
  have F6 := F5.same s6
  obtain ⟨ds6, hds6, pds6⟩ := id F6.du
  refine ⟨_, rfl, .inl ⟨dl, ds6, rfl, SqL.of hds6, fun dp hdp => ?_⟩⟩
  have s7 := same_new (o := .tup ds6) hdp
  refine ⟨w1, .ref dp, .tuple ((valsK n k ss).map dT), rfl, (tt1.tt.tm (.of s7)).rp, TT.rp ⟨dp, ds6, rfl, upd_same, paired_mono (fun _ _ q => (TK.tm (.of s7) q).tn) pds6⟩, Pl_TT (by rw [valsK_len]; omega) (fun t ht => by rw [(F.good.isP (hvM t ht)).len]; omega), fun H8 s8 => ⟨true, rfl, iteF ?_⟩⟩
  have s58 := s6.trans (s7.trans s8)
  have F8 := F5.same s58
  have T8 := T5.ext s58
  have tku8 := tku5.tm (.of s58)
  have ktp8 := ktp.tm (.of s58)
  refine ⟨_, rfl, _, rfl, _, rfl, _, rfl, lv, sv, tv, ls, n, k, rfl, F8.good, k1, by omega, .inl ⟨ss, F8.rw_, F8.ok, .inl ⟨u, tku8.tn, mu, fun r2 H9 s9 tk9 => ⟨_, rfl, r2, .ref tp, dT (yesT (valsK n k ss) u), rfl, tk9.tn.rp, (ktp8.tm (.of s9)).tn.rp, Pl_T (by rw [tsk2.len]; omega), fun H10 s10 => ⟨true, rfl, iteF ?_⟩⟩⟩⟩⟩
  have s810 := s9.trans s10
  have F10 := F8.same s810
  have T10 := T8.ext s810
  have tku10 := tku8.tm (.of s810)
  have ktp10 := ktp8.tm (.of s810)
  obtain ⟨ds10, hds10, pds10⟩ := id F10.du
  have lds10 := Paired.length pds10
  rw [valsK_len] at lds10
  refine ⟨_, rfl, _, rfl, _, rfl, dl, rfl, ⟨_, SqL.of hds10⟩, fun D2 hD2 => ?_⟩
  refine lc_listS (K := K) (r := r) (sc := sc) (ns := ns) (j := 4) (xs := ds10) RN (fun b => b < 2) rn_mono F10.row hds10 F10.ndr (by omega) hD2 (fun x => rfl) (fun i x hi H11 st11 ra11 Q5 q5 => ⟨_, rfl, r, sc, ns, 2, rfl, ra11, by decide, by decide, fun z H12 hz st12 ra12 => q5 _ _ z st12 ra12 rfl hz⟩) (fun H11 zt bt st11 ra11 hz11 pz11 hbl hok => ?_)
  have F11 := F10.step st11 ra11
  have T11 := Tabs.rowX F10.row st11 T10
  refine .inl ⟨D2, zt, rfl, SqL.of hz11, fun bp hbp => ⟨by show 2 ≤ sizeLine; decide, fun kl hkl => ?_⟩⟩
  have s12 := same_new (o := .tup zt) hbp
  have s13 := same_new (o := .lst [V.ref tp, V.ref bp]) hkl
  have s1213 := s12.trans s13
  have tm1013 := (st11.tm F10.row).trans (Tm.of s1213)
  have kbp : TK (upd (upd H11 bp (.tup zt)) kl (.lst [V.ref tp, V.ref bp])) (.ref bp) bt := TK.tm (.of s13) (tn_of upd_same (RN.all pz11))
  have F13 := F11.same s1213
  have T13 := T11.ext s1213
  have ktp13 := ktp10.tm tm1013
  have tku13 := tku10.tm tm1013
  have nkr : kl ≠ r := (((F11.row).step s12).ne hkl).symm
  have kkl : (upd (upd H11 bp (.tup zt)) kl (.lst [V.ref tp, V.ref bp])) kl = some (.lst [V.ref tp, V.ref bp]) := upd_same
  generalize upd (upd H11 bp (.tup zt)) kl (.lst [V.ref tp, V.ref bp]) = H13 at *
  refine ⟨r, kl, sc, ns, _, rfl, F13.row, kkl, nkr, by show 1 ≤ 2; decide, by show 2 ≤ 1000; decide, fun dv H14 hdv st14 ra14 => ?_⟩
  have F14 := F13.step st14 ra14
  have T14 := Tabs.rowX F13.row st14 T13
  have tm14 := st14.tm F13.row
  have ktp14 := ktp13.tm tm14
  have tku14 := tku13.tm tm14
  obtain ⟨bs, tkd, tskd⟩ : ∃ bs, TK H14 dv bs ∧ Tsk 2 k bs := by
    simp only [List.mem_cons, List.not_mem_nil, or_false] at hdv
    rcases hdv with rfl | rfl
    · exact ⟨_, ktp14, tsk2⟩
    · exact ⟨bt, kbp.tm tm14, by decide, fun b hb => by have := hok b hb; omega, by rw [hbl, lds10], k1, by omega⟩
  refine ⟨_, rfl, _, rfl, _, rfl, _, rfl, lv, dv, sv, tv, ls, n, rfl, F14.good, .inr ⟨2, k, bs, tkd, tskd, .inl ⟨ss, F14.rw_, F14.ok, .inl ⟨u, tku14.tn, mu, fun H15 s15 => ?_⟩⟩⟩⟩
  refine ⟨_, rfl, _, rfl, dT bs, dT (yesT (valsK n k ss) u), (tkd.tm (.of s15)).tn.dp, (ktp14.tm (.of s15)).tn.dp, sh_T _, sh_T _, ?_⟩
  rw [eqv_dT]
  refine ⟨decide (yesT (valsK n k ss) u = bs), decide (bs = yesT (valsK n k ss) u), rfl, true, ?_, iteF ?_⟩
  · rw [show decide (bs = yesT (valsK n k ss) u) = decide (yesT (valsK n k ss) u = bs) from decide_eq_decide.mpr ⟨Eq.symm, Eq.symm⟩, decide_eq_true rfl]
  have F15 := F14.same s15
  obtain ⟨wx, hwx, pwx⟩ := id F15.wh
  obtain ⟨dx, hdx, pdx⟩ := id F15.du
  exact qt D H15 _ _ _ _ _ _ _ _ _ _ _ _ _ _ _ _ _ r sc wp dl ns n k ls ss lv sv tv u wx dx ⟨F15.row, F15.good, k1, k4, F15.rw_, F15.ok, F15.s8, tku14.tm (.of s15), mu⟩ hwx (by rw [Paired.length pwx, wl]) l60 hdx pdx (T14.ext s15) q
end
end Lt

set_option Elab.async false
set_option linter.all false
set_option maxRecDepth 100000
set_option maxHeartbeats 1000000
/-! what is known of a tuple's object may be forgotten: then it may be put as a key -/
namespace Lt
open PySem PySem.Spec PyProof.Rows L2
/-- some tuples with a known object, new since H0, are mere tuples -/
def Wk (H0 H H' : Hp) : Prop := ∀ b, H' b = H b ∨ ∃ o xs, H b = some (.frz o (.tup xs)) ∧ H0 b = none ∧ H' b = some (.tup xs)
theorem Wk.none {H0 H H' : Hp} (w : Wk H0 H H') {b : Addr} (h : H b = none) : H' b = none := by
  rcases w b with e | ⟨o, xs, e, _⟩
  · rw [e]; exact h
  · rw [h] at e; cases e
theorem Wk.keep {H0 H H' : Hp} (w : Wk H0 H H') {b : Addr} {u : HO} (h : H b = some u) (n : ∀ o xs, u ≠ .frz o (.tup xs)) : H' b = some u := by
  rcases w b with e | ⟨o, xs, e, _⟩
  · rw [e]; exact h
  · rw [h] at e
    cases e
    exact absurd rfl (n o xs)
theorem ObjOk.wk {P : Program} {w : World} {H0 H H' : Hp} {h : Heap} {a : Addr} (wk : Wk H0 H H') : ∀ {o : HO}, ObjOk P w H h a o → ObjOk P w H' h a o
  | .lst _, x => x
  | .tup _, x => x
  | .dK _, x => x
  | .dT kvs, x => by
    obtain ⟨h1, h2, xs, p, r⟩ := x
    refine ⟨h1, h2, xs, ?_, r⟩
    refine Paired.mapP p fun u v q => ⟨q.1, wk.keep q.2.1 (fun _ _ z => by cases z), q.2.2⟩
  | .set _ _, x => x
  | .ins C dx fs, x => by
    obtain ⟨h1, r⟩ := x
    exact ⟨wk.keep h1 (fun _ _ z => by cases z), r⟩
  | .own _, x => x
  | .xd _, x => x
  | .rng _ _, x => x
  | .frz o u, x => ⟨x.1, ObjOk.wk wk x.2⟩
  | .tbl _, x => x
  | .met _ _, x => x
  | .ext _, x => x
section
variable {X : Cx} {pins : List (Addr × Obj)} {σ : L2.St} {H H' : Hp} {s : Shared}
theorem invWk (I : Inv X pins σ H s) (w : Wk X.H_0 H H') : Inv X pins σ H' s where
  ok := I.ok
  os := I.os
  bare := I.bare
  base := {
    keep := I.base.keep
    slot := I.base.slot
    free := fun b o h1 h2 h3 => w.none (I.base.free b o h1 h2 h3)
    there := I.base.there
    tups := fun b xs h => w.keep (I.base.tups b xs h) (fun _ _ z => by cases z)
    frzs := fun b o u h => by
      have e := I.base.frzs b o u h
      rcases w b with e2 | ⟨o2, xs, _, e3, _⟩
      · rw [e2]; exact e
      · rw [h] at e3; cases e3
    tbls := fun b ps h => by
      obtain ⟨m, e⟩ := I.base.tbls b ps h
      exact ⟨m, w.keep e (fun _ _ z => by cases z)⟩ }
  loc := I.loc
  cell := I.cell
  free := w.none I.free
  freeC := fun x c h => w.none (I.freeC x c h)
  pin := fun p hp => let ⟨h1, h2, h3⟩ := I.pin p hp; ⟨h1, w.none h2, h3⟩
  hok := fun a o h => by
    rcases w a with e | ⟨ob, xs, e, _, e2⟩
    · exact ObjOk.wk w (I.hok a o (e ▸ h))
    · rw [e2] at h
      cases h
      exact ObjOk.wk w (I.hok a _ e).2
  len := I.len
def tWk (H0 : Hp) (t : TS) : TS := fun D σ H => ∃ H', Wk H0 H H' ∧ t D σ H'
theorem pss_wk {st : List Stmt} {t : TS} (h : PSs X st t) : PSs X st (tWk X.H_0 t) :=
  ⟨fun pins s σ H D I ⟨H', w, q⟩ => h.run pins s σ H' D (invWk I w) q⟩
end
/-- all tuples with known objects that are new since H0 -/
noncomputable def wkAll (H0 H : Hp) : Hp := fun b => match H0 b, H b with
  | none, some (.frz _ (.tup xs)) => some (.tup xs)
  | _, o => o
theorem wk_all (H0 H : Hp) : Wk H0 H (wkAll H0 H) := fun b => by
  unfold wkAll
  split
  · rename_i xs e1 e2
    exact .inr ⟨_, xs, e2, e1, rfl⟩
  · exact .inl rfl
end Lt

set_option Elab.async false
set_option linter.all false
set_option maxRecDepth 100000
set_option maxHeartbeats 4000000
/-! k06: the law -/
namespace Lt
open PySem PySem.Spec PyProof.Rows L2 NdefX LamX LmX MaX
theorem Wk.rt {H0 H H' : Hp} (w : Wk H0 H H') {a : Addr} {xs : List V} (h : RT H a xs) : RT H' a xs := by
  rcases h with h | ⟨o, h⟩
  · exact .inl (w.keep h (fun _ _ z => nomatch z))
  · rcases w a with e | ⟨o2, ys, e, _, e2⟩
    · exact .inr ⟨o, e.trans h⟩
    · rw [h] at e
      cases e
      exact .inl e2
theorem Wk.tn {H0 H H' : Hp} (w : Wk H0 H H') {v : V} {t : List Nat} (h : TN H v t) : TN H' v t := let ⟨a, e, h⟩ := h; ⟨a, e, w.rt h⟩
theorem Wk.tt {H0 H H' : Hp} (w : Wk H0 H H') {v : V} {ts : List (List Nat)} (h : TT H v ts) : TT H' v ts := let ⟨a, xs, e, h, p⟩ := h; ⟨a, xs, e, w.keep h (fun _ _ z => nomatch z), paired_mono (fun _ _ r => w.tn r) p⟩
theorem Wk.tabs {H0 H H' : Hp} (w : Wk H0 H H') {T : List (Addr × Str)} (h : Tabs T H) : Tabs T H' := fun p hp => by
  obtain ⟨ps, h1, h2, h3⟩ := h p hp
  refine ⟨ps, w.keep h1 (fun _ _ z => nomatch z), h2, fun pos cv hc => ?_⟩
  obtain ⟨c, e1, e2⟩ := h3 pos cv hc
  exact ⟨c, e1, w.keep e2 (fun _ _ z => by unfold CodeO at z; cases z)⟩
theorem Wk.row {K : PySem.W.Frag} {H0 H H' : Hp} (w : Wk H0 H H') {r sc : Addr} {ns : List Int} (h : RowAt K H r sc ns) : RowAt K H' r sc ns := by
  obtain ⟨a, b, c, R⟩ := h
  refine ⟨a, b, c, w.keep R.at_ (fun _ _ z => nomatch z), ?_, R.a0, R.b0, R.b1⟩
  rcases R.sc with (z | ⟨ob, z⟩) | z
  · exact .inl (.inl (w.keep z (fun _ _ z => nomatch z)))
  · exact .inl (.inr ⟨ob, w.keep z (fun _ _ z => nomatch z)⟩)
  · exact .inr z
theorem TFn.wk {H0 G H : Hp} {v : V} {t : List Nat} (h : TFn G H v t) (g : ∀ a, G a = none → H0 a = none) : TK (wkAll H0 H) v t := by
  obtain ⟨⟨a, o, rfl, ho, _⟩, hn⟩ := h
  refine ⟨a, rfl, ?_⟩
  unfold wkAll
  rw [g a (hn a rfl), ho]
theorem valS_K {n k : Nat} {ss : List StepT} (h : ∀ s ∈ ss, s.1 < k) (i : Nat) : valS n ss (bitsR k i) = valK n ss i := by
  unfold valS valK
  have go : ∀ (ss : List StepT) (c : List Nat), (∀ s ∈ ss, s.1 < k) → ss.foldl (stepV (bitsR k i)) c = ss.foldl (fun c s => prod c (if i / 2 ^ s.1 % 2 = 1 then s.2.2 else s.2.1)) c := by
    intro ss
    induction ss with
    | nil => intro c _; rfl
    | cons s ss ih =>
      intro c h
      rw [List.foldl_cons, List.foldl_cons]
      have e : stepV (bitsR k i) c s = prod c (if i / 2 ^ s.1 % 2 = 1 then s.2.2 else s.2.1) := by
        unfold stepV
        rw [List.getD_eq_getElem?_getD, bitsR_get (h s List.mem_cons_self)]
        rfl
      rw [e]
      exact ih _ fun s' hs => h s' (List.mem_cons_of_mem _ hs)
  exact go ss _ h
abbrev kinds6 : List Str := ["four", "square", "quaternions", "threes", "three", "klein", "ten"]
section
variable {P : Program} {w : World} {K : PySem.W.Frag} {mg : Str → Option Value} {base : Heap} {CR CN CT CK CP c Pt : Addr}
theorem law_all {TS : List (Addr × Str)} {f0 : Addr} {A : Around} {outer : List Env} {s0 : Shared} {H0 : Hp} {E0' : XK} (hr : Room 10 (LX P w K mg base f0 (.ref c) A outer s0 H0 E0').A) (TB : TabB base mg c Pt) (hm : (Pt, q_lam) ∈ TS) (hone : ∀ p ∈ TS, p.1 = Pt → p.2 = q_lam)
    (L : LawHas P w K mg base TS CR CN CT CK CP) :
    ∃ t, PSs (LX P w K mg base f0 (.ref c) A outer s0 H0 E0') (defBody s_law) t ∧ ∀ (D : Ends) (vs : List V) (Q : VK), D.rt = Q → spLamN K TS vs H0 Q C8.E0 → t D (start lawN vs) H0 := by
  have hu := hr.units
  have B := L.bi
  have hr1 : Room 1 (LX P w K mg base f0 (.ref c) A outer s0 H0 E0').A := hr.mono (by decide)
  have hr2 : Room 2 (LX P w K mg base f0 (.ref c) A outer s0 H0 E0').A := hr.mono (by decide)
  have hr3 : Room 3 (LX P w K mg base f0 (.ref c) A outer s0 H0 E0').A := hr.mono (by decide)
  have hr4 : Room 4 (LX P w K mg base f0 (.ref c) A outer s0 H0 E0').A := hr.mono (by decide)
  obtain ⟨tt, ht, qt⟩ := law_tabs (outer := outer) (s0 := s0) (H0 := H0) (E0' := E0') hr TB hm hone L
  refine ⟨_, pss_cons (ps_set (i := 1) sc_law.nd rfl (Or.inr rfl) (pe_lst (pa_cons (pv 0) (pa_cons pe_int (pa_cons pe_int (pa_cons pe_int pa_nil))))))
    (pss_cons (ps_set (i := 18) sc_law.nd rfl (Or.inr rfl) (pe_has L.lock hr4 (by rfl) (pa_cons (pv 1) (pa_cons (pe_lst (pa_cons pe_str (pa_cons pe_str (pa_cons pe_str (pa_cons pe_str (pa_cons pe_str (pa_cons pe_str (pa_cons pe_str pa_nil)))))))) pa_nil))))
    (pss_cons (ps_asg (pe_tup (pa_cons (pe_callB call_len_seq (by rfl) B.len PySem.boot_len (pa_cons (pe_ix ix_tup (pv 18) pe_int (fun _ _ => rfl)) pa_nil)) (pa_cons (pe_has L.span hr2 (by rfl) (pa_cons (pe_callB call_len_seq (by rfl) B.len PySem.boot_len (pa_cons (pe_ix ix_tup (pv 18) pe_int (fun _ _ => rfl)) pa_nil)) (pa_cons (pv 18) pa_nil))) pa_nil))) (pg_tup (by rfl) (pgs_cons (pg_name (i := 19) sc_law.nd rfl (Or.inr rfl)) (pgs_cons (pg_name (i := 2) sc_law.nd rfl (Or.inr rfl)) pgs_nil))))
    (pss_wk (pss_cons (ps_set (i := 17) sc_law.nd rfl (Or.inr rfl) (pe_op op_add pe_int (pe_has L.taken hr1 (by rfl) (pa_cons (pv 1) (pa_cons pe_int pa_nil)))))
    (pss_cons (ps_set (i := 21) sc_law.nd rfl (Or.inr rfl) (pe_has L.drawn hr3 (by rfl) (pa_cons (pv 1) (pa_cons (pv 2) (pa_cons (pv 17) (pa_cons pe_int pa_nil))))))
    (pss_cons (ps_setLc (i := 3) (own := [("bits", 23)]) (g := gName 23) (te := tCall spValue [] E0 (tCons (tVar 19) (tCons (tVar 21) (tCons (tVar 23) tNil)))) (by rfl) sc_law.nd rfl rfl (sw_true rfl rfl rfl (by decide +kernel)) (pi_list (pe_has L.bits hr1 (by rfl) (pa_cons (pv 17) pa_nil))) (blkOk_by (own := [("bits", 23)]) (N := lawN) (sc := defScope s_law) (by decide +kernel))
        (fun _ _ _ _ _ => pg_name (i := 23) sc_law.nd rfl (Or.inl rfl)) (fun _ _ _ _ _ => pts_nil) (fun _ _ _ _ _ => pe_has L.value hr2 (by rfl) (pa_cons (pv 19) (pa_cons (pv 21) (pa_cons (pv 23) pa_nil)))))
    ht)))))), ?_⟩
  rintro D vs Q rfl ⟨sc, ns, rfl, hsc, hT, q⟩
  refine ⟨_, rfl, Nat.le_of_ble_eq_true rfl, fun r hr0 => ?_⟩
  have s1 := same_new (o := .lst [V.ref sc, V.int 0, V.int 7706, V.int 0]) hr0
  have ra1 : RowAt K (upd H0 r (.lst [V.ref sc, V.int 0, V.int 7706, V.int 0])) r sc ns := ⟨0, 7706, 0, upd_same, Same.seq s1 hsc, by omega, by omega, by omega⟩
  have hT1 := hT.ext s1
  have n01 : ∀ a, (upd H0 r (.lst [V.ref sc, V.int 0, V.int 7706, V.int 0])) a = none → H0 a = none := fun a h => s1.free h
  generalize upd H0 r (.lst [V.ref sc, V.int 0, V.int 7706, V.int 0]) = H1 at *
  refine ⟨_, rfl, by show 7 ≤ sizeLine; decide, fun kl hkl => ?_⟩
  have s2 := same_new (o := .lst (kinds6.map V.str)) hkl
  have nkr : kl ≠ r := (ra1.ne hkl).symm
  refine ⟨r, kl, sc, ns, kinds6, rfl, ra1.step s2, upd_same, nkr, by decide, by decide, by decide, fun lv H3 ls n l3 gl fw st3 ra3 tt3 => ?_⟩
  have hT3 := Tabs.rowX (ra1.step s2) st3 (hT1.ext s2)
  have n03 : ∀ a, H3 a = none → H0 a = none := fun a h => by
    cases e : H0 a with
    | none => rfl
    | some o =>
      have ne : a ≠ r := ne_of_none e hr0
      rw [st3 _ _ ne (s2 _ _ (s1 _ _ e))] at h
      cases h
  obtain ⟨g1, g4, n2, n9, hls⟩ := id gl
  obtain ⟨a0, xs0, b0, rfl, ha0, hp0, h00, t00, hbt0, htl0⟩ := tt3.head gl
  have el : V.int ((nIs t00).length : Nat) = nI n := by rw [nIs_len, htl0]; rfl
  refine ⟨_, rfl, a0, xs0, 0, .ref b0, rfl, rfl, SqT.of ha0, h00, b0, _, rfl, .inr hbt0.sq, _, rfl, a0, xs0, 0, .ref b0, rfl, rfl, SqT.of ha0, h00, b0, _, rfl, .inr hbt0.sq, _, rfl, ?_⟩
  rw [el]
  refine ⟨.ref a0, ls, n, rfl, .inl ⟨a0, xs0, rfl, ha0, hp0⟩, hls, by omega, n9, by omega, fw.mono (by omega), fun wa H4 ts s4 hwa ⟨wx, hwx, pwx⟩ hnd hmem hasc => ⟨by show 2 ≤ sizeLine; decide, fun tp htp => ?_⟩⟩
  have s5 := same_new (o := .tup [nI n, .ref wa]) htp
  refine ⟨tp, _, rfl, SqT.of upd_same, rfl, nI n, _, rfl, .ref wa, _, rfl, rfl, ?_⟩
  have ra4 := ra3.step s4
  have nwr : wa ≠ r := (ra3.ne hwa).symm
  have ra5 := ra4.step s5
  have hT5 := (hT3.ext s4).ext s5
  have tt5 := tt3.tm (.of (s4.trans s5))
  have hwx5 := s5 _ _ hwx
  have pwx5 := TFns.tm (.of s5) pwx
  generalize upd H4 tp (.tup [nI n, .ref wa]) = H5 at *
  have wk := wk_all H0 H5
  refine ⟨wkAll H0 H5, wk, ?_⟩
  have ra6 := wk.row ra5
  have hT6 := wk.tabs hT5
  have tt6 := wk.tt tt5
  have lt6 : LTK (wkAll H0 H5) wa ts := ⟨wx, wk.keep hwx5 (fun _ _ z => nomatch z), paired_mono (fun _ _ r => r.wk n03) pwx5⟩
  have gd6 : Good (wkAll H0 H5) (.ref a0) ls n := ⟨tt6, gl, fw.mono (by omega)⟩
  generalize wkAll H0 H5 = H6 at *
  have ltl : ts.length = (LL ls n).length := by
    have pm : ts.Perm ((LL ls n).map (·.1)) := (List.perm_ext_iff_of_nodup hnd (LL_nd ls n)).mpr fun t => (hmem t).trans (gd6.mem t).symm
    rw [pm.length_eq, List.length_map]
  have l60 : (LL ls n).length ≤ 60 := LL_len fw
  have ts1 : 1 ≤ ts.length := List.length_pos_of_mem ((hmem _).mpr .still)
  refine ⟨_, rfl, r, sc, ns, 4, rfl, ra6, by decide, by decide, fun g H7 hg st7 ra7 => ⟨1, (g : Int), rfl, rfl, ?_⟩⟩
  have em : (1 : Int) + (g : Nat) = ((g + 1 : Nat) : Int) := by omega
  show gName 17 (V.int ((1 : Int) + (g : Nat))) _ _ _
  rw [em]
  obtain ⟨k, hk⟩ : ∃ k, k = g + 1 := ⟨_, rfl⟩
  rw [← hk]
  have k1 : 1 ≤ k := by omega
  have k4 : k ≤ 4 := by omega
  have hT7 := Tabs.rowX ra6 st7 hT6
  have lt7 := lt6.step nwr ra6 st7
  have gd7 := gd6.tm (st7.tm ra6)
  obtain ⟨ws7, hws7, pws7⟩ := id lt7
  refine ⟨_, rfl, _, rfl, _, rfl, r, sc, wa, ns, ws7, ts, k, 8, rfl, ra7, hws7, nwr, pws7, ts1, by omega, k1, by omega, by decide, fun sv H8 ss st8 ra8 rw8 hss hs8 => ?_⟩
  have hT8 := Tabs.rowX ra7 st8 hT7
  have lt8 := lt7.step nwr ra7 st8
  have gd8 := gd7.tm (st8.tm ra7)
  have ok8 : RowOk ls n k ss := ⟨fun s hs => let ⟨a, b, c⟩ := hss s hs; ⟨a, (hmem _).mp b, (hmem _).mp c⟩, by omega⟩
  refine ⟨_, rfl, k, rfl, by omega, fun lb H9 s9 hlb ⟨xb, hxb, pxb⟩ => ⟨lb, rfl, ⟨_, SqL.of hxb⟩, fun D1 hD1 => ?_⟩⟩
  have lxb := Paired.length pxb
  rw [rowsB_len] at lxb
  have h64 := pow6 (show k ≤ 6 by omega)
  have ra9 := ra8.step s9
  have rw9 := rw8.tm (.of s9)
  obtain ⟨sa, sx, rfl, hsa, psx⟩ := id rw9
  refine lc_listM (K := K) (j := 23) (xs := xb) TK (valsK n k ss) (fun _ _ _ _ e r => TK.tm e r) (fun H' s => SqL.of (s _ _ hxb)) (by omega) (by rw [valsK_len, lxb]) hD1 (fun x => rfl) (fun i x b hi hb H10 s10 Q5 q5 => ?_) (fun H10 zs s10 hz pz => ?_)
  · have hik : i < 2 ^ k := by have := (List.getElem?_eq_some_iff.mp hi).1; omega
    obtain ⟨bt, hbt, ba, rfl, hba⟩ := Paired.getL pxb hi
    rw [rowsB_get hik] at hbt
    have hbt := (Option.some.inj hbt).symm
    subst hbt
    have eb : b = valK n ss i := by
      rw [List.getElem?_map, List.getElem?_range hik] at hb
      exact (Option.some.inj hb).symm
    subst eb
    refine ⟨_, rfl, _, rfl, _, rfl, n, k, .ref sa, sa, ba, sx, ss, bitsR k i, rfl, rfl, s10 _ _ hsa, paired_mono (fun _ _ h => let ⟨p, x, y, e, h1, h2, h3⟩ := h; ⟨p, x, y, e, s10 _ _ h1, (h2.tm (.of s10)).tn, (h3.tm (.of s10)).tn⟩) psx, fun s hs => ?_, by omega, n9, s10 _ _ hba, bitsR_len k i, fun x hx => bitsR_le hx, fun r' H11 s11 tk11 => q5 _ _ s11 ?_⟩
    · obtain ⟨a, b, c⟩ := ok8.ok s hs
      exact ⟨a, gd8.isP b, gd8.isP c⟩
    · rw [← valS_K (fun s hs => (ok8.ok s hs).1) i]
      exact tk11
  have ndr : D1 ≠ r := (ra9.ne hD1).symm
  have s910 := s9.trans s10
  exact qt D H10 _ _ _ _ _ _ _ _ _ _ _ _ _ _ _ _ _ _ r sc wa D1 ns n k ls ss (.ref a0) (.ref sa) ts ⟨ra9.step s10, gd8.same s910, l60, k1, k4, rw9.tm (.of s10), ok8, hs8, lt8.same s910, ltl, fun t ht => (hmem t).mp ht, ⟨zs, hz, pz⟩, nwr, ndr⟩ (hT8.ext s910) q
end
end Lt

set_option Elab.async false
set_option linter.all false
set_option maxRecDepth 100000
set_option maxHeartbeats 2000000
namespace Lt
open PySem PySem.Spec PyProof.Rows L2 NdefX LamX LmX MaX
section
variable {P : Program} {w : World} {K : PySem.W.Frag} {mg : Str → Option Value} {CL CR CM CT CK CN CP c Pt c2 P2 : Addr}
theorem Cn.gl6 {x : Str} {i : Int} (h : Cn mg x i) : ∃ u, mg x = some u ∧ RelV (.int i) u := let ⟨t, h⟩ := h; ⟨_, h, ⟨t, rfl⟩⟩
theorem TopFs.has (T : TopFs K mg CL CR CM CT CK CN CP) (base : Heap) {TS : List (Addr × Str)} (tc : TopC K mg "_law_parts" s_law_parts ["prime_v", "table"] c2) (TB2 : TabB base mg c2 P2) (hm : (P2, q_lamP) ∈ TS) (hone : ∀ p ∈ TS, p.1 = P2 → p.2 = q_lamP) : LawHas P w K mg base TS CR CN CT CK CP := by
  have B := T.bi
  have eL : ErrI P w K mg base "BadLock" "place" CL := T.e_BadLock.errI init_BadLock
  have eR : ErrI P w K mg base "BadRow" "place" CR := T.e_BadRow.errI init_BadRow
  have eM : ErrI P w K mg base "TooMany" "most" CM := T.e_TooMany.errI init_TooMany
  have i1 : Has P w K mg base CX0 1 "is_number" _ _ := has_is_number T.f_is_number B
  have i2 := has_are_numbers T.f_are_numbers B i1
  have i3 := has_is_permutation T.f_is_permutation B i2
  have i4 : Has P w K mg base CX0 1 "still_of" _ _ := has_still_of T.f_still_of B
  have i5 : Has P w K mg base CX0 1 "product_of" _ _ := has_product_of T.f_product_of B
  have i8 := has_words_of T.f_words_of B T.c_MOST_TURNS i4 i5
  have i16 := has_check_lock T.f_check_lock B eL T.c_MOST_GIVEN T.c_FEWEST_PLACES T.c_MOST_PLACES i3
  have i17 := has_made_words T.f_made_words B eM T.c_MOST_TURNS i16 i8
  have i18 := has_all_turns T.f_all_turns B i17
  have i19 := has_is_turn T.f_is_turn i2
  have i20 := has_check_turn T.f_check_turn T.e_BadTurn i19
  have i21 := has_is_step T.f_is_step B i1 i19
  have i22 := has_check_row T.f_check_row B T.c_MOST_STEPS.gl6 eR i21
  have i23 := has_products T.f_products B i5
  have i24 : Has P w K mg base CX0 1 "yes_where" _ _ := has_yes_where T.f_yes_where B
  have i25 := has_check_inputs2 T.f_check_inputs T.c_MOST_INPUTS.gl6 T.e_BadNumber i1
  have i26 := has_check_table T.f_check_table B T.c_MOST_INPUTS.gl6 T.e_BadTask i2
  have k1 := has_check_prime (P := P) (w := w) (base := base) T.f_check_prime T.c_PRIMES T.e_BadNumber
  have k3 : Has P w K mg base CX0 1 "inputs_of" _ _ := has_inputs_of T.f_inputs_of B
  have k4 : Has P w K mg base CX0 1 "part_of" _ _ := has_part_of T.f_part_of B T.c_MOST_INPUTS.gl6
  have k5 := has_factors_of T.f_factors_of B k3
  have k6 := has_polynomial T.f_polynomial B T.b_zip k1 i26 k5 k4
  have k7 := has_degree T.f_degree B T.b_max k6
  have w1 := has_worths T.f_worths i17 i25 i22 i23
  have j1 : Has P w K mg base CX0 1 "_law_taken" _ _ := has_law_taken T.f_law_taken B
  have j2 := has_law_pick T.f_law_pick B j1
  have j3 : Has P w K mg base CX0 1 "_law_bits" _ _ := has_law_bits T.f_law_bits B
  have j5 := has_law_permutation T.f_law_permutation B j1
  have j10 := has_law_known T.f_law_known B j2 j5
  exact { bi := B, h6 := ⟨w1, has_written T.f_written i17 i25 i22 i20 i23 i24, has_writes T.f_writes i17 i26 k3 i22 i20 i23 i24, has_degrees T.f_degrees B T.e_NotPrime w1 (has_prime T.f_prime B i18) k7 i24⟩,
          ex := ⟨eR, T.e_BadNumber.g, T.e_BadTurn.g, T.e_BadTask.g, eR.exm, T.e_BadNumber.exm, T.e_BadTurn.exm, T.e_BadTask.exm, T.n_BadNumber_BadRow, T.n_BadTurn_BadRow, T.n_BadTurn_BadNumber, T.n_BadTask_BadRow, T.n_BadTask_BadNumber, T.n_BadTask_BadTurn⟩,
          gP := T.e_NotPrime.g, pp := T.e_NotPrime.exm, parts := has_law_parts tc B T.b_zip T.b_sum TB2 hm hone j3, alike := fun k => has_law_alike T.f_law_alike B k, taken := j1, pick := j2, bits := j3, is_ := has_law_is T.f_law_is B,
          lock := has_law_lock T.f_law_lock B j1 j10 j5, span := has_law_spanN T.f_law_span B (has_law_behindFn T.f_law_behind B), drawn := has_law_drawn_row T.f_law_drawn_row B j1 j2, value := has_law_value T.f_law_value B (has_law_behind T.f_law_behind B) }
theorem law_top (T : TopFs K mg CL CR CM CT CK CN CP) {f0 : Addr} (base : Heap) (TB : TabB base mg c Pt) (TB2 : TabB base mg c2 P2) (tc : TopC K mg "_law_parts" s_law_parts ["prime_v", "table"] c2) (hne : P2 ≠ Pt) (A : Around) (outer : List Env) (s0 : Shared) (H0 : Hp) (E0' : XK) (hr : Room 10 (LX P w K mg base f0 (.ref c) A outer s0 H0 E0').A) :
    ∃ t, PSs (LX P w K mg base f0 (.ref c) A outer s0 H0 E0') (defBody s_law) t ∧ ∀ (D : Ends) (vs : List V) (Q : VK), D.rt = Q → spLamN K [(Pt, q_lam), (P2, q_lamP)] vs H0 Q C8.E0 → t D (start lawN vs) H0 := by
  have one : ∀ p ∈ [(Pt, q_lam), (P2, q_lamP)], p.1 = Pt → p.2 = q_lam := fun p hp e => by
    have hp' : p = (Pt, q_lam) ∨ p = (P2, q_lamP) := by simpa using hp
    rcases hp' with rfl | rfl
    · rfl
    · exact absurd e hne
  have two : ∀ p ∈ [(Pt, q_lam), (P2, q_lamP)], p.1 = P2 → p.2 = q_lamP := fun p hp e => by
    have hp' : p = (Pt, q_lam) ∨ p = (P2, q_lamP) := by simpa using hp
    rcases hp' with rfl | rfl
    · exact absurd e.symm hne
    · rfl
  exact law_all hr TB (List.mem_cons_self) one (T.has base tc TB2 (List.mem_cons_of_mem _ List.mem_cons_self) two)
end
end Lt

open PySem PySem.W PyProof.Rows
set_option Elab.async false
set_option maxRecDepth 100000 in
set_option maxHeartbeats 0 in
theorem PySem.Challenge.cw_lockturns_k06_whole_rows_holds : PySem.Challenge.rw_lockturns_k06_whole_rows.Holds := by
  w_on; o_law; k_head; (case hw => w_witness2)
  k_fill
  refine Lt.walk_ofTabs ["law", "_law_parts"] (l := PySem.Challenge.rw_lockturns_k06_whole_rows) (n := 63) (k := 11) (x := "script") (CX := fun _ => L2.CX0) rfl (by decide) rfl ⟨rfl, by decide, by decide⟩ (by decide +kernel) (fun w h Y => PySem.W.km_in_of Y) ?F (fun _ _ _ _ _ z => z)
  case F =>
    intro w mg fa h Y KX G hmg own
    have bi : Lt.Bi mg := by
      refine' { tuple := mg_none_of KX G ?z0, list := mg_none_of KX G ?z1, range := mg_none_of KX G ?z2, len := mg_none_of KX G ?z3, sorted := mg_none_of KX G ?z4, enumerate := mg_none_of KX G ?z5, isinstance := mg_none_of KX G ?z6, all := mg_none_of KX G ?z7, set := mg_none_of KX G ?z8, int := mg_none_of KX G ?z9, bool := mg_none_of KX G ?z10, str := mg_none_of KX G ?z11 }
      all_goals k_is
    have b_sum : mg "sum" = none := by
      refine' mg_none_of KX G ?z
      (case z => k_is)
    have b_zip : mg "zip" = none := by
      refine' mg_none_of KX G ?z
      (case z => k_is)
    have b_max : mg "max" = none := by
      refine' mg_none_of KX G ?z
      (case z => k_is)
    have c_MOST_TURNS : Lt.Cn mg "MOST_TURNS" 240 := by
      refine' Lt.cn_mk KX G ?a ?b
      (case a => k_is); (case b => exact ⟨_, rfl⟩)
    have c_MOST_GIVEN : Lt.Cn mg "MOST_GIVEN" 4 := by
      refine' Lt.cn_mk KX G ?a ?b
      (case a => k_is); (case b => exact ⟨_, rfl⟩)
    have c_FEWEST_PLACES : Lt.Cn mg "FEWEST_PLACES" 2 := by
      refine' Lt.cn_mk KX G ?a ?b
      (case a => k_is); (case b => exact ⟨_, rfl⟩)
    have c_MOST_PLACES : Lt.Cn mg "MOST_PLACES" 9 := by
      refine' Lt.cn_mk KX G ?a ?b
      (case a => k_is); (case b => exact ⟨_, rfl⟩)
    have c_MOST_INPUTS : Lt.Cn mg "MOST_INPUTS" 6 := by
      refine' Lt.cn_mk KX G ?a ?b
      (case a => k_is); (case b => exact ⟨_, rfl⟩)
    have c_MOST_STEPS : Lt.Cn mg "MOST_STEPS" 6000 := by
      refine' Lt.cn_mk KX G ?a ?b
      (case a => k_is); (case b => exact ⟨_, rfl⟩)
    have c_PRIMES : Lt.CtiX KX mg "PRIMES" [2, 3, 5, 7] := by
      refine' Lt.cti_mk KX G ?a ?l ?b
      (case a => k_is); (case l => k_is); (case b => exact ⟨_, _, rfl, rfl, by decide, .cons ⟨_, rfl⟩ (.cons ⟨_, rfl⟩ (.cons ⟨_, rfl⟩ (.cons ⟨_, rfl⟩ (.nil))))⟩)
    have f_is_number : Lt.TopX KX mg "is_number" Lt.s_is_number ["value"] := by
      refine' Lt.top_mk KX G ?a ?l ?c ?k (fun _ _ _ _ _ _ us hl => match us, hl with | [_], _ => rfl)
      (case a => k_is); (case l => k_is); (case c => k_is); (case k => k_is)
    have f_are_numbers : Lt.TopX KX mg "are_numbers" Lt.s_are_numbers ["value"] := by
      refine' Lt.top_mk KX G ?a ?l ?c ?k (fun _ _ _ _ _ _ us hl => match us, hl with | [_], _ => rfl)
      (case a => k_is); (case l => k_is); (case c => k_is); (case k => k_is)
    have f_is_permutation : Lt.TopX KX mg "is_permutation" Lt.s_is_permutation ["value", "size"] := by
      refine' Lt.top_mk KX G ?a ?l ?c ?k (fun _ _ _ _ _ _ us hl => match us, hl with | [_, _], _ => rfl)
      (case a => k_is); (case l => k_is); (case c => k_is); (case k => k_is)
    have f_still_of : Lt.TopX KX mg "still_of" Lt.s_still_of ["size"] := by
      refine' Lt.top_mk KX G ?a ?l ?c ?k (fun _ _ _ _ _ _ us hl => match us, hl with | [_], _ => rfl)
      (case a => k_is); (case l => k_is); (case c => k_is); (case k => k_is)
    have f_product_of : Lt.TopX KX mg "product_of" Lt.s_product_of ["one", "other"] := by
      refine' Lt.top_mk KX G ?a ?l ?c ?k (fun _ _ _ _ _ _ us hl => match us, hl with | [_, _], _ => rfl)
      (case a => k_is); (case l => k_is); (case c => k_is); (case k => k_is)
    have f_words_of : Lt.TopX KX mg "words_of" Lt.s_words_of ["makers", "size"] := by
      refine' Lt.top_mk KX G ?a ?l ?c ?k (fun _ _ _ _ _ _ us hl => match us, hl with | [_, _], _ => rfl)
      (case a => k_is); (case l => k_is); (case c => k_is); (case k => k_is)
    have f_all_turns : Lt.TopX KX mg "all_turns" Lt.s_all_turns ["lock"] := by
      refine' Lt.top_mk KX G ?a ?l ?c ?k (fun _ _ _ _ _ _ us hl => match us, hl with | [_], _ => rfl)
      (case a => k_is); (case l => k_is); (case c => k_is); (case k => k_is)
    have f_check_lock : Lt.TopX KX mg "check_lock" Lt.s_check_lock ["lock"] := by
      refine' Lt.top_mk KX G ?a ?l ?c ?k (fun _ _ _ _ _ _ us hl => match us, hl with | [_], _ => rfl)
      (case a => k_is); (case l => k_is); (case c => k_is); (case k => k_is)
    have f_made_words : Lt.TopX KX mg "made_words" Lt.s_made_words ["lock"] := by
      refine' Lt.top_mk KX G ?a ?l ?c ?k (fun _ _ _ _ _ _ us hl => match us, hl with | [_], _ => rfl)
      (case a => k_is); (case l => k_is); (case c => k_is); (case k => k_is)
    have f_is_turn : Lt.TopX KX mg "is_turn" Lt.s_is_turn ["made", "value"] := by
      refine' Lt.top_mk KX G ?a ?l ?c ?k (fun _ _ _ _ _ _ us hl => match us, hl with | [_, _], _ => rfl)
      (case a => k_is); (case l => k_is); (case c => k_is); (case k => k_is)
    have f_check_turn : Lt.TopX KX mg "check_turn" Lt.s_check_turn ["made", "turn"] := by
      refine' Lt.top_mk KX G ?a ?l ?c ?k (fun _ _ _ _ _ _ us hl => match us, hl with | [_, _], _ => rfl)
      (case a => k_is); (case l => k_is); (case c => k_is); (case k => k_is)
    have f_prime : Lt.TopX KX mg "prime" Lt.s_prime ["lock"] := by
      refine' Lt.top_mk KX G ?a ?l ?c ?k (fun _ _ _ _ _ _ us hl => match us, hl with | [_], _ => rfl)
      (case a => k_is); (case l => k_is); (case c => k_is); (case k => k_is)
    have f_polynomial : Lt.TopX KX mg "polynomial" Lt.s_polynomial ["prime", "table"] := by
      refine' Lt.top_mk KX G ?a ?l ?c ?k (fun _ _ _ _ _ _ us hl => match us, hl with | [_, _], _ => rfl)
      (case a => k_is); (case l => k_is); (case c => k_is); (case k => k_is)
    have f_degree : Lt.TopX KX mg "degree" Lt.s_degree ["prime", "table"] := by
      refine' Lt.top_mk KX G ?a ?l ?c ?k (fun _ _ _ _ _ _ us hl => match us, hl with | [_, _], _ => rfl)
      (case a => k_is); (case l => k_is); (case c => k_is); (case k => k_is)
    have f_check_inputs : Lt.TopX KX mg "check_inputs" Lt.s_check_inputs ["inputs"] := by
      refine' Lt.top_mk KX G ?a ?l ?c ?k (fun _ _ _ _ _ _ us hl => match us, hl with | [_], _ => rfl)
      (case a => k_is); (case l => k_is); (case c => k_is); (case k => k_is)
    have f_check_prime : Lt.TopX KX mg "check_prime" Lt.s_check_prime ["prime"] := by
      refine' Lt.top_mk KX G ?a ?l ?c ?k (fun _ _ _ _ _ _ us hl => match us, hl with | [_], _ => rfl)
      (case a => k_is); (case l => k_is); (case c => k_is); (case k => k_is)
    have f_check_table : Lt.TopX KX mg "check_table" Lt.s_check_table ["table"] := by
      refine' Lt.top_mk KX G ?a ?l ?c ?k (fun _ _ _ _ _ _ us hl => match us, hl with | [_], _ => rfl)
      (case a => k_is); (case l => k_is); (case c => k_is); (case k => k_is)
    have f_inputs_of : Lt.TopX KX mg "inputs_of" Lt.s_inputs_of ["table"] := by
      refine' Lt.top_mk KX G ?a ?l ?c ?k (fun _ _ _ _ _ _ us hl => match us, hl with | [_], _ => rfl)
      (case a => k_is); (case l => k_is); (case c => k_is); (case k => k_is)
    have f_part_of : Lt.TopX KX mg "part_of" Lt.s_part_of ["place"] := by
      refine' Lt.top_mk KX G ?a ?l ?c ?k (fun _ _ _ _ _ _ us hl => match us, hl with | [_], _ => rfl)
      (case a => k_is); (case l => k_is); (case c => k_is); (case k => k_is)
    have f_factors_of : Lt.TopX KX mg "factors_of" Lt.s_factors_of ["prime", "table"] := by
      refine' Lt.top_mk KX G ?a ?l ?c ?k (fun _ _ _ _ _ _ us hl => match us, hl with | [_, _], _ => rfl)
      (case a => k_is); (case l => k_is); (case c => k_is); (case k => k_is)
    have f_worths : Lt.TopX KX mg "worths" Lt.s_worths ["lock", "inputs", "row"] := by
      refine' Lt.top_mk KX G ?a ?l ?c ?k (fun _ _ _ _ _ _ us hl => match us, hl with | [_, _, _], _ => rfl)
      (case a => k_is); (case l => k_is); (case c => k_is); (case k => k_is)
    have f_written : Lt.TopX KX mg "written" Lt.s_written ["lock", "inputs", "row", "turn"] := by
      refine' Lt.top_mk KX G ?a ?l ?c ?k (fun _ _ _ _ _ _ us hl => match us, hl with | [_, _, _, _], _ => rfl)
      (case a => k_is); (case l => k_is); (case c => k_is); (case k => k_is)
    have f_writes : Lt.TopX KX mg "writes" Lt.s_writes ["lock", "table", "row", "turn"] := by
      refine' Lt.top_mk KX G ?a ?l ?c ?k (fun _ _ _ _ _ _ us hl => match us, hl with | [_, _, _, _], _ => rfl)
      (case a => k_is); (case l => k_is); (case c => k_is); (case k => k_is)
    have f_degrees : Lt.TopX KX mg "degrees" Lt.s_degrees ["lock", "inputs", "row"] := by
      refine' Lt.top_mk KX G ?a ?l ?c ?k (fun _ _ _ _ _ _ us hl => match us, hl with | [_, _, _], _ => rfl)
      (case a => k_is); (case l => k_is); (case c => k_is); (case k => k_is)
    have f_check_row : Lt.TopX KX mg "check_row" Lt.s_check_row ["made", "inputs", "row"] := by
      refine' Lt.top_mk KX G ?a ?l ?c ?k (fun _ _ _ _ _ _ us hl => match us, hl with | [_, _, _], _ => rfl)
      (case a => k_is); (case l => k_is); (case c => k_is); (case k => k_is)
    have f_is_step : Lt.TopX KX mg "is_step" Lt.s_is_step ["made", "inputs", "value"] := by
      refine' Lt.top_mk KX G ?a ?l ?c ?k (fun _ _ _ _ _ _ us hl => match us, hl with | [_, _, _], _ => rfl)
      (case a => k_is); (case l => k_is); (case c => k_is); (case k => k_is)
    have f_products : Lt.TopX KX mg "products" Lt.s_products ["made", "inputs", "row"] := by
      refine' Lt.top_mk KX G ?a ?l ?c ?k (fun _ _ _ _ _ _ us hl => match us, hl with | [_, _, _], _ => rfl)
      (case a => k_is); (case l => k_is); (case c => k_is); (case k => k_is)
    have f_yes_where : Lt.TopX KX mg "yes_where" Lt.s_yes_where ["reached", "turn"] := by
      refine' Lt.top_mk KX G ?a ?l ?c ?k (fun _ _ _ _ _ _ us hl => match us, hl with | [_, _], _ => rfl)
      (case a => k_is); (case l => k_is); (case c => k_is); (case k => k_is)
    have f_law_taken : Lt.TopX KX mg "_law_taken" Lt.s_law_taken ["row", "many"] := by
      refine' Lt.top_mk KX G ?a ?l ?c ?k (fun _ _ _ _ _ _ us hl => match us, hl with | [_, _], _ => rfl)
      (case a => k_is); (case l => k_is); (case c => k_is); (case k => k_is)
    have f_law_pick : Lt.TopX KX mg "_law_pick" Lt.s_law_pick ["row", "things"] := by
      refine' Lt.top_mk KX G ?a ?l ?c ?k (fun _ _ _ _ _ _ us hl => match us, hl with | [_, _], _ => rfl)
      (case a => k_is); (case l => k_is); (case c => k_is); (case k => k_is)
    have f_law_alike : Lt.TopX KX mg "_law_alike" Lt.s_law_alike ["found", "due"] := by
      refine' Lt.top_mk KX G ?a ?l ?c ?k (fun _ _ _ _ _ _ us hl => match us, hl with | [_, _], _ => rfl)
      (case a => k_is); (case l => k_is); (case c => k_is); (case k => k_is)
    have f_law_is : Lt.TopX KX mg "_law_is" Lt.s_law_is ["found", "due"] := by
      refine' Lt.top_mk KX G ?a ?l ?c ?k (fun _ _ _ _ _ _ us hl => match us, hl with | [_, _], _ => rfl)
      (case a => k_is); (case l => k_is); (case c => k_is); (case k => k_is)
    have f_law_permutation : Lt.TopX KX mg "_law_permutation" Lt.s_law_permutation ["row", "places"] := by
      refine' Lt.top_mk KX G ?a ?l ?c ?k (fun _ _ _ _ _ _ us hl => match us, hl with | [_, _], _ => rfl)
      (case a => k_is); (case l => k_is); (case c => k_is); (case k => k_is)
    have f_law_behind : Lt.TopX KX mg "_law_behind" Lt.s_law_behind ["one", "other"] := by
      refine' Lt.top_mk KX G ?a ?l ?c ?k (fun _ _ _ _ _ _ us hl => match us, hl with | [_, _], _ => rfl)
      (case a => k_is); (case l => k_is); (case c => k_is); (case k => k_is)
    have f_law_span : Lt.TopX KX mg "_law_span" Lt.s_law_span ["places", "given"] := by
      refine' Lt.top_mk KX G ?a ?l ?c ?k (fun _ _ _ _ _ _ us hl => match us, hl with | [_, _], _ => rfl)
      (case a => k_is); (case l => k_is); (case c => k_is); (case k => k_is)
    have f_law_known : Lt.TopX KX mg "_law_known" Lt.s_law_known ["row", "kinds"] := by
      refine' Lt.top_mk KX G ?a ?l ?c ?k (fun _ _ _ _ _ _ us hl => match us, hl with | [_, _], _ => rfl)
      (case a => k_is); (case l => k_is); (case c => k_is); (case k => k_is)
    have f_law_lock : Lt.TopX KX mg "_law_lock" Lt.s_law_lock ["row", "kinds"] := by
      refine' Lt.top_mk KX G ?a ?l ?c ?k (fun _ _ _ _ _ _ us hl => match us, hl with | [_, _], _ => rfl)
      (case a => k_is); (case l => k_is); (case c => k_is); (case k => k_is)
    have f_law_bits : Lt.TopX KX mg "_law_bits" Lt.s_law_bits ["inputs"] := by
      refine' Lt.top_mk KX G ?a ?l ?c ?k (fun _ _ _ _ _ _ us hl => match us, hl with | [_], _ => rfl)
      (case a => k_is); (case l => k_is); (case c => k_is); (case k => k_is)
    have f_law_parts : Lt.TopX KX mg "_law_parts" Lt.s_law_parts ["prime_v", "table"] := by
      refine' Lt.top_mk KX G ?a ?l ?c ?k (fun _ _ _ _ _ _ us hl => match us, hl with | [_, _], _ => rfl)
      (case a => k_is); (case l => k_is); (case c => k_is); (case k => k_is)
    have f_law_value : Lt.TopX KX mg "_law_value" Lt.s_law_value ["places", "steps", "bits"] := by
      refine' Lt.top_mk KX G ?a ?l ?c ?k (fun _ _ _ _ _ _ us hl => match us, hl with | [_, _, _], _ => rfl)
      (case a => k_is); (case l => k_is); (case c => k_is); (case k => k_is)
    have f_law_drawn_row : Lt.TopX KX mg "_law_drawn_row" Lt.s_law_drawn_row ["row", "whole", "inputs", "most"] := by
      refine' Lt.top_mk KX G ?a ?l ?c ?k (fun _ _ _ _ _ _ us hl => match us, hl with | [_, _, _, _], _ => rfl)
      (case a => k_is); (case l => k_is); (case c => k_is); (case k => k_is)
    have ee_BadLock : Lt.ErrE KX mg "BadLock" "place" Lt.s_BadLock := by
      refine' Lt.err_mk KX G ?aC ?xL ?rv ?sa ?ga ?gg ?no ?kC ?eC ?tC ?hC ?iC ?sC ?i1 ?i2 ?i3 ?i4 ?i5 (fun _ _ _ _ _ _ us hl => match us, hl with | [_, _], _ => rfl)
      (case aC => k_is); (case xL => k_is); (case rv => decide +kernel); (case sa => k_is); (case ga => k_is); (case gg => k_is); (case no => k_is); (case kC => k_is); (case eC => k_is); (case tC => k_is); (case hC => k_is); (case iC => k_is); (case sC => first | rfl | k_is)
      (case i1 => k_is); (case i2 => k_is); (case i3 => k_is); (case i4 => k_is); (case i5 => k_is)
    obtain ⟨C_BadLock, e_BadLock⟩ := ee_BadLock
    have ee_BadRow : Lt.ErrE KX mg "BadRow" "place" Lt.s_BadRow := by
      refine' Lt.err_mk KX G ?aC ?xL ?rv ?sa ?ga ?gg ?no ?kC ?eC ?tC ?hC ?iC ?sC ?i1 ?i2 ?i3 ?i4 ?i5 (fun _ _ _ _ _ _ us hl => match us, hl with | [_, _], _ => rfl)
      (case aC => k_is); (case xL => k_is); (case rv => decide +kernel); (case sa => k_is); (case ga => k_is); (case gg => k_is); (case no => k_is); (case kC => k_is); (case eC => k_is); (case tC => k_is); (case hC => k_is); (case iC => k_is); (case sC => first | rfl | k_is)
      (case i1 => k_is); (case i2 => k_is); (case i3 => k_is); (case i4 => k_is); (case i5 => k_is)
    obtain ⟨C_BadRow, e_BadRow⟩ := ee_BadRow
    have ee_TooMany : Lt.ErrE KX mg "TooMany" "most" Lt.s_TooMany := by
      refine' Lt.err_mk KX G ?aC ?xL ?rv ?sa ?ga ?gg ?no ?kC ?eC ?tC ?hC ?iC ?sC ?i1 ?i2 ?i3 ?i4 ?i5 (fun _ _ _ _ _ _ us hl => match us, hl with | [_, _], _ => rfl)
      (case aC => k_is); (case xL => k_is); (case rv => decide +kernel); (case sa => k_is); (case ga => k_is); (case gg => k_is); (case no => k_is); (case kC => k_is); (case eC => k_is); (case tC => k_is); (case hC => k_is); (case iC => k_is); (case sC => first | rfl | k_is)
      (case i1 => k_is); (case i2 => k_is); (case i3 => k_is); (case i4 => k_is); (case i5 => k_is)
    obtain ⟨C_TooMany, e_TooMany⟩ := ee_TooMany
    have ee_BadTurn : Lt.NoE KX mg "BadTurn" := by
      refine' Lt.no_mk KX G ?aC ?qx ?kC ?eC ?tC ?iC ?sC
      (case aC => k_is); (case qx => first | rfl | kernel_rfl); (case kC => k_is); (case eC => k_is); (case tC => k_is); (case iC => k_is); (case sC => first | rfl | k_is)
    obtain ⟨C_BadTurn, e_BadTurn⟩ := ee_BadTurn
    have ee_BadTask : Lt.NoE KX mg "BadTask" := by
      refine' Lt.no_mk KX G ?aC ?qx ?kC ?eC ?tC ?iC ?sC
      (case aC => k_is); (case qx => first | rfl | kernel_rfl); (case kC => k_is); (case eC => k_is); (case tC => k_is); (case iC => k_is); (case sC => first | rfl | k_is)
    obtain ⟨C_BadTask, e_BadTask⟩ := ee_BadTask
    have ee_BadNumber : Lt.NoE KX mg "BadNumber" := by
      refine' Lt.no_mk KX G ?aC ?qx ?kC ?eC ?tC ?iC ?sC
      (case aC => k_is); (case qx => first | rfl | kernel_rfl); (case kC => k_is); (case eC => k_is); (case tC => k_is); (case iC => k_is); (case sC => first | rfl | k_is)
    obtain ⟨C_BadNumber, e_BadNumber⟩ := ee_BadNumber
    have ee_NotPrime : Lt.NoE KX mg "NotPrime" := by
      refine' Lt.no_mk KX G ?aC ?qx ?kC ?eC ?tC ?iC ?sC
      (case aC => k_is); (case qx => first | rfl | kernel_rfl); (case kC => k_is); (case eC => k_is); (case tC => k_is); (case iC => k_is); (case sC => first | rfl | k_is)
    obtain ⟨C_NotPrime, e_NotPrime⟩ := ee_NotPrime
    have n_BadNumber_BadRow : Lt.ExmNoX KX C_BadNumber C_BadRow := by
      refine' Lt.exm_no KX G e_BadNumber.g e_BadRow.g ?a1 ?a2 ?h1 ?h2 ?h3 ?h4
      (case a1 => k_is); (case a2 => k_is); (case h1 => k_is); (case h2 => k_is); (case h3 => k_is); (case h4 => first | rfl | k_is)
    have n_BadTurn_BadRow : Lt.ExmNoX KX C_BadTurn C_BadRow := by
      refine' Lt.exm_no KX G e_BadTurn.g e_BadRow.g ?a1 ?a2 ?h1 ?h2 ?h3 ?h4
      (case a1 => k_is); (case a2 => k_is); (case h1 => k_is); (case h2 => k_is); (case h3 => k_is); (case h4 => first | rfl | k_is)
    have n_BadTurn_BadNumber : Lt.ExmNoX KX C_BadTurn C_BadNumber := by
      refine' Lt.exm_no KX G e_BadTurn.g e_BadNumber.g ?a1 ?a2 ?h1 ?h2 ?h3 ?h4
      (case a1 => k_is); (case a2 => k_is); (case h1 => k_is); (case h2 => k_is); (case h3 => k_is); (case h4 => first | rfl | k_is)
    have n_BadTask_BadRow : Lt.ExmNoX KX C_BadTask C_BadRow := by
      refine' Lt.exm_no KX G e_BadTask.g e_BadRow.g ?a1 ?a2 ?h1 ?h2 ?h3 ?h4
      (case a1 => k_is); (case a2 => k_is); (case h1 => k_is); (case h2 => k_is); (case h3 => k_is); (case h4 => first | rfl | k_is)
    have n_BadTask_BadNumber : Lt.ExmNoX KX C_BadTask C_BadNumber := by
      refine' Lt.exm_no KX G e_BadTask.g e_BadNumber.g ?a1 ?a2 ?h1 ?h2 ?h3 ?h4
      (case a1 => k_is); (case a2 => k_is); (case h1 => k_is); (case h2 => k_is); (case h3 => k_is); (case h4 => first | rfl | k_is)
    have n_BadTask_BadTurn : Lt.ExmNoX KX C_BadTask C_BadTurn := by
      refine' Lt.exm_no KX G e_BadTask.g e_BadTurn.g ?a1 ?a2 ?h1 ?h2 ?h3 ?h4
      (case a1 => k_is); (case a2 => k_is); (case h1 => k_is); (case h2 => k_is); (case h3 => k_is); (case h4 => first | rfl | k_is)
    refine' Lt.lam_at3 (x2 := "_law_parts") (q2 := Lt.q_lamP) (st2 := Lt.s_law_parts) (ps2 := ["prime_v", "table"]) (lvl := 10) Lt.sc_law KX hmg own G ?a ?l ?c ?lc ?lp ?hh ?np ?a2 ?l2 ?c2 ?k2 ?lc2 ?lp2 ?hh2 ?np2 ?hne (fun s u => .of_eq rfl) (fun _ _ _ _ _ _ us hl => match us, hl with | [_, _], _ => rfl) (fun base TB TB2 tc hne => Lt.law_top ⟨bi, b_sum, b_zip, b_max, c_MOST_TURNS, c_MOST_GIVEN, c_FEWEST_PLACES, c_MOST_PLACES, c_MOST_INPUTS, c_MOST_STEPS, c_PRIMES, e_BadLock, e_BadRow, e_TooMany, e_BadTurn, e_BadTask, e_BadNumber, e_NotPrime, n_BadNumber_BadRow, n_BadTurn_BadRow, n_BadTurn_BadNumber, n_BadTask_BadRow, n_BadTask_BadNumber, n_BadTask_BadTurn, f_is_number, f_are_numbers, f_is_permutation, f_still_of, f_product_of, f_words_of, f_all_turns, f_check_lock, f_made_words, f_is_turn, f_check_turn, f_prime, f_polynomial, f_degree, f_check_inputs, f_check_prime, f_check_table, f_inputs_of, f_part_of, f_factors_of, f_worths, f_written, f_writes, f_degrees, f_check_row, f_is_step, f_products, f_yes_where, f_law_taken, f_law_pick, f_law_alike, f_law_is, f_law_permutation, f_law_behind, f_law_span, f_law_known, f_law_lock, f_law_bits, f_law_parts, f_law_value, f_law_drawn_row⟩ base TB TB2 tc hne)
    (case a => k_is); (case l => k_is); (case c => k_is); (case lc => k_is); (case lp => rfl); (case hh => intro K' hK; unfold PySem.W.codeHdIn; rw [hK]; rfl); (case np => first | rfl | kernel_rfl | decide)
    (case a2 => k_is); (case l2 => k_is); (case c2 => k_is); (case k2 => k_is); (case lc2 => k_is); (case lp2 => rfl); (case hh2 => intro K' hK; unfold PySem.W.codeHdIn; rw [hK]; rfl); (case np2 => first | rfl | kernel_rfl | decide); (case hne => first | decide | (intro z; omega))
#print axioms PySem.Challenge.cw_lockturns_k06_whole_rows_holds

