import PyProof.Rows.All
import Wide.All
import OpenK.AllK
import Wide.FinOn
import HandS.ForMost
import HandS.TupSets
import HandS.Conv
import HandS.Strs
import HandS.SortInts
import HandS.IsInst
import HandS.TupAny
import HandS.TupLen
import HandS.TupMul
import HandS.Deep
import HandS.Evl
import KE.GoesEnum
import KE.KDictDisplayH
import HandS.ExcInit
import HandS.ExcOwn
import HandS.ExcField
import HandS.TryOnly
import HandS.ForExc
import HandS.Small
import HandS.Property
import HandS.Lambda
import HandS.Nested
import KE.KDflt
import HandS.EndOwn
import HandS.NestedK
import PySem.Challenge.RW_lockturns_k13_whole_benches
set_option Elab.async false
set_option linter.all false
set_option maxRecDepth 100000
set_option maxHeartbeats 4000000
/-! enumerate over a tuple, in a for -/
namespace LtR
open PySem PyProof.Rows
open AutoSeq1 (wpAny_loadPart')
theorem meets_enum1 {v : Value} {o : Obj} {H : Heap → Prop} (B : Begins v o H) :
    Meets (Builtin.«enumerate.__new__» ⟨[.type "enumerate", v], []⟩) (fun _ R s => H s.heap ∧
      R (.ok (.ret (.ref (s.heap.push o).objs.size))) { s with heap := (s.heap.push o).push { cls := .type "enumerate", data := .fields #[.none, .bool false, .ref s.heap.objs.size, rawInt 0, .none, .none] } }) :=
  .of_wp fun prog w A R s h => by
    obtain ⟨hp, g, d, tk, os⟩ := s
    obtain ⟨h1, h⟩ := h
    have hsub := sub_enumerate
    have q1 : ∀ {A' : Around} {E : Value → Shared → Prop} {Q : Value → Shared → Prop}, Q (.ref hp.objs.size) ⟨hp.push o, g, d, tk, os⟩ → wpAny (model prog w) A' (pyIter v) Q E ⟨hp, g, d, tk, os⟩ :=
      fun q => B.iter prog w _ _ ⟨hp, g, d, tk, os⟩ _ h1 q
    wp_walk using q1
    refine wpAny_stack_any fun st => wpAny_pure ?_
    split
    · rename_i c _ _ _ _ _
      cases (c == Value.type "enumerate")
      · wp_walk using q1
        exact ⟨_, rfl, h⟩
      · wp_walk using q1
        exact ⟨_, rfl, h⟩
    · wp_walk using q1
      exact ⟨_, rfl, h⟩
section
variable {prog : Program} {w : World} {A : Around} {E : Value → Shared → Prop} {s : Shared}
theorem enum1_begins {v : Value} {o : Obj} {H : Heap → Prop} {Q : Value → Shared → Prop} (B : Begins v o H) (h1 : H s.heap)
    (h : ∀ h', IsEnum h' (s.heap.objs.size + 1) s.heap.objs.size 0 .none → h'.get? s.heap.objs.size = some o → h'.objs.size = s.heap.objs.size + 2 →
      (∀ b o, s.heap.get? b = some o → h'.get? b = some o) → Q (.ref (s.heap.objs.size + 1)) { s with heap := h' }) :
    wpAny (model prog w) A (call (.type "enumerate") [v]) Q E s := by
  refine callType_new F.called_enumerate (by decide) (F.typeCall_enumerate_1 _) (F.newCall_enumerate_1 _) (fun obj => F.args_object_init_2 obj _) F.entry_enumerate_new
    (meets_enum1 B) ⟨h1, ?_⟩
  have hz : (s.heap.push o).objs.size = s.heap.objs.size + 1 := Heap.size_push ..
  show _ ∧ _
  rw [hz]
  have he : IsEnum ((s.heap.push o).push { cls := .type "enumerate", data := .fields #[.none, .bool false, .ref s.heap.objs.size, rawInt 0, .none, .none] }) (s.heap.objs.size + 1) s.heap.objs.size 0 .none := by
    have := Heap.get?_push_size (s.heap.push o) (o := { cls := .type "enumerate", data := .fields #[.none, .bool false, .ref s.heap.objs.size, rawInt 0, .none, .none] }) rfl
    rw [hz] at this; exact this
  refine ⟨⟨_, he, rfl⟩, h _ he (Heap.get?_push_of_some _ (Heap.get?_push_size _ B.free)) (by rw [Heap.size_push, hz]) fun b o x => Heap.get?_push_of_some _ (Heap.get?_push_of_some _ x)⟩
end
end LtR
namespace L2
open PySem PySem.Spec PyProof.Rows
/-- the tuple at a as it stands at each turn, each item in a new pair -/
def Itet (K : PySem.W.Frag) (a : Addr) : It :=
  ⟨fun i H => ∃ (xs : List V) (x : V), SqT K H a xs ∧ xs[i]? = some x, fun i H v H' => ∃ T x, v = .ref T ∧ H T = none ∧ H' = upd H T (.tup [.int (i : Nat), x]) ∧ ∀ xs, SqT K H a xs → xs[i]? = some x, fun i H => ∃ xs : List V, SqT K H a xs ∧ xs.length = i⟩
theorem turn_enumT {P : Program} {w : World} {K : PySem.W.Frag} {elts : List Expr} {kk : Nat} {tpos : Pos} (a e it : Addr) (hae : a ≠ e) (hai : a ≠ it) :
    Turn P w K (.Tuple elts kk tpos) (Itet K a) [e, it] e (fun i h => (∃ old, IsEnum h e it ((i : Nat) : Int) old) ∧ h.IsTupleIter it a i ∧ e ≠ it) where
  mem := by simp
  obj := fun i h st b hb => by
    obtain ⟨⟨old, he⟩, ⟨o, ho, hc, hd⟩, _⟩ := st
    have e' : b = e ∨ b = it := by simpa using hb
    rcases e' with z | z
    · rw [z]; exact ⟨_, he, fun v q => nomatch q⟩
    · rw [z]; exact ⟨o, ho, fun v q => by rw [hd] at q; cases q⟩
  keep := fun i h h' st k => let ⟨⟨old, he⟩, hi, hne⟩ := st; ⟨⟨old, k e (by simp) _ he⟩, hi.at fun o q => k it (by simp) o q, hne⟩
  item := by
    intro X hP hw hK hc i pins s σ H E I hf st hg
    subst hP hw hK
    obtain ⟨⟨old, he⟩, hit, hne⟩ := st
    obtain ⟨xs, x, hq, hx⟩ := hg
    obtain ⟨its, rv, p, hz⟩ := I.tuple hq
    obtain ⟨u, hu, ru⟩ := rv.get hx
    have hel : e < s.heap.objs.size := Heap.lt_size he
    have hil : it < s.heap.objs.size := by obtain ⟨_, q, _⟩ := hit; exact Heap.lt_size q
    have hu' : its.toArray[i]? = some u := by simpa using hu
    have hlt : i < its.toArray.size := (Array.getElem?_eq_some_iff.mp hu').1
    refine wpAny_pyNext_enum_itemD (Draws.tuple (prog := X.prog) (w := X.w) (A := X.A.in1) (I.ok.hd hc) it a hai its.toArray) he ⟨hit, (show s.heap.IsTuple a its.toArray from p)⟩ hlt hne (by simp [hne, Ne.symm hae]) fun x' h' tk hP ho hst' hT hsz hk => ?_
    have ex : x' = u := Option.some.inj ((show its.toArray[i]? = some x' from hP).symm.trans hu')
    subst ex
    obtain ⟨hit', hp'⟩ := hst'
    refine ⟨_, rfl, wpAny_letOwnedTupleGo_enum (s := { s with heap := h', toks := tk + 1 }) ho fun h'' he' sb => ?_⟩
    have hT2 : h''.get? s.heap.objs.size = some { cls := .type "tuple", data := .seq #[.int i tk, x'] } := (sb.2 _ (Nat.ne_of_gt hel)).trans hT
    have new : ObjOk X.prog X.w (upd H s.heap.objs.size (.tup [.int (i : Nat), x])) h'' s.heap.objs.size (.tup [.int (i : Nat), x]) :=
      ⟨by show 2 ≤ sizeLine; decide, [.int i tk, x'], .cons ⟨_, rfl⟩ (.cons ru .nil), ⟨_, hT2, rfl, _, rfl⟩⟩
    have I1 : Inv X pins σ (upd H s.heap.objs.size (.tup [.int (i : Nat), x])) { s with heap := h'', toks := tk + 1 } :=
      I.turnedNew (ch := [e, it]) (fun b ob hb q => (sb.2 b (fun z => hb (by simp [z]))).trans (hk b ob (fun z => hb (by simp [z])) (fun z => hb (by simp [z])) q)) hf (Nat.le_refl _) new
    refine ⟨.ref s.heap.objs.size, _, I1, rfl, ⟨_, x, rfl, I.hok.fresh (Nat.le_refl _), rfl, fun ys hy => by rw [I.tuple_inj hy hq]; exact hx⟩, ⟨⟨x', ?_⟩, hit'.at fun o q => (sb.2 it (Ne.symm hne)).trans q, hne⟩, fun b hb => ?_⟩
    · have e1 : ((i + 1 : Nat) : Int) = (i : Int) + 1 := by omega
      rw [e1]; exact he'
    · have hb' : b < s.heap.objs.size := by
        have e' : b = e ∨ b = it := by simpa using hb
        rcases e' with z | z
        · rw [z]; exact hel
        · rw [z]; exact hil
      rw [upd_ne (Nat.ne_of_lt hb')]
      exact (hf b hb).1
  done := by
    intro X hP hw hK hc i pins s σ H E I hf st hg
    subst hP hw hK
    obtain ⟨⟨old, he⟩, hit, hne⟩ := st
    obtain ⟨xs, hq, hx⟩ := hg
    obtain ⟨its, rv, p, hz⟩ := I.tuple hq
    obtain ⟨f0, f1, f2, f3, f4, f5⟩ := hf it (by simp)
    have hl := rv.length
    have hn : its.toArray.size = i := by simp; omega
    exact wpAny_pyNext_enum_endD (Draws.tuple (prog := X.prog) (w := X.w) (A := X.A.in1) (I.ok.hd hc) it a hai its.toArray) he (show s.heap.IsTupleIter it a its.toArray.size ∧ s.heap.IsTuple a its.toArray from ⟨by rw [hn]; exact hit, p⟩) fun h' eb => ⟨rfl, I.turned (t' := s.toks) (fun b o hb q => eb b o hb q) f0 f1 f3 f4 f5⟩
  self := fun A i s Q E st h => let ⟨⟨_, he⟩, _⟩ := st; wpAny_pyIter_enum he h
def iEnumT (K : PySem.W.Frag) (ta : TA) : TI := fun σ H R => ta σ H fun vs H1 => ∃ a xs, vs = [.ref a] ∧ SqT K H1 a xs ∧ R (Itet K a) H1
theorem pi_enumT {X : Cx} {e : Expr} {ta : TA} {p pos tpos : Pos} {elts : List Expr} {kk : Nat} (hg : Gl X "enumerate") (hm : X.mg "enumerate" = none) (ha : PA X [e] ta) (hs : starEach [e] X.env = [(false, eval e X.env)] := by rfl) :
    PI X (.Tuple elts kk tpos) (.Call (.Name "enumerate" p) [e] [] pos) (iEnumT X.K ta) := by
  refine ⟨fun pins s σ H R I h => ?_⟩
  refine Call_ (ld_blt I hg hm boot_enumerate (PyProof.Rows.callWith_type1 (thn (ha.run pos pins s σ H _ I h) fun us s1 ⟨vs, H1, I1, r1, q1⟩ => ?_) hs rfl))
  obtain ⟨a, xs, ex, hq, q⟩ := q1
  subst ex
  cases r1 with
  | cons r rr =>
    cases rr
    cases r
    obtain ⟨its, rv, p', hz⟩ := I1.tuple hq
    have hal : a < s1.heap.objs.size := by obtain ⟨_, e, _⟩ := p'; exact Heap.lt_size e
    refine LtR.enum1_begins (begins_tuple a its.toArray) (show s1.heap.IsTuple a its.toArray from p') fun h' he hit hsz hk => wpAny_pyIter_enum he ?_
    have I2 : Inv X pins σ H1 { s1 with heap := h' } := I1.kept (t' := s1.toks) hk
    refine ⟨s1.heap.objs.size + 1, [s1.heap.objs.size + 1, s1.heap.objs.size], _, _, H1, rfl, I2, turn_enumT a (s1.heap.objs.size + 1) s1.heap.objs.size (Nat.ne_of_lt (Nat.lt_succ_of_lt hal)) (Nat.ne_of_lt hal), ⟨⟨.none, he⟩, ⟨_, hit, rfl, rfl⟩, Nat.succ_ne_self _⟩, fun b hb => ?_, q⟩
    have e' : b = s1.heap.objs.size + 1 ∨ b = s1.heap.objs.size := by simpa using hb
    have hle : s1.heap.objs.size ≤ b := by
      rcases e' with z | z
      · rw [z]; exact Nat.le_add_right _ _
      · rw [z]; exact Nat.le_refl _
    exact I1.fpOk hle (I1.hok.fresh hle)
end L2

set_option Elab.async false
set_option linter.all false
set_option maxRecDepth 100000
set_option maxHeartbeats 4000000
/-! sorted of a dict whose keys are tuples of ints; sorted of a tuple of ints; tuple.index of ints; {tuple: v} -/
namespace L2
open PySem PySem.Spec PyProof.Rows
section
variable {X : Cx}
/-- t.index(i), the first place -/
theorem mt_tup_indexI : MtR X "tuple.index" (fun x xs H Q => ∃ p, ∃ ys : List Int, ∃ z j, x = .ref p ∧ xs = [.int z] ∧ SqT X.K H p (ys.map V.int) ∧ ys[j]? = some z ∧ (∀ m, m < j → ys[m]? ≠ some z) ∧ Q (.int (j : Nat)) H) := by
  intro pins s σ H x xs v us Q I rx rs h
  obtain ⟨p, ys, z, j, rfl, rfl, hq, hy, hno, q⟩ := h
  cases rx
  obtain ⟨u, rfl, t, rfl⟩ := vals1 rs
  obtain ⟨its, r, pl, hz⟩ := I.tuple hq
  obtain ⟨⟨cls, dd, dt, sl⟩, ho, hc, n, hd⟩ := pl
  simp only at hc hd
  subst hc
  subst hd
  have hl : its.toArray.size = ys.length := by rw [List.size_toArray, ← r.length, List.length_map]
  have hj : j < its.toArray.size := by rw [hl]; exact (List.getElem?_eq_some_iff.mp hy).1
  have at' : ∀ (m : Nat) (hm : m < its.toArray.size), ∃ y t', ys[m]? = some y ∧ its.toArray[m] = Value.int y t' := fun m hm => by
    have hm' : m < ys.length := by rw [← hl]; exact hm
    obtain ⟨w, hw, t', hw'⟩ := r.get (i := m) (x := .int ys[m]) (by simp [hm'])
    refine ⟨ys[m], t', List.getElem?_eq_getElem hm', ?_⟩
    have e := (List.getElem?_eq_some_iff.mp hw).2
    rw [← hw', ← e]
    simp
  have flat : (ys.map V.int).all flatV = true := by
    rw [List.all_map]
    exact List.all_eq_true.mpr fun _ _ => rfl
  refine call_meets PySem.F.slot_tuple_index ⟨_, ho, rfl⟩ PySem.F.entry_tuple_index (PySem.F.args_tuple_index_2 _ _) (TI.tuple_indexAt p its.toArray n dd sl (.int z t) (eqU (.int z)) j hj ?_ ?_)
    ⟨ho, fun w hw => mem_eqAt (x := .int z) ⟨t, rfl⟩ rfl r flat w (by simpa using hw), ⟨.int (j : Nat), H, I.tok _, ⟨_, rfl⟩, q⟩⟩
  · obtain ⟨y, t', h1, h2⟩ := at' j hj
    rw [hy] at h1
    cases h1
    rw [h2]
    show (z == z) = true
    exact beq_self_eq_true z
  · intro m hm hmj
    obtain ⟨y, t', h1, h2⟩ := at' m hm
    rw [h2]
    show (y == z) = false
    exact beq_eq_false_iff_ne.mpr fun e => hno m hmj (e ▸ h1)
/-- sorted(d), d a dict with fewer than 64 keys, all tuples of dd ints in [0, B) -/
def rSortDT (d : Nat) (B : Int) : List V → Hp → VK → Prop := fun vs H Q => ∃ (a : Addr) (kvs : List (List Key × V)) (ks : List (List Int)), vs = [V.ref a] ∧ Rd H a (.dT kvs) ∧ kvs.map (·.1) = ks.map (fun k => k.map Sum.inl) ∧ ks.length < 64 ∧ (∀ k ∈ ks, k.length = d ∧ TS.Bd B k) ∧
  ∀ (bs : List Addr) (ks' : List (List Int)) (p : Addr), ks'.Perm ks → ks'.Pairwise (fun x y => TS.code B x ≤ TS.code B y) → Paired (fun (b : Addr) k => H b = some (.tup (k.map V.int))) bs ks' → H p = none → Q (.ref p) (upd H p (.lst (bs.map V.ref)))
theorem kV_ints (k : List Int) : (k.map (Sum.inl : Int → Key)).map kV = k.map V.int := by
  rw [List.map_map]
  rfl
def refA : Value → Addr
  | .ref a => a
  | _ => 0
theorem keys_perm {H : Hp} : ∀ {kvs : List (List Key × V)} {xs : List (List Key × Addr × Value)} {ks : List (List Int)}, KT H kvs xs → kvs.map (·.1) = ks.map (fun k => k.map Sum.inl) →
    Paired (fun (u : Value) (k : List Int) => ∃ b, u = .ref b ∧ H b = some (.tup (k.map V.int))) (xs.map fun x => Value.ref x.2.1) ks
  | _, _, [], .nil, _ => .nil
  | _, _, [], .cons _ _, e => by simp at e
  | _, _, _ :: _, .nil, e => by simp at e
  | p :: ps, q :: qs, k :: ks, .cons h t, e => by
    rw [List.map_cons, List.map_cons] at e
    injection e with e1 e2
    refine .cons ⟨q.2.1, rfl, ?_⟩ (keys_perm t e2)
    have z := h.2.1
    rw [e1, kV_ints] at z
    exact z
theorem paired_map_eq {β γ : Type} {F : β → γ → Prop} {f : β → γ} (h : ∀ u k, F u k → f u = k) : ∀ {us : List β} {ks : List γ}, Paired F us ks → us.map f = ks
  | _, _, .nil => rfl
  | _, _, .cons r t => by rw [List.map_cons, h _ _ r, paired_map_eq h t]
theorem paired_mem_left {β γ : Type} {F : β → γ → Prop} : ∀ {us : List β} {ks : List γ}, Paired F us ks → ∀ u ∈ us, ∃ k ∈ ks, F u k
  | _, _, .nil, u, h => by cases h
  | _, _, .cons r t, u, h => by
    rcases List.mem_cons.mp h with e | h
    · subst e
      exact ⟨_, List.mem_cons_self, r⟩
    · obtain ⟨k, hk, f⟩ := paired_mem_left t u h
      exact ⟨k, List.mem_cons_of_mem _ hk, f⟩
theorem paired_of_map {β γ δ : Type} {F : γ → δ → Prop} {f : β → γ} {g : β → δ} : ∀ {us : List β}, (∀ u ∈ us, F (f u) (g u)) → Paired F (us.map f) (us.map g)
  | [], _ => .nil
  | u :: us, h => .cons (h u List.mem_cons_self) (paired_of_map fun v hv => h v (List.mem_cons_of_mem _ hv))
theorem cr_sortDT {d : Nat} {B : Int} (hc : X.calm = true) (hd1 : 1 ≤ d) : CallR X (.builtin "sorted") (rSortDT d B) := by
  intro pins s σ H xs us Q I r q
  obtain ⟨a, kvs, ks, rfl, hd, hks, h64, hB, q⟩ := q
  obtain ⟨u, eu, rx⟩ := vals1 r
  subst eu
  cases rx
  obtain ⟨z, lo, kx, pr, o, es, ep, ho, hx, hdt, he, hn⟩ := (show ObjOk X.prog X.w H s.heap a (.dT kvs) from hd.ok I.hok)
  have l1 : es.size = kx.length := size_of_entries he
  have l2 : kvs.length = kx.length := Paired.length pr
  refine Calls.call_function_entry PyProof.Rows.kind_sorted PyProof.Rows.plain_sorted PyProof.Rows.entry_sorted (PyProof.Rows.args_sorted1 _) ?_
  unfold Builtin.«sorted»
  refine wpAny_bind (m := checkCount "sorted" 1 1 _) (wpAny_pure ?_)
  refine wpAny_bind (PySem.W.kdu_collect (A := X.A.in1) (kdl_raw lo hx hdt) (I.ok.hd hc) ho (by omega) fun h' tk acc hk hacc => ?_)
  have ea : acc.toList = kx.map fun x => Value.ref x.2.1 := by
    have hl : acc.toList.length = kx.length := by rw [Array.length_toList, hacc.1]; exact l1
    apply List.ext_getElem?
    intro j
    rw [List.getElem?_map]
    cases hj : acc.toList[j]? with
    | none =>
      have h1 := List.getElem?_eq_none_iff.mp hj
      rw [List.getElem?_eq_none (by omega)]
      all_goals rfl
    | some v =>
      obtain ⟨en, hen, hv⟩ := hacc.2 j v (by rw [← Array.getElem?_toList]; exact hj)
      have qe := entry_at he j
      rw [hen] at qe
      cases hb : kx[j]? with
      | none =>
        rw [hb] at qe
        exact nomatch (show some en = none from qe)
      | some b =>
        rw [hb] at qe
        have e2 : en = entryOfKey (tupleKind (mixKind X.prog X.w)) b := Option.some.inj qe
        rw [hv, e2]
        all_goals rfl
  have I1 : Inv X pins σ H { s with heap := h', toks := tk } := I.kept hk
  have prk := keys_perm pr hks
  rw [← ea] at prk
  generalize acc.toList = vs at prk
  have hvl : vs.length = ks.length := Paired.length prk
  have tup : ∀ b (k : List Int), H b = some (.tup (k.map V.int)) → TS.TupInts h' (.ref b) k := fun b k e => tupI_raw I1 (SqT.of e)
  have hin : ∀ v ∈ vs, ∃ b k, k ∈ ks ∧ v = .ref b ∧ H b = some (.tup (k.map V.int)) := fun v hv => by
    obtain ⟨k, hk', b, e1, e2⟩ := paired_mem_left prk v hv
    exact ⟨b, k, hk', e1, e2⟩
  have hmap : vs.map (TS.intsOf h') = ks := paired_map_eq (fun u k h => by
    obtain ⟨b, e1, e2⟩ := h
    subst e1
    exact (tup b k e2).ints) prk
  refine wpAny_bind (wpAny_newList ?_ (by rw [hvl, sizeLine_eq]; omega))
  have hoL : (h'.push (seqObj "list" vs.toArray 0)).get? h'.objs.size = some (seqObj "list" vs.toArray 0) := Heap.get?_push_size _ rfl
  show wpAny _ _ _ _ _ { s with heap := h'.push (seqObj "list" vs.toArray 0), toks := tk }
  have keep : ∀ b u, h'.get? b = some u → (h'.push (seqObj "list" vs.toArray 0)).get? b = some u := fun b u e => Heap.get?_push_of_some _ e
  have I2 : Inv X pins σ H { s with heap := h'.push (seqObj "list" vs.toArray 0), toks := tk } := I1.kept (t' := tk) keep
  have tup2 : ∀ b (k : List Int), H b = some (.tup (k.map V.int)) → TS.TupInts (h'.push (seqObj "list" vs.toArray 0)) (.ref b) k := fun b k e => tupI_raw I2 (SqT.of e)
  have x : TS.TupsOk (h'.push (seqObj "list" vs.toArray 0)) d B vs := fun v hv => by
    obtain ⟨b, k, hk', e1, e2⟩ := hin v hv
    subst e1
    exact ⟨k, tup2 b k e2, (hB k hk').1, (hB k hk').2⟩
  refine wpAny_bind (wpAny_holding (TS.call_sort_tups (s := { s with heap := h'.push (seqObj "list" vs.toArray 0), toks := tk }) hoL (by rw [hvl]; exact h64) hd1 x fun out a1 a2 => ?_))
  obtain ⟨c, hcc⟩ := PyProof.Rows.sortedHeap_at (vs := vs) (out := out) hoL
  have hin' : ∀ v ∈ out.toList, ∃ b k, k ∈ ks ∧ v = .ref b ∧ H b = some (.tup (k.map V.int)) := fun v hv => hin v (a1.mem_iff.mp hv)
  have intz : ∀ v ∈ out.toList, TS.intsOf (h'.push (seqObj "list" vs.toArray 0)) v = TS.intsOf h' v := fun v hv => by
    obtain ⟨b, k, _, e1, e2⟩ := hin' v hv
    subst e1
    rw [(tup2 b k e2).ints, (tup b k e2).ints]
  have hn' : H h'.objs.size = none := I1.hok.fresh (Nat.le_refl _)
  have vr : Vals ((out.toList.map refA).map V.ref) out.toList := by
    have e : out.toList = (out.toList.map refA).map Value.ref := by
      rw [List.map_map]
      refine (List.map_id' out.toList).symm.trans (List.map_congr_left fun v hv => ?_)
      obtain ⟨b, k, _, e1, e2⟩ := hin' v hv
      subst e1
      rfl
    have z := vals_refs (out.toList.map refA)
    rw [← e] at z
    exact z
  have hlen : ((out.toList.map refA).map V.ref).length ≤ sizeLine := by
    rw [List.length_map, List.length_map, a1.length_eq, hvl, sizeLine_eq]
    omega
  refine wpAny_pure ⟨_, rfl, .ref h'.objs.size, upd H h'.objs.size (.lst ((out.toList.map refA).map V.ref)), I1.laid (t' := tk) (fun b u e => ?_) (Nat.le_refl _) ⟨hlen, out.toList, c, vr, hcc⟩, rfl, ?_⟩
  · have hlt : b < h'.objs.size := Heap.lt_size e
    show (PyProof.Rows.sortedHeap (h'.push (seqObj "list" vs.toArray 0)) h'.objs.size vs out).get? b = some u
    rw [PyProof.Rows.sortedHeap_old (Nat.ne_of_lt hlt) (by rw [PyProof.Rows.size_push']; exact Nat.lt_succ_of_lt hlt)]
    exact Heap.get?_push_of_some _ e
  · refine q (out.toList.map refA) (out.toList.map (TS.intsOf h')) h'.objs.size ?_ ?_ ?_ hn'
    · have z := a1.map (TS.intsOf h')
      rw [hmap] at z
      exact z
    · refine List.pairwise_map.mpr (List.Pairwise.imp_of_mem (fun {u v} hu hv h => ?_) a2)
      rw [← intz u hu, ← intz v hv]
      exact h
    · refine paired_of_map fun v hv => ?_
      obtain ⟨b, k, _, e1, e2⟩ := hin' v hv
      subst e1
      rw [(tup b k e2).ints]
      exact e2
/-- sorted(t), t a tuple of fewer than 64 ints -/
def rSortIT (K : PySem.W.Frag) : List V → Hp → VK → Prop := fun vs H Q => ∃ (a : Addr) (ns : List Int), vs = [V.ref a] ∧ SqT K H a (ns.map V.int) ∧ ns.length < 64 ∧
  ∀ (ns' : List Int) (p : Addr), ns'.Perm ns → ns'.Pairwise (· ≤ ·) → H p = none → Q (.ref p) (upd H p (.lst (ns'.map V.int)))
end
section
variable {prog : Program} {w : World} {A : Around} {E : Value → Shared → Prop} {s : Shared}
theorem collect_tup {l : Addr} {vs : List Value} {Q : List Value → Shared → Prop} (hl : s.heap.IsTuple l vs.toArray)
    (h : Q vs { s with heap := (s.heap.push (seqObj "list" #[] 0)).update s.heap.objs.size (Obj.mapSeq (· ++ vs.toArray)) }) (hsz : vs.length ≤ sizeLine) :
    wpAny (model prog w) A (collect (.ref l)) Q E s := by
  obtain ⟨o, ho, hc, n, hd⟩ := id hl
  unfold collect
  refine wpAny_bind (wpAny_runValue (codeAny_builtin entry_proto_collect' ?_))
  show wpAny _ _ (do again (.builtin "list.__iadd__" ⟨[← newList [], .ref l], []⟩)) _ _ s
  refine wpAny_bind (wpAny_newList (wpAny_pure ⟨Code.quiet_builtin _ (by decide +kernel), codeAny_builtin entry_list_iadd' ?_⟩))
  show wpAny _ _ (Builtin.List.listExtendWith (.ref s.heap.objs.size) (.ref l) (.ref s.heap.objs.size)) _ _ { s with heap := s.heap.push (seqObj "list" #[] 0) }
  unfold Builtin.List.listExtendWith
  have ho' : (s.heap.push (seqObj "list" #[] 0)).get? l = some o := Heap.get?_push_of_some _ ho
  refine wpAny_bind (wpAny_typeOf (T := "tuple") ⟨o, ho', hc⟩ ?_)
  have ht : (Value.type "tuple" == Value.type "tuple") = true := by rfl
  rw [if_pos (by rw [ht]; simp)]
  refine wpAny_bind (listItems_at ho' hd ?_)
  refine wpAny_bind (listItems_at (xs := #[]) (n := 0) (Heap.get?_push_size _ rfl) rfl ?_)
  rw [if_neg (by simp)]
  refine wpAny_bind (listUpdate_at (xs := #[]) (n := 0) (Heap.get?_push_size _ rfl) rfl ?_ (Nat.zero_le _) (by show (#[] ++ vs.toArray).size ≤ sizeLine + 1; simp only [Array.size_append, List.size_toArray, List.length_nil]; omega))
  refine wpAny_pure ?_
  show wpAny (model prog w) A (do
      let o ← load s.heap.objs.size
      match o.data with
      | .seq xs _ => pure xs.toList
      | _ => unsupported "internal:collect") Q E { s with heap := (s.heap.push (seqObj "list" #[] 0)).update s.heap.objs.size (Obj.mapSeq (· ++ vs.toArray)) }
  refine wpAny_bind (wpAny_load (get?_update_seq (Heap.get?_push_size _ rfl) _) ?_)
  show wpAny _ _ (pure ((#[] : Array Value) ++ vs.toArray).toList) Q E _
  rw [show ((#[] : Array Value) ++ vs.toArray).toList = vs by simp]
  exact wpAny_pure h
theorem sorted_tupI {l : Addr} {vs : List Value} {ns : List Int} {Q : Value → Shared → Prop} (hl : s.heap.IsTuple l vs.toArray) (hI : IntsAre vs ns) (h64 : vs.length < 64)
    (h : ∀ (out : Array Value) (ns' : List Int), IntsAre out.toList ns' → ns'.Perm ns → ns'.Pairwise (· ≤ ·) → Q (.ref (s.heap.objs.size + 1)) { s with heap := sortedAll s.heap vs out }) :
    wpAny (model prog w) A (call (.builtin "sorted") [.ref l]) Q E s := by
  refine Calls.call_function_entry kind_sorted plain_sorted entry_sorted (args_sorted1 _) ?_
  unfold Builtin.«sorted»
  refine wpAny_bind (m := checkCount "sorted" 1 1 _) (wpAny_pure ?_)
  refine wpAny_bind (collect_tup hl ?_ (by rw [sizeLine_eq]; omega))
  refine wpAny_bind (wpAny_newList ?_ (by rw [sizeLine_eq]; omega))
  have hsz : ((s.heap.push (seqObj "list" #[] 0)).update s.heap.objs.size (Obj.mapSeq (· ++ vs.toArray))).objs.size = s.heap.objs.size + 1 := by
    rw [Heap.size_update, size_push']
  have hoL : (((s.heap.push (seqObj "list" #[] 0)).update s.heap.objs.size (Obj.mapSeq (· ++ vs.toArray))).push (seqObj "list" vs.toArray 0)).get? (s.heap.objs.size + 1) = some (seqObj "list" vs.toArray 0) := by
    rw [← hsz]; exact Heap.get?_push_size _ rfl
  show wpAny _ _ _ _ _ { s with heap := ((s.heap.push (seqObj "list" #[] 0)).update s.heap.objs.size (Obj.mapSeq (· ++ vs.toArray))).push (seqObj "list" vs.toArray 0) }
  rw [hsz]
  refine wpAny_bind (wpAny_holding (wpAny_call_entry slot_list_sort ⟨_, hoL, rfl⟩ entry_list_sort (list_sort_tree hoL hI h64 fun out ns' a1 a2 a3 => ⟨_, rfl, ?_⟩) (args_list_sort _)))
  exact wpAny_pure ⟨_, rfl, h out ns' a1 a2 a3⟩
end
section
variable {X : Cx}
theorem cr_sortIT : CallR X (.builtin "sorted") (rSortIT X.K) := by
  intro pins s σ H vs us Q I r h
  obtain ⟨a, ns, rfl, hs, h64, q⟩ := h
  obtain ⟨its, rv, hl, _⟩ := I.tuple hs
  rw [Vals.ref1 r]
  have hi := rv.ints
  refine sorted_tupI hl hi (by rw [hi.length]; exact h64) fun out ns' h1 h2 h3 => ?_
  obtain ⟨ep, he'⟩ := PyProof.Rows.sortedAll_at s.heap its out
  have hlen : (ns'.map V.int).length ≤ sizeLine := by rw [List.length_map, h2.length_eq]; exact small64 h64
  exact ⟨.ref _, upd H (s.heap.objs.size + 1) (.lst (ns'.map V.int)), I.laid (t' := s.toks) (fun _ _ => PyProof.Rows.sortedAll_old) (Nat.le_succ _) ⟨hlen, out.toList, ep, vals_of_ints h1, he'⟩, rfl, q ns' _ h2 h3 (I.hok.fresh (Nat.le_succ _))⟩
/-- {k: v}, k a tuple of ints and texts -/
def tDispT (tk tv : TE) : TE := fun σ H Q => ∀ p, H p = none → tk σ (upd H p (.dT [])) fun x H1 => tv σ H1 fun y H2 => ∃ (b : Addr) (k : List Key), x = .ref b ∧ H2 p = some (.dT []) ∧ H2 b = some (.tup (k.map kV)) ∧ Q (.ref p) (upd H2 p (.dT [(k, y)]))
theorem pe_dispT {k v : Expr} {pos : Pos} {tk tv : TE} (hu : X.A.units + 1 < cLine) (hk : PE X k tk) (hv : PE X v tv) : PE X (.Dict [some k] [v] pos) (tDispT tk tv) := by
  refine ⟨fun pins s σ H Q I q => ?_⟩
  have hn := I.hok.fresh (Nat.le_refl s.heap.objs.size)
  have I1 := I.laid (a := s.heap.objs.size) (o := .dT []) (h' := s.heap.push { cls := .type "dict", data := .dict #[] }) (t' := s.toks) (fun _ _ q => Heap.get?_push_of_some _ q) (Nat.le_refl _) (dt_empty s.heap I.big)
  have hroom : (tupleKind (mixKind X.prog X.w)).room X.A := (show X.A.units < cLine by omega)
  rw [arm_eval_Dict, zip_pairTrees [some k] [v] X.env pos rfl rfl, dictDisplay_pairs (pairTrees [some k] [v] X.env pos) (by intro z; cases z) (by show 1 < 17; omega)]
  refine wpAny_bind (wpAny_standAt (wpAny_bind (wpAny_subDictH (knd := tupleKind (mixKind X.prog X.w)) (Q := fun d s' => wpAny (model X.prog X.w) X.A (pure (Value.ref d)) (EP X pins σ Q) X.xe s') hroom (by show 1 ≤ 15; omega) ?_)))
  refine pairTrees_cons_walk (thn (hk.run pins _ σ _ _ I1 (q _ hn)) fun u s1 ⟨x, H1, I2, rx, q1⟩ => thn (hv.run pins s1 σ H1 _ I2 q1) fun w2 s2 ⟨y, H2, I3, ry, q2⟩ => pairTrees_nil_walk ?_)
  obtain ⟨b, ks, rfl, hp, hb, qq⟩ := q2
  cases rx
  obtain ⟨z, hd, xs0, rel, dd⟩ := dt_of I3.hok hp
  cases rel
  refine ⟨[(ks, b, w2)], ⟨rfl, rfl, key_of I3.hok hb, trivial⟩, dd, fun h' tk' dd' hs => wpAny_pure ⟨.ref s.heap.objs.size, _, ?_, rfl, qq⟩⟩
  obtain ⟨o, es, ep, ho, h2, h3, h4, _, h5⟩ := dd'
  refine d_write I3 (by rw [hp]; exact True.intro) hs ⟨o, ho⟩ ⟨by show 1 ≤ sizeLine; decide, hd, [(ks, b, w2)], .cons ⟨rfl, ?_, ry⟩ .nil, o, es, ep, ho, h2, h3, h4, h5⟩
  rw [upd_ne (ne_of hb hp (fun z => nomatch z))]
  exact hb
end
end L2

set_option Elab.async false
set_option linter.all false
set_option maxRecDepth 100000
set_option maxHeartbeats 4000000
/-! the common ground: turns and locks in the heap, defs by name -/
namespace Lt
open PySem PySem.Spec PyProof.Rows L2
/-! ### heaps -/
theorem same_new {H : Hp} {p : Addr} {o : HO} (h : H p = none) : Same H (upd H p o) := fun b x e => by
  rw [upd_ne (ne_of_none e h)]
  exact e
/-- an object that H does not know may change -/
theorem same_mut {H H' : Hp} {p : Addr} {o : HO} (e : Same H H') (h : H p = none) : Same H (upd H' p o) := fun a u ha => by
  rw [upd_ne (ne_of_none ha h)]
  exact e a u ha
/-- the tuples stay -/
def Tm (H H' : Hp) : Prop := (∀ a xs, H a = some (.tup xs) → H' a = some (.tup xs)) ∧ ∀ a o xs, H a = some (.frz o (.tup xs)) → H' a = some (.frz o (.tup xs))
theorem Tm.refl (H : Hp) : Tm H H := ⟨fun _ _ h => h, fun _ _ _ h => h⟩
theorem Tm.trans {H H1 H2 : Hp} (a : Tm H H1) (b : Tm H1 H2) : Tm H H2 := ⟨fun c x h => b.1 c x (a.1 c x h), fun c o x h => b.2 c o x (a.2 c o x h)⟩
theorem Tm.of {H H' : Hp} (e : Same H H') : Tm H H' := ⟨fun a xs h => e a _ h, fun a o xs h => e a _ h⟩
/-- a tuple to be read: its object known or not -/
abbrev RT (H : Hp) (a : Addr) (xs : List V) : Prop := Rd H a (.tup xs)
theorem RT.tm {H H' : Hp} {a : Addr} {xs : List V} (h : RT H a xs) (e : Tm H H') : RT H' a xs := by
  rcases h with h | ⟨o, h⟩
  · exact .inl (e.1 _ _ h)
  · exact .inr ⟨o, e.2 _ _ _ h⟩
theorem RT.sm {H H' : Hp} {a : Addr} {xs : List V} (h : RT H a xs) (e : Same H H') : RT H' a xs := h.tm (.of e)
theorem RT.sq {K : PySem.W.Frag} {H : Hp} {a : Addr} {xs : List V} (h : RT H a xs) : SqT K H a xs := .inl h
/-- what is no tuple may change -/
theorem Tm.mut {H : Hp} {p : Addr} {o u : HO} (h : H p = some u) (hu : ∀ xs, u ≠ .tup xs) (hf : ∀ ob xs, u ≠ .frz ob (.tup xs)) : Tm H (upd H p o) :=
  ⟨fun a xs e => by rw [upd_ne (ne_of e h (fun z => hu xs z.symm))]; exact e, fun a ob xs e => by rw [upd_ne (ne_of e h (fun z => hf ob xs z.symm))]; exact e⟩
theorem Tm.lst {H : Hp} {p : Addr} {o : HO} {ys : List V} (h : H p = some (.lst ys)) : Tm H (upd H p o) := .mut h (fun _ z => nomatch z) fun _ _ z => nomatch z
theorem Tm.dT {H : Hp} {p : Addr} {o : HO} {ys : List (List Key × V)} (h : H p = some (.dT ys)) : Tm H (upd H p o) := .mut h (fun _ z => nomatch z) fun _ _ z => nomatch z
theorem Tm.new {H : Hp} {p : Addr} {o : HO} (h : H p = none) : Tm H (upd H p o) := .of (same_new h)

/-! ### turns: tuples of numbers -/
def nI (n : Nat) : V := .int (n : Int)
def nIs (t : List Nat) : List V := t.map nI
def TN (H : Hp) (v : V) (t : List Nat) : Prop := ∃ a, v = .ref a ∧ RT H a (nIs t)
/-- one that no dict refuses as a key -/
def TK (H : Hp) (v : V) (t : List Nat) : Prop := ∃ a, v = .ref a ∧ H a = some (.tup (nIs t))
theorem TK.tn {H : Hp} {v : V} {t : List Nat} (h : TK H v t) : TN H v t := let ⟨a, e, h⟩ := h; ⟨a, e, .inl h⟩
theorem TK.tm {H H' : Hp} {v : V} {t : List Nat} (e : Tm H H') (h : TK H v t) : TK H' v t := let ⟨a, ev, ha⟩ := h; ⟨a, ev, e.1 _ _ ha⟩
/-- a tuple of turns -/
def TT (H : Hp) (v : V) (ts : List (List Nat)) : Prop := ∃ a xs, v = .ref a ∧ H a = some (.tup xs) ∧ Paired (TN H) xs ts
/-- a list of turns at a -/
def LT (H : Hp) (a : Addr) (ts : List (List Nat)) : Prop := ∃ xs, H a = some (.lst xs) ∧ Paired (TN H) xs ts
theorem TN.tm {H H' : Hp} {v : V} {t : List Nat} (e : Tm H H') (h : TN H v t) : TN H' v t := let ⟨a, ev, ha⟩ := h; ⟨a, ev, ha.tm e⟩
theorem TNs.tm {H H' : Hp} (e : Tm H H') : ∀ {xs : List V} {ts : List (List Nat)}, Paired (TN H) xs ts → Paired (TN H') xs ts
  | _, _, .nil => .nil
  | _, _, .cons r t => .cons (r.tm e) (TNs.tm e t)
theorem TT.tm {H H' : Hp} {v : V} {t : List (List Nat)} (e : Tm H H') (h : TT H v t) : TT H' v t := let ⟨a, xs, ev, ha, p⟩ := h; ⟨a, xs, ev, e.1 _ _ ha, TNs.tm e p⟩
theorem LT.same {H H' : Hp} {v : Addr} {t : List (List Nat)} (e : Same H H') (h : LT H v t) : LT H' v t := let ⟨xs, ha, p⟩ := h; ⟨xs, e _ _ ha, TNs.tm (.of e) p⟩
theorem nIs_len (t : List Nat) : (nIs t).length = t.length := List.length_map ..
theorem nIs_get (t : List Nat) (i : Nat) : (nIs t)[i]? = (t[i]?).map nI := List.getElem?_map ..
theorem nIs_int (t : List Nat) : nIs t = (t.map Int.ofNat).map V.int := by
  unfold nIs
  rw [List.map_map]
  rfl
theorem nIs_key (t : List Nat) : nIs t = (t.map fun n : Nat => (Sum.inl (Int.ofNat n) : Key)).map kV := by
  unfold nIs
  rw [List.map_map]
  rfl
theorem Paired.getL {α β : Type} {F : α → β → Prop} : ∀ {xs : List α} {ys : List β} {i : Nat} {x : α}, Paired F xs ys → xs[i]? = some x → ∃ y, ys[i]? = some y ∧ F x y
  | _, _, _, _, .nil, e => by simp at e
  | _, _, 0, _, .cons r _, e => by simp at e; subst e; exact ⟨_, rfl, r⟩
  | _, _, i + 1, x, .cons _ t, e => by
    obtain ⟨u, h1, h2⟩ := Paired.getL (i := i) (x := x) t (by simpa using e)
    exact ⟨u, by simpa using h1, h2⟩
theorem Paired.getR {α β : Type} {F : α → β → Prop} : ∀ {xs : List α} {ys : List β} {i : Nat} {y : β}, Paired F xs ys → ys[i]? = some y → ∃ x, xs[i]? = some x ∧ F x y
  | _, _, _, _, .nil, e => by simp at e
  | _, _, 0, _, .cons r _, e => by simp at e; subst e; exact ⟨_, rfl, r⟩
  | _, _, i + 1, x, .cons _ t, e => by
    obtain ⟨u, h1, h2⟩ := Paired.getR (i := i) (y := x) t (by simpa using e)
    exact ⟨u, by simpa using h1, h2⟩
theorem Paired.app {α β : Type} {F : α → β → Prop} : ∀ {xs xs' : List α} {ys ys' : List β}, Paired F xs ys → Paired F xs' ys' → Paired F (xs ++ xs') (ys ++ ys')
  | _, _, _, _, .nil, h => h
  | _, _, _, _, .cons r t, h => .cons r (Paired.app t h)
theorem Paired.one {α β : Type} {F : α → β → Prop} {x : α} {y : β} (h : F x y) : Paired F [x] [y] := .cons h .nil
theorem Paired.tk {α β : Type} {F : α → β → Prop} : ∀ (n : Nat) {xs : List α} {ys : List β}, Paired F xs ys → Paired F (xs.take n) (ys.take n)
  | 0, _, _, _ => .nil
  | _ + 1, _, _, .nil => .nil
  | n + 1, _, _, .cons r t => .cons r (Paired.tk n t)
theorem Paired.dr {α β : Type} {F : α → β → Prop} : ∀ (n : Nat) {xs : List α} {ys : List β}, Paired F xs ys → Paired F (xs.drop n) (ys.drop n)
  | 0, _, _, h => h
  | _ + 1, _, _, .nil => .nil
  | n + 1, _, _, .cons r t => Paired.dr n t

/-! ### data for == and in -/
def dN (n : Nat) : PyData := .int (n : Int)
def dT (t : List Nat) : PyData := .tuple (t.map dN)
theorem dp_nats {K : PySem.W.Frag} {H : Hp} : ∀ t : List Nat, DpAll K H (nIs t) (t.map dN)
  | [] => .nil
  | n :: t => .cons (.int _) (dp_nats t)
theorem TN.dp {K : PySem.W.Frag} {H : Hp} {v : V} {t : List Nat} (h : TN H v t) : Dp K H v (dT t) := by
  obtain ⟨a, rfl, ha⟩ := h
  exact .tup ha.sq (dp_nats t)
theorem TNs.dp {K : PySem.W.Frag} {H : Hp} : ∀ {xs : List V} {ts : List (List Nat)}, Paired (TN H) xs ts → DpAll K H xs (ts.map dT)
  | _, _, .nil => .nil
  | _, _, .cons r t => .cons r.dp (TNs.dp t)
theorem TT.dp {K : PySem.W.Frag} {H : Hp} {v : V} {ts : List (List Nat)} (h : TT H v ts) : Dp K H v (.tuple (ts.map dT)) := by
  obtain ⟨a, xs, rfl, ha, p⟩ := h
  exact .tup (SqT.of ha) (TNs.dp p)
theorem LT.dp {K : PySem.W.Frag} {H : Hp} {a : Addr} {ts : List (List Nat)} (h : LT H a ts) : Dp K H (.ref a) (.list (ts.map dT)) := by
  obtain ⟨xs, ha, p⟩ := h
  exact .lst (SqL.of ha) (TNs.dp p)
theorem eqvAll_map {α : Type} [DecidableEq α] {f : α → PyData} (h : ∀ x y, PyData.eqv (f x) (f y) = decide (x = y)) : ∀ xs ys : List α, PyData.eqvAll (xs.map f) (ys.map f) = decide (xs = ys)
  | [], [] => by simp [PyData.eqvAll]
  | [], _ :: _ => by simp [PyData.eqvAll]
  | _ :: _, [] => by simp [PyData.eqvAll]
  | x :: xs, y :: ys => by
    rw [List.map_cons, List.map_cons, PyData.eqvAll, h, eqvAll_map h xs ys]
    by_cases e1 : x = y <;> by_cases e2 : xs = ys <;> simp [e1, e2]
theorem eqv_dN (a b : Nat) : PyData.eqv (dN a) (dN b) = decide (a = b) := by
  show ((a : Int) == (b : Int)) = decide (a = b)
  by_cases e : a = b
  · subst e; simp
  · rw [decide_eq_false e]
    exact beq_eq_false_iff_ne.mpr (by omega)
theorem eqv_dT (s t : List Nat) : PyData.eqv (dT s) (dT t) = decide (s = t) := by
  show PyData.eqvAll (s.map dN) (t.map dN) = _
  exact eqvAll_map eqv_dN s t
theorem eqv_dTT (s t : List (List Nat)) : PyData.eqv (.tuple (s.map dT)) (.tuple (t.map dT)) = decide (s = t) := by
  show PyData.eqvAll (s.map dT) (t.map dT) = _
  exact eqvAll_map eqv_dT s t
theorem depth_nats : ∀ t : List Nat, PyData.depthAll (t.map dN) = 0
  | [] => rfl
  | n :: t => by
    show max (PyData.depth (dN n)) (PyData.depthAll (t.map dN)) = 0
    rw [depth_nats t]
    rfl
theorem can_nats : ∀ t : List Nat, PyData.canLayAll0 (t.map dN) = true
  | [] => rfl
  | n :: t => by
    show (PyData.canLay0 (dN n) && PyData.canLayAll0 (t.map dN)) = true
    rw [can_nats t]
    rfl
theorem depth_turns : ∀ t : List (List Nat), PyData.depthAll (t.map dT) ≤ 1
  | [] => Nat.zero_le _
  | n :: t => by
    show max (PyData.depthAll (n.map dN) + 1) (PyData.depthAll (t.map dT)) ≤ 1
    rw [depth_nats n]
    have := depth_turns t
    omega
theorem can_turns : ∀ t : List (List Nat), PyData.canLayAll0 (t.map dT) = true
  | [] => rfl
  | n :: t => by
    show (PyData.canLayAll0 (n.map dN) && PyData.canLayAll0 (t.map dT)) = true
    rw [can_turns t, can_nats n]
    rfl
theorem sh_T (t : List Nat) : SeqAt.shaped (dT t) = true := by
  show (PyData.canLayAll0 (t.map dN) && decide (PyData.depthAll (t.map dN) + 1 ≤ 64)) = true
  rw [can_nats, depth_nats]
  rfl
theorem sh_TT (t : List (List Nat)) : SeqAt.shaped (.tuple (t.map dT)) = true := by
  show (PyData.canLayAll0 (t.map dT) && decide (PyData.depthAll (t.map dT) + 1 ≤ 64)) = true
  have := depth_turns t
  rw [can_turns, decide_eq_true (by omega)]
  rfl
theorem sh_LT (t : List (List Nat)) : SeqAt.shaped (.list (t.map dT)) = true := sh_TT t
theorem any_dT (ts : List (List Nat)) (t : List Nat) : ((ts.map dT).any fun z => PyData.eqv z (dT t)) = decide (t ∈ ts) := by
  induction ts with
  | nil => simp
  | cons a ts ih =>
    rw [List.map_cons, List.any_cons, ih, eqv_dT]
    by_cases e : a = t
    · subst e; simp
    · have e' : ¬ t = a := fun z => e z.symm
      simp [e, e']

/-! ### defs by name -/
section
variable (P : Program) (w : World) (K : PySem.W.Frag) (mg : Str → Option Value) (base : Heap)
/-- the def x of the module's top keeps the promise sp -/
def Has (CX : CXT) (k : Nat) (x : Str) (ps : List Str) (sp : Sp) : Prop :=
  ∃ (f : Addr) (fd : FuncData), mg x = some (.ref f) ∧ PySem.W.keepIn K (.ref f) = true ∧ Binds K fd ps [] ∧ FnOk P w K mg base CX k f fd ps sp
/-- the def x of the module's top is the statement st -/
def Top (x : Str) (st : Stmt) (ps : List Str) : Prop := ∃ (f : Addr) (fd : FuncData), mg x = some (.ref f) ∧ Fun K x x st f fd ∧ Binds K fd ps []
end
section
variable {P : Program} {w : World} {K : PySem.W.Frag} {mg : Str → Option Value} {base : Heap}
theorem Has.mono {CX : CXT} {j k : Nat} {x : Str} {ps : List Str} {sp : Sp} (h : Has P w K mg base CX j x ps sp) (l : j ≤ k) : Has P w K mg base CX k x ps sp :=
  let ⟨f, fd, a, b, c, d⟩ := h
  ⟨f, fd, a, b, c, d.mono l⟩
theorem Has.imp {CX : CXT} {k : Nat} {x : Str} {ps : List Str} {sp sp' : Sp} (h : Has P w K mg base CX k x ps sp) (i : ∀ vs H Q E, sp' vs H Q E → sp vs H Q E) : Has P w K mg base CX k x ps sp' :=
  let ⟨f, fd, a, b, c, d⟩ := h
  ⟨f, fd, a, b, c, d.imp i⟩
/-- THE RULE for a def that raises nothing -/
theorem Top.ok {x : Str} {st : Stmt} {N ps : List Str} {k : Nat} {sp : Sp} (T : Top K mg x st ps) (S : FnScope N ps (defScope st)) (len : ∀ vs H Q E, sp vs H Q E → vs.length = ps.length)
    (hbody : ∀ (f : Addr) (cdv : Value) (A : Around) (outer : List Env) (s : Shared) (H : Hp) (vs : List V) (Q : VK) (E : XK), Room k (A.deeper (envOfC x (defScope st) s.heap.objs.size f cdv)) → sp vs H Q E →
      ∃ t, PSs (cxOf CX0 P w K mg base N x (defScope st) f cdv A outer s H E).nox (defBody st) t ∧ t { nx := fun _ H' => Q .non H', rt := Q } (start N vs) H) : Has P w K mg base CX0 (k + 1) x ps sp := by
  obtain ⟨f, fd, hm, F, b⟩ := T
  exact ⟨f, fd, hm, F.kp, b, F.ok S len fun cdv A outer s H vs Q E hr h => hbody f cdv A outer s H vs Q E hr h⟩
end
/-- a call of such a def -/
theorem pe_has {X : Cx} {k : Nat} {x : Str} {ps : List Str} {sp : Sp} {e : Expr} {es : List Expr} {t : TA} {p pos : Pos} (h : Has X.prog X.w X.K X.mg X.base CX0 k x ps sp) (hr : Room k X.A) (hg : Gl X x) (ha : PA X (e :: es) t)
    (hdb : (x == ("__debug__" : Str)) = false := by decide) (he : starEach (e :: es) X.env = (false, eval e X.env) :: starEach es X.env := by rfl) (hpl : (backTo pos (starEach es X.env)).any (·.1) = false := by rfl) :
    PE X (.Call (.Name x p) (e :: es) [] pos) (tCall sp [] E0 t) := by
  obtain ⟨f, fd, hm, hk, hb, F⟩ := h
  exact pe_call F hr hg hm hk hb .nil pass0 ha hdb he hpl
end Lt

set_option Elab.async false
set_option linter.all false
set_option maxRecDepth 100000
set_option maxHeartbeats 4000000
/-! errors of the program's own -/
namespace L2
open PySem PySem.Spec PyProof.Rows
section
variable {X : Cx} {pos : Pos}
/-- X(), X an own exception class without own __init__ -/
theorem pmk_own0 {C : Addr} {bmB : List Value} {B newId initId : String} {x : Str} {p : Pos} (F : ExcBaseFacts B newId initId bmB) (q : PySem.W.excIn X.K C bmB newId = true) (gC : X.mg x = some (.ref C))
    (kC : PySem.W.keepIn X.K (.ref C) = true) (r : Raises X (.ref C)) (hg : Gl X x) (hdb : (x == ("__debug__" : Str)) = false := by decide) :
    PMk X (.Call (.Name x p) [] [] pos) (fun _ H Q => Q (.ref C) none H) := by
  intro pins s σ H Q I h
  refine wpAny_Call_Name_kw (ld_glob I hg gC ?_ hdb)
  refine PySem.W.callWith_K0 I.kIn kC ?_
  obtain ⟨bm, N, nm, qn, bs, hdct, sn, sub, ab, col, dd, k0, k1, k2, k3, k5, mN, hC, hN, hni, T⟩ := exc_obj I.kIn q
  exact wpAny_call_exc_subT F T hC hN hni (fun h' e hm => mk_of I hm r h (I.hok.gone hm.new)) (Nat.zero_le _)
end
end L2
namespace Lt
open PySem PySem.Spec PyProof.Rows L2
/-- __init__(self, f): self.f = f -/
def spInit (K : PySem.W.Frag) (fld : Str) : Sp := fun vs H Q _ => ∃ (a C : Addr) (v : V), vs = [.ref a, v] ∧ OexC K C ∧ PySem.W.findIn K (.ref C) fld = some none ∧ H a = some (exo a C none) ∧
  ∀ dx, H dx = none → dx ≠ a → Q .non (upd (upd H dx (exd dx [(fld, v)])) a (exo a C (some dx)))
section
variable (P : Program) (w : World) (K : PySem.W.Frag) (mg : Str → Option Value) (base : Heap)
/-- an own error class with the field fld, set by its __init__ -/
structure ErrI (x fld : Str) (C : Addr) : Prop where
  oex : OexC K C
  g : mg x = some (.ref C)
  no : PySem.W.findIn K (.ref C) fld = some none
  init : ∃ fI fd, PySem.W.findIn K (.ref C) "__init__" = some (some (.ref fI)) ∧ PySem.W.typeIn K (.ref fI) = some (.type "function") ∧ Binds K fd ["self", fld] [] ∧ FnOk P w K mg base CX0 1 fI fd ["self", fld] (spInit K fld)
  xf : XfC K C
  exm : PySem.W.exmOne K (.ref C) (.ref C) = some true
/-- one without -/
structure Err0 (x : Str) (C : Addr) : Prop where
  q : PySem.W.excIn K C [.type "ValueError", .type "Exception", .type "BaseException", .type "object"] "ValueError.__new__" = true
  g : mg x = some (.ref C)
  k : PySem.W.keepIn K (.ref C) = true
  exC : PySem.W.subIn K (.ref C) (.type "BaseException") = some true
  tyC : PySem.W.typeIn K (.ref C) = some (.type "type")
  exm : PySem.W.exmOne K (.ref C) (.ref C) = some true
end
/-- an error with its field lies behind H -/
def BadF (C : Addr) (fld : Str) (v : V) (H : Hp) (E : XK) : Prop := ∀ d H', Same H H' → H' d = some (.xd [(fld, v)]) → E (.ref C) (some d) H'
/-- an error without fields -/
def Bad0 (C : Addr) (H : Hp) (E : XK) : Prop := ∀ H', Same H H' → E (.ref C) none H'
theorem BadF.same {C : Addr} {fld : Str} {v : V} {H H' : Hp} {E : XK} (h : BadF C fld v H E) (s : Same H H') : BadF C fld v H' E := fun d H2 s2 => h d H2 (s.trans s2)
theorem Bad0.same {C : Addr} {H H' : Hp} {E : XK} (h : Bad0 C H E) (s : Same H H') : Bad0 C H' E := fun H2 s2 => h H2 (s.trans s2)
theorem mk_read {K : PySem.W.Frag} {C : Addr} {fld : Str} {v : V} {H1 : Hp} {Q : XK} (oex : OexC K C) (no : PySem.W.findIn K (.ref C) fld = some none) (h : BadF C fld v H1 Q) :
    [v].length ≤ 1000 ∧ ∀ a, H1 a = none → spInit K fld (.ref a :: ([v] ++ [])) (upd H1 a (exo a C none))
      (fun u H2 => u = .non ∧ ∃ (d : Addr) (fs : List (Str × V)), H2 a = some (exo a C (some d)) ∧ H2 d = some (exd d fs) ∧ H1 d = none ∧ Q (.ref C) (some d) (upd (del H2 a) d (.xd fs))) (fun _ _ _ => False) := by
  refine ⟨by show 1 ≤ 1000; omega, fun a ha => ⟨a, C, v, rfl, oex, no, upd_same, fun dx hdx hne => ⟨rfl, dx, [(fld, v)], upd_same, ?_, ?_, ?_⟩⟩⟩
  · rw [upd_ne hne, upd_same]
  · rw [upd_ne hne] at hdx
    exact hdx
  · rw [upd_ne hne] at hdx
    refine h dx _ (fun b o e => ?_) upd_same
    have h1 : b ≠ a := ne_of_none e ha
    have h2 : b ≠ dx := ne_of_none e hdx
    rw [upd_ne h2, del_ne h1, upd_ne h1, upd_ne h2, upd_ne h1]
    exact e
section
variable {X : Cx} {P : Program} {w : World} {K : PySem.W.Frag} {mg : Str → Option Value} {base : Heap}
/-- raise X(e) -/
theorem pmk_errI {x fld : Str} {C : Addr} {e : Expr} {ta : TA} {p pos : Pos} (T : ErrI X.prog X.w X.K X.mg X.base x fld C) (hr : Room 2 X.A) (hg : Gl X x) (ha : PA X [e] ta)
    (hdb : (x == ("__debug__" : Str)) = false := by decide) (he : starEach (e :: []) X.env = (false, eval e X.env) :: starEach [] X.env := by rfl) (hpl : (backTo pos (starEach [] X.env)).any (·.1) = false := by rfl) :
    PMk X (.Call (.Name x p) [e] [] pos) (tMkO C (spInit X.K fld) [] ta) := by
  obtain ⟨fI, fd, iC, tI, b, F⟩ := T.init
  exact pmk_oex T.oex iC tI F hr b .nil pass0 hg T.g ha hdb he hpl
theorem pmk_err0 {x : Str} {C : Addr} {p pos : Pos} (T : Err0 X.K X.mg x C) (hg : Gl X x) (hdb : (x == ("__debug__" : Str)) = false := by decide) :
    PMk X (.Call (.Name x p) [] [] pos) (fun _ H Q => Q (.ref C) none H) := pmk_own0 PySem.F.excBase_ValueError T.q T.g T.k (raises_own T.exC T.tyC) hg hdb
/-- THE RULE for a def that may raise -/
theorem Top.okX {x : Str} {st : Stmt} {N ps : List Str} {k : Nat} {sp : Sp} (T : Top K mg x st ps) (S : FnScope N ps (defScope st)) (len : ∀ vs H Q E, sp vs H Q E → vs.length = ps.length)
    (hbody : ∀ (f : Addr) (cdv : Value) (A : Around) (outer : List Env) (s : Shared) (H : Hp) (vs : List V) (Q : VK) (E : XK), Room k (A.deeper (envOfC x (defScope st) s.heap.objs.size f cdv)) → sp vs H Q E →
      ∃ t, PSs (cxOf (L2.CX P w) P w K mg base N x (defScope st) f cdv A outer s H E) (defBody st) t ∧ t { nx := fun _ H' => Q .non H', rt := Q } (start N vs) H) : Has P w K mg base (L2.CX P w) (k + 1) x ps sp := by
  obtain ⟨f, fd, hm, F, b⟩ := T
  exact ⟨f, fd, hm, F.kp, b, F.okX S len fun cdv A outer s H vs Q E hr h => hbody f cdv A outer s H vs Q E hr h⟩
/-- a call of a def that may raise, in a body that lets it out -/
theorem pe_hasX {k : Nat} {x : Str} {ps : List Str} {sp : Sp} {e : Expr} {es : List Expr} {t : TA} {p pos : Pos} {E : XK} (h : Has X.prog X.w X.K X.mg X.base (L2.CX X.prog X.w) k x ps sp) (hr : Room k X.A) (hg : Gl X x) (hx : Passes (L2.CX X.prog X.w) X E) (ha : PA X (e :: es) t)
    (hdb : (x == ("__debug__" : Str)) = false := by decide) (he : starEach (e :: es) X.env = (false, eval e X.env) :: starEach es X.env := by rfl) (hpl : (backTo pos (starEach es X.env)).any (·.1) = false := by rfl) :
    PE X (.Call (.Name x p) (e :: es) [] pos) (tCall sp [] E t) := by
  obtain ⟨f, fd, hm, hk, hb, F⟩ := h
  exact pe_call F hr hg hm hk hb .nil hx ha hdb he hpl
/-- the same where what is raised is caught around -/
theorem pe_hasS {k : Nat} {x : Str} {ps : List Str} {sp : Sp} {e : Expr} {es : List Expr} {t : TA} {p pos : Pos} {E : L2.St → XK} (h : Has X.prog X.w X.K X.mg X.base (L2.CX X.prog X.w) k x ps sp) (hr : Room k X.A) (hg : Gl X x) (hx : ∀ σ, PassesAt (L2.CX X.prog X.w) X σ (E σ)) (ha : PA X (e :: es) t)
    (hdb : (x == ("__debug__" : Str)) = false := by decide) (he : starEach (e :: es) X.env = (false, eval e X.env) :: starEach es X.env := by rfl) (hpl : (backTo pos (starEach es X.env)).any (·.1) = false := by rfl) :
    PE X (.Call (.Name x p) (e :: es) [] pos) (tCallS sp E t) := by
  obtain ⟨f, fd, hm, hk, hb, F⟩ := h
  exact pe_callS F hr hg hm hk hb hx ha hdb he hpl
end
/-- no error is wished for: the same def as one that raises nothing -/
theorem pe_hasL {X : Cx} {k : Nat} {x : Str} {ps : List Str} {sp : Sp} {e : Expr} {es : List Expr} {t : TA} {p pos : Pos} (h : Has X.prog X.w X.K X.mg X.base (L2.CX X.prog X.w) k x ps sp) (hr : Room k X.A) (hg : Gl X x) (ha : PA X (e :: es) t)
    (hdb : (x == ("__debug__" : Str)) = false := by decide) (he : starEach (e :: es) X.env = (false, eval e X.env) :: starEach es X.env := by rfl) (hpl : (backTo pos (starEach es X.env)).any (·.1) = false := by rfl) :
    PE X (.Call (.Name x p) (e :: es) [] pos) (tCall sp [] E0 t) := pe_hasX h hr hg passL ha hdb he hpl
end Lt

set_option linter.all false
set_option Elab.async false
/-! permutations as lists of numbers; the turns that given ones make -/
namespace Lt
def IsP (n : Nat) (t : List Nat) : Prop := t.Perm (List.range n)
instance (n : Nat) (t : List Nat) : Decidable (IsP n t) := inferInstanceAs (Decidable (t.Perm (List.range n)))
theorem IsP.len {n : Nat} {t : List Nat} (h : IsP n t) : t.length = n := by
  have e := List.Perm.length_eq h
  rw [List.length_range] at e
  exact e
theorem IsP.nd {n : Nat} {t : List Nat} (h : IsP n t) : t.Nodup := (List.Perm.nodup_iff h).mpr List.nodup_range
theorem IsP.mem {n : Nat} {t : List Nat} (h : IsP n t) {i : Nat} : i ∈ t ↔ i < n := (List.Perm.mem_iff h).trans List.mem_range
theorem IsP.lt {n : Nat} {t : List Nat} (h : IsP n t) : ∀ i ∈ t, i < n := fun i hi => h.mem.mp hi
theorem IsP.still (n : Nat) : IsP n (List.range n) := List.Perm.refl _
def prod (x y : List Nat) : List Nat := x.map fun i => y.getD i 0
theorem prod_len (x y : List Nat) : (prod x y).length = x.length := List.length_map ..
theorem map_getD_range : ∀ (y : List Nat), (List.range y.length).map (fun i => y.getD i 0) = y := fun y => by
  apply List.ext_getElem?
  intro i
  rw [List.getElem?_map]
  by_cases h : i < y.length
  · rw [List.getElem?_range h, Option.map_some, List.getD_eq_getElem?_getD, List.getElem?_eq_getElem h, Option.getD_some]
  · rw [List.getElem?_eq_none (by rw [List.length_range]; omega), List.getElem?_eq_none (by omega), Option.map_none]
theorem IsP.prod {n : Nat} {x y : List Nat} (hx : IsP n x) (hy : IsP n y) : IsP n (prod x y) := by
  have h : (Lt.prod x y).Perm ((List.range n).map fun i => y.getD i 0) := List.Perm.map _ hx
  have e := map_getD_range y
  rw [hy.len] at e
  rw [e] at h
  exact h.trans hy
theorem prod_still_l {n : Nat} {x : List Nat} (hx : x.length = n) : prod (List.range n) x = x := by
  subst hx
  exact map_getD_range x
theorem getD_range {n i : Nat} (h : i < n) : (List.range n).getD i 0 = i := by
  rw [List.getD_eq_getElem?_getD, List.getElem?_range h, Option.getD_some]
theorem prod_still_r {n : Nat} {x : List Nat} (hx : ∀ i ∈ x, i < n) : prod x (List.range n) = x := by
  unfold prod
  refine (List.map_congr_left (g := id) fun i hi => ?_).trans (List.map_id x)
  exact getD_range (hx i hi)
theorem prod_assoc {x y z : List Nat} (hx : ∀ i ∈ x, i < y.length) : prod (prod x y) z = prod x (prod y z) := by
  unfold prod
  rw [List.map_map]
  refine List.map_congr_left fun i hi => ?_
  show z.getD (y.getD i 0) 0 = (y.map fun i => z.getD i 0).getD i 0
  rw [List.getD_eq_getElem?_getD (l := y.map _), List.getElem?_map, List.getD_eq_getElem?_getD (l := y), List.getElem?_eq_getElem (hx i hi)]
  rfl
def inv (t : List Nat) : List Nat := (List.range t.length).map fun p => t.idxOf p
theorem inv_len (t : List Nat) : (inv t).length = t.length := by
  unfold inv
  rw [List.length_map, List.length_range]
theorem map_idxOf {t : List Nat} (h : t.Nodup) : t.map (fun p => t.idxOf p) = List.range t.length := by
  apply List.ext_getElem?
  intro i
  rw [List.getElem?_map]
  by_cases hi : i < t.length
  · rw [List.getElem?_range hi, List.getElem?_eq_getElem hi, Option.map_some, h.idxOf_getElem i hi]
  · rw [List.getElem?_eq_none (by omega), List.getElem?_eq_none (by rw [List.length_range]; omega), Option.map_none]
theorem IsP.inv {n : Nat} {t : List Nat} (h : IsP n t) : IsP n (inv t) := by
  have e := map_idxOf h.nd
  rw [h.len] at e
  have h2 : ((List.range n).map fun p => t.idxOf p).Perm (t.map fun p => t.idxOf p) := List.Perm.map _ (List.Perm.symm h)
  rw [e] at h2
  unfold IsP Lt.inv
  rw [h.len]
  exact h2
theorem prod_inv_r {n : Nat} {t : List Nat} (h : IsP n t) : prod t (inv t) = List.range n := by
  have e : prod t (inv t) = t.map fun p => t.idxOf p := by
    unfold prod
    refine List.map_congr_left fun p hp => ?_
    have hl : p < t.length := by rw [h.len]; exact h.lt p hp
    show ((List.range t.length).map fun p => t.idxOf p).getD p 0 = t.idxOf p
    rw [List.getD_eq_getElem?_getD, List.getElem?_map, List.getElem?_range hl]
    rfl
  rw [e, map_idxOf h.nd, h.len]
theorem prod_inv_l {n : Nat} {t : List Nat} (h : IsP n t) : prod (inv t) t = List.range n := by
  unfold prod inv
  rw [List.map_map, h.len]
  refine (List.map_congr_left (g := id) fun p hp => ?_).trans (List.map_id _)
  have hm : p ∈ t := h.mem.mpr (List.mem_range.mp hp)
  show t.getD (t.idxOf p) 0 = p
  rw [List.getD_eq_getElem?_getD, List.getElem?_eq_getElem (List.idxOf_lt_length_of_mem hm), Option.getD_some, List.getElem_idxOf]
theorem inv_unique {n : Nat} {a b : List Nat} (ha : IsP n a) (hb : IsP n b) (h : prod a b = List.range n) : b = inv a := by
  have h1 : prod (prod (inv a) a) b = prod (inv a) (prod a b) := prod_assoc fun i hi => by rw [ha.len]; exact ha.inv.lt i hi
  rw [prod_inv_l ha, h, prod_still_l hb.len, prod_still_r ha.inv.lt] at h1
  exact h1
theorem inv_prod {n : Nat} {a b : List Nat} (ha : IsP n a) (hb : IsP n b) : inv (prod a b) = prod (inv b) (inv a) := by
  refine (inv_unique (ha.prod hb) (hb.inv.prod ha.inv) ?_).symm
  rw [prod_assoc fun i hi => by rw [hb.len]; exact ha.lt i hi]
  rw [← prod_assoc (x := b) fun i hi => by rw [hb.inv.len]; exact hb.lt i hi, prod_inv_r hb, prod_still_l ha.inv.len, prod_inv_r ha]
/-! ### the turns that makers make, one behind another -/
abbrev W := List Nat × List Nat
/-- the words behind one turn with the makers gs, the first of which stands at place p -/
def grow (t w : List Nat) : List (List Nat) → Nat → List W → List W
  | [], _, L => L
  | g :: gs, p, L => grow t w gs (p + 1) (if prod t g ∈ L.map (·.1) then L else L ++ [(prod t g, w ++ [p])])
/-- the words when the first k have been gone through -/
def qq (gs : List (List Nat)) (n : Nat) : Nat → List W
  | 0 => [(List.range n, [])]
  | k + 1 => match (qq gs n k)[k]? with
    | none => qq gs n k
    | some (t, w) => grow t w gs 0 (qq gs n k)
theorem grow_pre (t w : List Nat) : ∀ (gs : List (List Nat)) (p : Nat) (L : List W), ∃ M, grow t w gs p L = L ++ M
  | [], _, L => ⟨[], (List.append_nil L).symm⟩
  | g :: gs, p, L => by
    show ∃ M, grow t w gs (p + 1) (if prod t g ∈ L.map (·.1) then L else L ++ [(prod t g, w ++ [p])]) = L ++ M
    split
    · exact grow_pre t w gs (p + 1) L
    · obtain ⟨M, e⟩ := grow_pre t w gs (p + 1) (L ++ [(prod t g, w ++ [p])])
      exact ⟨[(prod t g, w ++ [p])] ++ M, by rw [e, List.append_assoc]⟩
theorem qq_pre (gs : List (List Nat)) (n : Nat) : ∀ k, ∃ M, qq gs n (k + 1) = qq gs n k ++ M := fun k => by
  show ∃ M, (match (qq gs n k)[k]? with
    | none => qq gs n k
    | some (t, w) => grow t w gs 0 (qq gs n k)) = qq gs n k ++ M
  split
  · exact ⟨[], (List.append_nil _).symm⟩
  · exact grow_pre _ _ _ _ _
theorem qq_pre' (gs : List (List Nat)) (n k : Nat) : ∀ j, ∃ M, qq gs n (k + j) = qq gs n k ++ M
  | 0 => ⟨[], (List.append_nil _).symm⟩
  | j + 1 => by
    obtain ⟨M, e⟩ := qq_pre' gs n k j
    obtain ⟨M', e'⟩ := qq_pre gs n (k + j)
    exact ⟨M ++ M', by rw [← List.append_assoc, ← e, ← e']; rfl⟩
theorem qq_mono (gs : List (List Nat)) (n : Nat) {k m : Nat} (h : k ≤ m) : ∃ M, qq gs n m = qq gs n k ++ M := by
  obtain ⟨M, e⟩ := qq_pre' gs n k (m - k)
  rw [show k + (m - k) = m by omega] at e
  exact ⟨M, e⟩
/-- at the end nothing more comes -/
theorem qq_end (gs : List (List Nat)) (n : Nat) {k : Nat} (h : (qq gs n k).length ≤ k) : ∀ j, qq gs n (k + j) = qq gs n k
  | 0 => rfl
  | j + 1 => by
    have ih := qq_end gs n h j
    show (match (qq gs n (k + j))[k + j]? with
      | none => qq gs n (k + j)
      | some (t, w) => grow t w gs 0 (qq gs n (k + j))) = qq gs n k
    rw [ih, List.getElem?_eq_none (by omega)]
theorem qq_end' (gs : List (List Nat)) (n : Nat) {k m : Nat} (h : (qq gs n k).length ≤ k) (hm : k ≤ m) : qq gs n m = qq gs n k := by
  have e := qq_end gs n h (m - k)
  rw [show k + (m - k) = m by omega] at e
  exact e
theorem grow_keys (t w : List Nat) : ∀ (gs : List (List Nat)) (p : Nat) (L : List W) (x : List Nat), x ∈ (grow t w gs p L).map (·.1) ↔ x ∈ L.map (·.1) ∨ ∃ g ∈ gs, x = prod t g
  | [], _, L, x => by
    show x ∈ L.map (·.1) ↔ _
    simp
  | g :: gs, p, L, x => by
    show x ∈ (grow t w gs (p + 1) (if prod t g ∈ L.map (·.1) then L else L ++ [(prod t g, w ++ [p])])).map (·.1) ↔ _
    rw [grow_keys t w gs (p + 1)]
    split
    · rename_i h
      constructor
      · rintro (h1 | ⟨g', hg, e⟩)
        · exact .inl h1
        · exact .inr ⟨g', List.mem_cons_of_mem _ hg, e⟩
      · rintro (h1 | ⟨g', hg, e⟩)
        · exact .inl h1
        · rcases List.mem_cons.mp hg with z | hg
          · subst z
            rw [e]
            exact .inl h
          · exact .inr ⟨g', hg, e⟩
    · rw [List.map_append, List.mem_append]
      constructor
      · rintro ((h1 | h1) | ⟨g', hg, e⟩)
        · exact .inl h1
        · exact .inr ⟨g, List.mem_cons_self, List.mem_singleton.mp h1⟩
        · exact .inr ⟨g', List.mem_cons_of_mem _ hg, e⟩
      · rintro (h1 | ⟨g', hg, e⟩)
        · exact .inl (.inl h1)
        · rcases List.mem_cons.mp hg with z | hg
          · subst z
            exact .inl (.inr (List.mem_singleton.mpr e))
          · exact .inr ⟨g', hg, e⟩
theorem nodup_snoc {α : Type} {l : List α} {x : α} (h : l.Nodup) (hx : x ∉ l) : (l ++ [x]).Nodup :=
  List.nodup_append.mpr ⟨h, List.pairwise_singleton _ _, fun a ha b hb e => by
    rw [List.mem_singleton.mp hb] at e
    exact hx (e ▸ ha)⟩
theorem grow_nd (t w : List Nat) : ∀ (gs : List (List Nat)) (p : Nat) (L : List W), (L.map (·.1)).Nodup → ((grow t w gs p L).map (·.1)).Nodup
  | [], _, _, h => h
  | g :: gs, p, L, h => by
    refine grow_nd t w gs (p + 1) _ ?_
    split
    · exact h
    · rename_i hx
      rw [List.map_append]
      exact nodup_snoc h hx
theorem qq_nd (gs : List (List Nat)) (n : Nat) : ∀ k, ((qq gs n k).map (·.1)).Nodup
  | 0 => List.pairwise_singleton _ _
  | k + 1 => by
    show ((match (qq gs n k)[k]? with
      | none => qq gs n k
      | some (t, w) => grow t w gs 0 (qq gs n k)).map (fun x : W => x.1)).Nodup
    split
    · exact qq_nd gs n k
    · exact grow_nd _ _ _ _ _ (qq_nd gs n k)
/-- what the makers make -/
inductive Mk (gs : List (List Nat)) (n : Nat) : List Nat → Prop
  | still : Mk gs n (List.range n)
  | step {t g : List Nat} : Mk gs n t → g ∈ gs → Mk gs n (prod t g)
theorem Mk.isP {gs : List (List Nat)} {n : Nat} (hg : ∀ g ∈ gs, IsP n g) {t : List Nat} (h : Mk gs n t) : IsP n t := by
  induction h with
  | still => exact IsP.still n
  | step _ hm ih => exact ih.prod (hg _ hm)
theorem qq_mk (gs : List (List Nat)) (n : Nat) : ∀ k, ∀ t ∈ (qq gs n k).map (·.1), Mk gs n t
  | 0, t, h => by
    rw [List.mem_singleton.mp (show t ∈ [List.range n] from h)]
    exact .still
  | k + 1, t, h => by
    have ih := qq_mk gs n k
    have h' : t ∈ (match (qq gs n k)[k]? with
      | none => qq gs n k
      | some (t, w) => grow t w gs 0 (qq gs n k)).map (fun x : W => x.1) := h
    split at h'
    · exact ih t h'
    · rename_i t0 w0 e
      rcases (grow_keys t0 w0 gs 0 _ t).mp h' with z | ⟨g, hg, z⟩
      · exact ih t z
      · rw [z]
        exact .step (ih t0 (List.mem_map.mpr ⟨_, List.mem_of_getElem? e, rfl⟩)) hg
theorem qq_head (gs : List (List Nat)) (n k : Nat) : (List.range n, ([] : List Nat)) ∈ qq gs n k := by
  obtain ⟨M, e⟩ := qq_mono gs n (Nat.zero_le k)
  rw [e]
  exact List.mem_append.mpr (.inl (List.mem_singleton.mpr rfl))
/-- where the words are all gone through, they are all that is made -/
theorem qq_full {gs : List (List Nat)} {n k : Nat} (h : (qq gs n k).length ≤ k) : ∀ t, t ∈ (qq gs n k).map (·.1) ↔ Mk gs n t := fun t => by
  refine ⟨qq_mk gs n k t, fun m => ?_⟩
  induction m with
  | still => exact List.mem_map.mpr ⟨_, qq_head gs n k, rfl⟩
  | @step t g _ hg ih =>
    obtain ⟨⟨t', w'⟩, hm, e⟩ := List.mem_map.mp ih
    have e : t' = t := e
    subst e
    obtain ⟨i, hi, ei⟩ := List.getElem_of_mem hm
    -- position i was gone through at turn i
    have hk : i + 1 ≤ k := by omega
    obtain ⟨M, eM⟩ := qq_mono gs n hk
    obtain ⟨M0, eM0⟩ := qq_mono gs n (show i ≤ i + 1 by omega)
    by_cases hq : i < (qq gs n i).length
    · have g1 : (qq gs n i)[i]? = some (t', w') := by
        have z : (qq gs n k)[i]? = some (t', w') := by rw [List.getElem?_eq_getElem hi, ei]
        rw [eM, eM0, List.append_assoc, List.getElem?_append_left hq] at z
        exact z
      have g2 : qq gs n (i + 1) = grow t' w' gs 0 (qq gs n i) := by
        show (match (qq gs n i)[i]? with
          | none => qq gs n i
          | some (t, w) => grow t w gs 0 (qq gs n i)) = _
        rw [g1]
      rw [eM, List.map_append, List.mem_append]
      refine .inl ?_
      rw [g2]
      exact (grow_keys t' w' gs 0 _ _).mpr (.inr ⟨g, hg, rfl⟩)
    · have z := qq_end' gs n (show (qq gs n i).length ≤ i by omega) (show i ≤ k by omega)
      rw [z] at hi
      exact absurd hi hq
theorem nodup_len {α : Type} [DecidableEq α] : ∀ (l D : List α), l.Nodup → (∀ x ∈ l, x ∈ D) → l.length ≤ D.length
  | [], _, _, _ => Nat.zero_le _
  | x :: l, D, hn, hs => by
    obtain ⟨h1, h2⟩ := List.nodup_cons.mp hn
    have hx : x ∈ D := hs x List.mem_cons_self
    have ih := nodup_len l (D.erase x) h2 fun y hy => by
      have hne : y ≠ x := fun e => h1 (e ▸ hy)
      exact (List.mem_erase_of_ne hne).2 (hs y (List.mem_cons_of_mem _ hy))
    have e := List.length_erase_of_mem hx
    have hp : 0 < D.length := List.length_pos_of_mem hx
    show l.length + 1 ≤ D.length
    omega
/-- few turns are made: at most m -/
def Few (gs : List (List Nat)) (n m : Nat) : Prop := ∃ D : List (List Nat), D.length ≤ m ∧ ∀ t, Mk gs n t → t ∈ D
theorem Few.le {gs : List (List Nat)} {n m : Nat} (h : Few gs n m) {l : List (List Nat)} (hn : l.Nodup) (hl : ∀ t ∈ l, Mk gs n t) : l.length ≤ m := by
  obtain ⟨D, h1, h2⟩ := h
  exact Nat.le_trans (nodup_len l D hn fun t ht => h2 t (hl t ht)) h1
theorem Few.qq {gs : List (List Nat)} {n m : Nat} (h : Few gs n m) (k : Nat) : (qq gs n k).length ≤ m := by
  have z := h.le (qq_nd gs n k) (qq_mk gs n k)
  rw [List.length_map] at z
  exact z
end Lt

set_option Elab.async false
set_option linter.all false
set_option maxRecDepth 100000
set_option maxHeartbeats 4000000
namespace Lt
open PySem PySem.Spec PyProof.Rows L2
/-- the built-in names that the module leaves as they are -/
structure Bi (mg : Str → Option Value) : Prop where
  tuple : mg "tuple" = none
  list : mg "list" = none
  range : mg "range" = none
  len : mg "len" = none
  sorted : mg "sorted" = none
  enumerate : mg "enumerate" = none
  isinstance : mg "isinstance" = none
  all : mg "all" = none
  set : mg "set" = none
  int : mg "int" = none
  bool : mg "bool" = none
  str : mg "str" = none
/-! ### comprehensions -/
section
variable {K : PySem.W.Frag} {te : TE} {vs : List Nat} {σ : L2.St} {H1 : Hp} {D : Addr} {Qd : Hp → Prop} {β : Type} {j : Nat}
/-- what a comprehension's list holds after i turns -/
def Cm (H1 : Hp) (D : Addr) (R : Hp → V → β → Prop) (ys : List β) (i : Nat) (H : Hp) : Prop := Same H1 H ∧ ∃ zs, H D = some (.lst zs) ∧ Paired (R H) zs (ys.take i) ∧ zs.length ≤ i
theorem paired_mono {α γ : Type} {R R' : α → γ → Prop} (h : ∀ a b, R a b → R' a b) : ∀ {xs : List α} {ys : List γ}, Paired R xs ys → Paired R' xs ys
  | _, _, .nil => .nil
  | _, _, .cons r t => .cons (h _ _ r) (paired_mono h t)
theorem cm_turn {R : Hp → V → β → Prop} {ys : List β} {i : Nat} {H : Hp} {σ2 : L2.St} (mono : ∀ H H' v b, Tm H H' → R H v b → R H' v b) (hD : H1 D = none) (p : Cm H1 D R ys i H) (hi : i < 100000) {b : β} (hb : ys[i]? = some b)
    (he : ∀ H, Same H1 H → ∀ Q : VK, (∀ v H', Same H H' → R H' v b → Q v H') → te σ2 H Q) :
    te σ2 H fun y H4 => ∃ acc, H4 D = some (.lst acc) ∧ acc.length < sizeLine ∧ Cm H1 D R ys (i + 1) (upd H4 D (.lst (acc ++ [y]))) := by
  obtain ⟨sm, zs, hz, pr, hl⟩ := p
  refine he H sm _ fun v H4 s4 r => ?_
  have h4 := s4 _ _ hz
  have t4 : Tm H4 (upd H4 D (.lst (zs ++ [v]))) := Tm.lst h4
  refine ⟨zs, h4, Nat.lt_of_le_of_lt hl (Nat.lt_of_lt_of_le hi (by decide)), same_mut (sm.trans s4) hD, zs ++ [v], upd_same, ?_, by rw [List.length_append]; show zs.length + 1 ≤ i + 1; omega⟩
  rw [List.take_add_one, hb]
  exact Paired.app (paired_mono (fun a b q => mono _ _ _ _ ((Tm.of s4).trans t4) q) pr) (Paired.one (mono _ _ _ _ t4 r))
theorem lc_tupM {a : Addr} {xs : List V} (R : Hp → V → β → Prop) (ys : List β) (mono : ∀ H H' v b, Tm H H' → R H v b → R H' v b) (hx : SqT K H1 a xs) (hxK : ∀ H, Same H1 H → SqT K H a xs) (hz : xs.length ≤ 100000) (hy : ys.length = xs.length) (hD : H1 D = none)
    (hw : ∀ x, wipe ((wipe σ vs).set j (some x)) vs = wipe σ vs)
    (he : ∀ (i : Nat) (x : V) (b : β), xs[i]? = some x → ys[i]? = some b → ∀ H, Same H1 H → ∀ Q : VK, (∀ v H', Same H H' → R H' v b → Q v H') → te ((wipe σ vs).set j (some x)) H Q)
    (hd : ∀ H zs, Same H1 H → H D = some (.lst zs) → Paired (R H) zs ys → Qd H) :
    ∃ W : Nat → Nat → Hp → Prop, (∃ m, W 0 m (upd H1 D (.lst []))) ∧ ∀ i m H, W i m H →
      ((Itt K a).stop i H ∧ Qd H) ∨ ((Itt K a).go i H ∧ ∃ Nx : Hp → Prop, (∀ H', Nx H' → ∃ m', m' < m ∧ W (i + 1) m' H') ∧ ∀ x H', (Itt K a).yld i H x H' → gName j x (wipe σ vs) H' fun σ2 H2 => wipe σ2 vs = wipe σ vs ∧ tYes σ2 H2 fun b H3 =>
        if b = true then te σ2 H3 fun y H4 => ∃ acc, H4 D = some (.lst acc) ∧ acc.length < sizeLine ∧ Nx (upd H4 D (.lst (acc ++ [y]))) else Nx H3) :=
  lc_tup (xs := xs) (Cm H1 D R ys) ⟨same_new hD, [], upd_same, .nil, Nat.le_refl _⟩ (fun i H _ p => hxK H p.1)
    (fun i x H hi p => ⟨hw x, iteT (B := Cm H1 D R ys (i + 1) H) (by
      have hl := (List.getElem?_eq_some_iff.mp hi).1
      have hb : ys[i]? = some (ys[i]'(by omega)) := List.getElem?_eq_getElem (by omega)
      exact cm_turn mono hD p (by omega) hb (he i x _ hi hb))⟩)
    (fun H p => by
      obtain ⟨sm, zs, h1, pr, _⟩ := p
      rw [← hy, List.take_length] at pr
      exact hd H zs sm h1 pr)
theorem lc_listM {a : Addr} {xs : List V} (R : Hp → V → β → Prop) (ys : List β) (mono : ∀ H H' v b, Tm H H' → R H v b → R H' v b) (hxK : ∀ H, Same H1 H → SqL K H a xs) (hz : xs.length ≤ 100000) (hy : ys.length = xs.length) (hD : H1 D = none)
    (hw : ∀ x, wipe ((wipe σ vs).set j (some x)) vs = wipe σ vs)
    (he : ∀ (i : Nat) (x : V) (b : β), xs[i]? = some x → ys[i]? = some b → ∀ H, Same H1 H → ∀ Q : VK, (∀ v H', Same H H' → R H' v b → Q v H') → te ((wipe σ vs).set j (some x)) H Q)
    (hd : ∀ H zs, Same H1 H → H D = some (.lst zs) → Paired (R H) zs ys → Qd H) :
    ∃ W : Nat → Nat → Hp → Prop, (∃ m, W 0 m (upd H1 D (.lst []))) ∧ ∀ i m H, W i m H →
      ((Itl K a).stop i H ∧ Qd H) ∨ ((Itl K a).go i H ∧ ∃ Nx : Hp → Prop, (∀ H', Nx H' → ∃ m', m' < m ∧ W (i + 1) m' H') ∧ ∀ x H', (Itl K a).yld i H x H' → gName j x (wipe σ vs) H' fun σ2 H2 => wipe σ2 vs = wipe σ vs ∧ tYes σ2 H2 fun b H3 =>
        if b = true then te σ2 H3 fun y H4 => ∃ acc, H4 D = some (.lst acc) ∧ acc.length < sizeLine ∧ Nx (upd H4 D (.lst (acc ++ [y]))) else Nx H3) :=
  lc_list (xs := xs) (Cm H1 D R ys) ⟨same_new hD, [], upd_same, .nil, Nat.le_refl _⟩ (fun i H _ p => hxK H p.1)
    (fun i x H hi p => ⟨hw x, iteT (B := Cm H1 D R ys (i + 1) H) (by
      have hl := (List.getElem?_eq_some_iff.mp hi).1
      have hb : ys[i]? = some (ys[i]'(by omega)) := List.getElem?_eq_getElem (by omega)
      exact cm_turn mono hD p (by omega) hb (he i x _ hi hb))⟩)
    (fun H p => by
      obtain ⟨sm, zs, h1, pr, _⟩ := p
      rw [← hy, List.take_length] at pr
      exact hd H zs sm h1 pr)
theorem lc_rangeM {n : Nat} (R : Hp → V → β → Prop) (ys : List β) (mono : ∀ H H' v b, Tm H H' → R H v b → R H' v b) (hz : n ≤ 100000) (hy : ys.length = n) (hD : H1 D = none)
    (hw : ∀ x, wipe ((wipe σ vs).set j (some x)) vs = wipe σ vs)
    (he : ∀ (i : Nat) (b : β), i < n → ys[i]? = some b → ∀ H, Same H1 H → ∀ Q : VK, (∀ v H', Same H H' → R H' v b → Q v H') → te ((wipe σ vs).set j (some (.int ((0 : Int) + (i : Nat))))) H Q)
    (hd : ∀ H zs, Same H1 H → H D = some (.lst zs) → Paired (R H) zs ys → Qd H) :
    ∃ W : Nat → Nat → Hp → Prop, (∃ m, W 0 m (upd H1 D (.lst []))) ∧ ∀ i m H, W i m H →
      ((Itr 0 n).stop i H ∧ Qd H) ∨ ((Itr 0 n).go i H ∧ ∃ Nx : Hp → Prop, (∀ H', Nx H' → ∃ m', m' < m ∧ W (i + 1) m' H') ∧ ∀ x H', (Itr 0 n).yld i H x H' → gName j x (wipe σ vs) H' fun σ2 H2 => wipe σ2 vs = wipe σ vs ∧ tYes σ2 H2 fun b H3 =>
        if b = true then te σ2 H3 fun y H4 => ∃ acc, H4 D = some (.lst acc) ∧ acc.length < sizeLine ∧ Nx (upd H4 D (.lst (acc ++ [y]))) else Nx H3) :=
  lc_range (lo := 0) (n := n) (Cm H1 D R ys) ⟨same_new hD, [], upd_same, .nil, Nat.le_refl _⟩
    (fun i H hi p => ⟨hw _, iteT (B := Cm H1 D R ys (i + 1) H) (by
      have hb : ys[i]? = some (ys[i]'(by omega)) := List.getElem?_eq_getElem (by omega)
      exact cm_turn mono hD p (by omega) hb (he i _ hi hb))⟩)
    (fun H p => by
      obtain ⟨sm, zs, h1, pr, _⟩ := p
      rw [← hy, List.take_length] at pr
      exact hd H zs sm h1 pr)
end
/-- a new tuple of numbers -/
theorem tn_of {H : Hp} {zs : List V} {p : Addr} {t : List Nat} (h : H p = some (.tup zs)) (e : zs = nIs t) : TK H (.ref p) t := ⟨p, rfl, by rw [h, e]⟩
def RN (_ : Hp) (v : V) (n : Nat) : Prop := v = nI n
theorem RN.all {H : Hp} : ∀ {zs : List V} {t : List Nat}, Paired (RN H) zs t → zs = nIs t
  | _, _, .nil => rfl
  | _, _, .cons r t => by rw [(show _ = nI _ from r), RN.all t]; rfl
end Lt

set_option Elab.async false
set_option linter.all false
set_option maxRecDepth 100000
namespace Lt
open PySem PySem.Spec PyProof.Rows L2
def topS (i : Nat) : Stmt := PySem.Challenge.pw_lockturns_k13_whole_benches.main.body.getD i (.Pass ⟨0, 0, 0, 0⟩)
abbrev s_LockError : Stmt := topS 1
abbrev s_BadLock : Stmt := topS 2
abbrev s_BadRow : Stmt := topS 3
abbrev s_TooMany : Stmt := topS 4
abbrev s_BadTurn : Stmt := topS 5
abbrev s_BadNumber : Stmt := topS 6
abbrev s_is_number : Stmt := topS 9
abbrev s_are_numbers : Stmt := topS 10
abbrev s_is_permutation : Stmt := topS 11
abbrev s_still_of : Stmt := topS 12
abbrev s_product_of : Stmt := topS 13
abbrev s_back_of : Stmt := topS 14
abbrev s_words_of : Stmt := topS 15
abbrev s_check_lock : Stmt := topS 20
abbrev s_made_words : Stmt := topS 21
abbrev s_is_turn : Stmt := topS 22
abbrev s_check_turn : Stmt := topS 23
abbrev s_is_step : Stmt := topS 26
abbrev s_Dial : Stmt := topS 28
abbrev s_are_bits : Stmt := topS 29
abbrev s_law_taken : Stmt := topS 31
abbrev s_law_pick : Stmt := topS 32
abbrev s_law_alike : Stmt := topS 33
abbrev s_law_permutation : Stmt := topS 34
abbrev s_law_behind : Stmt := topS 35
abbrev s_law_span : Stmt := topS 36
abbrev s_law_known : Stmt := topS 37
abbrev s_law_lock : Stmt := topS 38
abbrev s_law : Stmt := topS 39
end Lt

set_option Elab.async false
set_option linter.all false
set_option maxRecDepth 100000
set_option maxHeartbeats 4000000
namespace Lt
open PySem PySem.Spec PyProof.Rows L2
section
variable {P : Program} {w : World} {K : PySem.W.Frag} {mg : Str → Option Value} {base : Heap}
/-! ### product_of -/
def spProd : Sp := fun vs H Q _ => ∃ (a b : V) (x y : List Nat), vs = [a, b] ∧ TN H a x ∧ TN H b y ∧ (∀ i ∈ x, i < y.length) ∧ x.length ≤ 1000 ∧ ∀ v H', Same H H' → TK H' v (prod x y) → Q v H'
theorem sc_product_of : FnScope ["one", "other", "place"] ["one", "other"] (defScope s_product_of) := ⟨rfl, rfl, rfl, by decide +kernel, rfl, by decide +kernel, by decide +kernel⟩
theorem has_product_of (T : Top K mg "product_of" s_product_of ["one", "other"]) (B : Bi mg) : Has P w K mg base CX0 1 "product_of" ["one", "other"] spProd := by
  refine T.ok sc_product_of (fun vs H Q E h => ?_) (fun f cdv A outer s H vs Q E hr h => ?_)
  · obtain ⟨a, b, x, y, rfl, _⟩ := h
    rfl
  · obtain ⟨a, b, x, y, rfl, ha, hb, hxy, hx, q⟩ := h
    refine ⟨_, pss_one (ps_ret (pe_tupleOf (by rfl) B.tuple (pe_lc (own := [("place", 2)]) (g := gName 2) (te := tOp (rIxT K) (tVar 1) (tVar 2)) (by rfl) sc_product_of.nd (pi_tup (pv 0)) (blkOk_by (own := [("place", 2)]) (N := ["one", "other", "place"]) (sc := defScope s_product_of) (by decide +kernel))
      (fun _ _ _ _ _ => pg_name (i := 2) sc_product_of.nd rfl (Or.inl rfl)) (fun _ _ _ _ _ => pts_nil) (fun _ _ _ _ _ => pe_ix ix_tup (pv 1) (pv 2) (fun _ _ => rfl))))), ?_⟩
    obtain ⟨pa, rfl, ea⟩ := ha
    obtain ⟨pb, rfl, eb⟩ := hb
    refine ⟨_, rfl, pa, rfl, ⟨_, ea.sq⟩, fun D hD => lc_tupM RN (prod x y) (fun _ _ _ _ _ r => r) (ea.sq) (fun H' sm => (ea.sm sm).sq) (by rw [nIs_len]; omega) (by rw [prod_len, nIs_len]) hD (fun x => rfl) (fun i v n hi hn H' sm Q' q' => ?_) (fun H' zs sm hz pr => ?_)⟩
    · rw [nIs_get] at hi
      obtain ⟨m, hm, rfl⟩ := Option.map_eq_some_iff.mp hi
      have hlt := hxy m (List.mem_of_getElem? hm)
      have e : n = y.getD m 0 := by
        have z : (prod x y)[i]? = some (y.getD m 0) := by
          unfold prod
          rw [List.getElem?_map, hm]
          rfl
        exact Option.some.inj (hn.symm.trans z)
      refine ⟨_, rfl, _, rfl, pb, _, _, nI n, rfl, rfl, (eb.sm sm).sq, atI_nat ?_, q' _ _ (Same.refl _) rfl⟩
      rw [nIs_get, e, List.getD_eq_getElem?_getD, List.getElem?_eq_getElem hlt]
      rfl
    · refine .inl ⟨D, zs, rfl, SqL.of hz, fun p hp => q _ _ (sm.trans (same_new hp)) (tn_of upd_same (RN.all pr))⟩
/-! ### still_of -/
def spStill : Sp := fun vs H Q _ => ∃ (n : Nat), vs = [nI n] ∧ n ≤ 1000 ∧ ∀ v H', Same H H' → TK H' v (List.range n) → Q v H'
theorem sc_still_of : FnScope ["size"] ["size"] (defScope s_still_of) := ⟨rfl, rfl, rfl, by decide +kernel, rfl, by decide +kernel, by decide +kernel⟩
theorem rgV_nat (n : Nat) : rgV 0 (n : Int) = nIs (List.range n) := by
  unfold rgV nIs
  have e : ((n : Int) - 0).toNat = n := by omega
  rw [e]
  refine List.map_congr_left fun i _ => ?_
  show V.int (0 + (i : Int)) = V.int (i : Int)
  rw [Int.zero_add]
theorem has_still_of (T : Top K mg "still_of" s_still_of ["size"]) (B : Bi mg) : Has P w K mg base CX0 1 "still_of" ["size"] spStill := by
  refine T.ok sc_still_of (fun vs H Q E h => ?_) (fun f cdv A outer s H vs Q E hr h => ?_)
  · obtain ⟨n, rfl, _⟩ := h
    rfl
  · obtain ⟨n, rfl, hn, q⟩ := h
    refine ⟨_, pss_one (ps_ret (pe_tupRg (by rfl) (by rfl) B.tuple (prg_1 (by rfl) B.range (pv 0)))), ?_⟩
    refine ⟨_, rfl, _, rfl, .of_le (by omega) (by omega) (by omega) (by omega), fun p hp => q _ _ (same_new hp) (tn_of upd_same (rgV_nat n))⟩
end
end Lt

set_option Elab.async false
set_option linter.all false
set_option maxRecDepth 100000
set_option maxHeartbeats 4000000
namespace Lt
open PySem PySem.Spec PyProof.Rows L2
/-! ### any plain value -/
mutual
inductive Rp (H : Hp) : V → PyData → Prop
  | non : Rp H .non .none
  | bl (b : Bool) : Rp H (.bl b) (.bool b)
  | int (i : Int) : Rp H (.int i) (.int i)
  | str (x : Str) : Rp H (.str x) (.str x)
  | lst {a : Addr} {xs : List V} {ds : List PyData} : H a = some (.lst xs) → RpAll H xs ds → Rp H (.ref a) (.list ds)
  | tup {a : Addr} {xs : List V} {ds : List PyData} : RT H a xs → RpAll H xs ds → Rp H (.ref a) (.tuple ds)
inductive RpAll (H : Hp) : List V → List PyData → Prop
  | nil : RpAll H [] []
  | cons {v : V} {vs : List V} {d : PyData} {ds : List PyData} : Rp H v d → RpAll H vs ds → RpAll H (v :: vs) (d :: ds)
end
mutual
theorem Rp.same {H H' : Hp} (e : Same H H') : ∀ (d : PyData) (v : V), Rp H v d → Rp H' v d
  | .none, _, .non => .non
  | .bool _, _, .bl b => .bl b
  | .int _, _, .int i => .int i
  | .str _, _, .str i => .str i
  | .list ds, _, .lst h a => .lst (e _ _ h) (RpAll.same e ds _ a)
  | .tuple ds, _, .tup h a => .tup (h.sm e) (RpAll.same e ds _ a)
theorem RpAll.same {H H' : Hp} (e : Same H H') : ∀ (ds : List PyData) (vs : List V), RpAll H vs ds → RpAll H' vs ds
  | [], _, .nil => .nil
  | d :: ds, _, .cons r t => .cons (Rp.same e d _ r) (RpAll.same e ds _ t)
end
mutual
theorem Rp.dp {K : PySem.W.Frag} {H : Hp} : ∀ (d : PyData) (v : V), Rp H v d → Dp K H v d
  | .none, _, .non => .non
  | .bool _, _, .bl b => .bl b
  | .int _, _, .int i => .int i
  | .str _, _, .str i => .str i
  | .list ds, _, .lst h a => .lst (SqL.of h) (RpAll.dp ds _ a)
  | .tuple ds, _, .tup h a => .tup h.sq (RpAll.dp ds _ a)
theorem RpAll.dp {K : PySem.W.Frag} {H : Hp} : ∀ (ds : List PyData) (vs : List V), RpAll H vs ds → DpAll K H vs ds
  | [], _, .nil => .nil
  | d :: ds, _, .cons r t => .cons (Rp.dp d _ r) (RpAll.dp ds _ t)
end
theorem RpAll.get {H : Hp} : ∀ {ds : List PyData} {vs : List V} {i : Nat} {v : V}, RpAll H vs ds → vs[i]? = some v → ∃ d, ds[i]? = some d ∧ Rp H v d
  | _, _, _, _, .nil, e => by simp at e
  | _, _, 0, _, .cons r _, e => by
    have e := Option.some.inj e
    subst e
    exact ⟨_, rfl, r⟩
  | _, _, i + 1, v, .cons _ t, e => by
    obtain ⟨d, h1, h2⟩ := RpAll.get (i := i) (v := v) t (by simpa using e)
    exact ⟨d, by simpa using h1, h2⟩
theorem RpAll.len {H : Hp} : ∀ {ds : List PyData} {vs : List V}, RpAll H vs ds → vs.length = ds.length
  | _, _, .nil => rfl
  | _, _, .cons _ t => by rw [List.length_cons, List.length_cons, RpAll.len t]
theorem rp_nats {H : Hp} : ∀ t : List Nat, RpAll H (nIs t) (t.map dN)
  | [] => .nil
  | n :: t => .cons (.int _) (rp_nats t)
theorem TN.rp {H : Hp} {v : V} {t : List Nat} (h : TN H v t) : Rp H v (dT t) := by
  obtain ⟨a, rfl, ha⟩ := h
  exact .tup ha (rp_nats t)
theorem TNs.rp {H : Hp} : ∀ {xs : List V} {ts : List (List Nat)}, Paired (TN H) xs ts → RpAll H xs (ts.map dT)
  | _, _, .nil => .nil
  | _, _, .cons r t => .cons r.rp (TNs.rp t)
theorem TT.rp {H : Hp} {v : V} {ts : List (List Nat)} (h : TT H v ts) : Rp H v (.tuple (ts.map dT)) := by
  obtain ⟨a, xs, rfl, ha, p⟩ := h
  exact .tup (.inl ha) (TNs.rp p)
def tyN : PyData → String
  | .none => "NoneType"
  | .bool _ => "bool"
  | .int _ => "int"
  | .str _ => "str"
  | .list _ => "list"
  | .tuple _ => "tuple"
  | .dict _ => "dict"
theorem rp_ty {K : PySem.W.Frag} {H : Hp} {v : V} {d : PyData} (h : Rp H v d) : TyX K H v (.type (tyN d)) := by
  cases h with
  | non => exact .base .non
  | bl b => exact .base (.bl b)
  | int b => exact .base (.int b)
  | str b => exact .base (.str b)
  | lst h _ => exact .base (.lst h)
  | tup h _ =>
    rcases h with h | ⟨o, h⟩
    · exact .base (.tup h)
    · exact .fTuple h
def isIntB : PyData → Bool
  | .int _ => true
  | .bool _ => true
  | _ => false
def isBl : PyData → Bool
  | .bool _ => true
  | _ => false
def isTup : PyData → Bool
  | .tuple _ => true
  | _ => false
def isLst : PyData → Bool
  | .list _ => true
  | _ => false
def isStr : PyData → Bool
  | .str _ => true
  | _ => false
def isNum : PyData → Bool
  | .int _ => true
  | _ => false
theorem kit_int : ∀ d : PyData, kitB (tyN d) "int" = some (isIntB d)
  | .none => (by decide +kernel : kitB "NoneType" "int" = some false)
  | .bool _ => (by decide +kernel : kitB "bool" "int" = some true)
  | .int _ => (by decide +kernel : kitB "int" "int" = some true)
  | .str _ => (by decide +kernel : kitB "str" "int" = some false)
  | .list _ => (by decide +kernel : kitB "list" "int" = some false)
  | .tuple _ => (by decide +kernel : kitB "tuple" "int" = some false)
  | .dict _ => (by decide +kernel : kitB "dict" "int" = some false)
theorem kit_bool : ∀ d : PyData, kitB (tyN d) "bool" = some (isBl d)
  | .none => (by decide +kernel : kitB "NoneType" "bool" = some false)
  | .bool _ => (by decide +kernel : kitB "bool" "bool" = some true)
  | .int _ => (by decide +kernel : kitB "int" "bool" = some false)
  | .str _ => (by decide +kernel : kitB "str" "bool" = some false)
  | .list _ => (by decide +kernel : kitB "list" "bool" = some false)
  | .tuple _ => (by decide +kernel : kitB "tuple" "bool" = some false)
  | .dict _ => (by decide +kernel : kitB "dict" "bool" = some false)
theorem kit_tup : ∀ d : PyData, kitB (tyN d) "tuple" = some (isTup d)
  | .none => (by decide +kernel : kitB "NoneType" "tuple" = some false)
  | .bool _ => (by decide +kernel : kitB "bool" "tuple" = some false)
  | .int _ => (by decide +kernel : kitB "int" "tuple" = some false)
  | .str _ => (by decide +kernel : kitB "str" "tuple" = some false)
  | .list _ => (by decide +kernel : kitB "list" "tuple" = some false)
  | .tuple _ => (by decide +kernel : kitB "tuple" "tuple" = some true)
  | .dict _ => (by decide +kernel : kitB "dict" "tuple" = some false)
theorem kit_lst : ∀ d : PyData, kitB (tyN d) "list" = some (isLst d)
  | .none => (by decide +kernel : kitB "NoneType" "list" = some false)
  | .bool _ => (by decide +kernel : kitB "bool" "list" = some false)
  | .int _ => (by decide +kernel : kitB "int" "list" = some false)
  | .str _ => (by decide +kernel : kitB "str" "list" = some false)
  | .list _ => (by decide +kernel : kitB "list" "list" = some true)
  | .tuple _ => (by decide +kernel : kitB "tuple" "list" = some false)
  | .dict _ => (by decide +kernel : kitB "dict" "list" = some false)
theorem kit_str : ∀ d : PyData, kitB (tyN d) "str" = some (isStr d)
  | .none => (by decide +kernel : kitB "NoneType" "str" = some false)
  | .bool _ => (by decide +kernel : kitB "bool" "str" = some false)
  | .int _ => (by decide +kernel : kitB "int" "str" = some false)
  | .str _ => (by decide +kernel : kitB "str" "str" = some true)
  | .list _ => (by decide +kernel : kitB "list" "str" = some false)
  | .tuple _ => (by decide +kernel : kitB "tuple" "str" = some false)
  | .dict _ => (by decide +kernel : kitB "dict" "str" = some false)
theorem rr_ty (n : String) : RelV (.ty n) (.type n) := rfl
section
variable {P : Program} {w : World} {K : PySem.W.Frag} {mg : Str → Option Value} {base : Heap}
/-! ### is_number -/
def spNum : Sp := fun vs H Q _ => ∃ (v : V) (d : PyData), vs = [v] ∧ Rp H v d ∧ Q (.bl (isNum d)) H
theorem sc_is_number : FnScope ["value"] ["value"] (defScope s_is_number) := ⟨rfl, rfl, rfl, by decide +kernel, rfl, by decide +kernel, by decide +kernel⟩
theorem has_is_number (T : Top K mg "is_number" s_is_number ["value"]) (B : Bi mg) : Has P w K mg base CX0 1 "is_number" ["value"] spNum := by
  refine T.ok sc_is_number (fun vs H Q E h => ?_) (fun f cdv A outer s H vs Q E hr h => ?_)
  · obtain ⟨v, d, rfl, _⟩ := h
    rfl
  · obtain ⟨v, d, rfl, hd, q⟩ := h
    refine ⟨_, pss_one (ps_ret (pe_and (pe_callB call_isi (by rfl) B.isinstance PyProof.Rows.boot_isinstance (pa_cons (pv 0) (pa_cons (pe_bltn (by rfl) B.int PyProof.Rows.boot_int (rr_ty "int")) pa_nil)))
      (pe_one (pe_not (pe_callB call_isi (by rfl) B.isinstance PyProof.Rows.boot_isinstance (pa_cons (pv 0) (pa_cons (pe_bltn (by rfl) B.bool PyProof.Rows.boot_bool (rr_ty "bool")) pa_nil))))))), ?_⟩
    refine ⟨_, rfl, v, .ty "int", _, _, isIntB d, rfl, .ty _, rp_ty hd, kit_ty (kit_int d), isIntB d, rfl, ite2 (fun h => ?_) (fun h => ?_)⟩
    · refine ⟨_, rfl, v, .ty "bool", _, _, isBl d, rfl, .ty _, rp_ty hd, kit_ty (kit_bool d), isBl d, rfl, ?_⟩
      have e : (!isBl d) = isNum d := by cases d <;> first | rfl | cases h
      show Q (.bl (!isBl d)) H
      rw [e]
      exact q
    · have e : false = isNum d := by cases d <;> first | rfl | exact absurd rfl h
      show Q (.bl false) H
      rw [e]
      exact q
end
end Lt

set_option Elab.async false
set_option linter.all false
set_option maxRecDepth 100000
set_option maxHeartbeats 4000000
namespace Lt
open PySem PySem.Spec PyProof.Rows L2
section
variable {P : Program} {w : World} {K : PySem.W.Frag} {mg : Str → Option Value} {base : Heap}
/-! ### are_numbers -/
def isNums : PyData → Bool
  | .tuple ds => ds.all isNum
  | _ => false
def spNums : Sp := fun vs H Q _ => ∃ (v : V) (d : PyData), vs = [v] ∧ Rp H v d ∧ (∀ ds, d = .tuple ds → ds.length ≤ 1000) ∧ ∀ H', Same H H' → Q (.bl (isNums d)) H'
theorem sc_are_numbers : FnScope ["value", "part"] ["value"] (defScope s_are_numbers) := ⟨rfl, rfl, rfl, by decide +kernel, rfl, by decide +kernel, by decide +kernel⟩
theorem bls_of : ∀ {zs : List V} {bs : List Bool}, Paired (fun v b => v = V.bl b) zs bs → zs = bs.map V.bl
  | _, _, .nil => rfl
  | _, _, .cons r t => by rw [r, bls_of t]; rfl
theorem has_are_numbers (T : Top K mg "are_numbers" s_are_numbers ["value"]) (B : Bi mg) (hN : Has P w K mg base CX0 1 "is_number" ["value"] spNum) : Has P w K mg base CX0 2 "are_numbers" ["value"] spNums := by
  refine T.ok sc_are_numbers (fun vs H Q E h => ?_) (fun f cdv A outer s H vs Q E hr h => ?_)
  · obtain ⟨v, d, rfl, _⟩ := h
    rfl
  · obtain ⟨v, d, rfl, hd, hl, q⟩ := h
    refine ⟨_, pss_one (ps_ret (pe_and (pe_callB call_isi (by rfl) B.isinstance PyProof.Rows.boot_isinstance (pa_cons (pv 0) (pa_cons (pe_bltn (by rfl) B.tuple PyProof.Rows.boot_tuple (rr_ty "tuple")) pa_nil)))
      (pe_one (pe_callB (cr_all (by rfl)) (by rfl) B.all PyProof.Rows.boot_all (pa_cons (pe_lc (own := [("part", 1)]) (g := gName 1) (te := tCall spNum [] E0 (tCons (tVar 1) tNil)) (by rfl) sc_are_numbers.nd (pi_tup (pv 0)) (blkOk_by (own := [("part", 1)]) (N := ["value", "part"]) (sc := defScope s_are_numbers) (by decide +kernel))
        (fun _ _ _ _ _ => pg_name (i := 1) sc_are_numbers.nd rfl (Or.inl rfl)) (fun _ _ _ _ _ => pts_nil) (fun _ _ _ _ _ => pe_has hN hr (by rfl) (pa_cons (pv 1) pa_nil))) pa_nil))))), ?_⟩
    refine ⟨_, rfl, v, .ty "tuple", _, _, isTup d, rfl, .ty _, rp_ty hd, kit_ty (kit_tup d), isTup d, rfl, ite2 (fun h => ?_) (fun h => ?_)⟩
    · cases hd with
      | @tup a xs ds ha hx =>
        have hlen := hl ds rfl
        have hxl := hx.len
        refine ⟨_, rfl, a, rfl, ⟨_, ha.sq⟩, fun D hD => lc_tupM (fun _ v b => v = V.bl b) (ds.map isNum) (fun _ _ _ _ _ r => r) (ha.sq) (fun H' sm => (ha.sm sm).sq) (by omega) (by rw [List.length_map, hxl]) hD (fun x => rfl) (fun i v n hi hn H' sm Q' q' => ?_) (fun H' zs sm hz pr => ?_)⟩
        · obtain ⟨d, e1, e2⟩ := hx.get hi
          rw [List.getElem?_map, e1] at hn
          have hn : isNum d = n := Option.some.inj hn
          exact ⟨_, rfl, v, d, rfl, Rp.same sm d _ e2, q' _ _ (Same.refl _) (by rw [hn])⟩
        · refine ⟨D, ds.map isNum, rfl, SqL.of (by rw [hz, bls_of pr]), ?_⟩
          have e : (ds.map isNum).all id = isNums (.tuple ds) := by rw [List.all_map]; rfl
          rw [e]
          exact q _ sm
      | non => cases h
      | bl => cases h
      | int => cases h
      | str => cases h
      | lst => cases h
    · have e : false = isNums d := by cases d <;> first | rfl | exact absurd rfl h
      show Q (.bl false) H
      rw [e]
      exact q _ (Same.refl _)
/-! ### is_permutation -/
def numOf : PyData → Int
  | .int i => i
  | _ => 0
def numsOf : PyData → List Int
  | .tuple ds => ds.map numOf
  | _ => []
def rangeI (n : Nat) : List Int := (List.range n).map Int.ofNat
def isPermD (d : PyData) (n : Nat) : Bool := isNums d && decide ((numsOf d).Perm (rangeI n))
def spPerm : Sp := fun vs H Q _ => ∃ (v : V) (d : PyData) (n : Nat), vs = [v, nI n] ∧ Rp H v d ∧ (∀ ds, d = .tuple ds → ds.length < 64) ∧ n < 64 ∧ ∀ H', Same H H' → Q (.bl (isPermD d n)) H'
theorem sc_is_permutation : FnScope ["value", "size"] ["value", "size"] (defScope s_is_permutation) := ⟨rfl, rfl, rfl, by decide +kernel, rfl, by decide +kernel, by decide +kernel⟩
theorem nums_vals {H : Hp} : ∀ {ds : List PyData} {xs : List V}, RpAll H xs ds → ds.all isNum = true → xs = (ds.map numOf).map V.int
  | _, _, .nil, _ => rfl
  | d :: ds, _, .cons r t, h => by
    rw [List.all_cons, Bool.and_eq_true] at h
    cases r with
    | int i => rw [nums_vals t h.2]; rfl
    | non => cases h.1
    | bl => cases h.1
    | str => cases h.1
    | lst => cases h.1
    | tup => cases h.1
theorem rgV_int (n : Nat) : rgV 0 (n : Int) = (rangeI n).map V.int := by
  unfold rgV rangeI
  have e : ((n : Int) - 0).toNat = n := by omega
  rw [e, List.map_map]
  refine List.map_congr_left fun i _ => ?_
  show V.int (0 + (i : Int)) = V.int (i : Int)
  rw [Int.zero_add]
theorem rangeI_sorted (n : Nat) : (rangeI n).Pairwise (· ≤ ·) := by
  unfold rangeI
  rw [List.pairwise_map]
  exact List.Pairwise.imp (fun {a b} h => Int.ofNat_le.mpr (Nat.le_of_lt h)) List.pairwise_lt_range
theorem dp_ints {K : PySem.W.Frag} {H : Hp} : ∀ t : List Int, DpAll K H (t.map V.int) (t.map PyData.int)
  | [] => .nil
  | n :: t => .cons (.int _) (dp_ints t)
theorem depth_ints : ∀ t : List Int, PyData.depthAll (t.map PyData.int) = 0
  | [] => rfl
  | n :: t => by
    show max (PyData.depth (.int n)) (PyData.depthAll (t.map PyData.int)) = 0
    rw [depth_ints t]
    rfl
theorem can_ints : ∀ t : List Int, PyData.canLayAll0 (t.map PyData.int) = true
  | [] => rfl
  | n :: t => by
    show (PyData.canLay0 (.int n) && PyData.canLayAll0 (t.map PyData.int)) = true
    rw [can_ints t]
    rfl
theorem sh_ints (t : List Int) : SeqAt.shaped (.list (t.map PyData.int)) = true := by
  show (PyData.canLayAll0 (t.map PyData.int) && decide (PyData.depthAll (t.map PyData.int) + 1 ≤ 64)) = true
  rw [can_ints, depth_ints]
  rfl
theorem eqv_ints (s t : List Int) : PyData.eqv (.list (s.map PyData.int)) (.list (t.map PyData.int)) = decide (s = t) := by
  show PyData.eqvAll (s.map PyData.int) (t.map PyData.int) = _
  refine eqvAll_map (fun x y => ?_) s t
  show (x == y) = decide (x = y)
  by_cases e : x = y
  · subst e; simp
  · rw [decide_eq_false e]
    exact beq_eq_false_iff_ne.mpr e
theorem has_is_permutation (T : Top K mg "is_permutation" s_is_permutation ["value", "size"]) (B : Bi mg) (hN : Has P w K mg base CX0 2 "are_numbers" ["value"] spNums) : Has P w K mg base CX0 3 "is_permutation" ["value", "size"] spPerm := by
  refine T.ok sc_is_permutation (fun vs H Q E h => ?_) (fun f cdv A outer s H vs Q E hr h => ?_)
  · obtain ⟨v, d, n, rfl, _⟩ := h
    rfl
  · obtain ⟨v, d, n, rfl, hd, hl, hn, q⟩ := h
    refine ⟨_, pss_one (ps_ret (pe_and (pe_has hN hr (by rfl) (pa_cons (pv 0) pa_nil))
      (pe_one (pe_cmpR (op_eqD hr.units) (pe_callB cr_sortIT (by rfl) B.sorted PyProof.Rows.boot_sorted (pa_cons (pv 0) pa_nil)) (pe_listRg (by rfl) (by rfl) B.list (prg_1 (by rfl) B.range (pv 1))) (nomark _))))), ?_⟩
    refine ⟨_, rfl, v, d, rfl, hd, (fun ds e => by have := hl ds e; omega), fun H1 s1 => ⟨isNums d, rfl, ite2 (fun h => ?_) (fun h => ?_)⟩⟩
    · cases hd with
      | @tup a xs ds ha hx =>
        have h : ds.all isNum = true := h
        have ex := nums_vals hx h
        have ha1 := ha.sm s1
        rw [ex] at ha1
        have hlen := hl ds rfl
        refine ⟨_, rfl, a, ds.map numOf, rfl, ha1.sq, by rw [List.length_map]; exact hlen, fun ns' p pm so hp => ?_⟩
        refine ⟨_, rfl, n, rfl, .of_le (by omega) (by omega) (by omega) (by omega), fun p2 hp2 => ?_⟩
        have e1 : upd (upd H1 p (.lst (ns'.map V.int))) p2 (.lst (rgV 0 n)) p = some (.lst (ns'.map V.int)) := by
          rw [upd_ne (fun z => by rw [← z, upd_same] at hp2; cases hp2), upd_same]
        refine ⟨.list (ns'.map PyData.int), .list ((rangeI n).map PyData.int), .lst (SqL.of e1) (dp_ints _), .lst (SqL.of (by rw [upd_same, rgV_int])) (dp_ints _), sh_ints _, sh_ints _, ?_⟩
        rw [eqv_ints]
        have e : decide (ns' = rangeI n) = isPermD (.tuple ds) n := by
          have hb : isNums (.tuple ds) = true := h
          unfold isPermD
          rw [hb, Bool.true_and]
          refine decide_eq_decide.mpr ⟨fun e => ?_, fun e => ?_⟩
          · rw [← e]
            exact pm.symm
          · exact List.Perm.eq_of_pairwise (fun x y _ _ h1 h2 => Int.le_antisymm h1 h2) so (rangeI_sorted n) (pm.trans e)
        rw [e]
        exact q _ ((s1.trans (same_new hp)).trans (same_new hp2))
      | non => cases h
      | bl => cases h
      | int => cases h
      | str => cases h
      | lst => cases h
    · have e : false = isPermD d n := by
        unfold isPermD
        have z : isNums d = false := by simpa using h
        rw [z]
        rfl
      show Q (.bl false) H1
      rw [e]
      exact q _ s1
end
end Lt

set_option Elab.async false
set_option linter.all false
set_option maxRecDepth 100000
set_option maxHeartbeats 4000000
namespace Lt
open PySem PySem.Spec PyProof.Rows L2
theorem for_enumT {K : PySem.W.Frag} {a : Addr} {xs : List V} {g : TG} {tb : TS} {D : Ends} {σ : L2.St} {H : Hp} (Pv : Nat → L2.St → Hp → Prop) (h0 : Pv 0 σ H) (hl : ∀ i σ H, i ≤ xs.length → Pv i σ H → SqT K H a xs)
    (hs : ∀ (i : Nat) (x : V) σ H T, xs[i]? = some x → Pv i σ H → H T = none → g (.ref T) σ (upd H T (.tup [nI i, x])) fun σ2 H2 => tb { D with nx := Pv (i + 1), ct := Pv (i + 1), bk := D.nx } σ2 H2) (hd : ∀ σ H, Pv xs.length σ H → D.nx σ H) :
    ∃ W : Nat → Nat → L2.St → Hp → Prop, (∃ m, W 0 m σ H) ∧ ∀ i m σ H, W i m σ H →
      ((Itet K a).stop i H ∧ D.nx σ H) ∨ ((Itet K a).go i H ∧ ∃ N : L2.St → Hp → Prop, (∀ σ' H', N σ' H' → ∃ m', m' < m ∧ W (i + 1) m' σ' H') ∧ ∀ x H', (Itet K a).yld i H x H' → g x σ H' fun σ2 H2 => tb { D with nx := N, ct := N, bk := D.nx } σ2 H2) := by
  refine ⟨fun i m σ H => m = xs.length - i ∧ i ≤ xs.length ∧ Pv i σ H, ⟨xs.length, by simp, Nat.zero_le _, h0⟩, ?_⟩
  rintro i m σ H ⟨rfl, hi, p⟩
  have q := hl i σ H hi p
  by_cases hlt : i < xs.length
  · refine .inr ⟨⟨xs, xs[i], q, by simp [hlt]⟩, Pv (i + 1), fun σ' H' p' => ⟨xs.length - (i + 1), by omega, rfl, hlt, p'⟩, fun x H' y => ?_⟩
    obtain ⟨T, z, rfl, hT, rfl, hz⟩ := y
    exact hs i z σ H T (hz xs q) p hT
  · have e : i = xs.length := by omega
    subst e
    exact .inl ⟨⟨xs, q, rfl⟩, hd σ H p⟩
section
variable {P : Program} {w : World} {K : PySem.W.Frag} {mg : Str → Option Value} {base : Heap}
/-! ### back_of -/
def spBack : Sp := fun vs H Q _ => ∃ (a : V) (t : List Nat) (n : Nat), vs = [a] ∧ TN H a t ∧ IsP n t ∧ n ≤ 1000 ∧ ∀ v H', Same H H' → TK H' v (inv t) → Q v H'
theorem sc_back_of : FnScope ["turn", "led_from", "place", "led"] ["turn"] (defScope s_back_of) := ⟨rfl, rfl, rfl, by decide +kernel, rfl, by decide +kernel, by decide +kernel⟩
theorem rep_zero (n : Nat) : (List.replicate n [V.int 0]).flatten = nIs (List.replicate n 0) := by
  induction n with
  | zero => rfl
  | succ n ih => rw [List.replicate_succ, List.flatten_cons, ih]; rfl
theorem inv_of {n : Nat} {t acc : List Nat} (h : IsP n t) (hl : acc.length = n) (ha : ∀ (j p : Nat), t[j]? = some p → acc[p]? = some j) : acc = inv t := by
  apply List.ext_getElem?
  intro p
  by_cases hp : p < n
  · have hm : p ∈ t := h.mem.mpr hp
    have hj := List.idxOf_lt_length_of_mem hm
    have e := ha (t.idxOf p) p (by rw [List.getElem?_eq_getElem hj, List.getElem_idxOf])
    rw [e]
    unfold inv
    rw [List.getElem?_map, h.len, List.getElem?_range hp]
    rfl
  · rw [List.getElem?_eq_none (by omega), List.getElem?_eq_none (by rw [inv_len, h.len]; omega)]
theorem nIs_set (t : List Nat) (i n : Nat) : (nIs t).set i (nI n) = nIs (t.set i n) := by
  unfold nIs
  rw [List.map_set]
theorem has_back_of (T : Top K mg "back_of" s_back_of ["turn"]) (B : Bi mg) : Has P w K mg base CX0 1 "back_of" ["turn"] spBack := by
  refine T.ok sc_back_of (fun vs H Q E h => ?_) (fun f cdv A outer s H vs Q E hr h => ?_)
  · obtain ⟨a, t, n, rfl, _⟩ := h
    rfl
  · obtain ⟨a, t, n, rfl, ⟨pa, rfl, ea⟩, ht, hn, q⟩ := h
    refine ⟨_, pss_cons (ps_set (i := 1) sc_back_of.nd rfl (Or.inl rfl) (pe_op op_rep (pe_lst (pa_cons pe_int pa_nil)) (pe_callB call_len_seq (by rfl) B.len PySem.boot_len (pa_cons (pv 0) pa_nil))))
      (pss_cons (ps_for PassesOwn.never rfl (pi_enumT (by rfl) B.enumerate (pa_cons (pv 0) pa_nil)) (pg_tup rfl (pgs_cons (pg_name (i := 2) sc_back_of.nd rfl (Or.inl rfl)) (pgs_cons (pg_name (i := 3) sc_back_of.nd rfl (Or.inl rfl)) pgs_nil)))
        (pss_one (ps_asg (pv 2) (pg_sub (pv 1) (pv 3) set_list))))
      (pss_one (ps_ret (pe_tupleOf (by rfl) B.tuple (pv 1))))), ?_⟩
    have hlen := ht.len
    refine ⟨by show 1 ≤ sizeLine; decide, fun l hl => ?_⟩
    have s1 := same_new (o := .lst [V.int 0]) hl
    refine ⟨_, rfl, pa, _, rfl, .inr (ea.sm s1).sq, l, (t.length : Int), [V.int 0], rfl, by rw [nIs_len], upd_same, by omega, by omega, ?_, fun p hp => ?_⟩
    · show 1 * (t.length : Int).toNat ≤ sizeLine
      rw [sizeLine_eq]
      omega
    have s2 : Same H _ := s1.trans (same_new (o := .lst (List.replicate (t.length : Int).toNat [V.int 0]).flatten) hp)
    have hp0 : H p = none := s1.free hp
    refine ⟨_, rfl, pa, _, rfl, (ea.sm s2).sq, for_enumT (K := K) (xs := nIs t) (fun i σ H' => ∃ (acc : List Nat) (x y : Option V), σ = [some (.ref pa), some (.ref p), x, y] ∧ Same H H' ∧ H' p = some (.lst (nIs acc)) ∧ acc.length = n ∧ ∀ (j z : Nat), j < i → t[j]? = some z → acc[z]? = some j)
      ⟨List.replicate n 0, none, none, rfl, s2, ?_, List.length_replicate .., fun j z hj => absurd hj (Nat.not_lt_zero _)⟩ (fun i σ H' _ ⟨_, _, _, _, sm, _⟩ => (ea.sm sm).sq) ?_ ?_⟩
    · rw [upd_same, ← rep_zero, hlen]
      rfl
    · rintro i x σ H' T hi ⟨acc, y2, y3, rfl, sm, hp', hacc, hj⟩ hT
      rw [nIs_get] at hi
      obtain ⟨m, hm, rfl⟩ := Option.map_eq_some_iff.mp hi
      have hmn : m < n := ht.lt m (List.mem_of_getElem? hm)
      have spT : p ≠ T := ne_of_none hp' hT
      have sT := same_new (o := .tup [nI i, nI m]) hT
      refine ⟨T, _, rfl, SqT.of upd_same, rfl, nI i, _, rfl, nI m, _, rfl, rfl, ?_⟩
      refine ⟨_, rfl, _, rfl, _, rfl, p, nIs acc, (m : Int), m, rfl, rfl, sT _ _ hp', ?_, ?_⟩
      · rw [nIs_len, hacc]
        exact Evl.ixN_nat hmn
      · refine ⟨acc.set m i, some (nI i), some (nI m), rfl, same_mut (sm.trans sT) hp0, ?_, by rw [List.length_set]; exact hacc, fun j z hji hz => ?_⟩
        · rw [upd_same, nIs_set]
        · by_cases e : j = i
          · subst e
            rw [hm] at hz
            have hz := Option.some.inj hz
            subst hz
            rw [List.getElem?_set_self (by omega)]
          · have hne : m ≠ z := fun q => e (nd_ix ht.nd hz (q ▸ hm))
            rw [List.getElem?_set_ne hne]
            exact hj j z (by omega) hz
    · rintro σ H' ⟨acc, y2, y3, rfl, sm, hp', hacc, hj⟩
      refine ⟨_, rfl, .inl ⟨p, nIs acc, rfl, SqL.of hp', fun r hr => q _ _ (sm.trans (same_new hr)) (tn_of upd_same ?_)⟩⟩
      rw [inv_of ht hacc fun j z hz => hj j z (by rw [nIs_len]; exact (List.getElem?_eq_some_iff.mp hz).1) hz]
end
end Lt

set_option Elab.async false
set_option linter.all false
set_option maxRecDepth 100000
set_option maxHeartbeats 4000000
namespace Lt
open PySem PySem.Spec PyProof.Rows L2
/-! ### dicts from turns to words -/
def keyN (t : List Nat) : List Key := t.map fun n : Nat => (Sum.inl (Int.ofNat n) : Key)
theorem keyN_inj {s t : List Nat} (h : keyN s = keyN t) : s = t := by
  unfold keyN at h
  exact (List.map_inj_right (fun x y e => by injection e with e; exact Int.ofNat.inj e)).mp h
def DE (H : Hp) (kv : List Key × V) (tw : List Nat × List Nat) : Prop := kv.1 = keyN tw.1 ∧ TN H kv.2 tw.2
def DW (H : Hp) (d : Addr) (L : List (List Nat × List Nat)) : Prop := ∃ kvs, H d = some (.dT kvs) ∧ Paired (DE H) kvs L
theorem DEs.tm {H H' : Hp} (e : Tm H H') : ∀ {kvs : List (List Key × V)} {L : List (List Nat × List Nat)}, Paired (DE H) kvs L → Paired (DE H') kvs L
  | _, _, .nil => .nil
  | _, _, .cons r t => .cons ⟨r.1, r.2.tm e⟩ (DEs.tm e t)
theorem DW.tm {H H' : Hp} {d : Addr} {L : List (List Nat × List Nat)} (h : DW H d L) (e : Tm H H') (ed : H' d = H d) : DW H' d L := let ⟨kvs, h1, h2⟩ := h; ⟨kvs, ed.trans h1, DEs.tm e h2⟩
theorem DW.same {H H' : Hp} {d : Addr} {L : List (List Nat × List Nat)} (h : DW H d L) (e : Same H H') : DW H' d L := let ⟨kvs, h1, h2⟩ := h; ⟨kvs, e _ _ h1, DEs.tm (.of e) h2⟩
theorem dw_none {H : Hp} {t : List Nat} : ∀ {kvs : List (List Key × V)} {L : List (List Nat × List Nat)}, Paired (DE H) kvs L → t ∉ L.map (·.1) → valV kvs (keyN t) = none
  | _, _, .nil, _ => rfl
  | p :: ps, q :: qs, .cons r s, h => by
    have hne : ¬ p.1 = keyN t := fun e => h (by
      rw [List.map_cons]
      rw [r.1] at e
      rw [keyN_inj e]
      exact List.mem_cons_self)
    rw [valV_neg hne]
    exact dw_none s fun m => h (List.mem_cons_of_mem _ m)
theorem dw_some {H : Hp} {t w : List Nat} : ∀ {kvs : List (List Key × V)} {L : List (List Nat × List Nat)}, Paired (DE H) kvs L → (L.map (·.1)).Nodup → (t, w) ∈ L → ∃ v, valV kvs (keyN t) = some v ∧ TN H v w
  | _, _, .nil, _, h => by cases h
  | p :: ps, q :: qs, .cons r s, hn, h => by
    rw [List.map_cons] at hn
    obtain ⟨h1, h2⟩ := List.nodup_cons.mp hn
    rcases List.mem_cons.mp h with e | h
    · subst e
      exact ⟨p.2, valV_pos r.1, r.2⟩
    · have hne : ¬ p.1 = keyN t := fun e => h1 (by
        rw [r.1] at e
        rw [keyN_inj e]
        exact List.mem_map.mpr ⟨_, h, rfl⟩)
      rw [valV_neg hne]
      exact dw_some s h2 h
theorem dw_isSome {H : Hp} {t : List Nat} {kvs : List (List Key × V)} {L : List (List Nat × List Nat)} (p : Paired (DE H) kvs L) (hn : (L.map (·.1)).Nodup) : (valV kvs (keyN t)).isSome = decide (t ∈ L.map (·.1)) := by
  by_cases h : t ∈ L.map (·.1)
  · obtain ⟨⟨t', w⟩, hm, e⟩ := List.mem_map.mp h
    have e : t' = t := e
    subst e
    obtain ⟨v, hv, _⟩ := dw_some p hn hm
    rw [hv, decide_eq_true h]
    rfl
  · rw [dw_none p h, decide_eq_false h]
    rfl
theorem TK.key {H : Hp} {v : V} {t : List Nat} (h : TK H v t) : ∃ b, v = .ref b ∧ H b = some (.tup ((keyN t).map kV)) := by
  obtain ⟨b, e, hb⟩ := h
  exact ⟨b, e, by rw [hb, nIs_key]; rfl⟩
theorem TN.key {H : Hp} {v : V} {t : List Nat} (h : TN H v t) : ∃ b, v = .ref b ∧ RT H b ((keyN t).map kV) := by
  obtain ⟨b, e, hb⟩ := h
  refine ⟨b, e, ?_⟩
  have z : nIs t = (keyN t).map kV := by rw [nIs_key]; rfl
  rw [← z]
  exact hb
theorem LT.tm {H H' : Hp} {a : Addr} {ts : List (List Nat)} (h : LT H a ts) (e : Tm H H') (ea : H' a = H a) : LT H' a ts := let ⟨xs, h1, h2⟩ := h; ⟨xs, ea.trans h1, TNs.tm e h2⟩
/-! ### d[k], k in d: the key to be read -/
def GetR (H : Hp) (a : Addr) (kvs : List (List Key × V)) (k : List Key) (y : V) : Prop := ∃ b, y = .ref b ∧ Rd H a (.dT kvs) ∧ RT H b (k.map kV)
def tDGetR (td ty : TE) : TE := fun σ H Q => td σ H fun x H1 => ty σ H1 fun y H2 => ∃ a v kvs k b, x = .ref a ∧ y = .ref b ∧ Rd H2 a (.dT kvs) ∧ RT H2 b (k.map kV) ∧ valV kvs k = some v ∧ Q v H2
def tDInR (ty td : TE) : TE := fun σ H Q => ty σ H fun y H1 => td σ H1 fun x H2 => ∃ a kvs k b, x = .ref a ∧ y = .ref b ∧ Rd H2 a (.dT kvs) ∧ RT H2 b (k.map kV) ∧ Q (.bl (valV kvs k).isSome) H2
def tDNotInR (ty td : TE) : TE := fun σ H Q => ty σ H fun y H1 => td σ H1 fun x H2 => ∃ a kvs k b, x = .ref a ∧ y = .ref b ∧ Rd H2 a (.dT kvs) ∧ RT H2 b (k.map kV) ∧ Q (.bl (!(valV kvs k).isSome)) H2
theorem key_rd {P : Program} {w : World} {H : Hp} {h : Heap} {ks : List Key} {a : Addr} (ok : HOk P w H h) (e : RT H a (ks.map kV)) : (tupleKind (mixKind P w)).is h ks a := by
  have z : ObjOk P w H h a (.tup (ks.map kV)) := Rd.ok e ok
  obtain ⟨_, its, r, o, h1, h2, n, h3⟩ := z
  exact ⟨o, its.toArray, n, h1, h2, h3, by simpa using items_are r⟩
section
variable {X : Cx} {o i : Expr} {td ty : TE} {pos : Pos}
theorem pc_dinR (hu : X.A.units + 1 < cLine) (hi : PE X i ty) (ho : PE X o td) : PC X .In i o (tDInR ty td) := by
  refine ⟨fun pins s σ H Q I h => ?_⟩
  refine thn (hi.run pins s σ H _ I h) fun iv s1 ⟨y, H1, I1, ry, q1⟩ => thn (ho.run pins s1 σ H1 _ I1 q1) fun u s2 ⟨x, H2, I2, rx, a, kvs, k, b, ex, ey, hd, hb, q2⟩ => ?_
  subst ex ey
  obtain rfl : u = Value.ref a := rx
  obtain rfl : iv = Value.ref b := ry
  obtain ⟨z, hds, xs, rel, dd⟩ := dt_rd I2.hok hd
  refine wpAny_in_heap (tupleKind_room_in1 hu) (key_rd I2.hok hb) hds dd ?_
  have q := (rel.val k).isSome_eq
  rw [Option.isSome_map] at q
  rw [← q]
  exact ⟨.bl (valV kvs k).isSome, H2, I2.tok _, rfl, q2⟩
theorem pe_dgetR (hu : X.A.units + 1 < cLine) (ho : PE X o td) (hi : PE X i ty) (hs : NoSl i) : PE X (.Subscript o i pos) (tDGetR td ty) := by
  refine ⟨fun pins s σ H Q I h => ?_⟩
  refine subD_of PySem.F.slot_dict_getitem.lookup hs (thn (ho.run pins s σ H _ I h) fun u s1 ⟨x, H1, I1, rx, q1⟩ => thn (hi.run pins s1 σ H1 _ I1 q1) fun iv s2 ⟨y, H2, I2, ry, a, v, kvs, k, b, ex, ey, hd, hb, hv, q2⟩ => ?_)
  subst ex ey
  obtain rfl : u = Value.ref a := rx
  obtain rfl : iv = Value.ref b := ry
  obtain ⟨z, hds, xs, rel, dd⟩ := dt_rd I2.hok hd
  obtain ⟨w', hw, rw'⟩ := RelO.some_of (v := v) (o := (atKey xs k).map (·.2)) (by rw [← hv]; exact rel.val k)
  obtain ⟨p, hp, hp2⟩ := Option.map_eq_some_iff.mp hw
  have ht : s2.TypeIs (.ref a) "dict" := by
    obtain ⟨ob, _, _, h1, h2, _⟩ := dd
    exact ⟨ob, h1, h2.1⟩
  refine ⟨ht, wpAny_getItem_heap (tupleKind_room_in1 hu) (key_rd I2.hok hb) dd hp ?_⟩
  rw [hp2]
  exact ⟨v, H2, I2.tok _, rw', q2⟩
end
/-! ### the mirror's turns, maker by maker -/
theorem grow_app (t w : List Nat) : ∀ (xs ys : List (List Nat)) (p : Nat) (L : List (List Nat × List Nat)), grow t w (xs ++ ys) p L = grow t w ys (p + xs.length) (grow t w xs p L)
  | [], _, _, _ => rfl
  | x :: xs, ys, p, L => by
    show grow t w (xs ++ ys) (p + 1) _ = grow t w ys (p + (xs.length + 1)) (grow t w xs (p + 1) _)
    rw [grow_app t w xs ys (p + 1)]
    congr 1
    omega
theorem grow_next {t w : List Nat} {gs : List (List Nat)} {i : Nat} {g : List Nat} (h : gs[i]? = some g) (L : List (List Nat × List Nat)) :
    grow t w (gs.take (i + 1)) 0 L = if prod t g ∈ (grow t w (gs.take i) 0 L).map (·.1) then grow t w (gs.take i) 0 L else grow t w (gs.take i) 0 L ++ [(prod t g, w ++ [i])] := by
  have hl : i < gs.length := (List.getElem?_eq_some_iff.mp h).1
  have e : gs.take (i + 1) = gs.take i ++ [g] := by rw [List.take_add_one, h]; rfl
  rw [e, grow_app, List.length_take, Nat.min_eq_left (Nat.le_of_lt hl), Nat.zero_add]
  rfl
theorem grow_len (t w : List Nat) : ∀ (gs : List (List Nat)) (p : Nat) (L : List (List Nat × List Nat)), (grow t w gs p L).length ≤ L.length + gs.length
  | [], _, L => Nat.le_refl _
  | g :: gs, p, L => by
    have ih := grow_len t w gs (p + 1) (if prod t g ∈ L.map (·.1) then L else L ++ [(prod t g, w ++ [p])])
    show (grow t w gs (p + 1) _).length ≤ L.length + (gs.length + 1)
    split at ih
    · rename_i h
      rw [if_pos h]
      omega
    · rename_i h
      rw [if_neg h]
      rw [List.length_append] at ih
      have e : [(prod t g, w ++ [p])].length = 1 := rfl
      omega
theorem qq_len_le (gs : List (List Nat)) (n k : Nat) : ∀ i, (qq gs n (k + i)).length ≤ (qq gs n k).length + i * gs.length
  | 0 => by rw [Nat.zero_mul]; exact Nat.le_refl _
  | i + 1 => by
    have ih := qq_len_le gs n k i
    have e : (i + 1) * gs.length = i * gs.length + gs.length := Nat.succ_mul _ _
    show (match (qq gs n (k + i))[k + i]? with
      | none => qq gs n (k + i)
      | some (t, w) => grow t w gs 0 (qq gs n (k + i))).length ≤ _
    split
    · omega
    · rename_i t w _
      have := grow_len t w gs 0 (qq gs n (k + i))
      omega
/-- words[turn] + (place,) -/
theorem catA_tn {K : PySem.W.Frag} {H : Hp} {pw p : Addr} {w : List Nat} {j : Nat} {Q : VK} (hw : RT H pw (nIs w)) (hp : H p = some (.tup [nI j])) (hl : w.length ≤ 1000000) (q : ∀ v H', Same H H' → TN H' v (w ++ [j]) → Q v H') : rCatA K (.ref pw) (.ref p) H Q := by
  refine ⟨pw, p, nIs w, [nI j], rfl, rfl, hw.sq, SqT.of hp, ?_, fun e => ?_, fun _ e => (by cases e), fun _ _ p2 hp2 => ?_⟩
  · rw [nIs_len, sizeLine_eq]
    show w.length + 1 ≤ _
    omega
  · have e : w = [] := by
      cases w with
      | nil => rfl
      | cons a w => cases e
    subst e
    exact q _ _ (Same.refl _) ⟨p, rfl, .inl hp⟩
  · refine q _ _ (same_new hp2) ⟨p2, rfl, .inl ?_⟩
    rw [upd_same]
    unfold nIs
    rw [List.map_append]
    rfl
theorem grow_w (t w : List Nat) (m : Nat) : ∀ (gs : List (List Nat)) (p : Nat) (L : List (List Nat × List Nat)), w.length ≤ m → (∀ x ∈ L, x.2.length ≤ m + 1) → ∀ x ∈ grow t w gs p L, x.2.length ≤ m + 1
  | [], _, _, _, h, x, hx => h x hx
  | g :: gs, p, L, hw, h, x, hx => by
    refine grow_w t w m gs (p + 1) _ hw (fun y hy => ?_) x hx
    split at hy
    · exact h y hy
    · rcases List.mem_append.mp hy with z | z
      · exact h y z
      · rw [List.mem_singleton.mp z, List.length_append]
        show w.length + 1 ≤ m + 1
        omega
theorem qq_w (gs : List (List Nat)) (n : Nat) : ∀ k, ∀ x ∈ qq gs n k, x.2.length ≤ k
  | 0, x, h => by
    rw [List.mem_singleton.mp (show x ∈ [(List.range n, ([] : List Nat))] from h)]
    exact Nat.le_refl 0
  | k + 1, x, h => by
    have ih := qq_w gs n k
    have h' : x ∈ (match (qq gs n k)[k]? with
      | none => qq gs n k
      | some (t, w) => grow t w gs 0 (qq gs n k)) := h
    split at h'
    · exact Nat.le_succ_of_le (ih x h')
    · rename_i t w e
      exact grow_w t w k gs 0 _ (ih _ (List.mem_of_getElem? e)) (fun y hy => Nat.le_succ_of_le (ih y hy)) x h'
section
variable {P : Program} {w : World} {K : PySem.W.Frag} {mg : Str → Option Value} {base : Heap}
/-! ### bracket_of -/
def spBracket : Sp := fun vs H Q _ => ∃ (a b : V) (x y : List Nat) (n : Nat), vs = [a, b] ∧ TN H a x ∧ TN H b y ∧ IsP n x ∧ IsP n y ∧ n ≤ 1000 ∧ ∀ v H', Same H H' → TK H' v (prod (prod x y) (inv (prod y x))) → Q v H'
theorem pr_call {H : Hp} {a b : V} {x y : List Nat} {n : Nat} {Q : VK} (ha : TN H a x) (hb : TN H b y) (hx : IsP n x) (hy : IsP n y) (hn : n ≤ 1000) (q : ∀ v H', Same H H' → TK H' v (prod x y) → Q v H') : spProd [a, b] H Q E0 :=
  ⟨a, b, x, y, rfl, ha, hb, fun i hi => by rw [hy.len]; exact hx.lt i hi, by rw [hx.len]; exact hn, q⟩
/-! ### words_of -/
def Cn (mg : Str → Option Value) (x : Str) (i : Int) : Prop := ∃ t, mg x = some (.int i t)
def Wd (gs : List (List Nat)) (n : Nat) (L : List (List Nat × List Nat)) : Prop := ∃ a, L = qq gs n a ∧ a ≤ L.length ∧ (L.length = a ∨ 240 < L.length)
def spWords : Sp := fun vs H Q _ => ∃ (ms : V) (gs : List (List Nat)) (n : Nat), vs = [ms, nI n] ∧ TT H ms gs ∧ (∀ g ∈ gs, IsP n g) ∧ n ≤ 1000 ∧ gs.length ≤ 1000 ∧
  ∀ d H' L, Same H H' → H d = none → DW H' d L → Wd gs n L → Q (.ref d) H'
theorem sc_words_of : FnScope ["makers", "size", "still", "words", "level", "longer", "turn", "place", "maker", "led"] ["makers", "size"] (defScope s_words_of) := ⟨rfl, rfl, rfl, by decide +kernel, rfl, by decide +kernel, by decide +kernel⟩
/-- the state at the while: behind a positions -/
structure WS (H0 : Hp) (ms st : V) (n : Nat) (gs : List (List Nat)) (d : Addr) (a : Nat) (σ : L2.St) (H : Hp) : Prop where
  sl : ∃ lv x5 x6 x7 x8 x9, σ = [some ms, some (nI n), some st, some (.ref d), some (.ref lv), x5, x6, x7, x8, x9] ∧ LT H lv (((qq gs n a).map (·.1)).drop a)
  sm : Same H0 H
  dw : DW H d (qq gs n a)
  le : a ≤ (qq gs n a).length
  le2 : a ≤ 240
theorem qq_step {gs : List (List Nat)} {n a i : Nat} {M : List (List Nat × List Nat)} (e : qq gs n (a + i) = qq gs n a ++ M) {t w : List Nat} (h : (qq gs n a)[a + i]? = some (t, w)) : qq gs n (a + i + 1) = grow t w gs 0 (qq gs n (a + i)) := by
  have z : (qq gs n (a + i))[a + i]? = some (t, w) := by
    rw [e, List.getElem?_append_left (List.getElem?_eq_some_iff.mp h).1]
    exact h
  show (match (qq gs n (a + i))[a + i]? with
    | none => qq gs n (a + i)
    | some (t, w) => grow t w gs 0 (qq gs n (a + i))) = _
  rw [z]
theorem has_words_of (T : Top K mg "words_of" s_words_of ["makers", "size"]) (B : Bi mg) (C : Cn mg "MOST_TURNS" 240) (hS : Has P w K mg base CX0 1 "still_of" ["size"] spStill) (hP : Has P w K mg base CX0 1 "product_of" ["one", "other"] spProd) :
    Has P w K mg base CX0 2 "words_of" ["makers", "size"] spWords := by
  refine T.ok sc_words_of (fun vs H Q E h => ?_) (fun f cdv A outer s H vs Q E hr h => ?_)
  · obtain ⟨ms, gs, n, rfl, _⟩ := h
    rfl
  · obtain ⟨ms, gs, n, rfl, hms, hg, hn, hgl, q⟩ := h
    obtain ⟨tk, hC⟩ := C
    have hu := hu_of hr
    refine ⟨_, pss_cons (ps_set (i := 2) sc_words_of.nd rfl (Or.inl rfl) (pe_has hS hr (by rfl) (pa_cons (pv 1) pa_nil)))
      (pss_cons (ps_set (i := 3) sc_words_of.nd rfl (Or.inl rfl) (pe_dispT hu (pv 2) (pe_tup pa_nil)))
      (pss_cons (ps_set (i := 4) sc_words_of.nd rfl (Or.inl rfl) (pe_lst (pa_cons (pv 2) pa_nil)))
      (pss_cons (ps_while PassesOwn.never (PW.pt (pw_and (pt_truth (pv 4) (by intro _; rfl)) (pw_and1 (pt_cmpR op_le (pe_callB call_len_dT (by rfl) B.len PySem.boot_len (pa_cons (pv 3) pa_nil)) (pe_glob (v := .int 240) rfl hC ⟨_, rfl⟩) (nomark _)))))
        (pss_cons (ps_set (i := 5) sc_words_of.nd rfl (Or.inl rfl) (pe_lst pa_nil))
        (pss_cons (ps_for PassesOwn.never rfl (pi_list (pv 4)) (pg_name (i := 6) sc_words_of.nd rfl (Or.inl rfl))
          (pss_one (ps_for PassesOwn.never rfl (pi_enumT (by rfl) B.enumerate (pa_cons (pv 0) pa_nil)) (pg_tup rfl (pgs_cons (pg_name (i := 7) sc_words_of.nd rfl (Or.inl rfl)) (pgs_cons (pg_name (i := 8) sc_words_of.nd rfl (Or.inl rfl)) pgs_nil)))
            (pss_cons (ps_set (i := 9) sc_words_of.nd rfl (Or.inl rfl) (pe_has hP hr (by rfl) (pa_cons (pv 6) (pa_cons (pv 8) pa_nil))))
            (pss_one (ps_if (pt_cmp (pc_dnotin hu (pv 9) (pv 3)))
              (pss_cons (ps_dput hu (pv 3) (pv 9) (pe_op op_catA (pe_dgetR hu (pv 3) (pv 6) (fun _ _ => rfl)) (pe_tup (pa_cons (pv 7) pa_nil))) rfl)
              (pss_one (ps_expr (pe_bm PySem.F.plainAttrs_list PySem.F.slot_list_append PySem.F.type_list_append mt_append (pv 5) (pa_cons (pv 9) pa_nil)))))
              pss_nil))))))
        (pss_one (ps_set (i := 4) sc_words_of.nd rfl (Or.inl rfl) (pv 5))))))
      (pss_one (ps_ret (pv 3)))))), ?_⟩
    refine ⟨_, rfl, n, rfl, hn, fun st H1 s1 hst => ?_⟩
    refine fun d hd => ⟨_, rfl, ⟨Nat.zero_le _, fun p hp => ?_⟩⟩
    have hpd : p ≠ d := fun z => by rw [z, upd_same] at hp; cases hp
    have s2 : Same H1 (upd (upd H1 d (.dT [])) p (.tup [])) := (same_new hd).trans (same_new hp)
    obtain ⟨b, ebv, hb⟩ := (hst.tm (.of s2)).key
    subst ebv
    refine ⟨b, keyN (List.range n), rfl, by rw [upd_ne hpd.symm, upd_same], hb, ?_⟩
    refine ⟨_, rfl, by show 1 ≤ sizeLine; decide, fun lv hlv => ?_⟩
    have hd0 : H d = none := s1.free hd
    have s3 : Same H1 (upd (upd (upd H1 d (.dT [])) p (.tup [])) d (.dT [(keyN (List.range n), .ref p)])) := same_mut s2 hd
    have s4 : Same H1 (upd (upd (upd (upd H1 d (.dT [])) p (.tup [])) d (.dT [(keyN (List.range n), .ref p)])) lv (.lst [.ref b])) := s3.trans (same_new hlv)
    have hdl : d ≠ lv := fun z => by rw [← z, upd_same] at hlv; cases hlv
    have hpl : p ≠ lv := fun z => by rw [← z, upd_ne hpd, upd_same] at hlv; cases hlv
    have hst' : TN (upd (upd (upd (upd H1 d (.dT [])) p (.tup [])) d (.dT [(keyN (List.range n), .ref p)])) lv (.lst [.ref b])) (.ref b) (List.range n) := (hst.tm (.of s4)).tn
    refine ⟨fun m σ H' => ∃ a, m = 240 - a ∧ WS H ms (.ref b) n gs d a σ H', ⟨240, 0, rfl, ⟨⟨lv, none, none, none, none, none, rfl, [.ref b], upd_same, .cons hst' .nil⟩, s1.trans s4, ⟨[(keyN (List.range n), .ref p)], by rw [upd_ne hdl, upd_same], .cons ⟨rfl, p, rfl, .inl ?_⟩ .nil⟩, Nat.zero_le _, Nat.zero_le _⟩⟩, ?_⟩
    · rw [upd_ne hpl, upd_ne hpd, upd_same]
      rfl
    rintro m σ H' ⟨a, rfl, ⟨⟨lv, x5, x6, x7, x8, x9, rfl, xs, hlv', hxs⟩, sm, dw, le, le2⟩⟩
    have ret : (qq gs n a).length = a ∨ 240 < (qq gs n a).length → Q (.ref d) H' := fun h => q d H' _ sm hd0 dw ⟨a, rfl, le, h⟩
    have hxl : xs.length = (qq gs n a).length - a := by
      rw [Paired.length hxs, List.length_drop, List.length_map]
    refine ⟨_, rfl, !xs.isEmpty, .inl ⟨xs, SqL.of hlv', rfl⟩, ?_⟩
    refine ite2 (fun h => ?_) (fun h => ?_)
    rotate_left
    · refine iteF ⟨_, rfl, ret (.inl ?_)⟩
      cases xs with
      | nil => simp at hxl; omega
      | cons x xs => exact absurd rfl h
    obtain ⟨kvs, hkv, pkv⟩ := dw
    have hkl : kvs.length = (qq gs n a).length := Paired.length pkv
    refine ⟨_, rfl, d, kvs, rfl, hkv, _, _, rfl, rfl, _, rfl, ite2 (fun h2 => ?_) (fun h2 => ?_)⟩
    rotate_left
    · have h2 : ¬ ((kvs.length : Int) ≤ 240) := fun z => h2 (decide_eq_true z)
      exact ⟨_, rfl, ret (.inr (by omega))⟩
    have h2 : (kvs.length : Int) ≤ 240 := of_decide_eq_true h2
    have hpos : a < (qq gs n a).length := by
      cases xs with
      | nil => simp at h
      | cons x xs => rw [List.length_cons] at hxl; omega
    refine ⟨fun σ2 H2 => WS H ms (.ref b) n gs d (qq gs n a).length σ2 H2, fun σ2 H2 hw => ⟨240 - (qq gs n a).length, by omega, _, rfl, hw⟩, ?_⟩
    -- longer = []
    refine ⟨Nat.zero_le _, fun lg hlg => ?_⟩
    have hlg0 : H lg = none := sm.free hlg
    have sl := same_new (o := .lst []) hlg
    obtain ⟨pm, mxs, rfl, hpm, hmx⟩ := hms
    have hlvg : lv ≠ lg := ne_of_none hlv' hlg
    have hdg : d ≠ lg := ne_of_none hkv hlg
    have hlv0 : ∀ H2 : Hp, Same H' H2 → H2 lv = some (.lst xs) := fun H2 s => s _ _ hlv'
    refine ⟨_, rfl, lv, rfl, ⟨_, SqL.of (sl _ _ hlv')⟩, for_list (K := K) (a := lv) (xs := xs)
      (fun i σ2 H2 => ∃ y6 y7 y8 y9 M, σ2 = [some (.ref pm), some (nI n), some (.ref b), some (.ref d), some (.ref lv), some (.ref lg), y6, y7, y8, y9] ∧ Same H H2 ∧ qq gs n (a + i) = qq gs n a ++ M ∧ DW H2 d (qq gs n (a + i)) ∧ LT H2 lg (M.map (·.1)) ∧ H2 lv = some (.lst xs) ∧ Paired (TN H2) xs (((qq gs n a).map (·.1)).drop a))
      ⟨x6, x7, x8, x9, [], rfl, sm.trans sl, by rw [List.append_nil]; rfl, DW.same ⟨kvs, hkv, pkv⟩ sl, ⟨[], upd_same, .nil⟩, sl _ _ hlv', TNs.tm (.of sl) hxs⟩
      (fun i σ2 H2 _ ⟨_, _, _, _, _, _, _, _, _, _, h, _⟩ => SqL.of h) ?_ ?_⟩
    · rintro i x σ2 H2 hi ⟨y6, y7, y8, y9, M, rfl, sm2, eM, dw2, lt2, hlv2, hx2⟩
      obtain ⟨t, ht, htn⟩ := Paired.getL hx2 hi
      rw [List.getElem?_drop, List.getElem?_map] at ht
      obtain ⟨⟨t', w'⟩, hq, et⟩ := Option.map_eq_some_iff.mp ht
      have et : t' = t := et
      subst et
      have hstep := qq_step eM hq
      have htP : IsP n t' := Mk.isP hg (qq_mk gs n a t' (List.mem_map.mpr ⟨_, List.mem_of_getElem? hq, rfl⟩))
      refine ⟨_, rfl, pm, _, rfl, SqT.of (sm2 _ _ hpm), for_enumT (K := K) (xs := mxs)
        (fun j σ3 H3 => ∃ z7 z8 z9 M', σ3 = [some (.ref pm), some (nI n), some (.ref b), some (.ref d), some (.ref lv), some (.ref lg), some x, z7, z8, z9] ∧ Same H H3 ∧ grow t' w' (gs.take j) 0 (qq gs n (a + i)) = qq gs n a ++ M' ∧ DW H3 d (qq gs n a ++ M') ∧ LT H3 lg (M'.map (·.1)) ∧ H3 lv = some (.lst xs) ∧ Paired (TN H3) xs (((qq gs n a).map (·.1)).drop a))
        ⟨y7, y8, y9, M, rfl, sm2, eM, by rw [← eM]; exact dw2, lt2, hlv2, hx2⟩ (fun j σ3 H3 _ ⟨_, _, _, _, _, s, _⟩ => SqT.of (s _ _ hpm)) ?_ ?_⟩
      · rintro j y σ3 H3 T hj ⟨z7, z8, z9, M', rfl, sm3, eM', dw3, ⟨gz, hgz, pgz⟩, hlv3, hx3⟩ hT
        obtain ⟨g, hgj, hyg⟩ := Paired.getL hmx hj
        have hgP := hg g (List.mem_of_getElem? hgj)
        have sT := same_new (o := .tup [nI j, y]) hT
        refine ⟨T, _, rfl, SqT.of upd_same, rfl, nI j, _, rfl, y, _, rfl, rfl, ?_⟩
        obtain ⟨t2, ht2, htn3⟩ := Paired.getL hx3 hi
        rw [List.getElem?_drop, List.getElem?_map, hq] at ht2
        have ht2 : t' = t2 := Option.some.inj ht2
        subst ht2
        refine ⟨_, rfl, _, rfl, pr_call (htn3.tm (.of sT)) (hyg.tm (.of (sm3.trans sT))) htP hgP hn fun v H4 s4 hv => ?_⟩
        have s34 : Same H3 H4 := sT.trans s4
        have hvP := htP.prod hgP
        obtain ⟨b1, rfl, hb1⟩ := hv.key
        obtain ⟨kv4, hk4, pk4⟩ := dw3.same s34
        have hgz4 := s34 _ _ hgz
        have pgz4 := TNs.tm (.of s34) pgz
        have hlv4 := s34 _ _ hlv3
        have hx4 := TNs.tm (.of s34) hx3
        have hnd : ((qq gs n a ++ M').map (·.1)).Nodup := by rw [← eM']; exact grow_nd _ _ _ _ _ (qq_nd gs n (a + i))
        have hnx := grow_next (t := t') (w := w') hgj (qq gs n (a + i))
        rw [eM'] at hnx
        have sm4 : Same H H4 := sm3.trans s34
        refine ⟨_, rfl, _, rfl, d, _, rfl, DGet.t hk4 hb1, _, rfl, ?_⟩
        rw [dw_isSome pk4 hnd]
        by_cases hin : prod t' g ∈ (qq gs n a ++ M').map (·.1)
        · rw [if_pos hin] at hnx
          rw [decide_eq_true hin]
          exact iteF ⟨_, _, _, M', rfl, sm4, hnx, ⟨kv4, hk4, pk4⟩, ⟨gz, hgz4, pgz4⟩, hlv4, hx4⟩
        · rw [if_neg hin] at hnx
          rw [decide_eq_false hin]
          refine iteT ?_
          have hmem : (t', w') ∈ qq gs n a ++ M' := List.mem_append.mpr (.inl (List.mem_of_getElem? hq))
          obtain ⟨wv, hwv, hwn⟩ := dw_some pk4 hnd hmem
          obtain ⟨b2, rfl, hb2⟩ := (htn3.tm (.of s34)).key
          obtain ⟨pw, rfl, hpw⟩ := hwn
          have hwl : w'.length ≤ 240 := Nat.le_trans (qq_w gs n a _ (List.mem_of_getElem? hq)) le2
          refine ⟨_, rfl, _, rfl, d, .ref pw, kv4, _, _, rfl, rfl, .inl hk4, hb2, hwv, _, rfl, by show 1 ≤ sizeLine; decide, fun p hp => ?_⟩
          have s5 := same_new (o := .tup [nI j]) hp
          refine catA_tn (hpw.sm s5) upd_same (by omega) fun v5 H5 s6 hv5 => ?_
          have s45 := s5.trans s6
          have hk5 := s45 _ _ hk4
          have hkl4 : kv4.length = (grow t' w' (gs.take j) 0 (qq gs n (a + i))).length := by rw [Paired.length pk4, ← eM']
          have hsz : kv4.length ≤ 1000000 := by
            have h0 := grow_len t' w' (gs.take j) 0 (qq gs n (a + i))
            have h1 := qq_len_le gs n a i
            have h3 : i ≤ 240 := by
              have := (List.getElem?_eq_some_iff.mp hq).1
              omega
            have h4 : i * gs.length ≤ 240 * 1000 := Nat.mul_le_mul h3 hgl
            rw [List.length_take] at h0
            omega
          refine ⟨_, rfl, _, rfl, d, _, rfl, DPut.t hk5 (s45 _ _ hb1) (by rw [sizeLine_eq]; omega), ?_⟩
          rw [putK_new v5 (dw_none pk4 hin)]
          have t6 : Tm H5 (upd H5 d (.dT (kv4 ++ [(keyN (prod t' g), v5)]))) := Tm.dT hk5
          have hg6 : (upd H5 d (.dT (kv4 ++ [(keyN (prod t' g), v5)]))) lg = some (.lst gz) := by
            rw [upd_ne (ne_of hgz4 hk4 (fun z => nomatch z))]
            exact s45 _ _ hgz4
          have hgzl : gz.length ≤ kv4.length := by
            rw [Paired.length pgz, Paired.length pk4, List.length_map, List.length_append]
            omega
          refine ⟨_, rfl, .inl ⟨rfl, _, SqL.of hg6⟩, _, rfl, lg, _, _, rfl, rfl, hg6, by rw [sizeLine_eq]; omega, ?_⟩
          have t7 := Tm.lst (o := .lst (gz ++ [.ref b1])) hg6
          have tt := (Tm.of s45).trans (t6.trans t7)
          refine ⟨_, _, _, M' ++ [(prod t' g, w' ++ [j])], rfl, ?_, ?_, ⟨kv4 ++ [(keyN (prod t' g), v5)], ?_, ?_⟩, ⟨gz ++ [.ref b1], upd_same, ?_⟩, ?_, TNs.tm tt hx4⟩
          · exact same_mut (same_mut (sm4.trans s45) hd0) hlg0
          · rw [hnx, List.append_assoc]
          · rw [upd_ne hdg, upd_same]
          · rw [← List.append_assoc]
            exact Paired.app (DEs.tm tt pk4) (Paired.one ⟨rfl, hv5.tm (t6.trans t7)⟩)
          · rw [List.map_append]
            exact Paired.app (TNs.tm tt pgz4) (Paired.one (hv.tn.tm tt))
          · rw [upd_ne hlvg, upd_ne (ne_of hlv4 hk4 (fun z => nomatch z))]
            exact s45 _ _ hlv4
      · rintro σ3 H3 ⟨z7, z8, z9, M', rfl, sm3, eM', dw3, lt3, hlv3, hx3⟩
        have e : gs.take mxs.length = gs := by rw [Paired.length hmx, List.take_length]
        rw [e] at eM'
        refine ⟨_, _, _, _, M', rfl, sm3, ?_, ?_, lt3, hlv3, hx3⟩
        · show qq gs n (a + i + 1) = _
          rw [hstep, eM']
        · show DW H3 d (qq gs n (a + i + 1))
          rw [hstep, eM']
          exact dw3
    · rintro σ2 H2 ⟨y6, y7, y8, y9, M, rfl, sm2, eM, dw2, lt2, hlv2, hx2⟩
      have e : a + xs.length = (qq gs n a).length := by omega
      rw [e] at eM dw2
      refine ⟨_, rfl, ⟨⟨lg, _, _, _, _, _, rfl, ?_⟩, sm2, dw2, ?_, by omega⟩⟩
      · rw [eM, List.map_append, List.drop_append_of_le_length (by rw [List.length_map]; exact Nat.le_refl _), List.drop_of_length_le (by rw [List.length_map]; exact Nat.le_refl _), List.nil_append]
        exact lt2
      · rw [eM, List.length_append]
        omega
end
end Lt

set_option linter.all false
set_option Elab.async false
/-! powers of a turn; the whole of the turns -/
namespace Lt
def pw (n : Nat) (t : List Nat) : Nat → List Nat
  | 0 => List.range n
  | k + 1 => prod (pw n t k) t
theorem pw_isP {n : Nat} {t : List Nat} (h : IsP n t) : ∀ k, IsP n (pw n t k)
  | 0 => IsP.still n
  | k + 1 => (pw_isP h k).prod h
theorem pw_one {n : Nat} {t : List Nat} (h : IsP n t) : pw n t 1 = t := prod_still_l h.len
theorem pw_add {n : Nat} {t : List Nat} (h : IsP n t) (i : Nat) : ∀ k, pw n t (i + k) = prod (pw n t i) (pw n t k)
  | 0 => (prod_still_r (pw_isP h i).lt).symm
  | k + 1 => by
    show prod (pw n t (i + k)) t = prod (pw n t i) (prod (pw n t k) t)
    rw [pw_add h i k]
    exact prod_assoc fun j hj => by rw [(pw_isP h k).len]; exact (pw_isP h i).lt j hj
theorem prod_cancel {n : Nat} {a b : List Nat} (ha : IsP n a) (hb : IsP n b) (h : prod a b = a) : b = List.range n := by
  have h1 : prod (prod (inv a) a) b = prod (inv a) (prod a b) := prod_assoc fun i hi => by rw [ha.len]; exact ha.inv.lt i hi
  rw [h, prod_inv_l ha, prod_still_l hb.len] at h1
  exact h1
theorem Mk.prod {gs : List (List Nat)} {n : Nat} (hg : ∀ g ∈ gs, IsP n g) {a b : List Nat} (ha : Mk gs n a) (hb : Mk gs n b) : Mk gs n (prod a b) := by
  induction hb with
  | still => rw [prod_still_r (ha.isP hg).lt]; exact ha
  | @step t g ht hm ih =>
    rw [← prod_assoc (x := a) fun i hi => by rw [(ht.isP hg).len]; exact (ha.isP hg).lt i hi]
    exact .step ih hm
theorem Mk.pw {gs : List (List Nat)} {n : Nat} (hg : ∀ g ∈ gs, IsP n g) {t : List Nat} (h : Mk gs n t) : ∀ k, Mk gs n (pw n t k)
  | 0 => .still
  | k + 1 => (Mk.pw hg h k).prod hg h
/-- two of many places hold the same -/
theorem dup_of {α : Type} [DecidableEq α] (f : Nat → α) : ∀ m, ¬ ((List.range m).map f).Nodup → ∃ i j, i < j ∧ j < m ∧ f i = f j
  | 0, h => absurd List.Pairwise.nil h
  | m + 1, h => by
    by_cases hn : ((List.range m).map f).Nodup
    · rw [List.range_succ, List.map_append] at h
      by_cases hx : f m ∈ (List.range m).map f
      · obtain ⟨i, hi, e⟩ := List.mem_map.mp hx
        exact ⟨i, m, List.mem_range.mp hi, Nat.lt_succ_self m, e⟩
      · exact absurd (nodup_snoc hn hx) h
    · obtain ⟨i, j, h1, h2, e⟩ := dup_of f m hn
      exact ⟨i, j, h1, by omega, e⟩
theorem pw_back {gs : List (List Nat)} {n m : Nat} (hg : ∀ g ∈ gs, IsP n g) (hf : Few gs n m) {t : List Nat} (h : Mk gs n t) : ∃ N, 1 ≤ N ∧ N ≤ m ∧ pw n t N = List.range n := by
  have hnd : ¬ ((List.range (m + 1)).map (Lt.pw n t)).Nodup := fun hnd => by
    have z := hf.le hnd fun x hx => by
      obtain ⟨k, _, e⟩ := List.mem_map.mp hx
      rw [← e]
      exact h.pw hg k
    rw [List.length_map, List.length_range] at z
    omega
  obtain ⟨i, j, hij, hj, e⟩ := dup_of _ _ hnd
  have ht := h.isP hg
  refine ⟨j - i, by omega, by omega, ?_⟩
  have z := pw_add ht i (j - i)
  rw [show i + (j - i) = j by omega, ← e] at z
  exact prod_cancel (pw_isP ht i) (pw_isP ht _) z.symm
/-- the least of some numbers -/
theorem least_of {p : Nat → Prop} [DecidablePred p] : ∀ n, p n → ∃ k, k ≤ n ∧ p k ∧ ∀ j, j < k → ¬ p j := fun n => by
  induction n using Nat.strongRecOn with
  | _ n ih =>
    intro h
    by_cases hx : ∃ j, j < n ∧ p j
    · obtain ⟨j, hj, pj⟩ := hx
      obtain ⟨k, h1, h2, h3⟩ := ih j hj pj
      exact ⟨k, by omega, h2, h3⟩
    · exact ⟨n, Nat.le_refl n, h, fun j hj pj => hx ⟨j, hj, pj⟩⟩
theorem pw_least {gs : List (List Nat)} {n m : Nat} (hg : ∀ g ∈ gs, IsP n g) (hf : Few gs n m) {t : List Nat} (h : Mk gs n t) : ∃ N, 1 ≤ N ∧ N ≤ m ∧ pw n t N = List.range n ∧ ∀ j, 1 ≤ j → j < N → pw n t j ≠ List.range n := by
  obtain ⟨N, h1, h2, h3⟩ := pw_back hg hf h
  obtain ⟨k, hk1, ⟨hk2, hk3⟩, hk4⟩ := least_of (p := fun k => 1 ≤ k ∧ pw n t k = List.range n) N ⟨h1, h3⟩
  exact ⟨k, hk2, by omega, hk3, fun j hj1 hj2 e => hk4 j hj2 ⟨hj1, e⟩⟩
/-- all the words, the lock being small -/
@[irreducible] def LL (gs : List (List Nat)) (n : Nat) : List W := qq gs n 300
theorem LL_eq (gs : List (List Nat)) (n : Nat) : LL gs n = qq gs n 300 := by unfold LL; rfl
theorem LL_of {gs : List (List Nat)} {n m a : Nat} (hf : Few gs n m) (hm : m ≤ 240) (h : (qq gs n a).length = a) : qq gs n a = LL gs n := by
  have := hf.qq a
  rw [LL_eq]
  exact (qq_end' gs n (by omega) (by omega)).symm
theorem LL_len {gs : List (List Nat)} {n m : Nat} (hf : Few gs n m) : (LL gs n).length ≤ m := by
  rw [LL_eq]
  exact hf.qq 300
theorem LL_nd (gs : List (List Nat)) (n : Nat) : ((LL gs n).map (·.1)).Nodup := by
  rw [LL_eq]
  exact qq_nd gs n 300
theorem LL_mem {gs : List (List Nat)} {n m : Nat} (hf : Few gs n m) (hm : m ≤ 240) (t : List Nat) : t ∈ (LL gs n).map (·.1) ↔ Mk gs n t := by
  rw [LL_eq]
  exact qq_full (Nat.le_trans (hf.qq 300) (by omega)) t
end Lt

set_option Elab.async false
set_option linter.all false
set_option maxRecDepth 100000
set_option maxHeartbeats 4000000
namespace Lt
open PySem PySem.Spec PyProof.Rows L2
/-! ### what is a lock -/
def lenOf : PyData → Nat
  | .tuple ds => ds.length
  | _ => 0
def firstBad : List PyData → Nat → Nat → Option Nat
  | [], _, _ => none
  | d :: ds, n, i => if isPermD d n = true then firstBad ds n (i + 1) else some i
def lockBad : PyData → Option (Option Nat)
  | .tuple ds => if 1 ≤ ds.length ∧ ds.length ≤ 4 then (if isTup (ds.headD .none) = true ∧ 2 ≤ lenOf (ds.headD .none) ∧ lenOf (ds.headD .none) ≤ 9 then (firstBad ds (lenOf (ds.headD .none)) 0).map some else some (some 0)) else some none
  | _ => some none
def plV : Option Nat → V
  | none => .non
  | some i => nI i
def Sml (d : PyData) : Prop := ∀ ds, d = .tuple ds → ds.length ≤ 1000 ∧ ∀ e ∈ ds, ∀ es, e = .tuple es → es.length < 64
section
variable {P : Program} {w : World} {K : PySem.W.Frag} {mg : Str → Option Value} {base : Heap} {CL CM CT : Addr}
/-! ### check_lock -/
def spCheck (CL : Addr) : Sp := fun vs H Q E => ∃ (v : V) (d : PyData), vs = [v] ∧ Rp H v d ∧ Sml d ∧ (lockBad d = none → ∀ H', Same H H' → Q .non H') ∧ ∀ pl, lockBad d = some pl → BadF CL "place" (plV pl) H E
theorem sc_check_lock : FnScope ["lock", "place", "given"] ["lock"] (defScope s_check_lock) := ⟨rfl, rfl, rfl, by decide +kernel, rfl, by decide +kernel, by decide +kernel⟩
theorem has_check_lock (T : Top K mg "check_lock" s_check_lock ["lock"]) (B : Bi mg) (X1 : ErrI P w K mg base "BadLock" "place" CL) (C1 : Cn mg "MOST_GIVEN" 4) (C2 : Cn mg "FEWEST_PLACES" 2) (C3 : Cn mg "MOST_PLACES" 9)
    (hP : Has P w K mg base CX0 3 "is_permutation" ["value", "size"] spPerm) : Has P w K mg base (L2.CX P w) 4 "check_lock" ["lock"] (spCheck CL) := by
  refine T.okX sc_check_lock (fun vs H Q E h => ?_) (fun f cdv A outer s H vs Q E hr h => ?_)
  · obtain ⟨v, d, rfl, _⟩ := h
    rfl
  · obtain ⟨v, d, rfl, hd, hs, qg, qb⟩ := h
    obtain ⟨t1, e1⟩ := C1
    obtain ⟨t2, e2⟩ := C2
    obtain ⟨t3, e3⟩ := C3
    have hr2 : Room 2 _ := hr.mono (by decide)
    refine ⟨_, pss_cons (ps_if (PW.pt (pw_or (pt_not (pt_val (pe_callB call_isi (by rfl) B.isinstance PyProof.Rows.boot_isinstance (pa_cons (pv 0) (pa_cons (pe_bltn (by rfl) B.tuple PyProof.Rows.boot_tuple (rr_ty "tuple")) pa_nil)))))
          (pw_or1 (pt_not (pt_chain op_le op_le pe_int (pe_callB call_len_seq (by rfl) B.len PySem.boot_len (pa_cons (pv 0) pa_nil)) (pe_glob (v := .int 4) rfl e1 ⟨_, rfl⟩))))))
        (pss_one (ps_raise rfl (takes_of rfl rfl rfl rfl) (pmk_errI X1 hr2 (by rfl) (pa_cons pe_non pa_nil)))) pss_nil)
      (pss_cons (ps_if (PW.pt (pw_or (pt_not (pt_val (pe_callB call_isi (by rfl) B.isinstance PyProof.Rows.boot_isinstance (pa_cons (pe_ix ix_tup (pv 0) pe_int (fun _ _ => rfl)) (pa_cons (pe_bltn (by rfl) B.tuple PyProof.Rows.boot_tuple (rr_ty "tuple")) pa_nil)))))
          (pw_or1 (pt_not (pt_chain op_le op_le (pe_glob (v := .int 2) rfl e2 ⟨_, rfl⟩) (pe_callB call_len_seq (by rfl) B.len PySem.boot_len (pa_cons (pe_ix ix_tup (pv 0) pe_int (fun _ _ => rfl)) pa_nil)) (pe_glob (v := .int 9) rfl e3 ⟨_, rfl⟩))))))
        (pss_one (ps_raise rfl (takes_of rfl rfl rfl rfl) (pmk_errI X1 hr2 (by rfl) (pa_cons pe_int pa_nil)))) pss_nil)
      (pss_one (ps_for (passes_of rfl) rfl (pi_enumT (by rfl) B.enumerate (pa_cons (pv 0) pa_nil)) (pg_tup rfl (pgs_cons (pg_name (i := 1) sc_check_lock.nd rfl (Or.inl rfl)) (pgs_cons (pg_name (i := 2) sc_check_lock.nd rfl (Or.inl rfl)) pgs_nil)))
        (pss_one (ps_if (pt_not (pt_val (pe_has hP hr (by rfl) (pa_cons (pv 2) (pa_cons (pe_callB call_len_seq (by rfl) B.len PySem.boot_len (pa_cons (pe_ix ix_tup (pv 0) pe_int (fun _ _ => rfl)) pa_nil)) pa_nil)))))
          (pss_one (ps_raise rfl (takes_of rfl rfl rfl rfl) (pmk_errI X1 hr2 (by rfl) (pa_cons (pv 1) pa_nil)))) pss_nil))))), ?_⟩
    have bad : ∀ {pl : Option Nat} {H' : Hp}, lockBad d = some pl → Same H H' → BadF CL "place" (plV pl) H' E := fun e s => (qb _ e).same s
    by_cases hT : isTup d = true
    rotate_left
    · have e : lockBad d = some none := by cases d <;> first | rfl | exact absurd rfl hT
      have hF : isTup d = false := by simpa using hT
      refine ⟨_, rfl, v, .ty "tuple", _, _, isTup d, rfl, .ty _, rp_ty hd, kit_ty (kit_tup d), isTup d, rfl, ?_⟩
      rw [hF]
      exact mk_read X1.oex X1.no (bad e (Same.refl _))
    cases hd with
    | non => cases hT
    | bl => cases hT
    | int => cases hT
    | str => cases hT
    | lst => cases hT
    | @tup a xs ds ha hx =>
      have hxl := hx.len
      obtain ⟨hs1, hs2⟩ := hs ds rfl
      refine ⟨_, rfl, .ref a, .ty "tuple", _, _, true, rfl, .ty _, rp_ty (.tup ha hx), kit_ty (kit_tup (.tuple ds)), true, rfl, iteF ?_⟩
      have none_of : ¬ (1 ≤ ds.length ∧ ds.length ≤ 4) → lockBad (.tuple ds) = some none := fun h => by
        show (if 1 ≤ ds.length ∧ ds.length ≤ 4 then _ else _) = _
        rw [if_neg h]
      refine ⟨_, rfl, a, xs, rfl, .inr (ha.sq), 1, (xs.length : Int), rfl, rfl, _, rfl, ite2 (fun h1 => ⟨_, _, rfl, rfl, _, rfl, ite2 (fun h2 => ?_) (fun h2 => ?_)⟩) (fun h1 => ⟨_, rfl, ?_⟩)⟩
      · have h2 : ¬ ((xs.length : Int) ≤ 4) := fun z => by rw [decide_eq_true z] at h2; cases h2
        exact mk_read X1.oex X1.no (bad (none_of (by omega)) (Same.refl _))
      rotate_left
      · have h1 : ¬ ((1 : Int) ≤ (xs.length : Int)) := fun z => h1 (decide_eq_true z)
        exact mk_read X1.oex X1.no (bad (none_of (by omega)) (Same.refl _))
      have h2 : (xs.length : Int) ≤ 4 := by
        by_cases z : (xs.length : Int) ≤ 4
        · exact z
        · rw [decide_eq_false z] at h2
          exact absurd rfl h2
      have h1 : (1 : Int) ≤ (xs.length : Int) := of_decide_eq_true h1
      have hlen : 1 ≤ ds.length ∧ ds.length ≤ 4 := ⟨by omega, by omega⟩
      -- the first given turn
      cases hx with
      | nil => exact absurd hlen.1 (by decide)
      | @cons x xr dd dr r0 rr =>
      have hx : RpAll H (x :: xr) (dd :: dr) := .cons r0 rr
      have eLB : lockBad (.tuple (dd :: dr)) = if isTup dd = true ∧ 2 ≤ lenOf dd ∧ lenOf dd ≤ 9 then (firstBad (dd :: dr) (lenOf dd) 0).map some else some (some 0) := by
        show (if 1 ≤ (dd :: dr).length ∧ (dd :: dr).length ≤ 4 then _ else _) = _
        rw [if_pos hlen]
        rfl
      have zero_of : ¬ (isTup dd = true ∧ 2 ≤ lenOf dd ∧ lenOf dd ≤ 9) → lockBad (.tuple (dd :: dr)) = some (some 0) := fun h => by rw [eLB, if_neg h]
      have at0 : atI (x :: xr) 0 = some x := atI_nat (j := 0) rfl
      refine ⟨_, rfl, a, _, 0, x, rfl, rfl, ha.sq, at0, x, .ty "tuple", _, _, isTup dd, rfl, .ty _, rp_ty r0, kit_ty (kit_tup dd), isTup dd, rfl, ?_⟩
      by_cases hT2 : isTup dd = true
      rotate_left
      · have hF : isTup dd = false := by simpa using hT2
        rw [hF]
        exact mk_read (v := .int 0) X1.oex X1.no (bad (zero_of fun z => hT2 z.1) (Same.refl _))
      rw [hT2]
      refine iteF ?_
      cases r0 with
      | non => cases hT2
      | bl => cases hT2
      | int => cases hT2
      | str => cases hT2
      | lst => cases hT2
      | @tup b ys es hb hy =>
      have hyl := hy.len
      refine ⟨_, rfl, a, _, 0, .ref b, rfl, rfl, ha.sq, at0, b, ys, rfl, .inr (hb.sq), 2, (ys.length : Int), rfl, rfl, _, rfl, ite2 (fun h3 => ⟨_, _, rfl, rfl, _, rfl, ite2 (fun h4 => ?_) (fun h4 => ?_)⟩) (fun h3 => ⟨_, rfl, ?_⟩)⟩
      · have h4 : ¬ ((ys.length : Int) ≤ 9) := fun z => by rw [decide_eq_true z] at h4; cases h4
        exact mk_read (v := .int 0) X1.oex X1.no (bad (zero_of fun z => h4 (by have := z.2.2; show (ys.length : Int) ≤ 9; rw [hyl]; exact Int.ofNat_le.mpr this)) (Same.refl _))
      rotate_left
      · have h3 : ¬ ((2 : Int) ≤ (ys.length : Int)) := fun z => h3 (decide_eq_true z)
        exact mk_read (v := .int 0) X1.oex X1.no (bad (zero_of fun z => h3 (by have := z.2.1; show (2 : Int) ≤ (ys.length : Int); rw [hyl]; exact Int.ofNat_le.mpr this)) (Same.refl _))
      have h4 : (ys.length : Int) ≤ 9 := by
        by_cases z : (ys.length : Int) ≤ 9
        · exact z
        · rw [decide_eq_false z] at h4
          exact absurd rfl h4
      have h3 : (2 : Int) ≤ (ys.length : Int) := of_decide_eq_true h3
      rw [if_pos ⟨rfl, by show 2 ≤ es.length; omega, by show es.length ≤ 9; omega⟩] at eLB
      have eLB : lockBad (.tuple (.tuple es :: dr)) = (firstBad (.tuple es :: dr) es.length 0).map some := eLB
      refine ⟨_, rfl, a, _, rfl, ha.sq, for_enumT (K := K) (xs := .ref b :: xr) (fun i σ H' => ∃ y z, σ = [some (.ref a), y, z] ∧ Same H H' ∧ firstBad (.tuple es :: dr) es.length 0 = firstBad ((.tuple es :: dr).drop i) es.length i)
        ⟨none, none, rfl, Same.refl _, rfl⟩ (fun i σ H' _ ⟨_, _, _, s, _⟩ => (ha.sm s).sq) ?_ ?_⟩
      · rintro i u σ H' T hi ⟨y, z, rfl, sm, hfb⟩ hTn
        obtain ⟨du, hdu, hru⟩ := hx.get hi
        have sT := same_new (o := .tup [nI i, u]) hTn
        have sm' := sm.trans sT
        have hdrop : (PyData.tuple es :: dr).drop i = du :: (PyData.tuple es :: dr).drop (i + 1) := by
          obtain ⟨hl, e⟩ := List.getElem?_eq_some_iff.mp hdu
          rw [List.drop_eq_getElem_cons hl, e]
        rw [hdrop] at hfb
        refine ⟨T, _, rfl, SqT.of upd_same, rfl, nI i, _, rfl, u, _, rfl, rfl, ?_⟩
        refine ⟨_, rfl, _, rfl, a, _, 0, .ref b, rfl, rfl, (ha.sm sm').sq, at0, b, ys, rfl, .inr ((hb.sm sm').sq), u, du, es.length, by rw [hyl]; rfl, Rp.same sm' _ _ hru, fun es' e => ?_, by omega, fun H2 s2 => ?_⟩
        · exact hs2 du (List.mem_of_getElem? hdu) es' e
        refine ⟨isPermD du es.length, rfl, ?_⟩
        by_cases hp : isPermD du es.length = true
        · rw [hp]
          refine iteF ⟨_, _, rfl, sm'.trans s2, ?_⟩
          rw [hfb]
          show (if isPermD du es.length = true then _ else _) = _
          rw [if_pos hp]
        · have hF : isPermD du es.length = false := by simpa using hp
          rw [hF]
          refine iteT ⟨_, rfl, mk_read X1.oex X1.no (bad (pl := some i) ?_ (sm'.trans s2))⟩
          rw [eLB, hfb]
          rw [show firstBad (du :: List.drop (i + 1) (PyData.tuple es :: dr)) es.length i = some i from if_neg hp]
          rfl
      · rintro σ H' ⟨y, z, rfl, sm, hfb⟩
        refine qg ?_ H' sm
        rw [eLB, hfb, List.drop_of_length_le (by rw [hxl]; exact Nat.le_refl _)]
        rfl
end
end Lt

set_option Elab.async false
set_option linter.all false
set_option maxRecDepth 100000
set_option maxHeartbeats 4000000
namespace Lt
open PySem PySem.Spec PyProof.Rows L2
def GL (ls : List (List Nat)) (n : Nat) : Prop := 1 ≤ ls.length ∧ ls.length ≤ 4 ∧ 2 ≤ n ∧ n ≤ 9 ∧ ∀ g ∈ ls, IsP n g
/-- the argument lock: no lock, too great a one, or a lock of which k -/
def LockIn (CL CM : Addr) (v : V) (H : Hp) (E : XK) (k : List (List Nat) → Nat → Prop) : Prop := ∃ d, Rp H v d ∧ Sml d ∧ (∀ pl, lockBad d = some pl → BadF CL "place" (plV pl) H E) ∧
  (lockBad d = none → ∃ ls n, TT H v ls ∧ GL ls n ∧ (∀ L, Wd ls n L → 240 < L.length → BadF CM "most" (.int 240) H E) ∧ k ls n)
theorem LockIn.imp {CL CM : Addr} {v : V} {H : Hp} {E : XK} {k k' : List (List Nat) → Nat → Prop} (h : LockIn CL CM v H E k) (i : ∀ ls n, TT H v ls → GL ls n → k ls n → k' ls n) : LockIn CL CM v H E k' := by
  obtain ⟨d, h1, h2, h3, h4⟩ := h
  refine ⟨d, h1, h2, h3, fun e => ?_⟩
  obtain ⟨ls, n, a, b, c, q⟩ := h4 e
  exact ⟨ls, n, a, b, c, i ls n a b q⟩
theorem numsOf_dT (t : List Nat) : numsOf (dT t) = t.map Int.ofNat := by
  show (t.map dN).map numOf = _
  rw [List.map_map]
  rfl
theorem isNums_dT (t : List Nat) : isNums (dT t) = true := by
  show (t.map dN).all isNum = true
  rw [List.all_map]
  exact List.all_eq_true.mpr fun _ _ => rfl
theorem ofNat_inj : ∀ x y : Nat, Int.ofNat x = Int.ofNat y → x = y := fun _ _ e => Int.ofNat.inj e
theorem perm_ofNat {a b : List Nat} (h : (a.map Int.ofNat).Perm (b.map Int.ofNat)) : a.Perm b := by
  have z := h.map Int.toNat
  rw [List.map_map, List.map_map] at z
  have e : ∀ l : List Nat, l.map (Int.toNat ∘ Int.ofNat) = l := fun l => (List.map_congr_left (g := id) fun _ _ => rfl).trans (List.map_id l)
  rw [e, e] at z
  exact z
theorem isPermD_dT (t : List Nat) (n : Nat) : isPermD (dT t) n = decide (IsP n t) := by
  unfold isPermD
  rw [isNums_dT, Bool.true_and, numsOf_dT]
  exact decide_eq_decide.mpr ⟨fun h => perm_ofNat h, fun h => List.Perm.map _ h⟩
theorem firstBad_good {n : Nat} : ∀ (ls : List (List Nat)) (i : Nat), (∀ g ∈ ls, IsP n g) → firstBad (ls.map dT) n i = none
  | [], _, _ => rfl
  | g :: ls, i, h => by
    show (if isPermD (dT g) n = true then firstBad (ls.map dT) n (i + 1) else some i) = none
    rw [isPermD_dT, decide_eq_true (h g List.mem_cons_self), if_pos rfl]
    exact firstBad_good ls (i + 1) fun x hx => h x (List.mem_cons_of_mem _ hx)
theorem lockBad_good {ls : List (List Nat)} {n : Nat} (h : GL ls n) : lockBad (.tuple (ls.map dT)) = none := by
  obtain ⟨h1, h2, h3, h4, h5⟩ := h
  cases ls with
  | nil => exact absurd h1 (by decide)
  | cons g ls =>
    have hg := (h5 g List.mem_cons_self).len
    show (if 1 ≤ ((g :: ls).map dT).length ∧ ((g :: ls).map dT).length ≤ 4 then (if isTup (dT g) = true ∧ 2 ≤ lenOf (dT g) ∧ lenOf (dT g) ≤ 9 then (firstBad ((g :: ls).map dT) (lenOf (dT g)) 0).map some else some (some 0)) else some none) = none
    have e : lenOf (dT g) = n := by
      show (g.map dN).length = n
      rw [List.length_map, hg]
    rw [if_pos ⟨by rw [List.length_map]; exact h1, by rw [List.length_map]; exact h2⟩, e, if_pos ⟨rfl, h3, h4⟩, firstBad_good _ _ h5]
    rfl
theorem sml_good {ls : List (List Nat)} {n : Nat} (h : GL ls n) : Sml (.tuple (ls.map dT)) := by
  obtain ⟨h1, h2, h3, h4, h5⟩ := h
  intro ds e
  injection e with e
  subst e
  refine ⟨by rw [List.length_map]; omega, fun x hx es ee => ?_⟩
  obtain ⟨g, hg, rfl⟩ := List.mem_map.mp hx
  injection ee with ee
  subst ee
  rw [List.length_map, (h5 g hg).len]
  omega
theorem Few.wd {ls : List (List Nat)} {n m : Nat} (h : Few ls n m) (hm : m ≤ 240) {L : List (List Nat × List Nat)} (hL : Wd ls n L) : ∃ a, L = Lt.qq ls n a ∧ L.length = a ∧ L.length ≤ m := by
  obtain ⟨a, rfl, h1, h2⟩ := hL
  have h3 := h.qq a
  exact ⟨a, rfl, by omega, h3⟩
theorem lockIn_good {CL CM : Addr} {v : V} {H : Hp} {E : XK} {k : List (List Nat) → Nat → Prop} {ls : List (List Nat)} {n m : Nat} (ht : TT H v ls) (hg : GL ls n) (hf : Few ls n m) (hm : m ≤ 240) (q : k ls n) : LockIn CL CM v H E k :=
  ⟨_, ht.rp, sml_good hg, fun pl e => (by rw [lockBad_good hg] at e; cases e), fun _ => ⟨ls, n, ht, hg, fun L hL h => by
    obtain ⟨a, _, _, z⟩ := hf.wd hm hL
    omega, q⟩⟩
theorem TT.head {H : Hp} {v : V} {ls : List (List Nat)} {n : Nat} (h : TT H v ls) (hg : GL ls n) : ∃ a xs b, v = .ref a ∧ H a = some (.tup xs) ∧ Paired (TN H) xs ls ∧ atI xs 0 = some (.ref b) ∧ ∃ t, RT H b (nIs t) ∧ t.length = n := by
  obtain ⟨a, xs, rfl, ha, p⟩ := h
  cases p with
  | nil => exact absurd hg.1 (by decide)
  | @cons x t xr tr r rr =>
    obtain ⟨b, rfl, hb⟩ := r
    exact ⟨a, _, b, rfl, ha, .cons ⟨b, rfl, hb⟩ rr, atI_nat (j := 0) rfl, t, hb, (hg.2.2.2.2 t List.mem_cons_self).len⟩
section
variable {P : Program} {w : World} {K : PySem.W.Frag} {mg : Str → Option Value} {base : Heap} {CL CM CT : Addr}
/-! ### made_words -/
def spMade (CL CM : Addr) : Sp := fun vs H Q E => ∃ v, vs = [v] ∧ LockIn CL CM v H E (fun ls n => ∀ d H' L, Same H H' → H d = none → DW H' d L → Wd ls n L → L.length ≤ 240 → Q (.ref d) H')
theorem sc_made_words : FnScope ["lock", "made"] ["lock"] (defScope s_made_words) := ⟨rfl, rfl, rfl, by decide +kernel, rfl, by decide +kernel, by decide +kernel⟩
theorem has_made_words (T : Top K mg "made_words" s_made_words ["lock"]) (B : Bi mg) (X2 : ErrI P w K mg base "TooMany" "most" CM) (C1 : Cn mg "MOST_TURNS" 240)
    (hC : Has P w K mg base (L2.CX P w) 4 "check_lock" ["lock"] (spCheck CL)) (hW : Has P w K mg base CX0 2 "words_of" ["makers", "size"] spWords) : Has P w K mg base (L2.CX P w) 5 "made_words" ["lock"] (spMade CL CM) := by
  refine T.okX sc_made_words (fun vs H Q E h => ?_) (fun f cdv A outer s H vs Q E hr h => ?_)
  · obtain ⟨v, rfl, _⟩ := h
    rfl
  · obtain ⟨v, rfl, d, hd, hs, hb, hg⟩ := h
    obtain ⟨t1, e1⟩ := C1
    have hr2 : Room 2 _ := hr.mono (by decide)
    refine ⟨_, pss_cons (ps_expr (pe_hasX (E := E) hC hr (by rfl) (passes_call (takes_of rfl rfl rfl rfl) (fun _ _ _ _ h => h)) (pa_cons (pv 0) pa_nil)))
      (pss_cons (ps_set (i := 1) sc_made_words.nd rfl (Or.inl rfl) (pe_has hW hr2 (by rfl) (pa_cons (pv 0) (pa_cons (pe_callB call_len_seq (by rfl) B.len PySem.boot_len (pa_cons (pe_ix ix_tup (pv 0) pe_int (fun _ _ => rfl)) pa_nil)) pa_nil))))
      (pss_cons (ps_if (pt_cmpR op_gt (pe_callB call_len_dT (by rfl) B.len PySem.boot_len (pa_cons (pv 1) pa_nil)) (pe_glob (v := .int 240) rfl e1 ⟨_, rfl⟩) (nomark _))
        (pss_one (ps_raise rfl (takes_of rfl rfl rfl rfl) (pmk_errI X2 hr2 (by rfl) (pa_cons (pe_glob (v := .int 240) rfl e1 ⟨_, rfl⟩) pa_nil)))) pss_nil)
      (pss_one (ps_ret (pv 1))))), ?_⟩
    refine ⟨_, rfl, v, d, rfl, hd, hs, fun eg H1 s1 => ?_, hb⟩
    obtain ⟨ls, n, ht, hgl, hM, q⟩ := hg eg
    have ht1 := ht.tm (.of s1)
    obtain ⟨a, xs, b, rfl, ha, hp, h0, t, hbt, htl⟩ := ht1.head hgl
    refine ⟨_, rfl, _, rfl, a, xs, 0, .ref b, rfl, rfl, SqT.of ha, h0, b, _, rfl, .inr (hbt.sq), .ref a, ls, n, by rw [nIs_len, htl]; rfl, ht1, hgl.2.2.2.2, by have := hgl.2.2.2.1; omega, by have := hgl.2.1; omega, fun dd H2 L s2 hdd hdw hwd => ?_⟩
    obtain ⟨kvs, hk, pk⟩ := hdw
    have s12 := s1.trans s2
    refine ⟨_, rfl, dd, kvs, rfl, hk, _, _, rfl, rfl, _, rfl, ite2 (fun h => ?_) (fun h => ?_)⟩
    · have h : (240 : Int) < (kvs.length : Int) := of_decide_eq_true h
      have hl : kvs.length = L.length := Paired.length pk
      exact mk_read X2.oex X2.no ((hM L hwd (by omega)).same s12)
    · have h : ¬ ((240 : Int) < (kvs.length : Int)) := fun z => h (decide_eq_true z)
      have hl : kvs.length = L.length := Paired.length pk
      exact ⟨_, rfl, q dd H2 L s12 (s1.free hdd) ⟨kvs, hk, pk⟩ hwd (by omega)⟩
/-! ### is_turn, are_turns, check_turn -/
def keyI (ns : List Int) : List Key := ns.map Sum.inl
theorem keyN_I (t : List Nat) : keyN t = keyI (t.map Int.ofNat) := by
  unfold keyN keyI
  rw [List.map_map]
  rfl
theorem keyI_inj {s t : List Int} (h : keyI s = keyI t) : s = t := by
  unfold keyI at h
  exact (List.map_inj_right (fun x y e => by injection e)).mp h
abbrev numL (L : List (List Nat × List Nat)) : List (List Int) := L.map fun x : List Nat × List Nat => x.1.map Int.ofNat
theorem dw_isSomeK {H : Hp} {ns : List Int} : ∀ {kvs : List (List Key × V)} {L : List (List Nat × List Nat)}, Paired (DE H) kvs L → (valV kvs (keyI ns)).isSome = decide (ns ∈ numL L)
  | _, _, .nil => by simp [valV_nil]
  | p :: ps, q :: qs, .cons r s => by
    have ep : p.1 = keyI (q.1.map Int.ofNat) := by rw [r.1, keyN_I]
    show _ = decide (ns ∈ (q.1.map Int.ofNat) :: numL qs)
    by_cases e : p.1 = keyI ns
    · have e2 : q.1.map Int.ofNat = ns := keyI_inj (ep.symm.trans e)
      rw [valV_pos e, e2, decide_eq_true List.mem_cons_self]
      rfl
    · rw [valV_neg e, dw_isSomeK s]
      refine decide_eq_decide.mpr ⟨fun h => List.mem_cons_of_mem _ h, fun h => ?_⟩
      rcases List.mem_cons.mp h with z | z
      · rw [z] at e
        exact absurd ep e
      · exact z
def isTurnD (L : List (List Nat × List Nat)) (d : PyData) : Bool := isNums d && decide (numsOf d ∈ numL L)
theorem isTurnD_dT (L : List (List Nat × List Nat)) (t : List Nat) : isTurnD L (dT t) = decide (t ∈ L.map (·.1)) := by
  unfold isTurnD
  rw [isNums_dT, Bool.true_and, numsOf_dT]
  refine decide_eq_decide.mpr ⟨fun h => ?_, fun h => ?_⟩
  · obtain ⟨x, hx, e⟩ := List.mem_map.mp h
    rw [← (List.map_inj_right ofNat_inj).mp e]
    exact List.mem_map.mpr ⟨x, hx, rfl⟩
  · obtain ⟨x, hx, e⟩ := List.mem_map.mp h
    exact List.mem_map.mpr ⟨x, hx, by rw [e]⟩
def areTurnsD (L : List (List Nat × List Nat)) : PyData → Bool
  | .tuple ds => ds.all (isTurnD L)
  | _ => false
end
end Lt


set_option Elab.async false
set_option linter.all false
set_option maxRecDepth 100000
set_option maxHeartbeats 4000000
namespace Lt
open PySem PySem.Spec PyProof.Rows L2
section
variable {P : Program} {w : World} {K : PySem.W.Frag} {mg : Str → Option Value} {base : Heap} {CL CM CT : Addr}
def spIsTurn : Sp := fun vs H Q _ => ∃ (m : Addr) (L : List (List Nat × List Nat)) (v : V) (d : PyData), vs = [.ref m, v] ∧ DW H m L ∧ Rp H v d ∧ (∀ ds, d = .tuple ds → ds.length ≤ 1000) ∧ ∀ H', Same H H' → Q (.bl (isTurnD L d)) H'
theorem sc_is_turn : FnScope ["made", "value"] ["made", "value"] (defScope s_is_turn) := ⟨rfl, rfl, rfl, by decide +kernel, rfl, by decide +kernel, by decide +kernel⟩
theorem has_is_turn (T : Top K mg "is_turn" s_is_turn ["made", "value"]) (hN : Has P w K mg base CX0 2 "are_numbers" ["value"] spNums) : Has P w K mg base CX0 3 "is_turn" ["made", "value"] spIsTurn := by
  refine T.ok sc_is_turn (fun vs H Q E h => ?_) (fun f cdv A outer s H vs Q E hr h => ?_)
  · obtain ⟨m, L, v, d, rfl, _⟩ := h
    rfl
  · obtain ⟨m, L, v, d, rfl, hw, hd, hl, q⟩ := h
    have hu := hu_of hr
    refine ⟨_, pss_one (ps_ret (pe_and (pe_has hN hr (by rfl) (pa_cons (pv 1) pa_nil)) (pe_one (pe_cmp (pc_dinR hu (pv 1) (pv 0)) (by rfl))))), ?_⟩
    refine ⟨_, rfl, v, d, rfl, hd, hl, fun H1 s1 => ⟨isNums d, rfl, ite2 (fun h => ?_) (fun h => ?_)⟩⟩
    · cases hd with
      | @tup a xs ds ha hx =>
        have h : ds.all isNum = true := h
        have ha1 := ha.sm s1
        rw [nums_vals hx h] at ha1
        have ha2 : RT H1 a ((keyI (ds.map numOf)).map kV) := by unfold keyI; rw [kV_ints]; exact ha1
        obtain ⟨kvs, hk, pk⟩ := hw.same s1
        refine ⟨_, rfl, _, rfl, m, kvs, _, a, rfl, rfl, .inl hk, ha2, ?_⟩
        rw [dw_isSomeK pk]
        have e : decide (ds.map numOf ∈ numL L) = isTurnD L (.tuple ds) := by
          unfold isTurnD
          rw [show isNums (.tuple ds) = true from h, Bool.true_and]
          rfl
        rw [e]
        exact q _ s1
      | non => cases h
      | bl => cases h
      | int => cases h
      | str => cases h
      | lst => cases h
    · have e : false = isTurnD L d := by
        unfold isTurnD
        have z : isNums d = false := by simpa using h
        rw [z]
        rfl
      show Q (.bl false) H1
      rw [e]
      exact q _ s1
def spAreTurns : Sp := fun vs H Q _ => ∃ (m : Addr) (L : List (List Nat × List Nat)) (v : V) (d : PyData), vs = [.ref m, v] ∧ DW H m L ∧ Rp H v d ∧ Sml d ∧ ∀ H', Same H H' → Q (.bl (areTurnsD L d)) H'
end
end Lt

set_option Elab.async false
set_option linter.all false
set_option maxRecDepth 100000
set_option maxHeartbeats 1000000
namespace Lt
open PySem PySem.Spec PyProof.Rows L2
section
variable {P : Program} {w : World} {K : PySem.W.Frag} {mg : Str → Option Value} {base : Heap} {CT : Addr}
def spCheckTurn (CT : Addr) : Sp := fun vs H Q E => ∃ (m : Addr) (L : List (List Nat × List Nat)) (v : V) (d : PyData), vs = [.ref m, v] ∧ DW H m L ∧ Rp H v d ∧ (∀ ds, d = .tuple ds → ds.length ≤ 1000) ∧ (isTurnD L d = true → ∀ H', Same H H' → Q .non H') ∧ (isTurnD L d = false → Bad0 CT H E)
theorem sc_check_turn : FnScope ["made", "turn"] ["made", "turn"] (defScope s_check_turn) := ⟨rfl, rfl, rfl, by decide +kernel, rfl, by decide +kernel, by decide +kernel⟩
theorem has_check_turn (T : Top K mg "check_turn" s_check_turn ["made", "turn"]) (X3 : Err0 K mg "BadTurn" CT) (hT : Has P w K mg base CX0 3 "is_turn" ["made", "value"] spIsTurn) : Has P w K mg base (L2.CX P w) 4 "check_turn" ["made", "turn"] (spCheckTurn CT) := by
  refine T.okX sc_check_turn (fun vs H Q E h => ?_) (fun f cdv A outer s H vs Q E hr h => ?_)
  · obtain ⟨m, L, v, d, rfl, _⟩ := h
    rfl
  · obtain ⟨m, L, v, d, rfl, hw, hd, hl, qg, qb⟩ := h
    refine ⟨_, pss_one (ps_if (pt_not (pt_val (pe_has hT hr (by rfl) (pa_cons (pv 0) (pa_cons (pv 1) pa_nil)))))
      (pss_one (ps_raise rfl (takes_of rfl rfl rfl rfl) (pmk_err0 X3 (by rfl)))) pss_nil), ?_⟩
    refine ⟨_, rfl, _, rfl, m, L, v, d, rfl, hw, hd, hl, fun H1 s1 => ⟨isTurnD L d, rfl, ?_⟩⟩
    cases hb : isTurnD L d with
    | true => exact iteF (qg hb _ s1)
    | false => exact iteT (qb hb _ s1)
end
end Lt

set_option Elab.async false
set_option linter.all false
set_option maxRecDepth 100000
set_option maxHeartbeats 1000000
/-! is_step, are_bits -/
namespace Lt
open PySem PySem.Spec PyProof.Rows L2
/-- an int from 0 to k less 1 -/
def ownD (k : Nat) : PyData → Bool
  | .int i => decide (0 ≤ i) && decide (i < (k : Int))
  | _ => false
def stepD (L : List (List Nat × List Nat)) (k : Nat) : PyData → Bool
  | .tuple [a, b, c] => ownD k a && isTurnD L b && isTurnD L c
  | _ => false
/-- no long tuple within -/
def Sml3 (d : PyData) : Prop := ∀ ds, d = .tuple ds → ds.length ≤ 1000 ∧ ∀ e ∈ ds, ∀ es, e = .tuple es → es.length ≤ 1000
def bitD (d : PyData) : Bool := isNum d && decide (numOf d = 0 ∨ numOf d = 1)
def bitsD : PyData → Bool
  | .tuple ds => ds.all bitD
  | _ => false
theorem stepD_len {L : List (List Nat × List Nat)} {k : Nat} {ds : List PyData} (h : ds.length ≠ 3) : stepD L k (.tuple ds) = false := by
  match ds with
  | [] => rfl
  | [_] => rfl
  | [_, _] => rfl
  | [_, _, _] => exact absurd rfl h
  | _ :: _ :: _ :: _ :: _ => rfl
theorem three {H : Hp} {xs : List V} {ds : List PyData} (h : RpAll H xs ds) (h3 : ds.length = 3) : ∃ x1 x2 x3 a1 a2 a3, xs = [x1, x2, x3] ∧ ds = [a1, a2, a3] ∧ Rp H x1 a1 ∧ Rp H x2 a2 ∧ Rp H x3 a3 := by
  match ds, xs, h, h3 with
  | [a1, a2, a3], [x1, x2, x3], .cons r1 (.cons r2 (.cons r3 .nil)), _ => exact ⟨x1, x2, x3, a1, a2, a3, rfl, rfl, r1, r2, r3⟩
theorem stepD_no {L : List (List Nat × List Nat)} {k : Nat} {d : PyData} (h : isTup d = false) : stepD L k d = false := by
  cases d with
  | tuple ds => cases h
  | _ => rfl
theorem stepD_3 {L : List (List Nat × List Nat)} {k : Nat} {a b c : PyData} : stepD L k (.tuple [a, b, c]) = (ownD k a && isTurnD L b && isTurnD L c) := rfl
section
variable {P : Program} {w : World} {K : PySem.W.Frag} {mg : Str → Option Value} {base : Heap}
def spIsStep : Sp := fun vs H Q _ => ∃ (m : Addr) (L : List (List Nat × List Nat)) (k : Nat) (v : V) (d : PyData), vs = [.ref m, nI k, v] ∧ DW H m L ∧ Rp H v d ∧ Sml3 d ∧ ∀ H', Same H H' → Q (.bl (stepD L k d)) H'
theorem sc_is_step : FnScope ["made", "inputs", "value", "own", "no", "yes"] ["made", "inputs", "value"] (defScope s_is_step) := ⟨rfl, rfl, rfl, by decide +kernel, rfl, by decide +kernel, by decide +kernel⟩
theorem has_is_step (T : Top K mg "is_step" s_is_step ["made", "inputs", "value"]) (B : Bi mg) (hN : Has P w K mg base CX0 1 "is_number" ["value"] spNum) (hT : Has P w K mg base CX0 3 "is_turn" ["made", "value"] spIsTurn) : Has P w K mg base CX0 4 "is_step" ["made", "inputs", "value"] spIsStep := by
  refine T.ok sc_is_step (fun vs H Q E h => ?_) (fun f cdv A outer s H vs Q E hr h => ?_)
  · obtain ⟨m, L, k, v, d, rfl, _⟩ := h
    rfl
  · obtain ⟨m, L, k, v, d, rfl, hw, hd, hs, q⟩ := h
    have hr1 : Room 1 _ := hr.mono (by decide)
    refine ⟨_, pss_cons (ps_if (PW.pt (pw_or (pt_not (pt_val (pe_callB call_isi (by rfl) B.isinstance PyProof.Rows.boot_isinstance (pa_cons (pv 2) (pa_cons (pe_bltn (by rfl) B.tuple PyProof.Rows.boot_tuple (rr_ty "tuple")) pa_nil)))))
        (pw_or1 (pt_cmpR op_ne (pe_callB call_len_seq (by rfl) B.len PySem.boot_len (pa_cons (pv 2) pa_nil)) pe_int (nomark _))))) (pss_one (ps_ret pe_bl)) pss_nil)
      (pss_cons (ps_asg (pv 2) (pg_tup rfl (pgs_cons (pg_name (i := 3) sc_is_step.nd rfl (Or.inl rfl)) (pgs_cons (pg_name (i := 4) sc_is_step.nd rfl (Or.inl rfl)) (pgs_cons (pg_name (i := 5) sc_is_step.nd rfl (Or.inl rfl)) pgs_nil)))))
      (pss_one (ps_ret (pe_and (pe_has hN hr1 (by rfl) (pa_cons (pv 3) pa_nil)) (pe_and (pe_chain op_le op_lt pe_int (pv 3) (pv 1)) (pe_and (pe_has hT hr (by rfl) (pa_cons (pv 0) (pa_cons (pv 4) pa_nil))) (pe_one (pe_has hT hr (by rfl) (pa_cons (pv 0) (pa_cons (pv 5) pa_nil)))))))))), ?_⟩
    refine ⟨_, rfl, v, .ty "tuple", _, _, isTup d, rfl, .ty _, rp_ty hd, kit_ty (kit_tup d), isTup d, rfl, ?_⟩
    cases hd with
    | @tup a xs ds ha hx =>
      have hxl := hx.len
      obtain ⟨hs1, hs2⟩ := hs ds rfl
      refine iteF ⟨_, rfl, a, xs, rfl, .inr ha.sq, rfl, ?_⟩
      by_cases h3 : ds.length = 3
      · refine ⟨false, congrArg (fun b => V.bl (!b)) (decide_eq_true (by rw [hxl, h3]; rfl)), iteF ?_⟩
        obtain ⟨x1, x2, x3, a1, a2, a3, rfl, rfl, r1, r2, r3⟩ := three hx h3
        rw [stepD_3] at q
        · refine ⟨_, rfl, a, _, rfl, ha.sq, rfl, x1, _, rfl, x2, _, rfl, x3, _, rfl, rfl, ?_⟩
          have h2 := hs2 a2 (by simp)
          have h5 := hs2 a3 (by simp)
          refine ⟨_, rfl, x1, a1, rfl, r1, isNum a1, rfl, ?_⟩
          cases e1 : isNum a1 with
          | false =>
            refine iteF ?_
            have e : ownD k a1 = false := by cases a1 <;> first | rfl | cases e1
            rw [e] at q
            exact q _ (Same.refl _)
          | true =>
            refine iteT ?_
            cases r1 with
            | int i =>
              have eo : ∀ H' : Hp, Same H H' → Q (.bl (ownD k (.int i) && isTurnD L a2 && isTurnD L a3)) H' := q
              have eo' : ownD k (.int i) = (decide ((0 : Int) ≤ i) && decide (i < (k : Int))) := rfl
              rw [eo'] at eo
              refine ⟨_, rfl, 0, i, rfl, rfl, decide ((0 : Int) ≤ i), rfl, ?_⟩
              cases e0 : decide ((0 : Int) ≤ i) with
              | false =>
                rw [e0] at eo
                exact iteF ⟨false, rfl, iteF (eo _ (Same.refl _))⟩
              | true =>
                rw [e0] at eo
                refine iteT ⟨_, rfl, i, (k : Int), rfl, rfl, decide (i < (k : Int)), rfl, ?_⟩
                cases e2 : decide (i < (k : Int)) with
                | false =>
                  rw [e2] at eo
                  exact iteF (eo _ (Same.refl _))
                | true =>
                  rw [e2] at eo
                  refine iteT ⟨_, rfl, _, rfl, m, L, x2, a2, rfl, hw, r2, h2, fun H1 s1 => ⟨isTurnD L a2, rfl, ?_⟩⟩
                  cases e4 : isTurnD L a2 with
                  | false =>
                    rw [e4] at eo
                    exact iteF (eo _ s1)
                  | true =>
                    rw [e4] at eo
                    exact iteT ⟨_, rfl, _, rfl, m, L, x3, a3, rfl, hw.same s1, Rp.same s1 _ _ r3, h5, fun H2 s2 => eo _ (s1.trans s2)⟩
            | non => cases e1
            | bl => cases e1
            | str => cases e1
            | lst => cases e1
            | tup => cases e1
      · have h4 : ¬ V.int (xs.length : Int) = V.int 3 := fun z => by
          injection z with z
          omega
        refine ⟨true, congrArg (fun b => V.bl (!b)) (decide_eq_false h4), iteT ?_⟩
        rw [stepD_len h3] at q
        exact q _ (Same.refl _)
    | non =>
      rw [stepD_no rfl] at q
      exact iteT (q _ (Same.refl _))
    | bl =>
      rw [stepD_no rfl] at q
      exact iteT (q _ (Same.refl _))
    | int =>
      rw [stepD_no rfl] at q
      exact iteT (q _ (Same.refl _))
    | str =>
      rw [stepD_no rfl] at q
      exact iteT (q _ (Same.refl _))
    | lst =>
      rw [stepD_no rfl] at q
      exact iteT (q _ (Same.refl _))
/-! ### are_bits -/
def spAreBits : Sp := fun vs H Q _ => ∃ (v : V) (d : PyData), vs = [v] ∧ Rp H v d ∧ (∀ ds, d = .tuple ds → ds.length ≤ 1000) ∧ ∀ H', Same H H' → Q (.bl (bitsD d)) H'
theorem num_V {H : Hp} {v : V} {d : PyData} (h : Rp H v d) (hn : isNum d = true) : v = .int (numOf d) := by
  cases h <;> first | rfl | cases hn
theorem bitsD_nums {d : PyData} (h : isNums d = false) : bitsD d = false := by
  cases d with
  | tuple ds =>
    have h : ds.all isNum = false := h
    show ds.all bitD = false
    rw [List.all_eq_false] at h ⊢
    obtain ⟨x, hx, hn⟩ := h
    refine ⟨x, hx, fun z => hn ?_⟩
    unfold bitD at z
    rw [Bool.and_eq_true] at z
    exact z.1
  | _ => rfl
theorem nums_tup {d : PyData} (h : isNums d = true) : ∃ ds, d = .tuple ds ∧ ds.all isNum = true := by
  cases d with
  | tuple ds => exact ⟨ds, rfl, h⟩
  | _ => cases h
theorem in01 (i : Int) : inV (.int i) [.int 0, .int 1] = decide (i = 0 ∨ i = 1) := by
  show (((0 : Int) == i) || (((1 : Int) == i) || false)) = _
  rw [Bool.or_false, Bool.decide_or]
  congr 1
  · by_cases h : i = 0
    · subst h; rfl
    · rw [decide_eq_false h]; exact beq_eq_false_iff_ne.mpr (fun e => h e.symm)
  · by_cases h : i = 1
    · subst h; rfl
    · rw [decide_eq_false h]; exact beq_eq_false_iff_ne.mpr (fun e => h e.symm)
theorem sc_are_bits : FnScope ["value", "bit"] ["value"] (defScope s_are_bits) := ⟨rfl, rfl, rfl, by decide +kernel, rfl, by decide +kernel, by decide +kernel⟩
theorem has_are_bits (T : Top K mg "are_bits" s_are_bits ["value"]) (B : Bi mg) (hN : Has P w K mg base CX0 2 "are_numbers" ["value"] spNums) : Has P w K mg base CX0 3 "are_bits" ["value"] spAreBits := by
  refine T.ok sc_are_bits (fun vs H Q E h => ?_) (fun f cdv A outer s H vs Q E hr h => ?_)
  · obtain ⟨v, d, rfl, _⟩ := h
    rfl
  · obtain ⟨v, d, rfl, hd, hl, q⟩ := h
    refine ⟨_, pss_one (ps_ret (pe_and (pe_has hN hr (by rfl) (pa_cons (pv 0) pa_nil))
      (pe_one (pe_callB (cr_all (by rfl)) (by rfl) B.all PyProof.Rows.boot_all (pa_cons (pe_lc (own := [("bit", 1)]) (g := gName 1) (te := tOp (rIn K false) (tVar 1) (tTup (tCons (tC (.int 0)) (tCons (tC (.int 1)) tNil)))) (by rfl) sc_are_bits.nd (pi_tup (pv 0)) (blkOk_by (own := [("bit", 1)]) (N := ["value", "bit"]) (sc := defScope s_are_bits) (by decide +kernel))
        (fun _ _ _ _ _ => pg_name (i := 1) sc_are_bits.nd rfl (Or.inl rfl)) (fun _ _ _ _ _ => pts_nil) (fun _ _ _ _ _ => pe_cmpR op_in_seq (pv 1) (pe_tup (pa_cons pe_int (pa_cons pe_int pa_nil))) (by rfl))) pa_nil))))), ?_⟩
    refine ⟨_, rfl, v, d, rfl, hd, hl, fun H1 s1 => ⟨isNums d, rfl, ?_⟩⟩
    cases e1 : isNums d with
    | false =>
      rw [bitsD_nums e1] at q
      exact iteF (q _ s1)
    | true =>
      obtain ⟨ds, rfl, hall⟩ := nums_tup e1
      refine iteT ?_
      cases hd with
      | @tup a xs ds ha hx =>
        have hlen := hl ds rfl
        have hxl := hx.len
        have ha1 := ha.sm s1
        refine ⟨_, rfl, a, rfl, ⟨_, ha1.sq⟩, fun D hD => lc_tupM (fun _ v b => v = V.bl b) (ds.map bitD) (fun _ _ _ _ _ r => r) (ha1.sq) (fun H' sm => (ha1.sm sm).sq) (by omega) (by rw [List.length_map, hxl]) hD (fun x => rfl) (fun i v n hi hn H' sm Q' q' => ?_) (fun H' zs sm hz pr => ?_)⟩
        · obtain ⟨d, e1, e2⟩ := hx.get hi
          rw [List.getElem?_map, e1] at hn
          have hn : bitD d = n := Option.some.inj hn
          have hd := List.all_eq_true.mp hall d (List.mem_of_getElem? e1)
          have hv := num_V e2 hd
          subst hv
          refine ⟨_, rfl, by show 2 ≤ sizeLine; decide, fun p hp => ⟨p, _, rfl, .inr (SqT.of upd_same), rfl, rfl, q' _ _ (same_new hp) ?_⟩⟩
          rw [← hn]
          unfold bitD
          rw [hd, Bool.true_and]
          exact congrArg V.bl (in01 _)
        · refine ⟨D, ds.map bitD, rfl, SqL.of (by rw [hz, bls_of pr]), ?_⟩
          have e : (ds.map bitD).all id = bitsD (.tuple ds) := by rw [List.all_map]; rfl
          rw [e]
          exact q _ (s1.trans sm)
end
end Lt

set_option Elab.async false
set_option linter.all false
set_option maxRecDepth 100000
set_option maxHeartbeats 1000000
/-! class Dial -/
namespace Lt
open PySem PySem.Spec PyProof.Rows L2
def dF (m l : Addr) : List (Str × V) := [("_made", .ref m), ("_stood", .ref l)]
theorem dF_made (m l : Addr) : (dF m l).lookup ("_made" : Str) = some (.ref m) := rfl
theorem dF_stood (m l : Addr) : (dF m l).lookup ("_stood" : Str) = some (.ref l) := rfl
/-- a dial at p of the class at C: m its turns, l what it stood at -/
structure DialAt (H : Hp) (C p m l : Addr) (ls : List (List Nat)) (n : Nat) (past : List (List Nat)) : Prop where
  ins : ∃ dx, H p = some (.ins C dx (dF m l))
  made : DW H m (LL ls n)
  stood : ∃ xs, H l = some (.lst xs) ∧ Paired (TN H) xs past
  ok : ∀ t ∈ past, IsP n t
  ne : past ≠ []
theorem DialAt.same {H H' : Hp} {C p m l : Addr} {ls : List (List Nat)} {n : Nat} {past : List (List Nat)} (h : DialAt H C p m l ls n past) (s : Same H H') : DialAt H' C p m l ls n past :=
  ⟨let ⟨dx, e⟩ := h.ins; ⟨dx, s _ _ e⟩, h.made.same s, let ⟨xs, e, q⟩ := h.stood; ⟨xs, s _ _ e, TNs.tm (.of s) q⟩, h.ok, h.ne⟩
/-- its list has changed -/
theorem DialAt.put {H : Hp} {C p m l : Addr} {ls : List (List Nat)} {n : Nat} {past past' : List (List Nat)} {xs : List V} (h : DialAt H C p m l ls n past) (hx : Paired (TN H) xs past') (ok : ∀ t ∈ past', IsP n t) (ne : past' ≠ []) : DialAt (upd H l (.lst xs)) C p m l ls n past' := by
  obtain ⟨⟨dx, e⟩, hm, ⟨ys, hl, _⟩, _, _⟩ := h
  have tm : Tm H (upd H l (.lst xs)) := Tm.lst hl
  refine ⟨⟨dx, (upd_ne (ne_of e hl (fun z => nomatch z))).trans e⟩, ?_, ⟨xs, upd_same, TNs.tm tm hx⟩, ok, ne⟩
  obtain ⟨kvs, h1, h2⟩ := id hm
  exact hm.tm tm (upd_ne (ne_of h1 hl (fun z => nomatch z)))
theorem last_app {α : Type} {xs : List α} (h : xs ≠ []) : ∃ ys y, xs = ys ++ [y] := ⟨xs.dropLast, xs.getLast h, (List.dropLast_concat_getLast h).symm⟩
theorem paired_end {α β : Type} {F : α → β → Prop} : ∀ {xs : List α} {ys : List β} {y : β}, Paired F xs (ys ++ [y]) → ∃ xs' x, xs = xs' ++ [x] ∧ Paired F xs' ys ∧ F x y
  | _, [], _, .cons r .nil => ⟨[], _, rfl, .nil, r⟩
  | _, _ :: _, _, .cons r t => by
    obtain ⟨xs', x, rfl, p, q⟩ := paired_end t
    exact ⟨_ :: xs', x, rfl, .cons r p, q⟩
abbrev mDial (i : Nat) : Stmt := inClass s_Dial i
section
variable (P : Program) (w : World) (K : PySem.W.Frag) (mg : Str → Option Value) (base : Heap)
/-- the method m of the class at C keeps the promise sp -/
def HasM (CX : CXT) (k : Nat) (C : Addr) (m : Str) (ps : List Str) (sp : Sp) : Prop :=
  ∃ (f : Addr) (fd : FuncData), Meth K C m f ∧ Binds K fd ps [] ∧ FnOk P w K mg base CX k f fd ps sp
/-- a property of it -/
def HasP (CX : CXT) (k : Nat) (C : Addr) (m : Str) (sp : Sp) : Prop :=
  ∃ (p f : Addr) (fd : FuncData), PropOf K C m p f ∧ Binds K fd ["self"] [] ∧ FnOk P w K mg base CX k f fd ["self"] sp
/-- its __init__ -/
def HasI (CX : CXT) (k : Nat) (C : Addr) (x : Str) (ps : List Str) (sp : Sp) : Prop :=
  ∃ (f : Addr) (fd : FuncData), mg x = some (.ref C) ∧ L2.Mk K C f ∧ Binds K fd ps [] ∧ FnOk P w K mg base CX k f fd ps sp
structure MethF (C : Addr) (m q : Str) (st : Stmt) (ps : List Str) : Prop where
  f : ∃ (f : Addr) (fd : FuncData), Meth K C m f ∧ Binds K fd ps [] ∧ Fun K m q st f fd
structure PropF (C : Addr) (m q : Str) (st : Stmt) : Prop where
  f : ∃ (p f : Addr) (fd : FuncData), PropOf K C m p f ∧ Binds K fd ["self"] [] ∧ Fun K m q st f fd
structure InitF (C : Addr) (x : Str) (st : Stmt) (ps : List Str) : Prop where
  f : ∃ (f : Addr) (fd : FuncData), mg x = some (.ref C) ∧ L2.Mk K C f ∧ Binds K fd ps [] ∧ Fun K "__init__" (x ++ ".__init__") st f fd
end
section
variable {P : Program} {w : World} {K : PySem.W.Frag} {mg : Str → Option Value} {base : Heap}
theorem MethF.ok {C : Addr} {m q : Str} {st : Stmt} {N ps : List Str} {k : Nat} {sp : Sp} (T : MethF K C m q st ps) (S : FnScope N ps (defScope st)) (len : ∀ vs H Q E, sp vs H Q E → vs.length = ps.length)
    (hbody : ∀ (f : Addr) (cdv : Value) (A : Around) (outer : List Env) (s : Shared) (H : Hp) (vs : List V) (Q : VK) (E : XK), Room k (A.deeper (envOfC q (defScope st) s.heap.objs.size f cdv)) → sp vs H Q E →
      ∃ t, PSs (cxOf CX0 P w K mg base N q (defScope st) f cdv A outer s H E).nox (defBody st) t ∧ t { nx := fun _ H' => Q .non H', rt := Q } (start N vs) H) : HasM P w K mg base CX0 (k + 1) C m ps sp := by
  obtain ⟨f, fd, hm, b, F⟩ := T.f
  exact ⟨f, fd, hm, b, F.ok S len fun cdv A outer s H vs Q E hr h => hbody f cdv A outer s H vs Q E hr h⟩
theorem MethF.okX {C : Addr} {m q : Str} {st : Stmt} {N ps : List Str} {k : Nat} {sp : Sp} (T : MethF K C m q st ps) (S : FnScope N ps (defScope st)) (len : ∀ vs H Q E, sp vs H Q E → vs.length = ps.length)
    (hbody : ∀ (f : Addr) (cdv : Value) (A : Around) (outer : List Env) (s : Shared) (H : Hp) (vs : List V) (Q : VK) (E : XK), Room k (A.deeper (envOfC q (defScope st) s.heap.objs.size f cdv)) → sp vs H Q E →
      ∃ t, PSs (cxOf (L2.CX P w) P w K mg base N q (defScope st) f cdv A outer s H E) (defBody st) t ∧ t { nx := fun _ H' => Q .non H', rt := Q } (start N vs) H) : HasM P w K mg base (L2.CX P w) (k + 1) C m ps sp := by
  obtain ⟨f, fd, hm, b, F⟩ := T.f
  exact ⟨f, fd, hm, b, F.okX S len fun cdv A outer s H vs Q E hr h => hbody f cdv A outer s H vs Q E hr h⟩
theorem PropF.ok {C : Addr} {m q : Str} {st : Stmt} {N : List Str} {k : Nat} {sp : Sp} (T : PropF K C m q st) (S : FnScope N ["self"] (defScope st)) (len : ∀ vs H Q E, sp vs H Q E → vs.length = 1)
    (hbody : ∀ (f : Addr) (cdv : Value) (A : Around) (outer : List Env) (s : Shared) (H : Hp) (vs : List V) (Q : VK) (E : XK), Room k (A.deeper (envOfC q (defScope st) s.heap.objs.size f cdv)) → sp vs H Q E →
      ∃ t, PSs (cxOf CX0 P w K mg base N q (defScope st) f cdv A outer s H E).nox (defBody st) t ∧ t { nx := fun _ H' => Q .non H', rt := Q } (start N vs) H) : HasP P w K mg base CX0 (k + 1) C m sp := by
  obtain ⟨p, f, fd, hm, b, F⟩ := T.f
  exact ⟨p, f, fd, hm, b, F.ok S len fun cdv A outer s H vs Q E hr h => hbody f cdv A outer s H vs Q E hr h⟩
theorem InitF.okX {C : Addr} {x : Str} {st : Stmt} {N ps : List Str} {k : Nat} {sp : Sp} (T : InitF K mg C x st ps) (S : FnScope N ps (defScope st)) (len : ∀ vs H Q E, sp vs H Q E → vs.length = ps.length)
    (hbody : ∀ (f : Addr) (cdv : Value) (A : Around) (outer : List Env) (s : Shared) (H : Hp) (vs : List V) (Q : VK) (E : XK), Room k (A.deeper (envOfC (x ++ ".__init__") (defScope st) s.heap.objs.size f cdv)) → sp vs H Q E →
      ∃ t, PSs (cxOf (L2.CX P w) P w K mg base N (x ++ ".__init__") (defScope st) f cdv A outer s H E) (defBody st) t ∧ t { nx := fun _ H' => Q .non H', rt := Q } (start N vs) H) : HasI P w K mg base (L2.CX P w) (k + 1) C x ps sp := by
  obtain ⟨f, fd, hg, hm, b, F⟩ := T.f
  exact ⟨f, fd, hg, hm, b, F.okX S len fun cdv A outer s H vs Q E hr h => hbody f cdv A outer s H vs Q E hr h⟩
end
section
variable {X : Cx} {CX : CXT}
/-- calls of these, with what they raise -/
theorem pe_hasM {k : Nat} {C : Addr} {m : Str} {ps : List Str} {sp : Sp} {o e : Expr} {es : List Expr} {ta : TE} {t : TA} {ap pos : Pos} {E : XK} {pl : Sem Bool} (h : HasM X.prog X.w X.K X.mg X.base CX k C m ps sp) (c : Cls X.K C) (hr : Room k X.A) (hx : Passes CX X E) (ho : PE X o ta) (ha : PA X (e :: es) t)
    (he : starEach (e :: es) X.env = (false, eval e X.env) :: starEach es X.env := by rfl) (hpl : (backTo pos (starEach es X.env)).any (·.1) = false := by rfl)
    (ht : eval (.Call (.Attribute o m ap) (e :: es) [] pos) X.env = (do let ov ← eval o X.env; standAt ap.atName; let (f, first) ← holding [ov] (getMethod ov m pl); callWith pos f first (backTo pos (starEach (e :: es) X.env)) (backToKw pos (keywordEach [] X.env))) := by rfl) :
    PE X (.Call (.Attribute o m ap) (e :: es) [] pos) (tMeth C m sp [] E ta t) := by
  obtain ⟨f, fd, hm, hb, F⟩ := h
  exact pe_meth ho c hm F hr hb .nil hx ha he hpl ht
theorem pe_hasM0 {k : Nat} {C : Addr} {m : Str} {ps : List Str} {sp : Sp} {o : Expr} {ta : TE} {ap pos : Pos} {E : XK} {pl : Sem Bool} (h : HasM X.prog X.w X.K X.mg X.base CX k C m ps sp) (c : Cls X.K C) (hr : Room k X.A) (hx : Passes CX X E) (ho : PE X o ta)
    (ht : eval (.Call (.Attribute o m ap) [] [] pos) X.env = (do let ov ← eval o X.env; standAt ap.atName; let (f, first) ← holding [ov] (getMethod ov m pl); callWith pos f first (backTo pos (starEach [] X.env)) (backToKw pos (keywordEach [] X.env))) := by rfl) :
    PE X (.Call (.Attribute o m ap) [] [] pos) (tMeth C m sp [] E ta tNil) := by
  obtain ⟨f, fd, hm, hb, F⟩ := h
  exact pe_meth0 ho c hm F hr hb .nil hx ht
theorem pe_hasP {k : Nat} {C : Addr} {m : Str} {sp : Sp} {o : Expr} {ta : TE} {pos : Pos} {E : XK} (h : HasP X.prog X.w X.K X.mg X.base CX k C m sp) (c : Cls X.K C) (hr : Room (k + 1) X.A) (hx : Passes CX X.nox E) (ho : PE X o ta)
    (hab : attributeBase o m X.env (eval o X.env) = eval o X.env := by rfl) : PE X (.Attribute o m pos) (tProp C sp [] E ta) := by
  obtain ⟨p, f, fd, hm, hb, F⟩ := h
  exact pe_prop ho c hm F hr hb .nil hx hab
theorem pe_hasI {k : Nat} {C : Addr} {x : Str} {ps : List Str} {sp : Sp} {e : Expr} {es : List Expr} {t : TA} {p pos : Pos} {E : XK} (h : HasI X.prog X.w X.K X.mg X.base CX k C x ps sp) (hr : Room (k + 1) X.A) (hg : Gl X x) (hx : Passes CX X E) (ha : PA X (e :: es) t)
    (hdb : (x == ("__debug__" : Str)) = false := by decide) (he : starEach (e :: es) X.env = (false, eval e X.env) :: starEach es X.env := by rfl) (hpl : (backTo pos (starEach es X.env)).any (·.1) = false := by rfl) : PE X (.Call (.Name x p) (e :: es) [] pos) (tMake C sp [] E t) := by
  obtain ⟨f, fd, hm, hk, hb, F⟩ := h
  exact pe_make hk F hr hg hm hb .nil hx ha hdb he hpl
end
end Lt

set_option Elab.async false
set_option linter.all false
set_option maxRecDepth 100000
set_option maxHeartbeats 1000000
namespace Lt
open PySem PySem.Spec PyProof.Rows L2
/-! ### the row of draws -/
/-- all but the object at r is as it was -/
def StepR (r : Addr) (H H' : Hp) : Prop := ∀ a o, a ≠ r → H a = some o → H' a = some o
theorem StepR.refl (r : Addr) (H : Hp) : StepR r H H := fun _ _ _ h => h
theorem StepR.trans {r : Addr} {H H1 H2 : Hp} (a : StepR r H H1) (b : StepR r H1 H2) : StepR r H H2 := fun c o hc h => b c o hc (a c o hc h)
theorem StepR.of {r : Addr} {H H' : Hp} (e : Same H H') : StepR r H H' := fun a o _ h => e a o h
theorem StepR.put (r : Addr) (H : Hp) (o : HO) : StepR r H (upd H r o) := fun a u h e => by rw [upd_ne h]; exact e
structure Row4 (K : PySem.W.Frag) (H : Hp) (r sc : Addr) (ns : List Int) (a b c : Int) : Prop where
  at_ : H r = some (.lst [.ref sc, .int a, .int b, .int c])
  sc : SqL K H sc (ns.map V.int)
  a0 : 0 ≤ a
  b0 : 0 ≤ b
  b1 : b < 2147483647
def RowAt (K : PySem.W.Frag) (H : Hp) (r sc : Addr) (ns : List Int) : Prop := ∃ a b c, Row4 K H r sc ns a b c
theorem StepR.tm {K : PySem.W.Frag} {r sc : Addr} {ns : List Int} {H H' : Hp} (s : StepR r H H') (h : RowAt K H r sc ns) : Tm H H' := by
  obtain ⟨x, b, c, R⟩ := h
  exact ⟨fun a xs e => s a _ (ne_of e R.at_ (fun z => nomatch z)) e, fun a o xs e => s a _ (ne_of e R.at_ (fun z => nomatch z)) e⟩
theorem sq_upd {K : PySem.W.Frag} {H : Hp} {r sc x : Addr} {o : HO} {ns : List Int} {ys : List V} (hr : H r = some (.lst (.ref x :: ys))) (h : SqL K H sc (ns.map V.int)) : SqL K (upd H r o) sc (ns.map V.int) := by
  have key : ∀ u, H sc = some u → u = .lst (ns.map V.int) ∨ (∃ ob, u = .frz ob (.lst (ns.map V.int))) → upd H r o sc = some u := fun u hu hc => by
    refine (upd_ne (ne_of hu hr fun z => ?_)).trans hu
    rcases hc with e | ⟨ob, e⟩
    · rw [e] at z
      injection z with z
      cases ns with
      | nil => cases z
      | cons n ns => cases z
    · rw [e] at z
      cases z
  rcases h with (h | ⟨ob, h⟩) | h
  · exact .inl (.inl (key _ h (.inl rfl)))
  · exact .inl (.inr ⟨ob, key _ h (.inr ⟨ob, rfl⟩)⟩)
  · exact .inr h
theorem Row4.put {K : PySem.W.Frag} {H : Hp} {r sc : Addr} {ns : List Int} {a b c a' b' c' : Int} (h : Row4 K H r sc ns a b c) (h1 : 0 ≤ a') (h2 : 0 ≤ b') (h3 : b' < 2147483647) : Row4 K (upd H r (.lst [.ref sc, .int a', .int b', .int c'])) r sc ns a' b' c' :=
  ⟨upd_same, sq_upd h.at_ h.sc, h1, h2, h3⟩
theorem RowAt.step {K : PySem.W.Frag} {H H' : Hp} {r sc : Addr} {ns : List Int} (h : RowAt K H r sc ns) (s : Same H H') : RowAt K H' r sc ns := by
  obtain ⟨a, b, c, R⟩ := h
  exact ⟨a, b, c, s _ _ R.at_, Same.seq s R.sc, R.a0, R.b0, R.b1⟩
theorem RowAt.sq {K : PySem.W.Frag} {H : Hp} {r sc : Addr} {ns : List Int} (h : RowAt K H r sc ns) : SqL K H sc (ns.map V.int) := let ⟨_, _, _, R⟩ := h; R.sc
theorem RowAt.ne {K : PySem.W.Frag} {H : Hp} {r sc l : Addr} {ns : List Int} (h : RowAt K H r sc ns) (hl : H l = none) : r ≠ l := let ⟨_, _, _, R⟩ := h; ne_of_none R.at_ hl
/-- an object that was not there at H0, where the row stood, may change -/
theorem RowAt.mut {K : PySem.W.Frag} {H0 H : Hp} {r sc l : Addr} {o : HO} {ns : List Int} (h0 : RowAt K H0 r sc ns) (hl : H0 l = none) (h : RowAt K H r sc ns) : RowAt K (upd H l o) r sc ns := by
  have hr := h0.ne hl
  have s0 := h0.sq
  obtain ⟨a, b, c, R⟩ := h
  refine ⟨a, b, c, (upd_ne hr).trans R.at_, ?_, R.a0, R.b0, R.b1⟩
  rcases s0 with (s0 | ⟨ob, s0⟩) | s0
  · have hne : sc ≠ l := ne_of_none s0 hl
    rcases R.sc with (z | ⟨ob, z⟩) | z
    · exact .inl (.inl ((upd_ne hne).trans z))
    · exact .inl (.inr ⟨ob, (upd_ne hne).trans z⟩)
    · exact .inr z
  · have hne : sc ≠ l := ne_of_none s0 hl
    rcases R.sc with (z | ⟨ob, z⟩) | z
    · exact .inl (.inl ((upd_ne hne).trans z))
    · exact .inl (.inr ⟨ob, (upd_ne hne).trans z⟩)
    · exact .inr z
  · exact .inr s0
theorem StepR.mut {r l : Addr} {H0 H : Hp} {o : HO} (s : StepR r H0 H) (hl : H0 l = none) : StepR r H0 (upd H l o) := fun a u ha e => by
  rw [upd_ne (ne_of_none e hl)]
  exact s a u ha e
theorem StepR.free {r l : Addr} {H0 H : Hp} (s : StepR r H0 H) (hr : r ≠ l) (hl : H l = none) : H0 l = none := by
  cases e : H0 l with
  | none => rfl
  | some o =>
    rw [s l o (Ne.symm hr) e] at hl
    cases hl
section
variable {P : Program} {w : World} {K : PySem.W.Frag} {mg : Str → Option Value} {base : Heap}
def spTaken (K : PySem.W.Frag) : Sp := fun vs H Q _ => ∃ (r sc : Addr) (ns : List Int) (m : Nat), vs = [.ref r, nI m] ∧ RowAt K H r sc ns ∧ 1 ≤ m ∧ m ≤ 1000 ∧ ∀ x H', x < m → StepR r H H' → RowAt K H' r sc ns → Q (nI x) H'
theorem sc_law_taken : FnScope ["row", "many", "found", "cell"] ["row", "many"] (defScope s_law_taken) := ⟨rfl, rfl, rfl, by decide +kernel, rfl, by decide +kernel, by decide +kernel⟩
theorem fmod_nat {i : Int} {m : Nat} (h : 1 ≤ m) : ∃ x : Nat, x < m ∧ Int.fmod i (m : Int) = (x : Int) := by
  have h0 : (0 : Int) < (m : Int) := by omega
  rw [Int.fmod_eq_emod_of_nonneg i (Int.le_of_lt h0)]
  have h1 := Int.emod_nonneg i (show (m : Int) ≠ 0 by omega)
  have h2 := Int.emod_lt_of_pos i h0
  exact ⟨(i % m).toNat, by omega, by omega⟩
theorem has_law_taken (T : Top K mg "_law_taken" s_law_taken ["row", "many"]) (B : Bi mg) : Has P w K mg base CX0 1 "_law_taken" ["row", "many"] (spTaken K) := by
  refine T.ok sc_law_taken (fun vs H Q E h => ?_) (fun f cdv A outer s H vs Q E hr h => ?_)
  · obtain ⟨r, sc, ns, m, rfl, _⟩ := h
    rfl
  · obtain ⟨r, sc, ns, m, rfl, ⟨a, b, c, R⟩, hm1, hm2, q⟩ := h
    refine ⟨_, pss_cons (ps_if (pt_cmpR op_gt (pe_ix ix_list (pv 0) pe_int (fun _ _ => rfl)) pe_int (nomark _))
        (pss_cons (ps_set (i := 2) sc_law_taken.nd rfl (Or.inl rfl) (pe_op op_modN (pe_callTy call_int1 (by rfl) B.int PyProof.Rows.boot_int (pa_cons (pe_ix ix_list (pv 0) pe_int (fun _ _ => rfl)) pa_nil)) (pv 1)))
        (pss_cons (ps_asg (pe_op op_fdivN (pe_ix ix_list (pv 0) pe_int (fun _ _ => rfl)) (pv 1)) (pg_sub (pv 0) pe_int set_list))
        (pss_one (ps_ret (pv 2))))) pss_nil)
      (pss_cons (ps_asg (pe_op op_add (pe_ix ix_list (pv 0) pe_int (fun _ _ => rfl)) pe_int) (pg_sub (pv 0) pe_int set_list))
      (pss_cons (ps_if (pt_cmpR op_gt (pe_ix ix_list (pv 0) pe_int (fun _ _ => rfl)) (pe_callB call_len_seq (by rfl) B.len PySem.boot_len (pa_cons (pe_ix ix_list (pv 0) pe_int (fun _ _ => rfl)) pa_nil)) (nomark _))
        (pss_cons (ps_asg (pe_op op_modN (pe_callTy call_int1 (by rfl) B.int PyProof.Rows.boot_int (pa_cons (pe_op op_add (pe_op op_mul (pe_ix ix_list (pv 0) pe_int (fun _ _ => rfl)) pe_int) pe_int) pa_nil)) pe_int) (pg_sub (pv 0) pe_int set_list))
        (pss_one (ps_ret (pe_op op_modN (pe_callTy call_int1 (by rfl) B.int PyProof.Rows.boot_int (pa_cons (pe_op op_fdivN (pe_ix ix_list (pv 0) pe_int (fun _ _ => rfl)) pe_int) pa_nil)) (pv 1))))) pss_nil)
      (pss_cons (ps_set (i := 3) sc_law_taken.nd rfl (Or.inl rfl) (pe_ix ix_list (pe_ix ix_list (pv 0) pe_int (fun _ _ => rfl)) (pe_op op_sub (pe_ix ix_list (pv 0) pe_int (fun _ _ => rfl)) pe_int) (fun _ _ => rfl)))
      (pss_cons (ps_asg (pe_op op_modN (pe_callTy call_int1 (by rfl) B.int PyProof.Rows.boot_int (pa_cons (pe_op op_add (pe_op op_add (pe_op op_mul (pe_ix ix_list (pv 0) pe_int (fun _ _ => rfl)) pe_int) (pv 3)) pe_int) pa_nil)) pe_int) (pg_sub (pv 0) pe_int set_list))
      (pss_cons (ps_if (pt_cmpR op_ge (pv 3) (pe_op op_pow pe_int pe_int) (nomark _))
        (pss_one (ps_asg (pe_op op_fdivN (pv 3) (pv 1)) (pg_sub (pv 0) pe_int set_list))) pss_nil)
      (pss_one (ps_ret (pe_op op_modN (pe_callTy call_int1 (by rfl) B.int PyProof.Rows.boot_int (pa_cons (pv 3) pa_nil)) (pv 1))))))))), ?_⟩
    have hm0 : (m : Int) ≠ 0 := by omega
    have hmb : ((m : Int)).natAbs < 1073741824 := by omega
    have rd : ∀ {H a b c}, Row4 K H r sc ns a b c → SqL K H r [.ref sc, .int a, .int b, .int c] := fun R => SqL.of R.at_
    have a00 := R.a0
    have b00 := R.b0
    have b11 := R.b1
    have fin : ∀ i H', StepR r H H' → RowAt K H' r sc ns → Q (.int (Int.fmod i m)) H' := fun i H' st ra => by
      obtain ⟨x, hx, ex⟩ := fmod_nat (i := i) hm1
      rw [ex]
      exact q x H' hx st ra
    refine ⟨_, rfl, r, _, 3, .int c, rfl, rfl, rd R, rfl, c, 0, rfl, rfl, _, rfl, ite2 (fun hc => ?_) (fun hc => ?_)⟩
    · refine ⟨_, rfl, r, _, 3, .int c, rfl, rfl, rd R, rfl, .inl ⟨_, rfl, _, rfl, c, m, rfl, rfl, hm0, ?_⟩⟩
      refine ⟨_, rfl, r, _, 3, .int c, rfl, rfl, rd R, rfl, _, rfl, c, m, rfl, rfl, ⟨hm0, hmb⟩, _, rfl, r, _, 3, 3, rfl, rfl, R.at_, rfl, ?_⟩
      exact ⟨_, rfl, fin c _ (StepR.put _ _ _) ⟨a, b, _, R.put a00 b00 b11⟩⟩
    · have R1 := R.put (a' := a + 1) (b' := b) (c' := c) (by omega) b00 b11
      refine ⟨_, rfl, r, _, 1, .int a, rfl, rfl, rd R, rfl, a, 1, rfl, rfl, _, rfl, r, _, 1, 1, rfl, rfl, R.at_, rfl, ?_⟩
      refine ⟨_, rfl, r, _, 1, .int (a + 1), rfl, rfl, rd R1, rfl, _, rfl, r, _, 0, .ref sc, rfl, rfl, rd R1, rfl, sc, ns.map V.int, rfl, .inl R1.sc, a + 1, _, rfl, rfl, _, rfl, ite2 (fun h2 => ?_) (fun h2 => ?_)⟩
      · obtain ⟨y, hy, ey⟩ := fmod_nat (i := b * 48271 + 11) (m := 2147483647) (by decide)
        have ey' : Int.fmod (b * 48271 + 11) 2147483647 = (y : Int) := ey
        have R2 := R1.put (a' := a + 1) (b' := Int.fmod (b * 48271 + 11) 2147483647) (c' := c) (by omega) (by omega) (by omega)
        refine ⟨_, rfl, r, _, 2, .int b, rfl, rfl, rd R1, rfl, b, 48271, rfl, rfl, .inl ⟨by omega, by omega⟩, b * 48271, 11, rfl, rfl, .inl ⟨_, rfl, b * 48271 + 11, 2147483647, rfl, rfl, (show (2147483647 : Int) ≠ 0 by decide), _, rfl, r, _, 2, 2, rfl, rfl, R1.at_, rfl, ?_⟩⟩
        refine ⟨_, rfl, r, _, 2, .int _, rfl, rfl, rd R2, rfl, _, 7, rfl, rfl, ⟨by decide, by decide⟩, .inl ⟨_, rfl, _, rfl, _, m, rfl, rfl, hm0, ?_⟩⟩
        exact fin _ _ ((StepR.put _ _ _).trans (StepR.put _ _ _)) ⟨_, _, _, R2⟩
      · have h2 : ¬ (((ns.map V.int).length : Int) < a + 1) := fun z => h2 (decide_eq_true z)
        rw [List.length_map] at h2
        have hlt : a.toNat < ns.length := by omega
        have hat : atI (ns.map V.int) (a + 1 - 1) = some (.int ns[a.toNat]) := by
          have e : a + 1 - 1 = ((a.toNat : Nat) : Int) := by omega
          rw [e]
          refine atI_nat ?_
          rw [List.getElem?_map, List.getElem?_eq_getElem hlt]
          rfl
        generalize ns[a.toNat] = z at hat
        refine ⟨_, rfl, r, _, 0, .ref sc, rfl, rfl, rd R1, rfl, _, rfl, r, _, 1, .int (a + 1), rfl, rfl, rd R1, rfl, a + 1, 1, rfl, rfl, sc, _, a + 1 - 1, .int z, rfl, rfl, R1.sc, hat, ?_⟩
        obtain ⟨y, hy, ey⟩ := fmod_nat (i := b * 48271 + z + 11) (m := 2147483647) (by decide)
        have ey' : Int.fmod (b * 48271 + z + 11) 2147483647 = (y : Int) := ey
        have R2 := R1.put (a' := a + 1) (b' := Int.fmod (b * 48271 + z + 11) 2147483647) (c' := c) (by omega) (by omega) (by omega)
        refine ⟨_, rfl, r, _, 2, .int b, rfl, rfl, rd R1, rfl, b, 48271, rfl, rfl, .inl ⟨by omega, by omega⟩, _, rfl, b * 48271, z, rfl, rfl, b * 48271 + z, 11, rfl, rfl, .inl ⟨_, rfl, b * 48271 + z + 11, 2147483647, rfl, rfl, (show (2147483647 : Int) ≠ 0 by decide), _, rfl, r, _, 2, 2, rfl, rfl, R1.at_, rfl, ?_⟩⟩
        refine ⟨_, rfl, 10, 18, rfl, rfl, ⟨by decide, by decide, by decide⟩, z, _, rfl, rfl, _, rfl, ite2 (fun h3 => ?_) (fun h3 => ?_)⟩
        · refine ⟨_, rfl, _, rfl, z, m, rfl, rfl, ⟨hm0, hmb⟩, _, rfl, r, _, 3, 3, rfl, rfl, R2.at_, rfl, ?_⟩
          refine ⟨_, rfl, .inl ⟨_, rfl, _, rfl, _, m, rfl, rfl, hm0, ?_⟩⟩
          exact fin _ _ (((StepR.put _ _ _).trans (StepR.put _ _ _)).trans (StepR.put _ _ _)) ⟨_, _, _, R2.put (by omega) (by omega) (by omega)⟩
        · refine ⟨_, rfl, .inl ⟨_, rfl, _, rfl, _, m, rfl, rfl, hm0, ?_⟩⟩
          exact fin _ _ ((StepR.put _ _ _).trans (StepR.put _ _ _)) ⟨_, _, _, R2⟩
end
end Lt

set_option Elab.async false
set_option linter.all false
set_option maxRecDepth 100000
set_option maxHeartbeats 2000000
/-! lambdas in a body: made (with defaults or without), held by a name, called -/
namespace LmX
open PySem PySem.Spec PyProof.Rows L2 LamX NdefX
/-- the words of a lambda; the body stands beside -/
abbrev lmFd (F : NF) (e : Expr) (dV doc pm ctv : Value) : FuncData := PySem.W.kdv_fn F.name F.qual F.params (.expr e) F.scope F.cl dV doc pm (.ref F.c) ctv
def LmO (f : Addr) (F : NF) (e : Expr) (dV : Value) : HO :=
  .ext fun h => ∃ (od : Option Addr) (sl : Array (Option Value)) (doc pm ctv : Value), h.get? f = some (⟨.type "function", od, .func (lmFd F e dV doc pm ctv), sl⟩ : Obj)
theorem lmO_at {P : Program} {w : World} {H : Hp} {h : Heap} {f : Addr} {F : NF} {e : Expr} {dV : Value} (ok : HOk P w H h) (x : H f = some (LmO f F e dV)) :
    ∃ (od : Option Addr) (sl : Array (Option Value)) (doc pm ctv : Value), h.get? f = some (⟨.type "function", od, .func (lmFd F e dV doc pm ctv), sl⟩ : Obj) := (ok f _ x).1
abbrev lmF (q : Str) (params : Arguments) (scope : Scope) (cells : List (Str × Addr)) (c : Addr) : NF := ⟨"<lambda>", q, params, [], scope, cloFrom cells scope.names [], c⟩
section
variable {X : Cx} {pins : List (Addr × Obj)} {σ : L2.St} {H : Hp} {s : Shared}
theorem lm_laid {F : NF} {e : Expr} {dV doc pm ctv : Value} {t' : Nat} (I : Inv X pins σ H s) :
    Inv X pins σ (upd H s.heap.objs.size (LmO s.heap.objs.size F e dV)) { s with heap := s.heap.push { cls := .type "function", data := .func (lmFd F e dV doc pm ctv) }, toks := t' } := by
  have g : (s.heap.push ({ cls := .type "function", data := .func (lmFd F e dV doc pm ctv) } : Obj)).get? s.heap.objs.size = some { cls := .type "function", data := .func (lmFd F e dV doc pm ctv) } := Heap.get?_push_size _ rfl
  exact I.laid (fun _ _ q => Heap.get?_push_of_some _ q) (Nat.le_refl _) ⟨⟨none, #[], doc, pm, ctv, g⟩, ⟨_, g⟩, fun _ _ ⟨od, sl, d, p, t, z⟩ k => ⟨od, sl, d, p, t, k _ z⟩⟩
theorem lm_tail {T : List (Addr × Str)} {c P : Addr} {params : Arguments} {body : Expr} {scope : Scope} {pos : Pos} {dV : Value} {E Q : Value → Shared → Prop} (I : Inv X pins σ H s) (B : TabB X.base X.mg c P) (hc : X.env.code = .ref c)
    (hm : (P, X.env.qual ++ "<lambda>") ∈ T) (hu : ∀ p ∈ T, p.1 = P → p.2 = X.env.qual ++ "<lambda>") (hT : Tabs T H) (hf : ∀ y ∈ scope.names, y.2 = .free → ∃ c, X.env.cells.lookup y.1 = some c)
    (h : ∀ (f c' : Addr) (H1 : Hp) (s' : Shared), Inv X pins σ H1 s' → ExtN H H1 → Tabs T H1 → H f = none → H1 f = some (LmO f (lmF (X.env.qual ++ "<lambda>") params scope X.env.cells c') body dV) → H1 c' = some (CodeO c' (X.env.qual ++ "<lambda>")) → Q (.ref f) s') :
    wpAny (model X.prog X.w) X.A (makeTail "<lambda>" (X.env.qual ++ "<lambda>") params (.expr body) scope X.env dV .none none pos pos.line) Q E s := by
  obtain ⟨ps, tP, tr, am⟩ := hT _ hm
  have bmP := B.bm.keeps I.bk
  have gP : s.heap.get? P = some { cls := .none, data := .fields ps } := I.hok P _ tP
  rcases hk : codeAmong pos ps.toList with _ | cv
  · refine PySem.W.kdv_makeTail (closure_ok hf) I.ok.glob (I.mod.glob.keeps I.bk) hc (B.code.keeps I.bk) gP tr hk B.gP bmP fun c' ctv doc h' tk kx kge klt ⟨c2, oc, vs, t, e2, o2, d2, v2⟩ kt => ?_
    cases e2
    have frC : H c' = none := I.hok.fresh kge
    have J := inv_table (t' := tk) (more := #[rawInt pos.line, rawInt pos.col, .ref c']) I tP (fun b o nb q => kx b o nb q) kt kge ⟨oc, vs, t, o2, d2, v2⟩
    have ext : ExtN H (upd (upd H P (.tbl (ps ++ #[rawInt pos.line, rawInt pos.col, .ref c']))) c' (CodeO c' (X.env.qual ++ "<lambda>"))) := fun b o q nt => by
      have nP : b ≠ P := fun z => nt ps (Option.some.inj ((q.symm.trans (z ▸ rfl)).trans tP))
      exact (upd_ne (ne_of_none q frC)).trans ((upd_ne nP).trans q)
    have tabs : Tabs T (upd (upd H P (.tbl (ps ++ #[rawInt pos.line, rawInt pos.col, .ref c']))) c' (CodeO c' (X.env.qual ++ "<lambda>"))) := fun p hp => by
      have lst : (ps ++ #[rawInt pos.line, rawInt pos.col, .ref c']).toList = ps.toList ++ [rawInt pos.line, rawInt pos.col, .ref c'] := Array.toList_append ..
      rcases Classical.em (p.1 = P) with hb | hb
      · rw [hu p hp hb, hb]
        refine ⟨_, (upd_ne (ne_of_none tP frC)).trans upd_same, lst ▸ PySem.TriplesOk_snoc _ _ _ _ tr, fun p' cw hw => ?_⟩
        rcases among_app _ tr (lst ▸ hw) with z | z
        · exact (am p' cw z).imp fun c0 q => ⟨q.1, ext _ _ q.2 codeO_ne⟩
        · exact ⟨c', z, upd_same⟩
      · obtain ⟨qs, a1, a2, a3⟩ := hT p hp
        exact ⟨qs, (upd_ne (ne_of_none a1 frC)).trans ((upd_ne hb).trans a1), a2, fun p' cw hw => (a3 p' cw hw).imp fun c0 q => ⟨q.1, ext _ _ q.2 codeO_ne⟩⟩
    have new := J.hok.fresh (Nat.le_refl _)
    refine h h'.objs.size c' _ _ (lm_laid (F := lmF (X.env.qual ++ "<lambda>") params scope X.env.cells c') (t' := tk) J) (fun b o q nt => ?_) (tabs.ext fun b o q => ?_) (I.hok.fresh (Nat.le_trans kge (Nat.le_of_lt klt))) upd_same ?_
    · exact (upd_ne (ne_of_none (ext b o q nt) new)).trans (ext b o q nt)
    · exact (upd_ne (ne_of_none q new)).trans q
    · exact (upd_ne (Nat.ne_of_lt klt)).trans upd_same
  · obtain ⟨c', e, hco⟩ := am pos cv hk
    subst e
    refine PySem.W.kdv_makeTailHit (closure_ok hf) I.ok.glob (I.mod.glob.keeps I.bk) hc (B.code.keeps I.bk) gP tr hk bmP fun ctv doc h' tk kx ksz => ?_
    have J : Inv X pins σ H { s with heap := h', toks := tk } := I.kept kx
    have new : H h'.objs.size = none := J.hok.fresh (Nat.le_refl _)
    have st : ∀ b o, H b = some o → upd H h'.objs.size (LmO h'.objs.size (lmF (X.env.qual ++ "<lambda>") params scope X.env.cells c') body dV) b = some o := fun b o q => (upd_ne (ne_of_none q new)).trans q
    exact h h'.objs.size c' _ _ (lm_laid (F := lmF (X.env.qual ++ "<lambda>") params scope X.env.cells c') (t' := tk) J) (fun b o q _ => st b o q) (hT.ext st) new upd_same (st _ _ hco)
end
/-- lambda: body -/
def tLm0 (T : List (Addr × Str)) (mk : Addr → NF) (e : Expr) : TE := fun _ H Q => Tabs T H ∧ ∀ (f c' : Addr) (H1 : Hp), ExtN H H1 → Tabs T H1 → H f = none → H1 f = some (LmO f (mk c') e .none) → H1 c' = some (CodeO c' (mk c').qual) → Q (.ref f) H1
/-- lambda x=d: body -/
def tLm1 (T : List (Addr × Str)) (mk : Addr → NF) (e : Expr) (td : TE) : TE := fun σ H Q => td σ H fun v H0 => Tabs T H0 ∧ ∀ (p f c' : Addr) (H1 : Hp), ExtN H0 H1 → Tabs T H1 → H0 f = none → H1 f = some (LmO f (mk c') e (.ref p)) → H1 p = some (.tup [v]) → H1 c' = some (CodeO c' (mk c').qual) → Q (.ref f) H1
section
variable {X : Cx} {T : List (Addr × Str)} {c P : Addr} {params : Arguments} {body : Expr} {scope : Scope} {pos : Pos}
theorem lm_has (ok : X.Ok) (hf : ∀ y ∈ scope.names, y.2 = .free → X.env.scope.names.lookup y.1 = some .cell ∨ X.env.scope.names.lookup y.1 = some .free) : ∀ y ∈ scope.names, y.2 = .free → ∃ c, X.env.cells.lookup y.1 = some c :=
  fun y hy e => (hf y hy e).elim (fun z => ok.has _ (.inl z)) fun z => ok.has _ (.inr z)
theorem pe_lm0 (B : TabB X.base X.mg c P) (hc : X.env.code = .ref c) (hm : (P, X.env.qual ++ "<lambda>") ∈ T) (hu : ∀ p ∈ T, p.1 = P → p.2 = X.env.qual ++ "<lambda>")
    (hf : ∀ y ∈ scope.names, y.2 = .free → X.env.scope.names.lookup y.1 = some .cell ∨ X.env.scope.names.lookup y.1 = some .free) (hd : defaultsOf params X.env = ([], [])) :
    PE X (.Lambda params body scope pos) (tLm0 T (lmF (X.env.qual ++ "<lambda>") params scope X.env.cells) body) := by
  refine ⟨fun pins s σ H Q I h => PySem.W.kla_eval hd ?_⟩
  rw [makeFunction_eq]
  simp only [List.zip_nil_right, List.filterMap_nil, List.isEmpty_nil, if_true, pure_bind]
  exact lm_tail I B hc hm hu h.1 (lm_has I.ok hf) fun f c' H1 s' J k1 k2 k3 k4 k5 => ⟨V.ref f, H1, J, rfl, h.2 f c' H1 k1 k2 k3 k4 k5⟩
theorem pe_lm1 {d : Expr} {td : TE} (B : TabB X.base X.mg c P) (hc : X.env.code = .ref c) (hm : (P, X.env.qual ++ "<lambda>") ∈ T) (hu : ∀ p ∈ T, p.1 = P → p.2 = X.env.qual ++ "<lambda>")
    (hf : ∀ y ∈ scope.names, y.2 = .free → X.env.scope.names.lookup y.1 = some .cell ∨ X.env.scope.names.lookup y.1 = some .free) (hd : params.defaults = [d]) (hk : params.kw_defaults = []) (pd : PE X d td) :
    PE X (.Lambda params body scope pos) (tLm1 T (lmF (X.env.qual ++ "<lambda>") params scope X.env.cells) body td) := by
  refine ⟨fun pins s σ H Q I h => PySem.W.kdv_lam (by rw [hd]; rfl) hk ?_⟩
  rw [hd]
  refine PySem.W.kdv_all1 (thn (pd.run pins s σ H _ I h) fun u s1 ⟨v, H0, J, r, hT, q⟩ => PySem.W.kdv_all0 ?_)
  rw [makeFunction_eq]
  simp only [List.zip_nil_right, List.filterMap_nil, List.isEmpty_nil, List.isEmpty_cons, if_true, Bool.false_eq_true, if_false, pure_bind]
  refine wpAny_bind (wpAny_newTextTuple ?_)
  have fr : H0 s1.heap.objs.size = none := J.hok.fresh (Nat.le_refl _)
  have J2 := J.laid (t' := s1.toks) (h' := s1.heap.push { cls := .type "tuple", data := .seq [u].toArray }) (fun _ _ q => Heap.get?_push_of_some _ q) (Nat.le_refl _) (show ObjOk X.prog X.w _ _ _ (.tup [v]) from ⟨by rw [sizeLine_eq]; exact Nat.le_of_ble_eq_true rfl, [u], .cons r .nil, IsTup.new _ _⟩)
  have st : ∀ b o, H0 b = some o → upd H0 s1.heap.objs.size (.tup [v]) b = some o := fun b o e => (upd_ne (ne_of_none e fr)).trans e
  refine lm_tail J2 B hc hm hu (hT.ext st) (lm_has J2.ok hf) fun f c' H1 s' J3 k1 k2 k3 k4 k5 => ⟨V.ref f, H1, J3, rfl, q _ f c' H1 (fun b o e nt => k1 b o (st b o e) nt) k2 ?_ k4 (k1 _ _ upd_same fun _ z => by cases z) k5⟩
  unfold upd at k3
  split at k3
  · cases k3
  · exact k3
/-- x(), x a name that holds a function -/
theorem pe_ap0 {R : Addr → TE} {i : Nat} {x : Str} {p : Pos} (hrun : ∀ (f : Addr) (pins : List (Addr × Obj)) (s : Shared) (σ : L2.St) (H : Hp) (Q : VK), Inv X pins σ H s → R f σ H Q → PySem.W.FnAt f s.heap ∧ wpAny (model X.prog X.w) X.A (call (.ref f) []) (EP X pins σ Q) X.xe s)
    (hN : X.N[i]? = some x) (hv : Vis X.env.scope x) (hd : (x == ("__debug__" : Str)) = false := by decide) (hcd : (x == ("__classdict__" : Str)) = false := by decide) :
    PE X (.Call (.Name x p) [] [] pos) (fun σ H Q => ∃ f, σ[i]? = some (some (.ref f)) ∧ R f σ H Q) := by
  refine ⟨fun pins s σ H Q I ⟨f, hs, hR⟩ => wpAny_Call_Name_kw (thn ((pe_var (pos := p) hN hv hd hcd).run pins s σ H (fun v H1 => v = .ref f ∧ H1 = H) I ⟨.ref f, hs, rfl, rfl⟩) fun u s1 ⟨v, H1, J, r, e1, e2⟩ => ?_)⟩
  subst e1 e2
  obtain rfl : u = Value.ref f := r
  obtain ⟨fa, rn⟩ := hrun f pins s1 σ _ Q J hR
  exact PySem.W.callWith_F0 fa rn
/-- a lambda's run -/
theorem lm_run {CX : CXT} {pins : List (Addr × Obj)} {s : Shared} {σ : L2.St} {H : Hp} {Q : VK} {E : XK} {k : Nat} {f : Addr} {F : NF} {e : Expr} {dV : Value} {N ps fr : List Str} {us : List Value} {vs : List V} {js : List Nat} {tb : TE} (I : Inv X pins σ H s)
    (S : NScope N ps fr F.scope) (hf : H f = some (LmO f F e dV)) (hc : H F.c = some (CodeO F.c F.qual)) (hb : ∀ doc pm ctv, BindsTo s (lmFd F e dV doc pm ctv) ⟨[], []⟩ (ps.zip us)) (r : Vals vs us) (hl : vs.length = ps.length) (cp : Caps X F.cl fr js)
    (hr : Room (k + 1) X.A) (hx : PassesAt CX X σ E) (hbody : Room k (X.A.deeper (envF F f s.heap.objs.size)) → PE (ncx CX X.prog X.w X.K X.mg X.base N F f X.A X.stack s H E) e tb) (ht : tb (startF N vs (js.map (slotAt σ))) H Q) :
    PySem.W.FnAt f s.heap ∧ wpAny (model X.prog X.w) X.A (call (.ref f) []) (EP X pins σ Q) X.xe s := by
  obtain ⟨od, sl, doc, pm, ctv, ho⟩ := lmO_at I.hok hf
  refine ⟨⟨_, od, _, sl, ho⟩, ?_⟩
  have C := cells_of I cp
  have rc : codeAny (model X.prog X.w) X.A (.call (.ref f) ⟨[], []⟩) (CR CX X.stack X.prog X.w H s Q E) s := by
    refine PySem.W.kla_callFunE hr.depth ho rfl S.co S.gen rfl (codeO_at I.hok hc) (hb doc pm ctv _ _ _ _ ?_)
    refine wpAny_newFunctionEnv S.nocell (fun ⟨n, _⟩ hy => S.par n (List.of_mem_zip hy).1) (fun h₁ hns hsb => ⟨I.nolimit.fresh _ hsb, ?_⟩) S.kind
    show codeAny _ _ (.expr e (envF F f s.heap.objs.size)) _ _
    have kp : ∀ b o, s.heap.get? b = some o → h₁.get? b = some o := fun b o q => hsb.extBut b o (Nat.ne_of_lt (Heap.lt_size q)) (Heap.get?_push_of_some _ q)
    have J := inv_startN (CX := CX) (E := E) (f := f) (tk := s.toks + (ps.zip us).length) S hr.hd I.env0 hl r C hns kp
    refine PySem.W.kla_codeExpr (wpAny_mono ((hbody (hr.deeper _)).run [] _ _ H Q J ht) (fun v s' ⟨w', H', J', rv, q⟩ => ?_) fun e s' q => q)
    exact ⟨w', H', J'.os, J'.bare, J'.base, J'.hok, rv, q⟩
  refine wpAny_call (codeAny_mono rc fun o s' q => ?_)
  rcases o with e | fl
  · exact hx pins H s e s' I q
  · cases fl with
    | ret u => exact I.after q
    | next => exact q.elim
    | brk => exact q.elim
    | cont => exact q.elim
end
end LmX

set_option Elab.async false
set_option linter.all false
set_option maxRecDepth 100000
set_option maxHeartbeats 4000000
/-! several clauses «except X as n», one name n for all -/
namespace MaX
open PySem PySem.Spec PyProof.Rows L2
abbrev Cl := Value × (Addr → Value → Option Addr → TS)
/-- what the clauses wish of an error of the body -/
def wMA (K : PySem.W.Frag) (i : Nat) (Wo : WX) (D : Ends) : List Cl → WX
  | [] => Wo
  | u :: r => wAs K u.1 i u.2 (wMA K i Wo D r) D
inductive HAs (X : Cx) (n : Str) : List ExceptHandler → List Cl → Prop
  | nil : HAs X n [] []
  | cons {x : Str} {c : Value} {ts : Addr → Value → Option Addr → TS} {b : Stmt} {bs : List Stmt} {np q : Pos} {hds : List ExceptHandler} {l : List Cl} (hc : Names X x c)
      (su : ∀ (a : Addr) (o : Obj) (k : Value) (d : Option Addr) (pn : List (Addr × Obj)), Zc k d o → (∃ vs, o.data = .fields vs) → PSs (X.suite a ((a, o) :: pn)) (b :: bs) (ts a k d)) (r : HAs X n hds l) :
      HAs X n (.ExceptHandler (some (.Name x np)) (some n) (b :: bs) q :: hds) ((c, ts) :: l)
section
variable {X : Cx} {n : Str} {i : Nat} {bd : List Stmt} {h0 : ExceptHandler} {hds : List ExceptHandler} {l : List Cl} {p : Pos} {tb : WX → TS} {Wo : WX}
theorem ps_try_asM (hs : X.stack = X.env :: X.outer) (hf : X.env.frame = some X.env.locals) (hN : X.N.Nodup) (hi : X.N[i]? = some n) (hn : X.env.kindOf n = some .local) (tk : Takes X Wo)
    (hb : ∀ (W : WX) (pn : List (Addr × Obj)) (xe : Value → Shared → Prop), Takes (X.tr pn xe) W → PassesOwn (model X.prog X.w) X.A X.env xe → PSs (X.tr pn xe) bd (tb W)) (hh : HAs X n (h0 :: hds) l) :
    PS X (.Try bd (h0 :: hds) [] [] p) (fun D σ H => tb (wMA X.K i Wo D l) D σ H) := by
  refine ⟨fun pi s σ H D I h => wpAny_Try_except ?_⟩
  have ok := I.ok
  have frm : X.A.frames = some (X.env :: X.outer) := ok.frames.trans (congrArg some hs)
  have lo : Loc X.env.scope n := .inl hn
  refine wpAny_mono ((hb (wMA X.K i Wo D l) (X.pn ++ pi) (fun er s1 => wpAny (model X.prog X.w) X.A (noteFrame er X.env) (fun _ s2 => wpAny (model X.prog X.w) X.A (setFlight er none) (fun _ s3 => wpAny (model X.prog X.w) X.A (handleBy er X.env (h0 :: hds)) (SP X pi D) X.xe s3) X.xe s2) X.xe s1)
    (fun u t xx => ?_) PassesOwn.looking).run [] s σ H D (I.toTry _) h) (fun fl s1 hsp => ?_) (fun _ _ he => he)
  · obtain ⟨a, B, sJ, qs, σ1, H1, k, d, rfl, J0, nb, up, sk, na, os, ag, w⟩ := xx
    have J := J0.ofTry (X := X) ok
    have sk1 : Sky B (X.env :: X.outer) a (Zc k d) X.env.locals t.heap := hs ▸ sk
    show wpAny _ X.A (noteFrame (.ref a) X.env) _ _ _
    refine Sky.land Zc.steady frm hf sk1 fun h3 f3 u3 => ?_
    have J3 : Inv X pi σ1 H1 { t with heap := h3 } := J.landed nb f3.1 (up.trans u3) os ag
    obtain ⟨o3, v3, e3, z3, d3⟩ := f3.there
    have nfr : a ∉ frs (X.env :: X.outer) := fun hm => by
      obtain ⟨_, o', e', g⟩ := f3.2.2.1.mem hm
      cases e3.symm.trans e'
      exact g _ d3
    have nL : a ≠ X.env.locals := fun z => nfr (List.mem_filterMap.mpr ⟨X.env, .head _, hf.trans (congrArg some z.symm)⟩)
    have nF : a ∉ X.fs := fun hm => let ⟨e, he, g⟩ := List.mem_filterMap.mp hm; nfr (List.mem_filterMap.mpr ⟨e, .tail _ he, g⟩)
    have S3 := J3.suite e3 d3 na nL nF
    have go : ∀ {hs' : List ExceptHandler} {l' : List Cl}, HAs X n hs' l' → wMA X.K i Wo D l' k d σ1 H1 → wpAny (model X.prog X.w) X.A (handleBy (.ref a) X.env hs') (SP X pi D) X.xe { t with heap := h3 } := by
      intro hs' l' hk
      induction hk with
      | nil =>
        refine fun w => wpAny_handleBy_nil ?_
        obtain ⟨_, _, _, o, vs, T, _, _, he, _, hd, g1, _⟩ := id f3
        unfold PySem.passOn
        refine wpAny_bind (wpAny_field he hd g1 ?_)
        have nn : ¬ ((Value.ref T == Value.none) = true) := by simp
        rw [if_neg nn]
        have fin : wpAny (model X.prog X.w) X.A (setFlight (.ref a) X.env.frame) (fun _ s4 => wpAny (model X.prog X.w) X.A (throw (.ref a) : Sem Flow) (SP X pi D) X.xe s4) X.xe { t with heap := h3 } := hf ▸ HandSPX.setFlight_upZ f3 fun h4 g4 u4 => wpAny_throw (tk _ _ ⟨a, B, sJ, pi, σ1, H1, k, d, rfl, J, nb, (up.trans u3).trans u4, .inr (.inr (hs ▸ g4)), na, os, ag, w⟩)
        first | exact wpAny_bind fin | exact wpAny_bind (wpAny_pure (wpAny_bind fin))
      | @cons x c ts b bs np q hds2 l2 hc su r ih =>
        rintro ⟨bb, hb1, yes, no⟩
        refine wpAny_handleBy_cons (codeAny_handlers_test ?_) (fun q => nomatch q)
        have LM := PySem.W.exm_one (M := model X.prog X.w) (e := a) J3.kIn (fun A Q E s g q => wpAny_typeOf_ref (g _ _ e3) (z3.1.symm ▸ q)) hb1
        have tst : ∀ {Q : Value → Shared → Prop} {E : Value → Shared → Prop}, Q c { t with heap := h3 } → wpAny (model X.prog X.w) (X.A.mark (some (.ref a))) (eval (.Name x np) X.env) Q E { t with heap := h3 } := fun {Q E} g => by
          rcases hc with ⟨hg, dbg, hm | ⟨hm, hv, nnm⟩⟩
          · exact ld_glob (X := X.suite a ((a, o3) :: (X.pn ++ pi))) S3 hg hm g dbg
          · exact ld_blt (X := X.suite a ((a, o3) :: (X.pn ++ pi))) S3 hg hm hv g nnm dbg
        refine tst (LM.here ?_)
        cases bb with
        | false => exact ih (no rfl)
        | true =>
          refine codeAny_handlers_suite_as (HandSPX.lands_againZ f3 fun h4 f4 u4 => ?_)
          have J4 : Inv X pi σ1 H1 { t with heap := h4 } := J.landed nb f4.1 ((up.trans u3).trans u4) os ag
          obtain ⟨o4, v4, e4, z4, d4⟩ := f4.there
          refine store_ok (X := X.suite a ((a, o4) :: (X.pn ++ pi))) (v := .ref a) (J4.suite e4 d4 na nL nF) hN hi lo rfl (fun s5 S5 => ?_) (.inr hn)
          refine wpAny_mono ((su a o4 k d (X.pn ++ pi) z4 ⟨_, d4⟩).run [] s5 _ H1 _ S5 (yes rfl a na)) (fun f s6 g6 => ?_) (fun _ _ z => z.elim)
          have fin : ∀ {σ6 : L2.St} {H6 : Hp} {Q : Shared → Prop}, Inv (X.suite a ((a, o4) :: (X.pn ++ pi))) [] σ6 H6 s6 → (∀ s7, Inv X pi (σ6.set i none) H6 s7 → Q s7) →
              wpAny (model X.prog X.w) X.A (do bindName X.env n .none; unbindBehindTheSuite X.env n q) (fun _ s7 => Q s7) X.xe s6 := fun {_ _ _} S6 hq => gone_ok (S6.unsuite ok) hN hi hn hq
          cases f with
          | next => exact let ⟨_, _, S6, g⟩ := g6; fin S6 fun s7 J7 => ⟨_, _, J7, g⟩
          | brk => exact let ⟨_, _, S6, g⟩ := g6; fin S6 fun s7 J7 => ⟨_, _, J7, g⟩
          | cont => exact let ⟨_, _, S6, g⟩ := g6; fin S6 fun s7 J7 => ⟨_, _, J7, g⟩
          | ret u => exact let ⟨_, _, _, S6, rv, g⟩ := g6; fin S6 fun s7 J7 => ⟨_, _, _, J7, rv, g⟩
    exact go hh w
  · cases fl with
    | next => exact let ⟨σ', H', J', g⟩ := hsp; wpAny_execs_nil ⟨σ', H', J'.ofTry ok, g⟩
    | brk => exact let ⟨σ', H', J', g⟩ := hsp; ⟨σ', H', J'.ofTry ok, g⟩
    | cont => exact let ⟨σ', H', J', g⟩ := hsp; ⟨σ', H', J'.ofTry ok, g⟩
    | ret u => exact let ⟨v, σ', H', J', rv, g⟩ := hsp; ⟨v, σ', H', J'.ofTry ok, rv, g⟩
end
end MaX

set_option Elab.async false
set_option linter.all false
set_option maxRecDepth 100000
set_option maxHeartbeats 2000000
/-! lambdas of a law, the loop over them -/
namespace Lt
open PySem PySem.Spec PyProof.Rows L2 NdefX LamX LmX MaX
def lamP : Expr → Arguments
  | .Lambda a _ _ _ => a
  | _ => ⟨[], [], none, [], [], none, []⟩
def lamS : Expr → Scope
  | .Lambda _ _ s _ => s
  | _ => { kind := .function, names := [], isGenerator := false, isCoroutine := false, more := [] }
def lamB : Expr → Expr
  | .Lambda _ b _ _ => b
  | e => e
def noX : Expr := .Constant .none 0 ⟨0, 0, 0, 0⟩
/-- the i-th of a list, the first argument of a call, the right side of a sum -/
def itemX (i : Nat) : Expr → Expr
  | .List es _ => es.getD i noX
  | .Tuple es _ _ => es.getD i noX
  | _ => noX
def argX (i : Nat) : Expr → Expr
  | .Call _ es _ _ => es.getD i noX
  | _ => noX
def rightX : Expr → Expr
  | .BinOp _ _ r _ => r
  | _ => noX
/-- the value of an assignment, of an expression's statement, what a for goes over -/
def valX : Stmt → Expr
  | .Assign _ v _ => v
  | .Expr v _ => v
  | .For _ it _ _ _ => it
  | .If t _ _ _ => t
  | .Return (some v) _ => v
  | _ => noX
abbrev q_lam : Str := "law.<locals>." ++ "<lambda>"
theorem lmO_is {f : Addr} {F : NF} {e : Expr} {dV : Value} : (∀ xs, LmO f F e dV ≠ .lst xs) ∧ (∀ ps, LmO f F e dV ≠ .tbl ps) := ⟨fun xs z => (by unfold LmO at z; cases z), fun xs z => (by unfold LmO at z; cases z)⟩
theorem codeO_is {c : Addr} {q : Str} : (∀ xs, CodeO c q ≠ .lst xs) ∧ (∀ ps, CodeO c q ≠ .tbl ps) := ⟨fun xs z => (by unfold CodeO at z; cases z), fun xs z => (by unfold CodeO at z; cases z)⟩
theorem extN_tm {H H' : Hp} (e : ExtN H H') : Tm H H' := ⟨fun _ _ h => e _ _ h (fun _ z => nomatch z), fun _ _ _ h => e _ _ h (fun _ z => nomatch z)⟩
theorem extN_of {H H' : Hp} (e : Same H H') : ExtN H H' := fun a o h _ => e a o h
theorem RowAt.extN {K : PySem.W.Frag} {H H' : Hp} {r sc : Addr} {ns : List Int} (h : RowAt K H r sc ns) (e : ExtN H H') : RowAt K H' r sc ns := by
  obtain ⟨a, b, c, R⟩ := h
  refine ⟨a, b, c, e _ _ R.at_ (fun _ z => nomatch z), ?_, R.a0, R.b0, R.b1⟩
  rcases R.sc with (z | ⟨ob, z⟩) | z
  · exact .inl (.inl (e _ _ z (fun _ z => nomatch z)))
  · exact .inl (.inr ⟨ob, e _ _ z (fun _ z => nomatch z)⟩)
  · exact .inr z
theorem stepR_tml {l : Addr} {H H' : Hp} {xs : List V} (s : StepR l H H') (h : H l = some (.lst xs)) : Tm H H' :=
  ⟨fun a ys e => s a _ (ne_of e h (fun z => nomatch z)) e, fun a o ys e => s a _ (ne_of e h (fun z => nomatch z)) e⟩
/-- all but what is at a and at b stays -/
def Kp2 (a b : Addr) (H H' : Hp) : Prop := ∀ c o, c ≠ a → c ≠ b → H c = some o → H' c = some o
theorem Kp2.refl (a b : Addr) (H : Hp) : Kp2 a b H H := fun _ _ _ _ h => h
theorem Kp2.trans {a b : Addr} {H H1 H2 : Hp} (x : Kp2 a b H H1) (y : Kp2 a b H1 H2) : Kp2 a b H H2 := fun c o h1 h2 h => y c o h1 h2 (x c o h1 h2 h)
theorem Kp2.of {a b : Addr} {H H' : Hp} (e : Same H H') : Kp2 a b H H' := fun c o _ _ h => e c o h
theorem Kp2.l {a b : Addr} {H H' : Hp} (e : StepR a H H') : Kp2 a b H H' := fun c o h _ => e c o h
theorem Kp2.r {a b : Addr} {H H' : Hp} (e : StepR b H H') : Kp2 a b H H' := fun c o _ h => e c o h
theorem Kp2.tm {a b : Addr} {H H' : Hp} {xs ys : List V} (s : Kp2 a b H H') (h1 : H a = some (.lst xs)) (h2 : H b = some (.lst ys)) : Tm H H' :=
  ⟨fun c zs e => s c _ (ne_of e h1 (fun z => nomatch z)) (ne_of e h2 (fun z => nomatch z)) e, fun c o zs e => s c _ (ne_of e h1 (fun z => nomatch z)) (ne_of e h2 (fun z => nomatch z)) e⟩
/-- what is no list stays -/
theorem Kp2.at_ {a b c : Addr} {H H' : Hp} {xs ys : List V} {o : HO} (s : Kp2 a b H H') (h1 : H a = some (.lst xs)) (h2 : H b = some (.lst ys)) (h : H c = some o) (n : ∀ zs, o ≠ .lst zs) : H' c = some o :=
  s c o (ne_of h h1 (n _)) (ne_of h h2 (n _)) h
/-- a list elsewhere may change -/
theorem RowAt.far {K : PySem.W.Frag} {H H' : Hp} {l r sc : Addr} {ns : List Int} (h : RowAt K H r sc ns) (hr : r ≠ l) (hs : sc ≠ l) (s : StepR l H H') : RowAt K H' r sc ns := by
  obtain ⟨a, b, c, R⟩ := h
  refine ⟨a, b, c, s _ _ hr R.at_, ?_, R.a0, R.b0, R.b1⟩
  rcases R.sc with (z | ⟨ob, z⟩) | z
  · exact .inl (.inl (s _ _ hs z))
  · exact .inl (.inr ⟨ob, s _ _ hs z⟩)
  · exact .inr z
/-- .. or the script stands in what the top has written -/
theorem RowAt.far' {K : PySem.W.Frag} {H0 H H' : Hp} {l r sc : Addr} {ns : List Int} (h0 : RowAt K H0 r sc ns) (hl : H0 l = none) (h : RowAt K H r sc ns) (s : StepR l H H') : RowAt K H' r sc ns := by
  have hr := h0.ne hl
  have s0 := h0.sq
  obtain ⟨a, b, c, R⟩ := h
  refine ⟨a, b, c, s _ _ hr R.at_, ?_, R.a0, R.b0, R.b1⟩
  rcases s0 with (s0 | ⟨ob, s0⟩) | s0
  · have hs : sc ≠ l := ne_of_none s0 hl
    rcases R.sc with (z | ⟨ob, z⟩) | z
    · exact .inl (.inl (s _ _ hs z))
    · exact .inl (.inr ⟨ob, s _ _ hs z⟩)
    · exact .inr z
  · have hs : sc ≠ l := ne_of_none s0 hl
    rcases R.sc with (z | ⟨ob, z⟩) | z
    · exact .inl (.inl (s _ _ hs z))
    · exact .inl (.inr ⟨ob, s _ _ hs z⟩)
    · exact .inr z
  · exact .inr s0
theorem dflt_of {X : Cx} {pins : List (Addr × Obj)} {σ : L2.St} {H : Hp} {s : Shared} {p : Addr} {v : V} (I : Inv X pins σ H s) (h : H p = some (.tup [v])) : ∃ u o n, RelV v u ∧ s.heap.get? p = some o ∧ o.data = .seq #[u] n := by
  obtain ⟨_, its, r, o, ho, _, n, hd⟩ := I.hok p _ h
  cases r with
  | cons r t =>
    cases t
    exact ⟨_, o, n, r, ho, hd⟩
theorem exm_not {K : PySem.W.Frag} {S T : Addr} (h1 : PySem.W.subIn K (.ref S) (.type "BaseException") = some true) (h2 : PySem.W.isClsIn K S = true) (h3 : PySem.W.typeIn K (.ref S) = some (.type "type")) (h4 : PySem.W.subIn K (.ref T) (.ref S) = some false) : PySem.W.exmOne K (.ref T) (.ref S) = some false := by
  have i2 : (PySem.W.clsIn K S).isSome = true := h2
  have a : (if ((PySem.W.clsIn K S).isSome && PySem.W.typeIn K (.ref S) == some (.type "type")) = true then PySem.W.subIn K (.ref T) (.ref S) else none) = some false := by
    rw [if_pos (by rw [i2, h3]; rfl)]
    exact h4
  have b : (PySem.W.subIn K (.ref S) (.type "BaseException") == some true) = true := by
    rw [h1]
    rfl
  exact (if_pos b).trans a
theorem Tabs.rowX {K : PySem.W.Frag} {H H' : Hp} {r sc : Addr} {ns : List Int} {T : List (Addr × Str)} (ra : RowAt K H r sc ns) (s : StepR r H H') (h : Tabs T H) : Tabs T H' := fun p hp => by
  obtain ⟨x, y, z, R⟩ := ra
  obtain ⟨ps, h1, h2, h3⟩ := h p hp
  refine ⟨ps, s _ _ (ne_of h1 R.at_ (fun z => nomatch z)) h1, h2, fun pos cv hc => ?_⟩
  obtain ⟨c, e1, e2⟩ := h3 pos cv hc
  exact ⟨c, e1, s _ _ (ne_of e2 R.at_ (codeO_is.1 _)) e2⟩
end Lt

set_option Elab.async false
set_option linter.all false
set_option maxRecDepth 100000
set_option maxHeartbeats 2000000
namespace Lt
open PySem PySem.Spec PyProof.Rows L2 NdefX LamX LmX
/-- a name of a text -/
def Cs (mg : Str → Option Value) (x z : Str) : Prop := ∃ t, mg x = some (.str z t)
/-- a name of a tuple of texts -/
def Ct (K : PySem.W.Frag) (mg : Str → Option Value) (x : Str) (zs : List Str) : Prop := ∃ J : Addr, mg x = some (.ref J) ∧ ∀ H, SqT K H J (zs.map V.str)
def clsB : Stmt → List Stmt
  | .ClassDef _ _ _ b _ _ _ _ _ _ _ => b
  | _ => []
def initS (st : Stmt) : Stmt := (clsB st).getD 0 (.Pass ⟨0, 0, 0, 0⟩)
section
variable {P : Program} {w : World} {K : PySem.W.Frag} {mg : Str → Option Value} {base : Heap}
/-- a class's own line: an error is what «except» of its class names -/
theorem exm_own {S : Addr} (h1 : PySem.W.subIn K (.ref S) (.type "BaseException") = some true) (h2 : PySem.W.isClsIn K S = true) (h3 : PySem.W.typeIn K (.ref S) = some (.type "type")) (h4 : PySem.W.subIn K (.ref S) (.ref S) = some true) : PySem.W.exmOne K (.ref S) (.ref S) = some true := by
  have i2 : (PySem.W.clsIn K S).isSome = true := h2
  have a : (if ((PySem.W.clsIn K S).isSome && PySem.W.typeIn K (.ref S) == some (.type "type")) = true then PySem.W.subIn K (.ref S) (.ref S) else none) = some true := by
    rw [if_pos (by rw [i2, h3]; rfl)]
    exact h4
  have b : (PySem.W.subIn K (.ref S) (.type "BaseException") == some true) = true := by
    rw [h1]
    rfl
  exact (if_pos b).trans a
structure ErrFs (K : PySem.W.Frag) (mg : Str → Option Value) (x fld : Str) (C : Addr) (st : Stmt) : Prop where
  g : mg x = some (.ref C)
  cls : ∃ nm q N bs bm sn sub ab col dd k0 k1 k2 k3 k5, K.lookup C = some (excClassObj nm q C N bs bm true sn sub ab col dd k0 k1 k2 k3 k5 "ValueError.__new__") ∧ PySem.HandSPX.refsVE bm = true
  sa : PySem.W.findIn K (.ref C) "__setattr__" = some (some (.builtin "object.__setattr__"))
  ga : PySem.W.findIn K (.ref C) "__getattribute__" = some (some (.builtin "BaseException.__getattribute__"))
  gg : PySem.W.findIn K (.ref C) "__getattr__" = some none
  no : PySem.W.findIn K (.ref C) fld = some none
  kC : PySem.W.keepIn K (.ref C) = true
  eC : PySem.W.subIn K (.ref C) (.type "BaseException") = some true
  tC : PySem.W.typeIn K (.ref C) = some (.type "type")
  hC : PySem.W.hasDictIn K C = true
  iC : PySem.W.isClsIn K C = true
  sC : PySem.W.subIn K (.ref C) (.ref C) = some true
  init : ∃ fI fd, PySem.W.findIn K (.ref C) "__init__" = some (some (.ref fI)) ∧ PySem.W.typeIn K (.ref fI) = some (.type "function") ∧ Binds K fd ["self", fld] [] ∧ Fun K "__init__" (x ++ ".__init__") (initS st) fI fd
theorem ErrFs.errI {x fld : Str} {C : Addr} {st : Stmt} (F : ErrFs K mg x fld C st) (ok : ∀ {fI fd}, Fun K "__init__" (x ++ ".__init__") (initS st) fI fd → FnOk P w K mg base CX0 1 fI fd ["self", fld] (spInit K fld)) : ErrI P w K mg base x fld C := by
  obtain ⟨fI, fd, h1, h2, h3, h4⟩ := F.init
  exact ⟨⟨F.cls, F.sa, F.eC, F.tC, F.kC⟩, F.g, F.no, ⟨fI, fd, h1, h2, h3, ok h4⟩, ⟨F.ga, F.gg, F.eC, F.hC⟩, exm_own F.eC F.iC F.tC F.sC⟩
end
theorem top_mk {K : PySem.W.Frag} {h : Heap} {mg : Str → Option Value} {x : Str} {st : Stmt} {ps : List Str} {f : Addr} {oc kV doc pm cdv ct : Value} {od an : Option Addr} {osl : Array (Option Value)} (X : K.In h) (G : h.Ns mainGlobals mg)
    (a : PySem.W.nsIn K mainGlobals x = some (some (.ref f))) (l : K.lookup f = some ⟨oc, od, .func (PySem.W.fnOf x x (defArgs st) (defBody st) (defScope st) .none kV doc pm an cdv ct), osl⟩) (c : PySem.W.codeIn K cdv x = true) (k : PySem.W.keepIn K (.ref f) = true)
    (hb : ∀ (kV doc pm : Value) (an : Option Addr) (cdv ct : Value) (us : List Value), us.length = ps.length → bindArgs (PySem.W.fnOf x x (defArgs st) (defBody st) (defScope st) .none kV doc pm an cdv ct) ⟨us, []⟩ = pure (ps.zip us)) : Top K mg x st ps :=
  ⟨f, _, PySem.W.mg_of X G a, fun_mk l c k, (fun_mk l c k).binds hb⟩
abbrev TopX {K : PySem.W.Frag} {h : Heap} (_ : K.In h) (mg : Str → Option Value) (x : Str) (st : Stmt) (ps : List Str) : Prop := Top K mg x st ps
abbrev CtX {K : PySem.W.Frag} {h : Heap} (_ : K.In h) (mg : Str → Option Value) (x : Str) (zs : List Str) : Prop := Ct K mg x zs
abbrev ErrX {K : PySem.W.Frag} {h : Heap} (_ : K.In h) (mg : Str → Option Value) (x fld : Str) (C : Addr) (st : Stmt) : Prop := ErrFs K mg x fld C st
abbrev NoX {K : PySem.W.Frag} {h : Heap} (_ : K.In h) (mg : Str → Option Value) (x : Str) (C : Addr) : Prop := Err0 K mg x C
theorem cn_mk {K : PySem.W.Frag} {h : Heap} {mg : Str → Option Value} {x : Str} {i : Int} {v : Value} (X : K.In h) (G : h.Ns mainGlobals mg) (a : PySem.W.nsIn K mainGlobals x = some (some v)) (b : ∃ t, v = .int i t) : Cn mg x i := by
  obtain ⟨t, rfl⟩ := b
  exact ⟨t, PySem.W.mg_of X G a⟩
theorem cs_mk {K : PySem.W.Frag} {h : Heap} {mg : Str → Option Value} {x z : Str} {v : Value} (X : K.In h) (G : h.Ns mainGlobals mg) (a : PySem.W.nsIn K mainGlobals x = some (some v)) (b : ∃ t, v = .str z t) : Cs mg x z := by
  obtain ⟨t, rfl⟩ := b
  exact ⟨t, PySem.W.mg_of X G a⟩
theorem ct_mk {K : PySem.W.Frag} {h : Heap} {mg : Str → Option Value} {x : Str} {zs : List Str} {J : Addr} {o : Obj} (X : K.In h) (G : h.Ns mainGlobals mg) (a : PySem.W.nsIn K mainGlobals x = some (some (.ref J))) (l : K.lookup J = some o)
    (b : ∃ (its : Array Value) (n : Nat), o.cls = .type "tuple" ∧ o.data = .seq its n ∧ its.size ≤ sizeLine ∧ Vals (zs.map V.str) its.toList) : Ct K mg x zs := by
  obtain ⟨its, n, h1, h2, h3, h4⟩ := b
  exact ⟨J, PySem.W.mg_of X G a, fun H => .inr ⟨o, its, n, l, h1, h2, h3, h4⟩⟩
theorem init_mk {K : PySem.W.Frag} {x fld : Str} {C fI : Addr} {st : Stmt} {oc kV doc pm cdv ct : Value} {od an : Option Addr} {osl : Array (Option Value)} (a : PySem.W.findIn K (.ref C) "__init__" = some (some (.ref fI))) (t : PySem.W.typeIn K (.ref fI) = some (.type "function"))
    (l : K.lookup fI = some ⟨oc, od, .func (PySem.W.fnOf "__init__" (x ++ ".__init__") (defArgs (initS st)) (defBody (initS st)) (defScope (initS st)) .none kV doc pm an cdv ct), osl⟩) (c : PySem.W.codeIn K cdv (x ++ ".__init__") = true) (k : PySem.W.keepIn K (.ref fI) = true)
    (hb : ∀ (kV doc pm : Value) (an : Option Addr) (cdv ct : Value) (us : List Value), us.length = (["self", fld] : List Str).length → bindArgs (PySem.W.fnOf "__init__" (x ++ ".__init__") (defArgs (initS st)) (defBody (initS st)) (defScope (initS st)) .none kV doc pm an cdv ct) ⟨us, []⟩ = pure ((["self", fld] : List Str).zip us)) :
    ∃ fI fd, PySem.W.findIn K (.ref C) "__init__" = some (some (.ref fI)) ∧ PySem.W.typeIn K (.ref fI) = some (.type "function") ∧ Binds K fd ["self", fld] [] ∧ Fun K "__init__" (x ++ ".__init__") (initS st) fI fd :=
  ⟨fI, _, a, t, (fun_mk l c k).binds hb, fun_mk l c k⟩
theorem err_mk {K : PySem.W.Frag} {h : Heap} {mg : Str → Option Value} {x fld : Str} {C N : Addr} {st : Stmt} {nm q : Str} {bs bm sub : List Value} {sn : List Str} {ab : Bool} {col : Option Bool} {dd : Option Addr} {k0 k1 k2 k3 k5 : Option Value} (X : K.In h) (G : h.Ns mainGlobals mg)
    (a : PySem.W.nsIn K mainGlobals x = some (some (.ref C))) (xL : K.lookup C = some (excClassObj nm q C N bs bm true sn sub ab col dd k0 k1 k2 k3 k5 "ValueError.__new__")) (rv : PySem.HandSPX.refsVE bm = true)
    (sa : PySem.W.findIn K (.ref C) "__setattr__" = some (some (.builtin "object.__setattr__"))) (ga : PySem.W.findIn K (.ref C) "__getattribute__" = some (some (.builtin "BaseException.__getattribute__"))) (gg : PySem.W.findIn K (.ref C) "__getattr__" = some none) (no : PySem.W.findIn K (.ref C) fld = some none)
    (kC : PySem.W.keepIn K (.ref C) = true) (eC : PySem.W.subIn K (.ref C) (.type "BaseException") = some true) (tC : PySem.W.typeIn K (.ref C) = some (.type "type")) (hC : PySem.W.hasDictIn K C = true) (iC : PySem.W.isClsIn K C = true) (sC : PySem.W.subIn K (.ref C) (.ref C) = some true)
    {fI : Addr} {oc kV doc pm cdv ct : Value} {od an : Option Addr} {osl : Array (Option Value)} (i1 : PySem.W.findIn K (.ref C) "__init__" = some (some (.ref fI))) (i2 : PySem.W.typeIn K (.ref fI) = some (.type "function"))
    (i3 : K.lookup fI = some ⟨oc, od, .func (PySem.W.fnOf "__init__" (x ++ ".__init__") (defArgs (initS st)) (defBody (initS st)) (defScope (initS st)) .none kV doc pm an cdv ct), osl⟩) (i4 : PySem.W.codeIn K cdv (x ++ ".__init__") = true) (i5 : PySem.W.keepIn K (.ref fI) = true)
    (hb : ∀ (kV doc pm : Value) (an : Option Addr) (cdv ct : Value) (us : List Value), us.length = (["self", fld] : List Str).length → bindArgs (PySem.W.fnOf "__init__" (x ++ ".__init__") (defArgs (initS st)) (defBody (initS st)) (defScope (initS st)) .none kV doc pm an cdv ct) ⟨us, []⟩ = pure ((["self", fld] : List Str).zip us)) : ∃ C, ErrFs K mg x fld C st :=
  ⟨C, PySem.W.mg_of X G a, ⟨_, _, _, _, _, _, _, _, _, _, _, _, _, _, _, xL, rv⟩, sa, ga, gg, no, kC, eC, tC, hC, iC, sC, init_mk i1 i2 i3 i4 i5 hb⟩
theorem no_mk {K : PySem.W.Frag} {h : Heap} {mg : Str → Option Value} {x : Str} {C : Addr} (X : K.In h) (G : h.Ns mainGlobals mg) (a : PySem.W.nsIn K mainGlobals x = some (some (.ref C)))
    (qx : PySem.W.excIn K C [.type "ValueError", .type "Exception", .type "BaseException", .type "object"] "ValueError.__new__" = true) (kC : PySem.W.keepIn K (.ref C) = true) (eC : PySem.W.subIn K (.ref C) (.type "BaseException") = some true) (tC : PySem.W.typeIn K (.ref C) = some (.type "type")) (iC : PySem.W.isClsIn K C = true)
    (sC : PySem.W.subIn K (.ref C) (.ref C) = some true) : ∃ C, Err0 K mg x C := ⟨C, qx, PySem.W.mg_of X G a, kC, eC, tC, exm_own eC iC tC sC⟩
abbrev ErrE {K : PySem.W.Frag} {h : Heap} (_ : K.In h) (mg : Str → Option Value) (x fld : Str) (st : Stmt) : Prop := ∃ C, ErrFs K mg x fld C st
abbrev NoE {K : PySem.W.Frag} {h : Heap} (_ : K.In h) (mg : Str → Option Value) (x : Str) : Prop := ∃ C, Err0 K mg x C

/-! ### methods, properties, __init__ -/
theorem meth_mk {K : PySem.W.Frag} {C f : Addr} {m q : Str} {st : Stmt} {ps : List Str} {oc kV doc pm cdv ct : Value} {od an : Option Addr} {osl : Array (Option Value)} (a : PySem.W.findIn K (.ref C) m = some (some (.ref f))) (i : PySem.W.isFn K (.ref f) = true)
    (l : K.lookup f = some ⟨oc, od, .func (PySem.W.fnOf m q (defArgs st) (defBody st) (defScope st) .none kV doc pm an cdv ct), osl⟩) (c : PySem.W.codeIn K cdv q = true) (k : PySem.W.keepIn K (.ref f) = true)
    (hb : ∀ (kV doc pm : Value) (an : Option Addr) (cdv ct : Value) (us : List Value), us.length = ps.length → bindArgs (PySem.W.fnOf m q (defArgs st) (defBody st) (defScope st) .none kV doc pm an cdv ct) ⟨us, []⟩ = pure (ps.zip us)) : MethF K C m q st ps :=
  ⟨⟨f, _, ⟨a, i, k⟩, (fun_mk l c k).binds hb, fun_mk l c k⟩⟩
theorem prop_mk {K : PySem.W.Frag} {C p f : Addr} {m q : Str} {st : Stmt} {rest : List Value} {oc kV doc pm cdv ct : Value} {od an : Option Addr} {osl : Array (Option Value)} (a : PySem.W.findIn K (.ref C) m = some (some (.ref p)))
    (g : PySem.W.specialIn K (.ref p) "__get__" = some (some (.builtin "property.__get__"))) (t : PySem.W.takesIn K (.ref p) = some true) (rc : PySem.W.recIn K p "property" = some (.ref f :: rest))
    (l : K.lookup f = some ⟨oc, od, .func (PySem.W.fnOf m q (defArgs st) (defBody st) (defScope st) .none kV doc pm an cdv ct), osl⟩) (c : PySem.W.codeIn K cdv q = true) (k : PySem.W.keepIn K (.ref f) = true)
    (hb : ∀ (kV doc pm : Value) (an : Option Addr) (cdv ct : Value) (us : List Value), us.length = (["self"] : List Str).length → bindArgs (PySem.W.fnOf m q (defArgs st) (defBody st) (defScope st) .none kV doc pm an cdv ct) ⟨us, []⟩ = pure ((["self"] : List Str).zip us)) : PropF K C m q st :=
  ⟨⟨p, f, _, ⟨a, g, t, rest, rc⟩, (fun_mk l c k).binds hb, fun_mk l c k⟩⟩
theorem cinit_mk {K : PySem.W.Frag} {mg : Str → Option Value} {C f : Addr} {x : Str} {st : Stmt} {ps : List Str} {oc kV doc pm cdv ct : Value} {od an : Option Addr} {osl : Array (Option Value)} (g : mg x = some (.ref C)) (mk : PySem.W.makesIn K C = true) (kc : PySem.W.keepIn K (.ref C) = true) (a : PySem.W.findIn K (.ref C) "__init__" = some (some (.ref f))) (i : PySem.W.isFn K (.ref f) = true)
    (l : K.lookup f = some ⟨oc, od, .func (PySem.W.fnOf "__init__" (x ++ ".__init__") (defArgs st) (defBody st) (defScope st) .none kV doc pm an cdv ct), osl⟩) (c : PySem.W.codeIn K cdv (x ++ ".__init__") = true) (k : PySem.W.keepIn K (.ref f) = true)
    (hb : ∀ (kV doc pm : Value) (an : Option Addr) (cdv ct : Value) (us : List Value), us.length = ps.length → bindArgs (PySem.W.fnOf "__init__" (x ++ ".__init__") (defArgs st) (defBody st) (defScope st) .none kV doc pm an cdv ct) ⟨us, []⟩ = pure (ps.zip us)) : InitF K mg C x st ps :=
  ⟨⟨f, _, g, ⟨mk, a, i, kc⟩, (fun_mk l c k).binds hb, fun_mk l c k⟩⟩
/-- the class at C stands under x -/
structure ClsA (K : PySem.W.Frag) (mg : Str → Option Value) (x : Str) (C : Addr) : Prop where
  g : mg x = some (.ref C)
  cl : Cls K C
  mks : PySem.W.makesIn K C = true
  kc : PySem.W.keepIn K (.ref C) = true
theorem cls_mk {K : PySem.W.Frag} {h : Heap} {mg : Str → Option Value} {x : Str} {C : Addr} (X : K.In h) (G : h.Ns mainGlobals mg) (a : PySem.W.nsIn K mainGlobals x = some (some (.ref C)))
    (pg : PySem.W.plainGet K C Str.empty = true) (hd : PySem.W.hasDictIn K C = true) (po : PySem.W.plainOver K C = true) (sa : PySem.W.findIn K (.ref C) "__setattr__" = some (some (.builtin "object.__setattr__"))) (mk : PySem.W.makesIn K C = true) (kc : PySem.W.keepIn K (.ref C) = true) : ∃ C, ClsA K mg x C :=
  ⟨C, ⟨PySem.W.mg_of X G a, ⟨pg, hd, po, sa⟩, mk, kc⟩⟩
theorem one_ref {K : PySem.W.Frag} {h : Heap} {mg : Str → Option Value} {x : Str} {C D : Addr} (X : K.In h) (G : h.Ns mainGlobals mg) (g : mg x = some (.ref C)) (a : PySem.W.nsIn K mainGlobals x = some (some (.ref D))) : D = C := by
  have e := (PySem.W.mg_of X G a).symm.trans g
  cases e
  rfl
theorem noattr_mk {K : PySem.W.Frag} {h : Heap} {mg : Str → Option Value} {x f : Str} {C D : Addr} (X : K.In h) (G : h.Ns mainGlobals mg) (g : mg x = some (.ref C)) (a : PySem.W.nsIn K mainGlobals x = some (some (.ref D))) (n : PySem.W.findIn K (.ref D) f = some none) : NoAttr K C f := one_ref X G g a ▸ n
theorem meth_at {K : PySem.W.Frag} {h : Heap} {mg : Str → Option Value} {x : Str} {C D f : Addr} {m q : Str} {st : Stmt} {ps : List Str} {oc kV doc pm cdv ct : Value} {od an : Option Addr} {osl : Array (Option Value)} (X : K.In h) (G : h.Ns mainGlobals mg) (g : mg x = some (.ref C)) (a0 : PySem.W.nsIn K mainGlobals x = some (some (.ref D)))
    (a : PySem.W.findIn K (.ref D) m = some (some (.ref f))) (i : PySem.W.isFn K (.ref f) = true) (l : K.lookup f = some ⟨oc, od, .func (PySem.W.fnOf m q (defArgs st) (defBody st) (defScope st) .none kV doc pm an cdv ct), osl⟩) (c : PySem.W.codeIn K cdv q = true) (k : PySem.W.keepIn K (.ref f) = true)
    (hb : ∀ (kV doc pm : Value) (an : Option Addr) (cdv ct : Value) (us : List Value), us.length = ps.length → bindArgs (PySem.W.fnOf m q (defArgs st) (defBody st) (defScope st) .none kV doc pm an cdv ct) ⟨us, []⟩ = pure (ps.zip us)) : MethF K C m q st ps := one_ref X G g a0 ▸ meth_mk a i l c k hb
theorem prop_at {K : PySem.W.Frag} {h : Heap} {mg : Str → Option Value} {x : Str} {C D p f : Addr} {m q : Str} {st : Stmt} {rest : List Value} {oc kV doc pm cdv ct : Value} {od an : Option Addr} {osl : Array (Option Value)} (X : K.In h) (G : h.Ns mainGlobals mg) (g : mg x = some (.ref C)) (a0 : PySem.W.nsIn K mainGlobals x = some (some (.ref D)))
    (a : PySem.W.findIn K (.ref D) m = some (some (.ref p))) (gt : PySem.W.specialIn K (.ref p) "__get__" = some (some (.builtin "property.__get__"))) (t : PySem.W.takesIn K (.ref p) = some true) (rc : PySem.W.recIn K p "property" = some (.ref f :: rest))
    (l : K.lookup f = some ⟨oc, od, .func (PySem.W.fnOf m q (defArgs st) (defBody st) (defScope st) .none kV doc pm an cdv ct), osl⟩) (c : PySem.W.codeIn K cdv q = true) (k : PySem.W.keepIn K (.ref f) = true)
    (hb : ∀ (kV doc pm : Value) (an : Option Addr) (cdv ct : Value) (us : List Value), us.length = (["self"] : List Str).length → bindArgs (PySem.W.fnOf m q (defArgs st) (defBody st) (defScope st) .none kV doc pm an cdv ct) ⟨us, []⟩ = pure ((["self"] : List Str).zip us)) : PropF K C m q st := one_ref X G g a0 ▸ prop_mk a gt t rc l c k hb
theorem cinit_at {K : PySem.W.Frag} {h : Heap} {mg : Str → Option Value} {C D f : Addr} {x : Str} {st : Stmt} {ps : List Str} {oc kV doc pm cdv ct : Value} {od an : Option Addr} {osl : Array (Option Value)} (X : K.In h) (G : h.Ns mainGlobals mg) (A : ClsA K mg x C) (a0 : PySem.W.nsIn K mainGlobals x = some (some (.ref D))) (a : PySem.W.findIn K (.ref D) "__init__" = some (some (.ref f))) (i : PySem.W.isFn K (.ref f) = true)
    (l : K.lookup f = some ⟨oc, od, .func (PySem.W.fnOf "__init__" (x ++ ".__init__") (defArgs st) (defBody st) (defScope st) .none kV doc pm an cdv ct), osl⟩) (c : PySem.W.codeIn K cdv (x ++ ".__init__") = true) (k : PySem.W.keepIn K (.ref f) = true)
    (hb : ∀ (kV doc pm : Value) (an : Option Addr) (cdv ct : Value) (us : List Value), us.length = ps.length → bindArgs (PySem.W.fnOf "__init__" (x ++ ".__init__") (defArgs st) (defBody st) (defScope st) .none kV doc pm an cdv ct) ⟨us, []⟩ = pure (ps.zip us)) : InitF K mg C x st ps := cinit_mk A.g A.mks A.kc (one_ref X G A.g a0 ▸ a) i l c k hb
abbrev NoAttrX {K : PySem.W.Frag} {h : Heap} (_ : K.In h) (C : Addr) (f : Str) : Prop := NoAttr K C f
abbrev ExmNoX {K : PySem.W.Frag} {h : Heap} (_ : K.In h) (C D : Addr) : Prop := PySem.W.exmOne K (.ref C) (.ref D) = some false
abbrev ClsE {K : PySem.W.Frag} {h : Heap} (_ : K.In h) (mg : Str → Option Value) (x : Str) : Prop := ∃ C, ClsA K mg x C
abbrev InitFX {K : PySem.W.Frag} {h : Heap} (_ : K.In h) (mg : Str → Option Value) (C : Addr) (x : Str) (st : Stmt) (ps : List Str) : Prop := InitF K mg C x st ps
abbrev PropFX {K : PySem.W.Frag} {h : Heap} (_ : K.In h) (C : Addr) (m q : Str) (st : Stmt) : Prop := PropF K C m q st
abbrev MethFX {K : PySem.W.Frag} {h : Heap} (_ : K.In h) (C : Addr) (m q : Str) (st : Stmt) (ps : List Str) : Prop := MethF K C m q st ps
/-- one error is no other -/
theorem exm_no {K : PySem.W.Frag} {h : Heap} {mg : Str → Option Value} {x y : Str} {C1 C2 S T : Addr} (X : K.In h) (G : h.Ns mainGlobals mg) (e1 : mg x = some (.ref C1)) (e2 : mg y = some (.ref C2)) (a1 : PySem.W.nsIn K mainGlobals x = some (some (.ref T))) (a2 : PySem.W.nsIn K mainGlobals y = some (some (.ref S)))
    (h1 : PySem.W.subIn K (.ref S) (.type "BaseException") = some true) (h2 : PySem.W.isClsIn K S = true) (h3 : PySem.W.typeIn K (.ref S) = some (.type "type")) (h4 : PySem.W.subIn K (.ref T) (.ref S) = some false) : PySem.W.exmOne K (.ref C1) (.ref C2) = some false := by
  rw [← one_ref X G e1 a1, ← one_ref X G e2 a2]
  exact exm_not h1 h2 h3 h4
/-! ### a law with lambdas -/
def spLam (K : PySem.W.Frag) (Pt : Addr) : Sp := fun vs H Q _ => ∃ (l : Addr) (ns : List Int), vs = [.ref l] ∧ SqL K H l (ns.map V.int) ∧ Tabs [(Pt, q_lam)] H ∧ ∀ H', Q (.bl true) H'
theorem lam_fn {P : Program} {w : World} {K : PySem.W.Frag} {mg : Str → Option Value} {base : Heap} {c Pt : Addr} {lvl : Nat} {N : List Str} {st : Stmt} (S : FnScope N ["script"] (defScope st)) {fa : Addr} {oc dV kV doc pm ct : Value} {an od : Option Addr} {osl : Array (Option Value)}
    (lk : K.lookup fa = some ⟨oc, od, .func (PySem.W.fnOf "law" "law" (defArgs st) (defBody st) (defScope st) dV kV doc pm an (.ref c) ct), osl⟩) (hcd : PySem.W.codeIn K (.ref c) "law" = true)
    (hall : ∀ (A : Around) (outer : List Env) (s0 : Shared) (H0 : Hp) (E0' : XK), Room lvl (cxOf CX0 P w K mg base N "law" (defScope st) fa (.ref c) A outer s0 H0 E0').A → ∃ t, PSs (cxOf CX0 P w K mg base N "law" (defScope st) fa (.ref c) A outer s0 H0 E0') (defBody st) t ∧ ∀ (D : Ends) (H : Hp) (vs : List V) (Q : VK), D.rt = Q → spLam K Pt vs H Q C8.E0 → t D (start N vs) H) :
    FnOk P w K mg base CX0 (lvl + 1) fa (PySem.W.fnOf "law" "law" (defArgs st) (defBody st) (defScope st) dV kV doc pm an (.ref c) ct) ["script"] (spLam K Pt) := by
  refine fn_of lk hcd S (fun vs H Q E h => ?_) fun A outer s H vs Q E hr h => ?_
  · obtain ⟨l, ns, rfl, _⟩ := h
    rfl
  · obtain ⟨t, ht, qt⟩ := hall A outer s H E hr
    exact ⟨t, ht, qt _ H vs Q rfl h⟩
theorem lam_at {l : PySem.W.OpenLaw} {w : World} {K : PySem.W.Frag} {h : Heap} {mg : Str → Option Value} {lvl : Nat} {fa f c Pt : Addr} {oc kV doc pm ct e : Value} {an od dd : Option Addr} {osl sl : Array (Option Value)} {vs : Array Value} {N : List Str} {st : Stmt} (S : FnScope N ["script"] (defScope st)) (X : K.In h) (hfa : mg "law" = some (.ref fa)) (own : OwnTab K fa h)
    (G : h.Ns mainGlobals mg) (a : PySem.W.nsIn K mainGlobals "law" = some (some (.ref f)))
    (lk : K.lookup f = some ⟨oc, od, .func (PySem.W.fnOf "law" "law" (defArgs st) (defBody st) (defScope st) .none kV doc pm an (.ref c) ct), osl⟩) (hcd : PySem.W.codeIn K (.ref c) "law" = true)
    (lc : K.lookup c = some ⟨e, dd, .fields vs, sl⟩) (lp : vs[11]? = some (.ref Pt)) (hh : ∀ K' : PySem.W.Frag, K'.lookup c = some ⟨e, dd, .fields vs, sl⟩ → PySem.W.codeHdIn K' c Pt = true) (np : K.lookup Pt = none) (hb : ∀ s u, BindsTo s (PySem.W.fnOf "law" "law" (defArgs st) (defBody st) (defScope st) .none kV doc pm an (.ref c) ct) ⟨[u], []⟩ [("script", u)])
    (hall : ∀ (base : Heap), TabB base mg c Pt → ∀ (A : Around) (outer : List Env) (s0 : Shared) (H0 : Hp) (E0' : XK), Room lvl (cxOf CX0 l.prog w K mg base N "law" (defScope st) f (.ref c) A outer s0 H0 E0').A → ∃ t, PSs (cxOf CX0 l.prog w K mg base N "law" (defScope st) f (.ref c) A outer s0 H0 E0') (defBody st) t ∧ ∀ (D : Ends) (H : Hp) (vs : List V) (Q : VK), D.rt = Q → spLam K Pt vs H Q C8.E0 → t D (start N vs) H) :
    LawAtS l w K CX0 (lvl + 1) 63 "script" mg fa h := by
  have ef := hfa.symm.trans (PySem.W.mg_of X G a)
  cases ef
  refine ⟨_, [(c, Pt)], spLam K Pt, fun p hp => ?_, fun p hp => ?_, fun p hp => ?_, hb, fun H a ns _ _ hH hS => ⟨a, ns, rfl, hS, fun p hp => ?_, fun _ => rfl⟩, fun base _ _ hB => lam_fn S lk hcd (hall base (hB _ List.mem_cons_self))⟩
  · rw [List.mem_singleton.mp hp]
    exact own c Pt _ _ e dd vs sl lk rfl rfl lc lp
  · rw [List.mem_singleton.mp hp]
    exact np
  · rw [List.mem_singleton.mp hp]
    exact PySem.W.codeHd_of_K X (hh K lc)
  · rw [List.mem_singleton.mp hp]
    exact TabS.nil (hH _ List.mem_cons_self)
end Lt

set_option Elab.async false
set_option linter.all false
set_option maxRecDepth 100000
set_option maxHeartbeats 1000000
namespace Lt
open PySem PySem.Spec PyProof.Rows L2 NdefX LamX LmX
section
variable {P : Program} {w : World} {K : PySem.W.Frag} {mg : Str → Option Value} {base : Heap}
theorem init_BadLock {fI : Addr} {fd : FuncData} (F : Fun K "__init__" "BadLock.__init__" (initS s_BadLock) fI fd) : FnOk P w K mg base CX0 1 fI fd ["self", "place"] (spInit K "place") := by
  refine F.ok (N := ["self", "place"]) ⟨rfl, rfl, rfl, by decide +kernel, rfl, by decide +kernel, by decide +kernel⟩ (fun vs H Q E h => ?_) (fun cdv A outer s H vs Q E hr h => ?_)
  · obtain ⟨a, C, v, rfl, _⟩ := h
    rfl
  · obtain ⟨a, C, v, rfl, ox, no, ha, q⟩ := h
    exact ⟨_, pss_one (ps_ost (pv 0) (pv 1)), _, rfl, _, rfl, a, C, rfl, ox, no, .inl ⟨ha, fun dx h1 h2 => q dx h1 h2⟩⟩
theorem init_BadRow {fI : Addr} {fd : FuncData} (F : Fun K "__init__" "BadRow.__init__" (initS s_BadRow) fI fd) : FnOk P w K mg base CX0 1 fI fd ["self", "place"] (spInit K "place") := by
  refine F.ok (N := ["self", "place"]) ⟨rfl, rfl, rfl, by decide +kernel, rfl, by decide +kernel, by decide +kernel⟩ (fun vs H Q E h => ?_) (fun cdv A outer s H vs Q E hr h => ?_)
  · obtain ⟨a, C, v, rfl, _⟩ := h
    rfl
  · obtain ⟨a, C, v, rfl, ox, no, ha, q⟩ := h
    exact ⟨_, pss_one (ps_ost (pv 0) (pv 1)), _, rfl, _, rfl, a, C, rfl, ox, no, .inl ⟨ha, fun dx h1 h2 => q dx h1 h2⟩⟩
theorem init_TooMany {fI : Addr} {fd : FuncData} (F : Fun K "__init__" "TooMany.__init__" (initS s_TooMany) fI fd) : FnOk P w K mg base CX0 1 fI fd ["self", "most"] (spInit K "most") := by
  refine F.ok (N := ["self", "most"]) ⟨rfl, rfl, rfl, by decide +kernel, rfl, by decide +kernel, by decide +kernel⟩ (fun vs H Q E h => ?_) (fun cdv A outer s H vs Q E hr h => ?_)
  · obtain ⟨a, C, v, rfl, _⟩ := h
    rfl
  · obtain ⟨a, C, v, rfl, ox, no, ha, q⟩ := h
    exact ⟨_, pss_one (ps_ost (pv 0) (pv 1)), _, rfl, _, rfl, a, C, rfl, ox, no, .inl ⟨ha, fun dx h1 h2 => q dx h1 h2⟩⟩
end
/-- what the top leaves, but the law -/
structure TopFs (K : PySem.W.Frag) (mg : Str → Option Value) (C_BadLock : Addr) (C_BadRow : Addr) (C_TooMany : Addr) (C_BadTurn : Addr) (C_BadNumber : Addr) (C_Dial : Addr) : Prop where
  bi : Bi mg
  c_MOST_TURNS : Cn mg "MOST_TURNS" 240
  c_MOST_GIVEN : Cn mg "MOST_GIVEN" 4
  c_FEWEST_PLACES : Cn mg "FEWEST_PLACES" 2
  c_MOST_PLACES : Cn mg "MOST_PLACES" 9
  c_MOST_INPUTS : Cn mg "MOST_INPUTS" 6
  e_BadLock : ErrFs K mg "BadLock" "place" C_BadLock s_BadLock
  e_BadRow : ErrFs K mg "BadRow" "place" C_BadRow s_BadRow
  e_TooMany : ErrFs K mg "TooMany" "most" C_TooMany s_TooMany
  e_BadTurn : Err0 K mg "BadTurn" C_BadTurn
  e_BadNumber : Err0 K mg "BadNumber" C_BadNumber
  n_BadRow_BadTurn : PySem.W.exmOne K (.ref C_BadRow) (.ref C_BadTurn) = some false
  n_BadNumber_BadTurn : PySem.W.exmOne K (.ref C_BadNumber) (.ref C_BadTurn) = some false
  n_BadNumber_BadRow : PySem.W.exmOne K (.ref C_BadNumber) (.ref C_BadRow) = some false
  k_Dial : ClsA K mg "Dial" C_Dial
  a_Dial_made : NoAttr K C_Dial "_made"
  a_Dial_stood : NoAttr K C_Dial "_stood"
  i_Dial : InitF K mg C_Dial "Dial" (inClass s_Dial 0) ["self", "lock"]
  m_Dial_turn : MethF K C_Dial "turn" "Dial.turn" (inClass s_Dial 1) ["self", "turn"]
  m_Dial_step : MethF K C_Dial "step" "Dial.step" (inClass s_Dial 2) ["self", "step", "bits"]
  m_Dial_undo : MethF K C_Dial "undo" "Dial.undo" (inClass s_Dial 3) ["self"]
  m_Dial_home : MethF K C_Dial "home" "Dial.home" (inClass s_Dial 4) ["self"]
  p_Dial_stands : PropF K C_Dial "stands" "Dial.stands" (inClass s_Dial 5)
  p_Dial_done : PropF K C_Dial "done" "Dial.done" (inClass s_Dial 6)
  f_is_number : Top K mg "is_number" s_is_number ["value"]
  f_are_numbers : Top K mg "are_numbers" s_are_numbers ["value"]
  f_is_permutation : Top K mg "is_permutation" s_is_permutation ["value", "size"]
  f_still_of : Top K mg "still_of" s_still_of ["size"]
  f_product_of : Top K mg "product_of" s_product_of ["one", "other"]
  f_back_of : Top K mg "back_of" s_back_of ["turn"]
  f_words_of : Top K mg "words_of" s_words_of ["makers", "size"]
  f_check_lock : Top K mg "check_lock" s_check_lock ["lock"]
  f_made_words : Top K mg "made_words" s_made_words ["lock"]
  f_is_turn : Top K mg "is_turn" s_is_turn ["made", "value"]
  f_check_turn : Top K mg "check_turn" s_check_turn ["made", "turn"]
  f_is_step : Top K mg "is_step" s_is_step ["made", "inputs", "value"]
  f_are_bits : Top K mg "are_bits" s_are_bits ["value"]
  f_law_taken : Top K mg "_law_taken" s_law_taken ["row", "many"]
  f_law_pick : Top K mg "_law_pick" s_law_pick ["row", "things"]
  f_law_alike : Top K mg "_law_alike" s_law_alike ["found", "due"]
  f_law_permutation : Top K mg "_law_permutation" s_law_permutation ["row", "places"]
  f_law_behind : Top K mg "_law_behind" s_law_behind ["one", "other"]
  f_law_span : Top K mg "_law_span" s_law_span ["places", "given"]
  f_law_known : Top K mg "_law_known" s_law_known ["row", "kinds"]
  f_law_lock : Top K mg "_law_lock" s_law_lock ["row", "kinds"]
end Lt

set_option Elab.async false
set_option linter.all false
set_option maxRecDepth 100000
set_option maxHeartbeats 4000000
namespace Lt
open PySem PySem.Spec PyProof.Rows L2
/-! ### ascending -/
def iN (t : List Nat) : List Int := t.map Int.ofNat
def cd (t : List Nat) : Int := TS.code 9 (iN t)
def Asc (ts : List (List Nat)) : Prop := ts.Pairwise fun x y => cd x ≤ cd y
theorem iN_len (t : List Nat) : (iN t).length = t.length := List.length_map ..
theorem iN_inj {s t : List Nat} (h : iN s = iN t) : s = t := (List.map_inj_right ofNat_inj).mp h
theorem bd_iN {n : Nat} {t : List Nat} (h : IsP n t) (hn : n ≤ 9) : TS.Bd 9 (iN t) := fun m hm => by
  obtain ⟨i, hi, rfl⟩ := List.mem_map.mp hm
  have := h.lt i hi
  exact ⟨Int.natCast_nonneg i, by show (i : Int) < 9; omega⟩
theorem code_inj : ∀ {x y : List Int}, x.length = y.length → TS.Bd 9 x → TS.Bd 9 y → TS.code 9 x = TS.code 9 y → x = y
  | [], [], _, _, _, _ => rfl
  | [], _ :: _, h, _, _, _ => by cases h
  | _ :: _, [], h, _, _, _ => by cases h
  | a :: x, b :: y, h, hx, hy, e => by
    have hl : x.length = y.length := Nat.succ.inj h
    rcases Int.lt_trichotomy a b with z | z | z
    · have := TS.code_lt hl hx.tail hy.tail z
      omega
    · subst z
      have e2 : TS.code 9 x = TS.code 9 y := by
        have e' : a * 9 ^ x.length + TS.code 9 x = a * 9 ^ y.length + TS.code 9 y := e
        rw [hl] at e'
        omega
      rw [code_inj hl hx.tail hy.tail e2]
    · have := TS.code_lt hl.symm hy.tail hx.tail z
      omega
theorem cd_inj {n : Nat} {s t : List Nat} (hs : IsP n s) (ht : IsP n t) (hn : n ≤ 9) (e : cd s = cd t) : s = t :=
  iN_inj (code_inj (by rw [iN_len, iN_len, hs.len, ht.len]) (bd_iN hs hn) (bd_iN ht hn) e)
/-- an ascending list is told by its members -/
theorem asc_one {n : Nat} {a b : List (List Nat)} (hn : n ≤ 9) (ha : ∀ t ∈ a, IsP n t) (p : a.Perm b) (h1 : Asc a) (h2 : Asc b) : a = b :=
  List.Perm.eq_of_pairwise (fun x y hx hy e1 e2 => cd_inj (ha x hx) (ha y (p.mem_iff.mpr hy)) hn (Int.le_antisymm e1 e2)) h1 h2 p
/-- a lock that is asked of -/
structure Good (H : Hp) (v : V) (ls : List (List Nat)) (n : Nat) : Prop where
  tt : TT H v ls
  gl : GL ls n
  few : Few ls n 63
theorem Good.tm {H H' : Hp} {v : V} {ls : List (List Nat)} {n : Nat} (h : Good H v ls n) (e : Tm H H') : Good H' v ls n := ⟨h.tt.tm e, h.gl, h.few⟩
theorem Good.same {H H' : Hp} {v : V} {ls : List (List Nat)} {n : Nat} (h : Good H v ls n) (e : Same H H') : Good H' v ls n := h.tm (.of e)
theorem Good.isP {H : Hp} {v : V} {ls : List (List Nat)} {n : Nat} (h : Good H v ls n) {t : List Nat} (m : Mk ls n t) : IsP n t := m.isP h.gl.2.2.2.2
theorem Good.mem {H : Hp} {v : V} {ls : List (List Nat)} {n : Nat} (h : Good H v ls n) (t : List Nat) : t ∈ (LL ls n).map (·.1) ↔ Mk ls n t := LL_mem h.few (by omega) t
section
variable {P : Program} {w : World} {K : PySem.W.Frag} {mg : Str → Option Value} {base : Heap} {CL CM CT : Addr}
theorem Good.wd {H : Hp} {v : V} {ls : List (List Nat)} {n : Nat} (g : Good H v ls n) {L : List (List Nat × List Nat)} (hL : Wd ls n L) : L = LL ls n := by
  obtain ⟨a, e1, e2, _⟩ := g.few.wd (by omega) hL
  rw [e1] at e2 ⊢
  exact LL_of g.few (by omega) e2
theorem tlen {t : List Nat} {m : Nat} (h : t.length ≤ m) : ∀ ds, dT t = .tuple ds → ds.length ≤ m := fun ds e => by
  injection e with e
  subst e
  rw [List.length_map]
  exact h
theorem isTurn_mk {H : Hp} {v : V} {ls : List (List Nat)} {n : Nat} (g : Good H v ls n) (t : List Nat) : (isTurnD (LL ls n) (dT t) = true ↔ Mk ls n t) := by
  rw [isTurnD_dT, decide_eq_true_iff]
  exact g.mem t
theorem isTurn_no {H : Hp} {v : V} {ls : List (List Nat)} {n : Nat} (g : Good H v ls n) {t : List Nat} (e : isTurnD (LL ls n) (dT t) = false) : ¬ Mk ls n t := fun z => by
  rw [(isTurn_mk g t).mpr z] at e
  cases e
/-! ### all_turns -/
def spAll (CL CM : Addr) : Sp := fun vs H Q E => ∃ v, vs = [v] ∧ LockIn CL CM v H E (fun ls n => ∀ L, Wd ls n L → L.length ≤ 240 → L.length < 64 ∧ ∀ r H' ts, Same H H' → TT H' r ts → ts.Perm (L.map (·.1)) → Asc ts → Q r H')
/-- a tuple of turns that may be keys -/
def TTK (H : Hp) (v : V) (ts : List (List Nat)) : Prop := ∃ a xs, v = .ref a ∧ H a = some (.tup xs) ∧ Paired (TK H) xs ts
theorem TTK.tt {H : Hp} {v : V} {ts : List (List Nat)} (h : TTK H v ts) : TT H v ts := let ⟨a, xs, e, ha, p⟩ := h; ⟨a, xs, e, ha, paired_mono (fun _ _ r => r.tn) p⟩
def spAllK (CL CM : Addr) : Sp := fun vs H Q E => ∃ v, vs = [v] ∧ LockIn CL CM v H E (fun ls n => ∀ L, Wd ls n L → L.length ≤ 240 → L.length < 64 ∧ ∀ r H' ts, Same H H' → TTK H' r ts → ts.Perm (L.map (·.1)) → Asc ts → Q r H')
theorem keysI {H : Hp} {kvs : List (List Key × V)} {L : List (List Nat × List Nat)} (p : Paired (DE H) kvs L) : kvs.map (·.1) = (numL L).map fun k => k.map Sum.inl := by
  induction p with
  | nil => rfl
  | cons r _ ih =>
    rw [List.map_cons, ih, r.1, keyN_I]
    rfl
theorem wd_isP {ls : List (List Nat)} {n : Nat} (hg : ∀ g ∈ ls, IsP n g) {L : List (List Nat × List Nat)} (h : Wd ls n L) : ∀ x ∈ L, IsP n x.1 := fun x hx => by
  obtain ⟨a, rfl, _⟩ := h
  exact (qq_mk ls n a x.1 (List.mem_map.mpr ⟨x, hx, rfl⟩)).isP hg
/-- the bases of sorted ints are turns -/
theorem turns_back {L : List (List Nat × List Nat)} : ∀ {ks : List (List Int)}, (∀ k ∈ ks, k ∈ numL L) → ∃ ts : List (List Nat), ks = ts.map iN
  | [], _ => ⟨[], rfl⟩
  | k :: ks, h => by
    obtain ⟨x, _, e⟩ := List.mem_map.mp (h k List.mem_cons_self)
    obtain ⟨ts, e2⟩ := turns_back fun y hy => h y (List.mem_cons_of_mem _ hy)
    exact ⟨x.1 :: ts, by rw [e2, List.map_cons, ← e]; rfl⟩
theorem perm_iN {a b : List (List Nat)} (h : (a.map iN).Perm (b.map iN)) : a.Perm b := by
  have z := h.map fun k : List Int => k.map Int.toNat
  rw [List.map_map, List.map_map] at z
  have e : ∀ l : List (List Nat), l.map ((fun k : List Int => k.map Int.toNat) ∘ iN) = l := fun l => (List.map_congr_left (g := id) fun t _ => by
    show (t.map Int.ofNat).map Int.toNat = t
    rw [List.map_map]
    exact (List.map_congr_left (g := id) fun _ _ => rfl).trans (List.map_id t)).trans (List.map_id l)
  rw [e, e] at z
  exact z
theorem tns_of {H : Hp} : ∀ {bs : List Addr} {ts : List (List Nat)}, Paired (fun (b : Addr) k => H b = some (.tup (k.map V.int))) bs (ts.map iN) → Paired (TK H) (bs.map V.ref) ts
  | [], [], .nil => .nil
  | b :: bs, t :: ts, .cons r s => .cons ⟨b, rfl, by rw [r, nIs_int]; rfl⟩ (tns_of s)
end
end Lt

set_option Elab.async false
set_option linter.all false
set_option maxRecDepth 100000
set_option maxHeartbeats 1000000
/-! the methods of Dial -/
namespace Lt
open PySem PySem.Spec PyProof.Rows L2
structure DialT (K : PySem.W.Frag) (mg : Str → Option Value) (C : Addr) : Prop where
  cl : Cls K C
  nM : NoAttr K C "_made"
  nS : NoAttr K C "_stood"
  init : InitF K mg C "Dial" (mDial 0) ["self", "lock"]
  turn : MethF K C "turn" "Dial.turn" (mDial 1) ["self", "turn"]
  step : MethF K C "step" "Dial.step" (mDial 2) ["self", "step", "bits"]
  undo : MethF K C "undo" "Dial.undo" (mDial 3) ["self"]
  home : MethF K C "home" "Dial.home" (mDial 4) ["self"]
  stands : PropF K C "stands" "Dial.stands" (mDial 5)
  done : PropF K C "done" "Dial.done" (mDial 6)
theorem putF_dial (m l : Addr) : putF "_stood" (.ref l) (putF "_made" (.ref m) []) = dF m l := by
  show (if ("_made" : Str) = "_stood" then _ else (("_made" : Str), V.ref m) :: putF "_stood" (.ref l) []) = dF m l
  rw [if_neg (by decide +kernel)]
  rfl
/-- a lock of which a dial was made -/
structure Lk (ls : List (List Nat)) (n : Nat) : Prop where
  gl : GL ls n
  few : Few ls n 63
theorem Lk.isP {ls : List (List Nat)} {n : Nat} (h : Lk ls n) {t : List Nat} (m : Mk ls n t) : IsP n t := m.isP h.gl.2.2.2.2
theorem Lk.is {ls : List (List Nat)} {n : Nat} (h : Lk ls n) (t : List Nat) : (isTurnD (LL ls n) (dT t) = true ↔ Mk ls n t) := by
  rw [isTurnD_dT, decide_eq_true_iff]
  exact LL_mem h.few (by omega) t
theorem lock_head {H : Hp} {v : V} {ls : List (List Nat)} {n : Nat} (h : TT H v ls) (hg : GL ls n) : ∃ a xs b t, v = .ref a ∧ H a = some (.tup xs) ∧ atI xs 0 = some (.ref b) ∧ RT H b (nIs t) ∧ t.length = n := by
  obtain ⟨a, xs, b, rfl, ha, _, h0, t, hb, ht⟩ := h.head hg
  exact ⟨a, xs, b, t, rfl, ha, h0, hb, ht⟩
section
variable {P : Program} {w : World} {K : PySem.W.Frag} {mg : Str → Option Value} {base : Heap} {C CL CM CT CR CN : Addr}
def spDInit (C : Addr) : Sp := fun vs H Q _ => ∃ (p dx : Addr) (v : V) (ls : List (List Nat)) (n : Nat), vs = [.ref p, v] ∧ H p = some (.ins C dx []) ∧ TT H v ls ∧ Lk ls n ∧
  ∀ H' m l, StepR p H H' → H m = none → H l = none → DialAt H' C p m l ls n [List.range n] → Q .non H'
theorem sc_DInit : FnScope ["self", "lock"] ["self", "lock"] (defScope (mDial 0)) := ⟨rfl, rfl, rfl, by decide +kernel, rfl, by decide +kernel, by decide +kernel⟩
theorem has_DInit (T : DialT K mg C) (B : Bi mg) (hM : Has P w K mg base (L2.CX P w) 5 "made_words" ["lock"] (spMade CL CM)) (hS : Has P w K mg base CX0 1 "still_of" ["size"] spStill) : HasI P w K mg base (L2.CX P w) 6 C "Dial" ["self", "lock"] (spDInit C) := by
  refine T.init.okX sc_DInit (fun vs H Q E h => ?_) (fun f cdv A outer s H vs Q E hr h => ?_)
  · obtain ⟨p, dx, v, ls, n, rfl, _⟩ := h
    rfl
  · obtain ⟨p, dx, v, ls, n, rfl, hp, tt, lk, q⟩ := h
    have hr1 : Room 1 _ := hr.mono (by decide)
    refine ⟨_, pss_cons (ps_fld (pv 0) (pe_hasL hM hr (by rfl) (pa_cons (pv 1) pa_nil)) rfl)
      (pss_one (ps_fld (pv 0) (pe_lst (pa_cons (pe_has hS hr1 (by rfl) (pa_cons (pe_callB call_len_seq (by rfl) B.len PySem.boot_len (pa_cons (pe_ix ix_tup (pv 1) pe_int (fun _ _ => rfl)) pa_nil)) pa_nil)) pa_nil)) rfl)), ?_⟩
    have g : Good H v ls n := ⟨tt, lk.gl, lk.few⟩
    refine ⟨_, rfl, v, rfl, lockIn_good tt lk.gl lk.few (by omega) fun m H1 L s1 hm hw hL _ => ?_⟩
    have hL := g.wd hL
    subst hL
    have hp1 := s1 _ _ hp
    refine ⟨_, rfl, p, C, dx, [], rfl, hp1, T.cl, T.nM, by show 0 < 1000; decide, ?_⟩
    have t1 : Tm H1 (upd H1 p (.ins C dx (putF "_made" (.ref m) []))) := .mut hp1 (fun _ z => nomatch z) fun _ _ z => nomatch z
    obtain ⟨a, xs, b, t, rfl, ha, h0, hb, ht⟩ := lock_head (tt.tm ((Tm.of s1).trans t1)) lk.gl
    have hn := lk.gl.2.2.2.1
    refine ⟨_, rfl, a, xs, 0, .ref b, rfl, rfl, SqT.of ha, h0, b, _, rfl, .inr hb.sq, n, by rw [nIs_len, ht]; rfl, by omega, fun st H2 s2 hst => ?_⟩
    refine ⟨by show 1 ≤ sizeLine; decide, fun l hl => ?_⟩
    have s3 := same_new (o := .lst [st]) hl
    have hp3 := (s2.trans s3) _ _ (upd_same (H := H1) (a := p) (o := HO.ins C dx (putF "_made" (.ref m) [])))
    refine ⟨_, rfl, p, C, dx, _, rfl, hp3, T.cl, T.nS, by show 1 < 1000; decide, ?_⟩
    rw [putF_dial]
    have hmp : m ≠ p := (ne_of_none hp hm).symm
    obtain ⟨kvs, hk1, hk2⟩ := id hw
    have hk3 := (s2.trans s3) _ _ ((upd_ne hmp).trans hk1)
    have hlp : l ≠ p := (ne_of_none (s2 _ _ (upd_same (H := H1) (a := p) (o := HO.ins C dx (putF "_made" (.ref m) [])))) hl).symm
    have hln : H l = none := by
      cases e : H l with
      | none => rfl
      | some o =>
        have := s2 _ _ ((upd_ne (o := HO.ins C dx (putF "_made" (.ref m) [])) hlp).trans (s1 _ _ e))
        rw [hl] at this
        cases this
    have t4 : Tm (upd H2 l (.lst [st])) (upd (upd H2 l (.lst [st])) p (.ins C dx (dF m l))) := .mut hp3 (fun _ z => nomatch z) fun _ _ z => nomatch z
    refine q _ m l ((((StepR.of s1).trans (StepR.put p _ _)).trans (.of (s2.trans s3))).trans (StepR.put p _ _)) hm hln ⟨⟨dx, upd_same⟩, ?_, ⟨[st], (upd_ne hlp).trans upd_same, ?_⟩, fun t ht => ?_, by simp⟩
    · exact hw.tm (t1.trans ((Tm.of (s2.trans s3)).trans t4)) ((upd_ne hmp).trans (hk3.trans hk1.symm))
    · exact .cons (hst.tn.tm ((Tm.of s3).trans t4)) .nil
    · rw [List.mem_singleton.mp ht]
      exact .still n
/-! ### turn -/
def spDTurn (C CT : Addr) : Sp := fun vs H Q E => ∃ (p m l : Addr) (u : V) (ls : List (List Nat)) (n : Nat) (pa : List (List Nat)) (z t : List Nat), vs = [.ref p, u] ∧ DialAt H C p m l ls n (pa ++ [z]) ∧ Lk ls n ∧ pa.length ≤ 1000 ∧ TN H u t ∧ t.length ≤ 1000 ∧
  (Mk ls n t → ∀ r H', StepR l H H' → DialAt H' C p m l ls n (pa ++ [z, prod z t]) → TN H' r (prod z t) → Q r H') ∧ (¬ Mk ls n t → Bad0 CT H E)
theorem sc_DTurn : FnScope ["self", "turn"] ["self", "turn"] (defScope (mDial 1)) := ⟨rfl, rfl, rfl, by decide +kernel, rfl, by decide +kernel, by decide +kernel⟩
theorem has_DTurn (T : DialT K mg C) (hC : Has P w K mg base (L2.CX P w) 4 "check_turn" ["made", "turn"] (spCheckTurn CT)) (hP : Has P w K mg base CX0 1 "product_of" ["one", "other"] spProd) : HasM P w K mg base (L2.CX P w) 5 C "turn" ["self", "turn"] (spDTurn C CT) := by
  refine T.turn.okX sc_DTurn (fun vs H Q E h => ?_) (fun f cdv A outer s H vs Q E hr h => ?_)
  · obtain ⟨p, m, l, u, ls, n, pa, z, t, rfl, _⟩ := h
    rfl
  · obtain ⟨p, m, l, u, ls, n, pa, z, t, rfl, d, lk, hpl, hu, htl, qg, qb⟩ := h
    have hr1 : Room 1 _ := hr.mono (by decide)
    refine ⟨_, pss_cons (ps_expr (pe_hasX (E := E) hC hr (by rfl) (passes_call (takes_of rfl rfl rfl rfl) (fun _ _ _ _ h => h)) (pa_cons (pe_fld (pv 0) rfl) (pa_cons (pv 1) pa_nil))))
      (pss_cons (ps_expr (pe_bm PySem.F.plainAttrs_list PySem.F.slot_list_append PySem.F.type_list_append mt_append (pe_fld (pv 0) rfl) (pa_cons (pe_has hP hr1 (by rfl) (pa_cons (pe_ix ix_list (pe_fld (pv 0) rfl) (pe_un un_neg pe_int) (fun _ _ => rfl)) (pa_cons (pv 1) pa_nil))) pa_nil)))
      (pss_one (ps_ret (pe_ix ix_list (pe_fld (pv 0) rfl) (pe_un un_neg pe_int) (fun _ _ => rfl))))), ?_⟩
    obtain ⟨dx, e⟩ := d.ins
    refine ⟨_, rfl, p, C, dx, _, _, rfl, e, T.cl, T.nM, dF_made m l, _, rfl, m, LL ls n, u, dT t, rfl, d.made, hu.rp, tlen htl, fun yes H1 s1 => ?_, fun no => qb fun mk => ?_⟩
    · have mk := (lk.is t).mp yes
      have d1 := d.same s1
      have hu1 := hu.tm (.of s1)
      obtain ⟨dx, e⟩ := d1.ins
      obtain ⟨xs, hl, hx⟩ := d1.stood
      have zP := d.ok z (by simp)
      have tP := lk.isP mk
      obtain ⟨xs', x, rfl, hx1, hx2⟩ := paired_end hx
      have hxl := hx1.length
      refine ⟨_, rfl, p, C, dx, _, _, rfl, e, T.cl, T.nS, dF_stood m l, .inl ⟨rfl, _, SqL.of hl⟩, ?_⟩
      refine ⟨_, rfl, p, C, dx, _, _, rfl, e, T.cl, T.nS, dF_stood m l, 1, rfl, l, _, -1, x, rfl, rfl, SqL.of hl, atI_last _ _, _, rfl, pr_call hx2 hu1 zP tP (by have := lk.gl.2.2.2.1; omega) fun r H2 s2 hr2 => ?_⟩
      have hl2 := s2 _ _ hl
      refine ⟨l, _, _, rfl, rfl, hl2, by rw [sizeLine_eq, List.length_append, List.length_singleton]; omega, ?_⟩
      have d2 := d1.same s2
      obtain ⟨ys, hy, hyx⟩ := d2.stood
      have hyx : Paired (TN H2) (xs' ++ [x]) (pa ++ [z]) := by
        rw [hl2] at hy
        injection hy with hy
        injection hy with hy
        rw [hy]
        exact hyx
      have d3 : DialAt (upd H2 l (.lst (xs' ++ [x] ++ [r]))) C p m l ls n (pa ++ [z, prod z t]) := by
        refine d2.put ?_ (fun t' ht' => ?_) (by simp)
        · rw [show pa ++ [z, prod z t] = (pa ++ [z]) ++ [prod z t] by simp]
          exact Paired.app hyx (Paired.one hr2.tn)
        · simp only [List.mem_append, List.mem_cons, List.not_mem_nil, or_false] at ht'
          rcases ht' with h | h | h
          · exact d.ok t' (by simp [h])
          · rw [h]; exact zP
          · rw [h]; exact zP.prod tP
      obtain ⟨dx3, e3⟩ := d3.ins
      refine ⟨_, rfl, p, C, dx3, _, _, rfl, e3, T.cl, T.nS, dF_stood m l, 1, rfl, l, _, -1, r, rfl, rfl, SqL.of upd_same, atI_last _ _, ?_⟩
      exact qg mk r _ (((StepR.of s1).trans (.of s2)).trans (StepR.put l _ _)) d3 (hr2.tn.tm (Tm.lst hl2))
    · rw [(lk.is t).mpr mk] at no
      cases no
/-! ### undo, home, stands, done -/
def spDUndo (C : Addr) : Sp := fun vs H Q E => ∃ (p m l : Addr) (ls : List (List Nat)) (n : Nat) (past : List (List Nat)), vs = [.ref p] ∧ DialAt H C p m l ls n past ∧ past.length ≤ 1000 ∧
  ∀ pa z r H', StepR l H H' → (past = [z] ∧ pa = [] ∨ ∃ y, past = pa ++ [z] ++ [y]) → DialAt H' C p m l ls n (pa ++ [z]) → TN H' r z → Q r H'
theorem sc_DUndo : FnScope ["self"] ["self"] (defScope (mDial 3)) := ⟨rfl, rfl, rfl, by decide +kernel, rfl, by decide +kernel, by decide +kernel⟩
theorem has_DUndo (T : DialT K mg C) (B : Bi mg) : HasM P w K mg base CX0 1 C "undo" ["self"] (spDUndo C) := by
  refine T.undo.ok sc_DUndo (fun vs H Q E h => ?_) (fun f cdv A outer s H vs Q E hr h => ?_)
  · obtain ⟨p, m, l, ls, n, past, rfl, _⟩ := h
    rfl
  · obtain ⟨p, m, l, ls, n, past, rfl, d, hpl, q⟩ := h
    refine ⟨_, pss_cons (ps_if (pt_cmpR op_gt (pe_callB call_len_seq (by rfl) B.len PySem.boot_len (pa_cons (pe_fld (pv 0) rfl) pa_nil)) pe_int (nomark _)) (pss_one (ps_expr (pe_bm0 PySem.F.plainAttrs_list PySem.F.slot_list_pop PySem.F.type_list_pop mt_pop (pe_fld (pv 0) rfl)))) pss_nil)
      (pss_one (ps_ret (pe_ix ix_list (pe_fld (pv 0) rfl) (pe_un un_neg pe_int) (fun _ _ => rfl)))), ?_⟩
    obtain ⟨dx, e⟩ := d.ins
    obtain ⟨xs, hl, hx⟩ := d.stood
    have hxl := hx.length
    refine ⟨_, rfl, p, C, dx, _, _, rfl, e, T.cl, T.nS, dF_stood m l, l, xs, rfl, .inl (SqL.of hl), (xs.length : Int), 1, rfl, rfl, _, rfl, ite2 (fun h => ?_) (fun h => ?_)⟩
    · have h : (1 : Int) < (xs.length : Int) := of_decide_eq_true h
      obtain ⟨pb, y, rfl⟩ := last_app d.ne
      obtain ⟨xs', x, rfl, hx1, hx2⟩ := paired_end hx
      have hx1l := hx1.length
      rw [List.length_append, List.length_singleton] at h
      obtain ⟨pa, z, rfl⟩ := last_app (xs := pb) (by intro e; subst e; rw [List.length_nil] at hx1l; omega)
      obtain ⟨xs2, x2, rfl, hx3, hx4⟩ := paired_end hx1
      refine ⟨_, rfl, p, C, dx, _, _, rfl, e, T.cl, T.nS, dF_stood m l, .inl ⟨rfl, _, SqL.of hl⟩, l, _, x, rfl, rfl, hl, by simp, ?_⟩
      rw [List.dropLast_concat]
      have d3 : DialAt (upd H l (.lst (xs2 ++ [x2]))) C p m l ls n (pa ++ [z]) := d.put (Paired.app hx3 (Paired.one hx4)) (fun t ht => d.ok t (List.mem_append_left _ ht)) (by simp)
      obtain ⟨dx3, e3⟩ := d3.ins
      refine ⟨_, rfl, p, C, dx3, _, _, rfl, e3, T.cl, T.nS, dF_stood m l, 1, rfl, l, _, -1, x2, rfl, rfl, SqL.of upd_same, atI_last _ _, ?_⟩
      exact q pa z x2 _ (StepR.put l _ _) (.inr ⟨y, rfl⟩) d3 (hx4.tm (Tm.lst hl))
    · have h : ¬ ((1 : Int) < (xs.length : Int)) := fun z => h (decide_eq_true z)
      match past, xs, d.ne, hx, hl, hxl, d with
      | [z], [x], _, .cons r .nil, hl, _, d =>
        refine ⟨_, rfl, p, C, dx, _, _, rfl, e, T.cl, T.nS, dF_stood m l, 1, rfl, l, _, -1, x, rfl, rfl, SqL.of hl, atI_last [] x, ?_⟩
        exact q [] z x _ (StepR.refl l H) (.inl ⟨rfl, rfl⟩) d r
      | _ :: _ :: _, _, _, _, _, hxl, _ =>
        rw [List.length_cons, List.length_cons] at hxl
        omega
def spDHome (C : Addr) : Sp := fun vs H Q E => ∃ (p m l : Addr) (ls : List (List Nat)) (n : Nat) (pa : List (List Nat)) (z : List Nat), vs = [.ref p] ∧ DialAt H C p m l ls n (pa ++ [z]) ∧ n ≤ 1000 ∧ ∀ r H', Same H H' → TK H' r (inv z) → Q r H'
theorem sc_DHome : FnScope ["self"] ["self"] (defScope (mDial 4)) := ⟨rfl, rfl, rfl, by decide +kernel, rfl, by decide +kernel, by decide +kernel⟩
theorem has_DHome (T : DialT K mg C) (hB : Has P w K mg base CX0 1 "back_of" ["turn"] spBack) : HasM P w K mg base CX0 2 C "home" ["self"] (spDHome C) := by
  refine T.home.ok sc_DHome (fun vs H Q E h => ?_) (fun f cdv A outer s H vs Q E hr h => ?_)
  · obtain ⟨p, m, l, ls, n, pa, z, rfl, _⟩ := h
    rfl
  · obtain ⟨p, m, l, ls, n, pa, z, rfl, d, hn, q⟩ := h
    refine ⟨_, pss_one (ps_ret (pe_has hB hr (by rfl) (pa_cons (pe_ix ix_list (pe_fld (pv 0) rfl) (pe_un un_neg pe_int) (fun _ _ => rfl)) pa_nil))), ?_⟩
    obtain ⟨dx, e⟩ := d.ins
    obtain ⟨xs, hl, hx⟩ := d.stood
    obtain ⟨xs', x, rfl, hx1, hx2⟩ := paired_end hx
    exact ⟨_, rfl, p, C, dx, _, _, rfl, e, T.cl, T.nS, dF_stood m l, 1, rfl, l, _, -1, x, rfl, rfl, SqL.of hl, atI_last _ _, x, z, n, rfl, hx2, d.ok z (by simp), hn, q⟩
def spDStands (C : Addr) : Sp := fun vs H Q E => ∃ (p m l : Addr) (ls : List (List Nat)) (n : Nat) (pa : List (List Nat)) (z : List Nat), vs = [.ref p] ∧ DialAt H C p m l ls n (pa ++ [z]) ∧ ∀ r, TN H r z → Q r H
theorem sc_DStands : FnScope ["self"] ["self"] (defScope (mDial 5)) := ⟨rfl, rfl, rfl, by decide +kernel, rfl, by decide +kernel, by decide +kernel⟩
theorem has_DStands (T : DialT K mg C) : HasP P w K mg base CX0 1 C "stands" (spDStands C) := by
  refine T.stands.ok sc_DStands (fun vs H Q E h => ?_) (fun f cdv A outer s H vs Q E hr h => ?_)
  · obtain ⟨p, m, l, ls, n, pa, z, rfl, _⟩ := h
    rfl
  · obtain ⟨p, m, l, ls, n, pa, z, rfl, d, q⟩ := h
    refine ⟨_, pss_one (ps_ret (pe_ix ix_list (pe_fld (pv 0) rfl) (pe_un un_neg pe_int) (fun _ _ => rfl))), ?_⟩
    obtain ⟨dx, e⟩ := d.ins
    obtain ⟨xs, hl, hx⟩ := d.stood
    obtain ⟨xs', x, rfl, hx1, hx2⟩ := paired_end hx
    exact ⟨_, rfl, p, C, dx, _, _, rfl, e, T.cl, T.nS, dF_stood m l, 1, rfl, l, _, -1, x, rfl, rfl, SqL.of hl, atI_last _ _, q _ hx2⟩
def spDDone (C : Addr) : Sp := fun vs H Q E => ∃ (p m l : Addr) (ls : List (List Nat)) (n : Nat) (past : List (List Nat)), vs = [.ref p] ∧ DialAt H C p m l ls n past ∧ Q (nI (past.length - 1)) H
theorem sc_DDone : FnScope ["self"] ["self"] (defScope (mDial 6)) := ⟨rfl, rfl, rfl, by decide +kernel, rfl, by decide +kernel, by decide +kernel⟩
theorem has_DDone (T : DialT K mg C) (B : Bi mg) : HasP P w K mg base CX0 1 C "done" (spDDone C) := by
  refine T.done.ok sc_DDone (fun vs H Q E h => ?_) (fun f cdv A outer s H vs Q E hr h => ?_)
  · obtain ⟨p, m, l, ls, n, past, rfl, _⟩ := h
    rfl
  · obtain ⟨p, m, l, ls, n, past, rfl, d, q⟩ := h
    refine ⟨_, pss_one (ps_ret (pe_op op_sub (pe_callB call_len_seq (by rfl) B.len PySem.boot_len (pa_cons (pe_fld (pv 0) rfl) pa_nil)) pe_int)), ?_⟩
    obtain ⟨dx, e⟩ := d.ins
    obtain ⟨xs, hl, hx⟩ := d.stood
    refine ⟨_, rfl, p, C, dx, _, _, rfl, e, T.cl, T.nS, dF_stood m l, l, xs, rfl, .inl (SqL.of hl), (xs.length : Int), 1, rfl, rfl, ?_⟩
    have h1 : 1 ≤ past.length := List.length_pos_iff.mpr d.ne
    have e2 : (xs.length : Int) - 1 = ((past.length - 1 : Nat) : Int) := by rw [hx.length]; omega
    show Q (.int ((xs.length : Int) - 1)) H
    rw [e2]
    exact q
end
end Lt

set_option Elab.async false
set_option linter.all false
set_option maxRecDepth 100000
set_option maxHeartbeats 1000000
/-! Dial.step -/
namespace Lt
open PySem PySem.Spec PyProof.Rows L2
theorem numsD_nats (bs : List Nat) : isNums (.tuple (bs.map dN)) = true := by
  show (bs.map dN).all isNum = true
  rw [List.all_map, List.all_eq_true]
  intro x _
  rfl
theorem bitsD_nats {bs : List Nat} (h : ∀ b ∈ bs, b ≤ 1) : bitsD (.tuple (bs.map dN)) = true := by
  show (bs.map dN).all bitD = true
  rw [List.all_map, List.all_eq_true]
  intro x hx
  have h1 := h x hx
  show (true && decide ((x : Int) = 0 ∨ (x : Int) = 1)) = true
  rw [Bool.true_and]
  exact decide_eq_true (by omega)
theorem rp_nats_v {H : Hp} : ∀ {bs : List Nat} {xs : List V}, RpAll H xs (bs.map dN) → xs = nIs bs
  | [], _, .nil => rfl
  | b :: bs, _, .cons r t => by
    cases r
    rw [rp_nats_v t]
    rfl
theorem rp_tup {H : Hp} {v : V} {ds : List PyData} (h : Rp H v (.tuple ds)) : ∃ a xs, v = .ref a ∧ RT H a xs ∧ RpAll H xs ds := by
  cases h with
  | tup h a => exact ⟨_, _, rfl, h, a⟩
theorem rp_turn {H : Hp} {v : V} {t : List Nat} (h : Rp H v (dT t)) : TN H v t := by
  obtain ⟨a, xs, rfl, h, x⟩ := rp_tup h
  rw [rp_nats_v x] at h
  exact ⟨a, rfl, h⟩
section
variable {P : Program} {w : World} {K : PySem.W.Frag} {mg : Str → Option Value} {base : Heap} {C CT CR CN : Addr}
/-- a wrong step; wrong bits; a right one -/
def spDStep (C CR CN : Addr) : Sp := fun vs H Q E => ∃ (p m l : Addr) (sv bv : V) (ls : List (List Nat)) (n : Nat) (pa : List (List Nat)) (z : List Nat) (d bd : PyData), vs = [.ref p, sv, bv] ∧ DialAt H C p m l ls n (pa ++ [z]) ∧ Lk ls n ∧ pa.length ≤ 1000 ∧ Rp H sv d ∧ Sml3 d ∧ Rp H bv bd ∧ (∀ ds, bd = .tuple ds → ds.length ≤ 1000) ∧
  ((stepD (LL ls n) 6 d = false ∧ BadF CR "place" .non H E) ∨
   (∃ (own : Nat) (t1 t2 : List Nat), d = .tuple [dN own, dT t1, dT t2] ∧ Mk ls n t1 ∧ Mk ls n t2 ∧ own < 6 ∧
    ((∀ H', Same H H' → (bitsD bd = false ∨ ∃ bs, bd = .tuple bs ∧ bs.length ≤ own) ∧ Bad0 CN H E) ∨
     (∃ bs : List Nat, bd = .tuple (bs.map dN) ∧ (∀ b ∈ bs, b ≤ 1) ∧ own < bs.length ∧ ∀ r H', StepR l H H' → DialAt H' C p m l ls n (pa ++ [z, prod z (if bs.getD own 0 = 1 then t2 else t1)]) → TN H' r (prod z (if bs.getD own 0 = 1 then t2 else t1)) → Q r H'))))
theorem sc_DStep : FnScope ["self", "step", "bits", "own", "no", "yes"] ["self", "step", "bits"] (defScope (mDial 2)) := ⟨rfl, rfl, rfl, by decide +kernel, rfl, by decide +kernel, by decide +kernel⟩
theorem has_DStep (T : DialT K mg C) (B : Bi mg) (c6 : ∃ t, mg "MOST_INPUTS" = some (.int 6 t)) (XR : ErrI P w K mg base "BadRow" "place" CR) (XN : Err0 K mg "BadNumber" CN)
    (hI : Has P w K mg base CX0 4 "is_step" ["made", "inputs", "value"] spIsStep) (hA : Has P w K mg base CX0 3 "are_bits" ["value"] spAreBits) (hT : HasM P w K mg base (L2.CX P w) 5 C "turn" ["self", "turn"] (spDTurn C CT)) : HasM P w K mg base (L2.CX P w) 6 C "step" ["self", "step", "bits"] (spDStep C CR CN) := by
  obtain ⟨t6, e6⟩ := c6
  refine T.step.okX sc_DStep (fun vs H Q E h => ?_) (fun f cdv A outer s H vs Q E hr h => ?_)
  · obtain ⟨p, m, l, sv, bv, ls, n, pa, z, d, bd, rfl, _⟩ := h
    rfl
  · obtain ⟨p, m, l, sv, bv, ls, n, pa, z, d, bd, rfl, da, lk, hpl, hd, hs, hbd, hbs, cs⟩ := h
    have hr2 : Room 2 _ := hr.mono (by decide)
    have hr3 : Room 3 _ := hr.mono (by decide)
    have hr4 : Room 4 _ := hr.mono (by decide)
    refine ⟨_, pss_cons (ps_if (pt_not (pt_val (pe_has hI hr4 (by rfl) (pa_cons (pe_fld (pv 0) rfl) (pa_cons (pe_glob (v := .int 6) rfl e6 ⟨_, rfl⟩) (pa_cons (pv 1) pa_nil)))))) (pss_one (ps_raise rfl (takes_of rfl rfl rfl rfl) (pmk_errI XR hr2 (by rfl) (pa_cons pe_non pa_nil)))) pss_nil)
      (pss_cons (ps_asg (pv 1) (pg_tup rfl (pgs_cons (pg_name (i := 3) sc_DStep.nd rfl (Or.inl rfl)) (pgs_cons (pg_name (i := 4) sc_DStep.nd rfl (Or.inl rfl)) (pgs_cons (pg_name (i := 5) sc_DStep.nd rfl (Or.inl rfl)) pgs_nil)))))
      (pss_cons (ps_if (PW.pt (pw_or (pt_not (pt_val (pe_has hA hr3 (by rfl) (pa_cons (pv 2) pa_nil)))) (pw_or1 (pt_cmpR op_ge (pv 3) (pe_callB call_len_seq (by rfl) B.len PySem.boot_len (pa_cons (pv 2) pa_nil)) (nomark _))))) (pss_one (ps_raise rfl (takes_of rfl rfl rfl rfl) (pmk_err0 XN (by rfl)))) pss_nil)
      (pss_one (ps_ret (pe_hasM (E := E) hT T.cl hr (passes_call (takes_of rfl rfl rfl rfl) (fun _ _ _ _ h => h)) (pv 0) (pa_cons (pe_ifExp (pt_cmpR op_eq (pe_ix ix_tup (pv 2) (pv 3) (fun _ _ => rfl)) pe_int (nomark _)) (pv 5) (pv 4)) pa_nil)))))), ?_⟩
    obtain ⟨dx, e⟩ := da.ins
    refine ⟨_, rfl, p, C, dx, _, _, rfl, e, T.cl, T.nM, dF_made m l, _, rfl, m, LL ls n, 6, sv, d, rfl, da.made, hd, hs, fun H1 s1 => ⟨stepD (LL ls n) 6 d, rfl, ?_⟩⟩
    rcases cs with ⟨no, bad⟩ | ⟨own, t1, t2, rfl, mk1, mk2, h6, cs⟩
    · rw [no]
      exact iteT (mk_read XR.oex XR.no (bad.same s1))
    · have yes : stepD (LL ls n) 6 (.tuple [dN own, dT t1, dT t2]) = true := by
        rw [stepD_3, (lk.is t1).mpr mk1, (lk.is t2).mpr mk2]
        show (decide ((0 : Int) ≤ (own : Int)) && decide ((own : Int) < ((6 : Nat) : Int)) && true && true) = true
        rw [decide_eq_true (by omega), decide_eq_true (by omega)]
        rfl
      rw [yes]
      refine iteF ?_
      obtain ⟨a, xs, rfl, ha, hx⟩ := rp_tup (Rp.same s1 _ _ hd)
      obtain ⟨x1, x2, x3, a1, a2, a3, rfl, e3, r1, r2, r3⟩ := three hx rfl
      injection e3 with e31 e3
      injection e3 with e32 e3
      injection e3 with e33 _
      subst e31 e32 e33
      cases r1
      refine ⟨_, rfl, a, _, rfl, ha.sq, rfl, .int (own : Int), _, rfl, x2, _, rfl, x3, _, rfl, rfl, ?_⟩
      refine ⟨_, rfl, bv, bd, rfl, Rp.same s1 _ _ hbd, hbs, fun H2 s2 => ⟨bitsD bd, rfl, ?_⟩⟩
      have s12 := s1.trans s2
      rcases cs with bad | ⟨bs, rfl, hb1, hol, q⟩
      · obtain ⟨bad, q⟩ := bad H2 s12
        have go : ∀ H3, Same H2 H3 → E (.ref CN) none H3 := fun H3 s3 => q H3 (s12.trans s3)
        cases eb : bitsD bd with
        | false => exact iteT (go _ (Same.refl _))
        | true =>
          refine iteF ?_
          rcases bad with z | ⟨bs, rfl, hle⟩
          · rw [eb] at z; cases z
          · obtain ⟨b, ys, rfl, hb, hy⟩ := rp_tup (Rp.same s12 _ _ hbd)
            refine ⟨_, rfl, _, rfl, b, ys, rfl, .inr hb.sq, (own : Int), (ys.length : Int), rfl, rfl, true, congrArg V.bl (decide_eq_true (by rw [hy.len]; omega)), iteT (go _ (Same.refl _))⟩
      · rw [bitsD_nats hb1]
        refine iteF ?_
        obtain ⟨b, ys, rfl, hb, hy⟩ := rp_tup (Rp.same s12 _ _ hbd)
        have ey := rp_nats_v hy
        subst ey
        refine ⟨_, rfl, _, rfl, b, _, rfl, .inr hb.sq, (own : Int), ((nIs bs).length : Int), rfl, rfl, false, congrArg V.bl (decide_eq_false (by rw [nIs_len]; omega)), iteF ?_⟩
        have d2 := da.same s12
        obtain ⟨dx2, e2⟩ := d2.ins
        refine ⟨_, rfl, p, dx2, _, rfl, e2, rfl, ?_⟩
        have hbi : (nIs bs)[own]? = some (nI (bs.getD own 0)) := by
          rw [nIs_get, List.getD_eq_getElem?_getD, List.getElem?_eq_getElem hol]
          rfl
        refine ⟨_, rfl, _, rfl, b, _, (own : Int), nI (bs.getD own 0), rfl, rfl, hb.sq, atI_nat hbi, rfl, ?_⟩
        have fin : ∀ (y : V) (t : List Nat), Rp H1 y (dT t) → Mk ls n t → (if bs.getD own 0 = 1 then t2 else t1) = t → spDTurn C CT [.ref p, y] H2 Q E := fun y t ry mk et => by
          rw [et] at q
          refine ⟨p, m, l, y, ls, n, pa, z, t, rfl, d2, lk, hpl, rp_turn (Rp.same s2 _ _ ry), by rw [(lk.isP mk).len]; have := lk.gl.2.2.2.1; omega, fun _ r H3 st d3 hr3 => q r H3 (StepR.trans (.of s12) st) d3 hr3, fun nm => absurd mk nm⟩
        by_cases h1 : bs.getD own 0 = 1
        · refine ⟨true, congrArg V.bl (decide_eq_true (by rw [h1]; rfl)), iteT ⟨_, rfl, ?_⟩⟩
          exact fin _ t2 r3 mk2 (if_pos h1)
        · refine ⟨false, congrArg V.bl (decide_eq_false fun z => h1 (by injection z with z; omega)), iteF ⟨_, rfl, ?_⟩⟩
          exact fin _ t1 r2 mk1 (if_neg h1)
end
end Lt

set_option Elab.async false
set_option linter.all false
set_option maxRecDepth 100000
set_option maxHeartbeats 1000000
namespace Lt
open PySem PySem.Spec PyProof.Rows L2
section
variable {P : Program} {w : World} {K : PySem.W.Frag} {mg : Str → Option Value} {base : Heap}
/-! ### _law_pick, _law_is -/
def spPick (K : PySem.W.Frag) : Sp := fun vs H Q _ => ∃ (r l sc : Addr) (ns : List Int) (xs : List V), vs = [.ref r, .ref l] ∧ RowAt K H r sc ns ∧ H l = some (.lst xs) ∧ l ≠ r ∧ 1 ≤ xs.length ∧ xs.length ≤ 1000 ∧ ∀ x H', x ∈ xs → StepR r H H' → RowAt K H' r sc ns → Q x H'
theorem sc_law_pick : FnScope ["row", "things"] ["row", "things"] (defScope s_law_pick) := ⟨rfl, rfl, rfl, by decide +kernel, rfl, by decide +kernel, by decide +kernel⟩
theorem has_law_pick (T : Top K mg "_law_pick" s_law_pick ["row", "things"]) (B : Bi mg) (hT : Has P w K mg base CX0 1 "_law_taken" ["row", "many"] (spTaken K)) : Has P w K mg base CX0 2 "_law_pick" ["row", "things"] (spPick K) := by
  refine T.ok sc_law_pick (fun vs H Q E h => ?_) (fun f cdv A outer s H vs Q E hr h => ?_)
  · obtain ⟨r, l, sc, ns, xs, rfl, _⟩ := h
    rfl
  · obtain ⟨r, l, sc, ns, xs, rfl, ra, hl, hne, h1, h2, q⟩ := h
    refine ⟨_, pss_one (ps_ret (pe_ix ix_list (pv 1) (pe_has hT hr (by rfl) (pa_cons (pv 0) (pa_cons (pe_callB call_len_seq (by rfl) B.len PySem.boot_len (pa_cons (pv 1) pa_nil)) pa_nil))) (fun _ _ => rfl))), ?_⟩
    refine ⟨_, rfl, _, rfl, _, rfl, l, xs, rfl, .inl (SqL.of hl), r, sc, ns, xs.length, rfl, ra, h1, h2, fun x H' hx st ra' => ?_⟩
    exact ⟨l, xs, (x : Int), xs[x], rfl, rfl, SqL.of (st l _ hne hl), atI_nat (List.getElem?_eq_getElem hx), q _ H' (List.getElem_mem hx) st ra'⟩
end
end Lt

set_option Elab.async false
set_option linter.all false
set_option maxRecDepth 100000
set_option maxHeartbeats 2000000
/-! k13: the law's end -/
namespace Lt
open PySem PySem.Spec PyProof.Rows L2 NdefX LamX LmX MaX
abbrev lawN : List Str := ["script", "lock", "whole", "past", "turn", "way", "other", "told", "bits", "own", "words", "works", "work", "e", "dial", "one", "row", "bit"]
theorem sc_law : FnScope lawN ["script"] (defScope s_law) := ⟨rfl, rfl, rfl, by decide +kernel, rfl, by decide +kernel, by decide +kernel⟩
abbrev LX (P : Program) (w : World) (K : PySem.W.Frag) (mg : Str → Option Value) (base : Heap) (f : Addr) (cd : Value) (A : Around) (outer : List Env) (s : Shared) (H : Hp) (E : XK) : Cx := cxOf CX0 P w K mg base lawN "law" (defScope s_law) f cd A outer s H E
def lawS (i : Nat) : Stmt := (defBody s_law).getD i (.Pass ⟨0, 0, 0, 0⟩)
def lm0 : Expr := itemX 0 (valX (lawS 6))
def lm1 : Expr := itemX 1 (valX (lawS 6))
def lm2 : Expr := argX 0 (valX (lawS 7))
def lm3 : Expr := itemX 0 (rightX (valX (lawS 8)))
theorem nsc0 : NScope ["dial", "one"] [] ["dial", "one"] (lamS lm0) := nscope_by (by decide +kernel)
theorem nsc1 : NScope ["a", "dial", "one"] ["a"] ["dial", "one"] (lamS lm1) := nscope_by (by decide +kernel)
theorem nsc2 : NScope ["b", "dial", "one"] ["b"] ["dial", "one"] (lamS lm2) := nscope_by (by decide +kernel)
theorem nsc3 : NScope ["c", "dial", "one", "row"] ["c"] ["dial", "one", "row"] (lamS lm3) := nscope_by (by decide +kernel)
theorem lb0 : ndefB (defScope s_law) (lamS lm0) ["dial", "one"] = true := by decide +kernel
theorem lb1 : ndefB (defScope s_law) (lamS lm1) ["dial", "one"] = true := by decide +kernel
theorem lb2 : ndefB (defScope s_law) (lamS lm2) ["dial", "one"] = true := by decide +kernel
theorem lb3 : ndefB (defScope s_law) (lamS lm3) ["dial", "one", "row"] = true := by decide +kernel
section
variable {P : Program} {w : World} {K : PySem.W.Frag} {mg : Str → Option Value} {base : Heap} {C CT CR CN c Pt : Addr}
abbrev LmA (cells : List (Str × Addr)) (lm : Expr) (dV : Value) (c' f : Addr) : HO := LmO f (lmF q_lam (lamP lm) (lamS lm) cells c') (lamB lm) dV
/-- what work() asks: the name holds one of the four -/
def RW4 (K : PySem.W.Frag) (C CT CR CN : Addr) (cells : List (Str × Addr)) (W : WX) (f : Addr) : TE := fun σ H Q =>
  (∃ c', H f = some (LmA cells lm0 .none c' f) ∧ H c' = some (CodeO c' q_lam) ∧
    (tMeth C "turn" (spDTurn C CT) [] (WE W σ) (tVar 0) (tCons (L2.tSl (rSlT K) (tVar 1) tNoPart (tPart (tUn (rU fun i => .int (-i)) (tC (.int 1))))) tNil)) (startF ["dial", "one"] [] ([14, 15].map (slotAt σ))) H Q) ∨
  (∃ c' p, H f = some (LmA cells lm1 (.ref p) c' f) ∧ H p = some (.tup [V.int 0]) ∧ H c' = some (CodeO c' q_lam) ∧
    (tMeth C "step" (spDStep C CR CN) [] (WE W σ) (tVar 1) (tCons (tTup (tCons (tC (.int 0)) (tCons (tVar 2) tNil))) (tCons (tTup (tCons (tC (.int 0)) tNil)) tNil))) (startF ["a", "dial", "one"] [V.int 0] ([14, 15].map (slotAt σ))) H Q) ∨
  (∃ c' p, H f = some (LmA cells lm2 (.ref p) c' f) ∧ H p = some (.tup [V.int 0]) ∧ H c' = some (CodeO c' q_lam) ∧
    (tMeth C "step" (spDStep C CR CN) [] (WE W σ) (tVar 1) (tCons (tTup (tCons (tC (.int 1)) (tCons (tVar 2) (tCons (tVar 2) tNil)))) (tCons (tTup (tCons (tC (.int 0)) tNil)) tNil))) (startF ["b", "dial", "one"] [V.int 0] ([14, 15].map (slotAt σ))) H Q) ∨
  (∃ c' p, H f = some (LmA cells lm3 (.ref p) c' f) ∧ H p = some (.tup [V.int 0]) ∧ H c' = some (CodeO c' q_lam) ∧
    (tMeth C "step" (spDStep C CR CN) [] (WE W σ) (tVar 1) (tCons (tTup (tCons (tC (.int 0)) (tCons (tVar 2) (tCons (tVar 2) tNil)))) (tCons (tCall (spPick K) [] E0 (tCons (tVar 3) (tCons (tLst (tCons (tC .non) (tCons (tTup tNil) (tCons (tTup (tCons (tC (.int 2)) tNil)) (tCons (tLst (tCons (tC (.int 0)) tNil)) (tCons (tTup (tCons (tC (.bl true)) tNil)) tNil)))))) tNil))) tNil))) (startF ["c", "dial", "one", "row"] [V.int 0] ([14, 15, 16].map (slotAt σ))) H Q)
theorem r_run {f0 : Addr} {cd : Value} {A : Around} {outer : List Env} {s0 : Shared} {H0 : Hp} {E0' : XK} {W : WX} {pn : List (Addr × Obj)} {xe : Value → Shared → Prop}
    (hr : Room 8 (LX P w K mg base f0 cd A outer s0 H0 E0').A) (cl : Cls K C) (hT : HasM P w K mg base (L2.CX P w) 5 C "turn" ["self", "turn"] (spDTurn C CT)) (hS : HasM P w K mg base (L2.CX P w) 6 C "step" ["self", "step", "bits"] (spDStep C CR CN)) (hPk : Has P w K mg base CX0 2 "_law_pick" ["row", "things"] (spPick K))
    (tk : Takes ((LX P w K mg base f0 cd A outer s0 H0 E0').tr pn xe) W) (f : Addr) (pins : List (Addr × Obj)) (s : Shared) (σ : L2.St) (H : Hp) (Q : VK) (I : Inv ((LX P w K mg base f0 cd A outer s0 H0 E0').tr pn xe) pins σ H s)
    (h : RW4 K C CT CR CN (LX P w K mg base f0 cd A outer s0 H0 E0').env.cells W f σ H Q) : PySem.W.FnAt f s.heap ∧ wpAny (model P w) (LX P w K mg base f0 cd A outer s0 H0 E0').A (call (.ref f) []) (EP ((LX P w K mg base f0 cd A outer s0 H0 E0').tr pn xe) pins σ Q) xe s := by
  rcases h with ⟨c', h1, h2, h3⟩ | ⟨c', p, h1, h2, h3, h4⟩ | ⟨c', p, h1, h2, h3, h4⟩ | ⟨c', p, h1, h2, h3, h4⟩
  · exact lm_run (k := 7) (us := []) (js := [14, 15]) I nsc0 h1 h2 (fun _ _ _ => .of_eq rfl) .nil rfl (Caps.made I.ok (ndef_free lb0) (ndef_fr lb0) rfl) hr (passAt tk σ)
      (fun hr2 => pe_hasM (E := WE W σ) hT cl (hr2.mono (by decide)) (passes_call (takes_of rfl rfl rfl rfl) (fun _ _ _ _ h => h)) (pv 0) (pa_cons (pe_slice sl_tup (pv 1) po_none (po_some (pe_un un_neg pe_int))) pa_nil)) h3
  · obtain ⟨u, o, n, r, ho, hd⟩ := dflt_of I h2
    exact lm_run (k := 7) (us := [u]) (js := [14, 15]) I nsc1 h1 h3 (fun _ _ _ => .of_defaults rfl ho hd rfl rfl) (.cons r .nil) rfl (Caps.made I.ok (ndef_free lb1) (ndef_fr lb1) rfl) hr (passAt tk σ)
      (fun hr2 => pe_hasM (E := WE W σ) hS cl (hr2.mono (by decide)) (passes_call (takes_of rfl rfl rfl rfl) (fun _ _ _ _ h => h)) (pv 1) (pa_cons (pe_tup (pa_cons pe_int (pa_cons (pv 2) pa_nil))) (pa_cons (pe_tup (pa_cons pe_int pa_nil)) pa_nil))) h4
  · obtain ⟨u, o, n, r, ho, hd⟩ := dflt_of I h2
    exact lm_run (k := 7) (us := [u]) (js := [14, 15]) I nsc2 h1 h3 (fun _ _ _ => .of_defaults rfl ho hd rfl rfl) (.cons r .nil) rfl (Caps.made I.ok (ndef_free lb2) (ndef_fr lb2) rfl) hr (passAt tk σ)
      (fun hr2 => pe_hasM (E := WE W σ) hS cl (hr2.mono (by decide)) (passes_call (takes_of rfl rfl rfl rfl) (fun _ _ _ _ h => h)) (pv 1) (pa_cons (pe_tup (pa_cons pe_int (pa_cons (pv 2) (pa_cons (pv 2) pa_nil)))) (pa_cons (pe_tup (pa_cons pe_int pa_nil)) pa_nil))) h4
  · obtain ⟨u, o, n, r, ho, hd⟩ := dflt_of I h2
    exact lm_run (k := 7) (us := [u]) (js := [14, 15, 16]) I nsc3 h1 h3 (fun _ _ _ => .of_defaults rfl ho hd rfl rfl) (.cons r .nil) rfl (Caps.made I.ok (ndef_free lb3) (ndef_fr lb3) rfl) hr (passAt tk σ)
      (fun hr2 => pe_hasM (E := WE W σ) hS cl (hr2.mono (by decide)) (passes_call (takes_of rfl rfl rfl rfl) (fun _ _ _ _ h => h)) (pv 1) (pa_cons (pe_tup (pa_cons pe_int (pa_cons (pv 2) (pa_cons (pv 2) pa_nil))))
        (pa_cons (pe_has hPk (hr2.mono (by decide)) (by rfl) (pa_cons (pv 3) (pa_cons (pe_lst (pa_cons pe_non (pa_cons (pe_tup pa_nil) (pa_cons (pe_tup (pa_cons pe_int pa_nil)) (pa_cons (pe_lst (pa_cons pe_int pa_nil)) (pa_cons (pe_tup (pa_cons pe_bl pa_nil)) pa_nil)))))) pa_nil))) pa_nil))) h4
end
end Lt

set_option Elab.async false
set_option linter.all false
set_option maxRecDepth 100000
set_option maxHeartbeats 2000000
/-! k13: the loop over the lambdas -/
namespace Lt
open PySem PySem.Spec PyProof.Rows L2 NdefX LamX LmX MaX
theorem DialAt.kp {H H' : Hp} {C p m l a b : Addr} {ls : List (List Nat)} {n : Nat} {past : List (List Nat)} {xs ys : List V} (h : DialAt H C p m l ls n past) (s : Kp2 a b H H') (ha : H a = some (.lst xs)) (hb : H b = some (.lst ys)) (l1 : l ≠ a) (l2 : l ≠ b) : DialAt H' C p m l ls n past := by
  have tm := s.tm ha hb
  obtain ⟨kvs, k1, k2⟩ := h.made
  exact ⟨let ⟨dx, e⟩ := h.ins; ⟨dx, s.at_ ha hb e (fun _ z => nomatch z)⟩, ⟨kvs, s.at_ ha hb k1 (fun _ z => nomatch z), DEs.tm tm k2⟩, let ⟨xs, e, q⟩ := h.stood; ⟨xs, s _ _ l1 l2 e, TNs.tm tm q⟩, h.ok, h.ne⟩
theorem DialAt.ext {H H' : Hp} {C p m l : Addr} {ls : List (List Nat)} {n : Nat} {past : List (List Nat)} (h : DialAt H C p m l ls n past) (s : ExtN H H') : DialAt H' C p m l ls n past := by
  have tm := extN_tm s
  obtain ⟨kvs, k1, k2⟩ := h.made
  exact ⟨let ⟨dx, e⟩ := h.ins; ⟨dx, s _ _ e (fun _ z => nomatch z)⟩, ⟨kvs, s _ _ k1 (fun _ z => nomatch z), DEs.tm tm k2⟩, let ⟨xs, e, q⟩ := h.stood; ⟨xs, s _ _ e (fun _ z => nomatch z), TNs.tm tm q⟩, h.ok, h.ne⟩
def wds : List V := [.str "turn", .str "row", .str "number", .str "number"]
theorem cut_less (xs : List V) (h : xs ≠ []) : cutV xs none (some (-1)) = xs.dropLast ∧ ¬ (HT.sIx xs.length 0 none = 0 ∧ HT.sIx xs.length xs.length (some (-1)) = xs.length) := by
  have hp := List.length_pos_iff.mpr h
  have e : HT.sIx xs.length xs.length (some (-1)) = xs.length - 1 := by
    unfold HT.sIx
    simp only
    rw [if_pos (by decide)]
    omega
  unfold cutV
  rw [e, HT.sIx_none]
  refine ⟨?_, fun z => by omega⟩
  rw [Nat.sub_zero, List.drop_zero, List.dropLast_eq_take]
theorem sm3 {n k : Nat} (h : n ≤ 9) : Sml3 (.tuple [dN k, dT (List.range n), dT (List.range n)]) := fun ds ed => by
  injection ed with ed
  subst ed
  refine ⟨by show 3 ≤ 1000; decide, fun e' he' es hes => ?_⟩
  simp only [List.mem_cons, List.not_mem_nil, or_false] at he'
  rcases he' with h1 | h1 | h1
  · rw [h1] at hes; cases hes
  all_goals
    rw [h1] at hes
    exact tlen (m := 1000) (by rw [List.length_range]; omega) es hes
section
variable {P : Program} {w : World} {K : PySem.W.Frag} {mg : Str → Option Value} {base : Heap} {C CT CR CN c Pt : Addr}
def LmAt (H : Hp) (cells : List (Str × Addr)) (lm : Expr) (f : Addr) : Prop := ∃ c' p, H f = some (LmA cells lm (.ref p) c' f) ∧ H p = some (.tup [V.int 0]) ∧ H c' = some (CodeO c' q_lam)
def LmAt0 (H : Hp) (cells : List (Str × Addr)) (lm : Expr) (f : Addr) : Prop := ∃ c', H f = some (LmA cells lm .none c' f) ∧ H c' = some (CodeO c' q_lam)
def tsW (K : PySem.W.Frag) (z : V) (_ : Addr) (_ : Value) (_ : Option Addr) : TS := tDrop (tBM K "list" rAppend (tVar 10) (tCons (tC z) tNil))
def cls3 (K : PySem.W.Frag) (CT CR CN : Addr) : List Cl := [(.ref CT, tsW K (.str "turn")), (.ref CR, tsW K (.str "row")), (.ref CN, tsW K (.str "number"))]
def tTry (K : PySem.W.Frag) (C CT CR CN : Addr) (cells : List (Str × Addr)) : TS := fun D σ H => tDrop (fun σ H Q => ∃ f, σ[12]? = some (some (.ref f)) ∧ RW4 K C CT CR CN cells (wMA K 13 (fun _ _ _ _ => False) D (cls3 K CT CR CN)) f σ H Q) D σ H
structure Ex3 (K : PySem.W.Frag) (mg : Str → Option Value) (CT CR CN : Addr) : Prop where
  gT : mg "BadTurn" = some (.ref CT)
  gR : mg "BadRow" = some (.ref CR)
  gN : mg "BadNumber" = some (.ref CN)
  tt : PySem.W.exmOne K (.ref CT) (.ref CT) = some true
  rr : PySem.W.exmOne K (.ref CR) (.ref CR) = some true
  nn : PySem.W.exmOne K (.ref CN) (.ref CN) = some true
  rt : PySem.W.exmOne K (.ref CR) (.ref CT) = some false
  nt : PySem.W.exmOne K (.ref CN) (.ref CT) = some false
  nr : PySem.W.exmOne K (.ref CN) (.ref CR) = some false
/-- what the loop over the lambdas needs -/
structure TryAt (K : PySem.W.Frag) (C : Addr) (H : Hp) (p m l pl r sc wl : Addr) (ns : List Int) (ls : List (List Nat)) (n : Nat) (pa : List (List Nat)) (z : List Nat) (v1 : V) : Prop where
  dial : DialAt H C p m l ls n (pa ++ [z])
  row : RowAt K H r sc ns
  one : TN H v1 (List.range n)
  past : ∃ xs, H pl = some (.lst xs) ∧ Paired (TN H) xs (pa ++ [z])
  lk : Lk ls n
  len : pa.length ≤ 1000
  nlr : l ≠ r
  npr : pl ≠ r
theorem law_try {f0 : Addr} {A : Around} {outer : List Env} {s0 : Shared} {H0 : Hp} {E0' : XK} (hr : Room 8 (LX P w K mg base f0 (.ref c) A outer s0 H0 E0').A) (B : Bi mg) (TB : TabB base mg c Pt)
    (cl : Cls K C) (hT : HasM P w K mg base (L2.CX P w) 5 C "turn" ["self", "turn"] (spDTurn C CT)) (hS : HasM P w K mg base (L2.CX P w) 6 C "step" ["self", "step", "bits"] (spDStep C CR CN)) (hPk : Has P w K mg base CX0 2 "_law_pick" ["row", "things"] (spPick K))
    (hSt : HasP P w K mg base CX0 1 C "stands" (spDStands C)) (X3 : Ex3 K mg CT CR CN) :
    ∃ t, PSs (LX P w K mg base f0 (.ref c) A outer s0 H0 E0') ((defBody s_law).drop 8) t ∧ ∀ (D : Ends) (H : Hp) (x0 x1 x2 x4 x5 x6 x7 x8 x9 x12 x13 x17 : Option V) (p m l pl r sc wl fl fa fb fc : Addr) (ns : List Int) (ls : List (List Nat)) (n : Nat) (pa : List (List Nat)) (z : List Nat) (v1 : V),
      TryAt K C H p m l pl r sc wl ns ls n pa z v1 → l ≠ wl → pl ≠ wl → wl ≠ r → (∃ H9, RowAt K H9 r sc ns ∧ H9 wl = none) → H wl = some (.lst []) → H fl = some (.lst [.ref fa, .ref fb, .ref fc]) → fl ≠ wl → fl ≠ r → LmAt0 H (LX P w K mg base f0 (.ref c) A outer s0 H0 E0').env.cells lm0 fa → LmAt H (LX P w K mg base f0 (.ref c) A outer s0 H0 E0').env.cells lm1 fb → LmAt H (LX P w K mg base f0 (.ref c) A outer s0 H0 E0').env.cells lm2 fc →
      Tabs [(Pt, q_lam)] H → (∀ H', D.rt (.bl true) H') → t D [x0, x1, x2, some (.ref pl), x4, x5, x6, x7, x8, x9, some (.ref wl), some (.ref fl), x12, x13, some (.ref p), some v1, some (.ref r), x17] H := by
  have hu := hr.units
  have hm : (Pt, q_lam) ∈ [(Pt, q_lam)] := List.mem_cons_self
  have hone : ∀ p ∈ [(Pt, q_lam)], p.1 = Pt → p.2 = q_lam := fun p hp _ => by rw [List.mem_singleton.mp hp]
  refine ⟨_, pss_cons (ps_for (passes_of rfl) rfl (pi_list (pe_op op_cat (pv 11) (pe_lst (pa_cons (pe_lm1 (T := [(Pt, q_lam)]) TB rfl hm hone (ndef_free lb3) rfl rfl pe_int) pa_nil)))) (pg_name (i := 12) sc_law.nd rfl (Or.inl rfl))
      (pss_one (ps_try_asM (n := "e") (i := 13) (l := cls3 K CT CR CN) (tb := fun W => tDrop (fun σ H Q => ∃ f, σ[12]? = some (some (.ref f)) ∧ RW4 K C CT CR CN (LX P w K mg base f0 (.ref c) A outer s0 H0 E0').env.cells W f σ H Q)) (Wo := fun _ _ _ _ => False) rfl rfl sc_law.nd rfl rfl L2.takes0
        (fun W pn xe tk _ => pss_one (ps_expr (pe_ap0 (fun f pins s σ H Q I h => r_run hr cl hT hS hPk tk f pins s σ H Q I h) rfl (Or.inl rfl))))
        (.cons ⟨rfl, by decide, Or.inl X3.gT⟩ (fun a oe cls d pn hz hf => pss_one (ps_expr (by exact (pe_bm PySem.F.plainAttrs_list PySem.F.slot_list_append PySem.F.type_list_append mt_append (pv 10) (pa_cons pe_str pa_nil)))))
        (.cons ⟨rfl, by decide, Or.inl X3.gR⟩ (fun a oe cls d pn hz hf => pss_one (ps_expr (by exact (pe_bm PySem.F.plainAttrs_list PySem.F.slot_list_append PySem.F.type_list_append mt_append (pv 10) (pa_cons pe_str pa_nil)))))
        (.cons ⟨rfl, by decide, Or.inl X3.gN⟩ (fun a oe cls d pn hz hf => pss_one (ps_expr (by exact (pe_bm PySem.F.plainAttrs_list PySem.F.slot_list_append PySem.F.type_list_append mt_append (pv 10) (pa_cons pe_str pa_nil))))) .nil))))))
    (pss_one (ps_ret (pe_and (pe_cmpR (op_eqD hu) (pv 10) (pe_lst (pa_cons pe_str (pa_cons pe_str (pa_cons pe_str (pa_cons pe_str pa_nil))))) (nomark _)) (pe_one (pe_cmpR (op_eqD hu) (pe_hasP hSt cl (hr.mono (by decide)) pass0 (pv 14)) (pe_ix ix_list (pv 3) (pe_un un_neg pe_int) (fun _ _ => rfl)) (nomark _)))))), ?_⟩
  intro D H x0 x1 x2 x4 x5 x6 x7 x8 x9 x12 x13 x17 p m l pl r sc wl fl fa fb fc ns ls n pa z v1 F nlw npw nwr h9 hwl hfl nfw nfr la lb lc hTb q
  refine ⟨_, rfl, hTb, fun pd fd cd H1 e1 T1 _ fd1 pd1 cd1 => ⟨by show 1 ≤ sizeLine; decide, fun dl hdl => ?_⟩⟩
  have s2 := same_new (o := .lst [V.ref fd]) hdl
  have nt : ∀ {xs : List V}, ∀ ps, HO.lst xs ≠ .tbl ps := fun _ z => nomatch z
  have hfl2 := s2 _ _ (e1 _ _ hfl nt)
  refine ⟨_, _, _, _, rfl, rfl, hfl2, upd_same, by show 3 + 1 ≤ sizeLine; decide, fun gl hgl => ?_⟩
  have s3 := same_new (o := .lst ([V.ref fa, V.ref fb, V.ref fc] ++ [V.ref fd])) hgl
  have s23 := s2.trans s3
  have e13 : ExtN H (upd (upd H1 dl (.lst [V.ref fd])) gl (.lst ([V.ref fa, V.ref fb, V.ref fc] ++ [V.ref fd]))) := e1.trans (extN_of s23)
  have kgl : (upd (upd H1 dl (.lst [V.ref fd])) gl (.lst ([V.ref fa, V.ref fb, V.ref fc] ++ [V.ref fd]))) gl = some (.lst [V.ref fa, V.ref fb, V.ref fc, V.ref fd]) := upd_same
  have kwl := e13 _ _ hwl nt
  have ngw : gl ≠ wl := fun z => by rw [z] at hgl; rw [s2 _ _ (e1 _ _ hwl nt)] at hgl; cases hgl
  have dial3 := F.dial.ext e13
  have row3 := F.row.extN e13
  have tm3 := extN_tm e13
  have one3 := F.one.tm tm3
  obtain ⟨pxs, hpx, ppx⟩ := F.past
  have hpx3 := e13 _ _ hpx nt
  have ppx3 := TNs.tm tm3 ppx
  have ngr : gl ≠ r := fun z => by
    obtain ⟨_, _, _, R⟩ := F.row
    rw [z] at hgl; rw [s2 _ _ (e1 _ _ R.at_ nt)] at hgl; cases hgl
  have la3 : LmAt0 _ (LX P w K mg base f0 (.ref c) A outer s0 H0 E0').env.cells lm0 fa := let ⟨c', a, b⟩ := la; ⟨c', e13 _ _ a lmO_is.2, e13 _ _ b codeO_is.2⟩
  have lb3 : LmAt _ (LX P w K mg base f0 (.ref c) A outer s0 H0 E0').env.cells lm1 fb := let ⟨c', p', a, b, d⟩ := lb; ⟨c', p', e13 _ _ a lmO_is.2, e13 _ _ b (fun _ z => nomatch z), e13 _ _ d codeO_is.2⟩
  have lc3 : LmAt _ (LX P w K mg base f0 (.ref c) A outer s0 H0 E0').env.cells lm2 fc := let ⟨c', p', a, b, d⟩ := lc; ⟨c', p', e13 _ _ a lmO_is.2, e13 _ _ b (fun _ z => nomatch z), e13 _ _ d codeO_is.2⟩
  have ld3 : LmAt _ (LX P w K mg base f0 (.ref c) A outer s0 H0 E0').env.cells lm3 fd := ⟨cd, pd, s23 _ _ fd1, s23 _ _ pd1, s23 _ _ cd1⟩
  generalize upd (upd H1 dl (.lst [V.ref fd])) gl (.lst ([V.ref fa, V.ref fb, V.ref fc] ++ [V.ref fd])) = Hb at *
  obtain ⟨h9, r9, w9⟩ := h9
  obtain ⟨lk, hlen, nlr, npr⟩ := id (And.intro F.lk (And.intro F.len (And.intro F.nlr F.npr)))
  have n9 := lk.gl.2.2.2.1
  have n2 := lk.gl.2.2.1
  refine ⟨gl, rfl, ⟨_, SqL.of kgl⟩, for_list (K := K) (g := gName 12) (tb := tTry K C CT CR CN (LX P w K mg base f0 (.ref c) A outer s0 H0 E0').env.cells) (a := gl) (xs := [V.ref fa, V.ref fb, V.ref fc, V.ref fd])
    (fun i σ H' => ∃ xe xw, σ = [x0, x1, x2, some (.ref pl), x4, x5, x6, x7, x8, x9, some (.ref wl), some (.ref fl), xw, xe, some (.ref p), some v1, some (.ref r), x17] ∧ Kp2 wl r Hb H' ∧ RowAt K H' r sc ns ∧ H' wl = some (.lst (wds.take i)))
    ⟨x13, x12, rfl, .refl _ _ _, row3, kwl⟩ (fun i σ H' _ ⟨_, _, _, s, _⟩ => SqL.of (s _ _ ngw ngr kgl)) ?_ ?_⟩
  · rintro i x σ H' hi ⟨xe, xw, rfl, st, ra, hw⟩
    obtain ⟨_, _, _, Rb⟩ := id row3
    have hi4 : i < 4 := (List.getElem?_eq_some_iff.mp hi).1
    have d4 := dial3.kp st kwl Rb.at_ nlw nlr
    have one4 := one3.tm (st.tm kwl Rb.at_)
    have KL : ∀ {b o}, Hb b = some o → (∀ zs, o ≠ .lst zs) → H' b = some o := fun h n => st.at_ kwl Rb.at_ h n
    have word : ∀ (z : V) (D' : Ends) (cls : Value) (d : Option Addr) (H5 : Hp), wds.take (i + 1) = wds.take i ++ [z] → Kp2 wl r Hb H5 → RowAt K H5 r sc ns → H5 wl = some (.lst (wds.take i)) → ∀ a : Addr,
        (∀ xe' H5, Kp2 wl r Hb H5 → RowAt K H5 r sc ns → H5 wl = some (.lst (wds.take (i + 1))) → D'.nx [x0, x1, x2, some (.ref pl), x4, x5, x6, x7, x8, x9, some (.ref wl), some (.ref fl), some x, xe', some (.ref p), some v1, some (.ref r), x17] H5) →
        tsW K z a cls d { nx := fun σ' H' => D'.nx (σ'.set 13 none) H', rt := D'.rt, bk := fun σ' H' => D'.bk (σ'.set 13 none) H', ct := fun σ' H' => D'.ct (σ'.set 13 none) H' } [x0, x1, x2, some (.ref pl), x4, x5, x6, x7, x8, x9, some (.ref wl), some (.ref fl), some x, some (.ref a), some (.ref p), some v1, some (.ref r), x17] H5 := by
      intro z D' cls d H5 ez st5 ra5 hw5 a nx
      refine ⟨_, rfl, .inl ⟨rfl, _, SqL.of hw5⟩, wl, _, _, rfl, rfl, hw5, Nat.lt_of_le_of_lt (List.length_take_le ..) (by rw [sizeLine_eq]; omega), ?_⟩
      refine nx none _ (st5.trans (.l (StepR.put _ _ _))) (r9.far' w9 ra5 (StepR.put _ _ _)) ?_
      rw [upd_same, ez]
    obtain ⟨a1, rfl, ha1⟩ := one4
    obtain ⟨dx, e⟩ := id d4.ins
    have o4 : TN H' (.ref a1) (List.range n) := ⟨a1, rfl, ha1⟩
    have hx : i = 0 ∨ i = 1 ∨ i = 2 ∨ i = 3 := by omega
    rcases hx with rfl | rfl | rfl | rfl
    · obtain rfl : V.ref fa = x := Option.some.inj hi
      obtain ⟨c', g1, g2⟩ := la3
      refine ⟨fa, rfl, .inl ⟨c', KL g1 lmO_is.1, KL g2 codeO_is.1, ?_⟩⟩
      have ne0 : nIs (List.range n) ≠ [] := fun z => by
        have := congrArg List.length z
        rw [nIs_len, List.length_range, List.length_nil] at this
        omega
      obtain ⟨k1, k2⟩ := cut_less _ ne0
      refine ⟨_, rfl, p, dx, _, rfl, e, rfl, _, rfl, 1, rfl, -1, rfl, a1, _, rfl, ha1.sq, k2, fun q1 hq1 => ?_⟩
      have s5 := same_new (o := .tup (cutV (nIs (List.range n)) none (some (-1)))) hq1
      refine ⟨p, m, l, .ref q1, ls, n, pa, z, (List.range n).dropLast, rfl, d4.same s5, lk, hlen, ⟨q1, rfl, .inl ?_⟩, by rw [List.length_dropLast, List.length_range]; omega, fun mk => ?_, fun _ H5 s6 => ?_⟩
      · rw [upd_same, k1]
        unfold nIs
        rw [List.map_dropLast]
      · have := (lk.isP mk).len
        rw [List.length_dropLast, List.length_range] at this
        omega
      · have s56 := s5.trans s6
        exact ⟨true, X3.tt, fun _ a ha => word (.str "turn") _ (.ref CT) none H5 rfl (st.trans (.of s56)) (ra.step s56) (s56 _ _ hw) a (fun xe' H6 a b c => ⟨xe', _, rfl, a, b, c⟩), fun q => (by cases q)⟩
    · obtain rfl : V.ref fb = x := Option.some.inj hi
      obtain ⟨c', p', g1, g2, g3⟩ := lb3
      refine ⟨fb, rfl, .inr (.inl ⟨c', p', KL g1 lmO_is.1, KL g2 (fun _ z => nomatch z), KL g3 codeO_is.1, ?_⟩)⟩
      refine ⟨_, rfl, p, dx, _, rfl, e, rfl, _, rfl, by show 2 ≤ sizeLine; decide, fun q1 hq1 => ⟨by show 1 ≤ sizeLine; decide, fun q2 hq2 => ?_⟩⟩
      have s5 := same_new (o := .tup [V.int 0, V.ref a1]) hq1
      have s6 := same_new (o := .tup [V.int 0]) hq2
      have s56 := s5.trans s6
      refine ⟨p, m, l, .ref q1, .ref q2, ls, n, pa, z, .tuple [dN 0, dT (List.range n)], .tuple [dN 0], rfl, d4.same s56, lk, hlen, .tup (.inl (s6 _ _ upd_same)) (.cons (.int 0) (.cons (o4.tm (.of s56)).rp .nil)), fun ds ed => ?_, .tup (.inl upd_same) (.cons (.int 0) .nil), fun ds ed => ?_, (.inl ⟨stepD_len (by show 2 ≠ 3; decide), fun d5 H5 s7 h5 => ?_⟩)⟩
      · injection ed with ed
        subst ed
        refine ⟨by show 2 ≤ 1000; decide, fun e' he' es hes => ?_⟩
        simp only [List.mem_cons, List.not_mem_nil, or_false] at he'
        rcases he' with h | h
        · rw [h] at hes; cases hes
        · rw [h] at hes
          exact tlen (m := 1000) (by rw [List.length_range]; omega) es hes
      · injection ed with ed
        subst ed
        decide
      · have s57 := s56.trans s7
        exact ⟨false, X3.rt, fun q => (by cases q), fun _ => ⟨true, X3.rr, fun _ a ha => word (.str "row") _ (.ref CR) (some d5) H5 rfl (st.trans (.of s57)) (ra.step s57) (s57 _ _ hw) a (fun xe' H6 a b c => ⟨xe', _, rfl, a, b, c⟩), fun q => (by cases q)⟩⟩
    · obtain rfl : V.ref fc = x := Option.some.inj hi
      obtain ⟨c', p', g1, g2, g3⟩ := lc3
      refine ⟨fc, rfl, .inr (.inr (.inl ⟨c', p', KL g1 lmO_is.1, KL g2 (fun _ z => nomatch z), KL g3 codeO_is.1, ?_⟩))⟩
      refine ⟨_, rfl, p, dx, _, rfl, e, rfl, _, rfl, _, rfl, by show 3 ≤ sizeLine; decide, fun q1 hq1 => ⟨by show 1 ≤ sizeLine; decide, fun q2 hq2 => ?_⟩⟩
      have s5 := same_new (o := .tup [V.int 1, V.ref a1, V.ref a1]) hq1
      have s6 := same_new (o := .tup [V.int 0]) hq2
      have s56 := s5.trans s6
      refine ⟨p, m, l, .ref q1, .ref q2, ls, n, pa, z, .tuple [dN 1, dT (List.range n), dT (List.range n)], .tuple [dN 0], rfl, d4.same s56, lk, hlen, .tup (.inl (s6 _ _ upd_same)) (.cons (.int 1) (.cons (o4.tm (.of s56)).rp (.cons (o4.tm (.of s56)).rp .nil))), fun ds ed => ?_, .tup (.inl upd_same) (.cons (.int 0) .nil), fun ds ed => ?_, .inr ⟨1, List.range n, List.range n, rfl, .still, .still, by decide, .inl fun H4 s4 => ⟨.inr ⟨[dN 0], rfl, by decide⟩, fun H5 s7 => ?_⟩⟩⟩
      · exact sm3 n9 ds ed
      · injection ed with ed
        subst ed
        decide
      · have s57 := s56.trans s7
        exact ⟨false, X3.nt, fun q => (by cases q), fun _ => ⟨false, X3.nr, fun q => (by cases q), fun _ => ⟨true, X3.nn, fun _ a ha => word (.str "number") _ (.ref CN) none H5 rfl (st.trans (.of s57)) (ra.step s57) (s57 _ _ hw) a (fun xe' H6 a b c => ⟨xe', _, rfl, a, b, c⟩), fun q => (by cases q)⟩⟩⟩
    · obtain rfl : V.ref fd = x := Option.some.inj hi
      obtain ⟨c', p', g1, g2, g3⟩ := ld3
      refine ⟨fd, rfl, .inr (.inr (.inr ⟨c', p', KL g1 lmO_is.1, KL g2 (fun _ z => nomatch z), KL g3 codeO_is.1, ?_⟩))⟩
      refine ⟨_, rfl, p, dx, _, rfl, e, rfl, _, rfl, _, rfl, by show 3 ≤ sizeLine; decide, fun q1 hq1 => ?_⟩
      have s5 := same_new (o := .tup [V.int 0, V.ref a1, V.ref a1]) hq1
      refine ⟨_, rfl, Nat.zero_le _, fun t1 ht1 => ⟨by show 1 ≤ sizeLine; decide, fun t2 ht2 => ⟨by show 1 ≤ sizeLine; decide, fun t3 ht3 => ⟨by show 1 ≤ sizeLine; decide, fun t4 ht4 => ⟨by show 5 ≤ sizeLine; decide, fun kl hkl => ?_⟩⟩⟩⟩⟩
      have sk1 := same_new (o := .tup []) ht1
      have sk2 := same_new (o := .tup [V.int 2]) ht2
      have sk3 := same_new (o := .lst [V.int 0]) ht3
      have sk4 := same_new (o := .tup [V.bl true]) ht4
      have sk5 := same_new (o := .lst [V.non, .ref t1, .ref t2, .ref t3, .ref t4]) hkl
      have kt1 := sk5 _ _ (sk4 _ _ (sk3 _ _ (sk2 _ _ (upd_same (H := upd H' q1 (.tup [V.int 0, V.ref a1, V.ref a1])) (a := t1) (o := HO.tup [])))))
      have kt2 := sk5 _ _ (sk4 _ _ (sk3 _ _ (upd_same (H := upd (upd H' q1 (.tup [V.int 0, V.ref a1, V.ref a1])) t1 (.tup [])) (a := t2) (o := HO.tup [V.int 2]))))
      have kt3 := sk5 _ _ (sk4 _ _ (upd_same (H := upd (upd (upd H' q1 (.tup [V.int 0, V.ref a1, V.ref a1])) t1 (.tup [])) t2 (.tup [V.int 2])) (a := t3) (o := HO.lst [V.int 0])))
      have kt4 := sk5 _ _ (upd_same (H := upd (upd (upd (upd H' q1 (.tup [V.int 0, V.ref a1, V.ref a1])) t1 (.tup [])) t2 (.tup [V.int 2])) t3 (.lst [V.int 0])) (a := t4) (o := HO.tup [V.bl true]))
      have kq1 := ((sk1.trans sk2).trans ((sk3.trans sk4).trans sk5)) _ _ (upd_same (H := H') (a := q1) (o := HO.tup [V.int 0, V.ref a1, V.ref a1]))
      have sK := s5.trans ((sk1.trans sk2).trans ((sk3.trans sk4).trans sk5))
      have raK := ra.step sK
      have nk : kl ≠ r := (RowAt.ne (ra.step (s5.trans ((sk1.trans sk2).trans (sk3.trans sk4)))) hkl).symm
      have n3 : t3 ≠ r := (RowAt.ne (ra.step (s5.trans (sk1.trans sk2))) ht3).symm
      have kkl : (upd (upd (upd (upd (upd (upd H' q1 (.tup [V.int 0, V.ref a1, V.ref a1])) t1 (.tup [])) t2 (.tup [V.int 2])) t3 (.lst [V.int 0])) t4 (.tup [V.bl true])) kl (.lst [V.non, .ref t1, .ref t2, .ref t3, .ref t4])) kl = some (.lst [V.non, .ref t1, .ref t2, .ref t3, .ref t4]) := upd_same
      have hwK := sK _ _ hw
      have dK := d4.same sK
      have oK := o4.tm (.of sK)
      generalize upd (upd (upd (upd (upd (upd H' q1 (.tup [V.int 0, V.ref a1, V.ref a1])) t1 (.tup [])) t2 (.tup [V.int 2])) t3 (.lst [V.int 0])) t4 (.tup [V.bl true])) kl (.lst [V.non, .ref t1, .ref t2, .ref t3, .ref t4]) = Hk at *
      refine ⟨r, kl, sc, ns, _, rfl, raK, kkl, nk, by show 1 ≤ 5; decide, by show 5 ≤ 1000; decide, fun y H5 hy st5 ra5 => ?_⟩
      obtain ⟨_, _, _, RK⟩ := id raK
      have KT : ∀ {b o}, Hk b = some o → (∀ zs, o ≠ .lst zs) → H5 b = some o := fun h n => st5 _ _ (ne_of h RK.at_ (n _)) h
      have tm5 := stepR_tml st5 RK.at_
      have d5 : DialAt H5 C p m l ls n (pa ++ [z]) := dK.kp (Kp2.l st5) RK.at_ RK.at_ nlr nlr
      have hw5 := st5 _ _ nwr hwK
      obtain ⟨bd, hb1, hb2, hb3⟩ : ∃ bd, Rp H5 y bd ∧ (bitsD bd = false ∨ ∃ bs, bd = .tuple bs ∧ bs.length ≤ 0) ∧ ∀ ds, bd = .tuple ds → ds.length ≤ 1000 := by
        simp only [List.mem_cons, List.not_mem_nil, or_false] at hy
        rcases hy with rfl | rfl | rfl | rfl | rfl
        · exact ⟨.none, .non, .inl rfl, fun _ z => nomatch z⟩
        · exact ⟨.tuple [], .tup (.inl (KT kt1 (fun _ z => nomatch z))) .nil, .inr ⟨[], rfl, Nat.le_refl _⟩, fun ds z => by injection z with z; subst z; exact Nat.zero_le _⟩
        · exact ⟨.tuple [.int 2], .tup (.inl (KT kt2 (fun _ z => nomatch z))) (.cons (.int 2) .nil), .inl rfl, fun ds z => by injection z with z; subst z; decide⟩
        · exact ⟨.list [.int 0], .lst (st5 _ _ n3 kt3) (.cons (.int 0) .nil), .inl rfl, fun _ z => nomatch z⟩
        · exact ⟨.tuple [.bool true], .tup (.inl (KT kt4 (fun _ z => nomatch z))) (.cons (.bl true) .nil), .inl rfl, fun ds z => by injection z with z; subst z; decide⟩
      refine ⟨p, m, l, .ref q1, y, ls, n, pa, z, .tuple [dN 0, dT (List.range n), dT (List.range n)], bd, rfl, d5, lk, hlen, .tup (.inl (KT kq1 (fun _ z => nomatch z))) (.cons (.int 0) (.cons (oK.tm tm5).rp (.cons (oK.tm tm5).rp .nil))), sm3 n9, hb1, hb3, .inr ⟨0, List.range n, List.range n, rfl, .still, .still, by decide, .inl fun H6 s6 => ⟨hb2, fun H7 s7 => ?_⟩⟩⟩
      exact ⟨false, X3.nt, fun q => (by cases q), fun _ => ⟨false, X3.nr, fun q => (by cases q), fun _ => ⟨true, X3.nn, fun _ a ha => word (.str "number") _ (.ref CN) none H7 rfl (((st.trans (.of sK)).trans (.r st5)).trans (.of s7)) (ra5.step s7) (s7 _ _ hw5) a (fun xe' H6 a b c => ⟨xe', _, rfl, a, b, c⟩), fun q => (by cases q)⟩⟩⟩
  · rintro σ H' ⟨xe, xw, rfl, st, ra, hw⟩
    obtain ⟨_, _, _, Rb⟩ := id row3
    have d4 := dial3.kp st kwl Rb.at_ nlw nlr
    have tm4 := st.tm kwl Rb.at_
    have hpx4 := st _ _ npw npr hpx3
    have ppx4 := TNs.tm tm4 ppx3
    refine ⟨_, rfl, by show 4 ≤ sizeLine; decide, fun p1 hp1 => ?_⟩
    have s5 := same_new (o := .lst [V.str "turn", .str "row", .str "number", .str "number"]) hp1
    refine ⟨.list [.str "turn", .str "row", .str "number", .str "number"], .list [.str "turn", .str "row", .str "number", .str "number"], .lst (SqL.of (s5 _ _ hw)) (.cons (.str _) (.cons (.str _) (.cons (.str _) (.cons (.str _) .nil)))), .lst (SqL.of upd_same) (.cons (.str _) (.cons (.str _) (.cons (.str _) (.cons (.str _) .nil)))), by decide +kernel, by decide +kernel, true, by decide +kernel, iteT ?_⟩
    have d5 := d4.same s5
    obtain ⟨dx, e⟩ := id d5.ins
    refine ⟨_, rfl, p, dx, _, rfl, e, p, m, l, ls, n, pa, z, rfl, d5, fun r1 hr1 => ?_⟩
    have ppx5 := TNs.tm (.of s5) ppx4
    obtain ⟨xs', x, rfl, pp1, pp2⟩ := paired_end ppx5
    refine ⟨_, rfl, 1, rfl, pl, _, -1, x, rfl, rfl, SqL.of (s5 _ _ hpx4), atI_last _ _, dT z, dT z, hr1.dp, pp2.dp, sh_T _, sh_T _, ?_⟩
    rw [eqv_dT, decide_eq_true rfl]
    exact q _
end
end Lt

set_option Elab.async false
set_option linter.all false
set_option maxRecDepth 100000
set_option maxHeartbeats 2000000
/-! k13: the lambdas are made -/
namespace Lt
open PySem PySem.Spec PyProof.Rows L2 NdefX LamX LmX MaX
/-- what the draws have left -/
structure MidAt (K : PySem.W.Frag) (C : Addr) (H : Hp) (p m l pl r sc : Addr) (ns : List Int) (ls : List (List Nat)) (n : Nat) (past : List (List Nat)) : Prop where
  dial : DialAt H C p m l ls n past
  row : RowAt K H r sc ns
  pst : ∃ xs, H pl = some (.lst xs) ∧ Paired (TN H) xs past
  hd : ∃ rest, past = List.range n :: rest
  lk : Lk ls n
  len : past.length ≤ 1000
  nlr : l ≠ r
  npr : pl ≠ r
section
variable {P : Program} {w : World} {K : PySem.W.Frag} {mg : Str → Option Value} {base : Heap} {C CT CR CN c Pt : Addr}
theorem law_lams {f0 : Addr} {A : Around} {outer : List Env} {s0 : Shared} {H0 : Hp} {E0' : XK} (hr : Room 8 (LX P w K mg base f0 (.ref c) A outer s0 H0 E0').A) (B : Bi mg) (TB : TabB base mg c Pt)
    (cl : Cls K C) (hT : HasM P w K mg base (L2.CX P w) 5 C "turn" ["self", "turn"] (spDTurn C CT)) (hS : HasM P w K mg base (L2.CX P w) 6 C "step" ["self", "step", "bits"] (spDStep C CR CN)) (hPk : Has P w K mg base CX0 2 "_law_pick" ["row", "things"] (spPick K))
    (hSt : HasP P w K mg base CX0 1 C "stands" (spDStands C)) (X3 : Ex3 K mg CT CR CN) :
    ∃ t, PSs (LX P w K mg base f0 (.ref c) A outer s0 H0 E0') ((defBody s_law).drop 5) t ∧ ∀ (D : Ends) (H : Hp) (x0 x1 x2 x4 x5 x6 x7 x8 x9 x10 x11 x12 x13 x15 x17 : Option V) (p m l pl r sc : Addr) (ns : List Int) (ls : List (List Nat)) (n : Nat) (past : List (List Nat)),
      MidAt K C H p m l pl r sc ns ls n past → Tabs [(Pt, q_lam)] H → (∀ H', D.rt (.bl true) H') → t D [x0, x1, x2, some (.ref pl), x4, x5, x6, x7, x8, x9, x10, x11, x12, x13, some (.ref p), x15, some (.ref r), x17] H := by
  have hu := hr.units
  have hm : (Pt, q_lam) ∈ [(Pt, q_lam)] := List.mem_cons_self
  have hone : ∀ p ∈ [(Pt, q_lam)], p.1 = Pt → p.2 = q_lam := fun p hp _ => by rw [List.mem_singleton.mp hp]
  obtain ⟨tt, ht, qt⟩ := law_try (outer := outer) (s0 := s0) (H0 := H0) (E0' := E0') hr B TB cl hT hS hPk hSt X3
  refine ⟨_, pss_cons (ps_asg (pe_tup (pa_cons (pe_lst pa_nil) (pa_cons (pe_ix ix_list (pv 3) pe_int (fun _ _ => rfl)) pa_nil))) (pg_tup (by rfl) (pgs_cons (pg_name (i := 10) sc_law.nd rfl (Or.inl rfl)) (pgs_cons (pg_name (i := 15) sc_law.nd rfl (Or.inr rfl)) pgs_nil))))
    (pss_cons (ps_set (i := 11) sc_law.nd rfl (Or.inl rfl) (pe_lst (pa_cons (pe_lm0 (T := [(Pt, q_lam)]) TB rfl hm hone (ndef_free lb0) rfl) (pa_cons (pe_lm1 (T := [(Pt, q_lam)]) TB rfl hm hone (ndef_free lb1) rfl rfl pe_int) pa_nil))))
    (pss_cons (ps_expr (pe_bm PySem.F.plainAttrs_list PySem.F.slot_list_append PySem.F.type_list_append mt_append (pv 11) (pa_cons (pe_lm1 (T := [(Pt, q_lam)]) TB rfl hm hone (ndef_free lb2) rfl rfl pe_int) pa_nil)))
    ht)), ?_⟩
  intro D H x0 x1 x2 x4 x5 x6 x7 x8 x9 x10 x11 x12 x13 x15 x17 p m l pl r sc ns ls n past F hTb q
  obtain ⟨pxs, hpx, ppx⟩ := F.pst
  obtain ⟨rest, rfl⟩ := F.hd
  have nt : ∀ {xs : List V}, ∀ ps, HO.lst xs ≠ .tbl ps := fun _ z => nomatch z
  refine ⟨Nat.zero_le _, fun wl hwl => ?_⟩
  have s1 := same_new (o := .lst []) hwl
  have kw : (upd H wl (.lst [])) wl = some (.lst []) := upd_same
  have F1 := F.dial.same s1
  have h9 : ∃ H9, RowAt K H9 r sc ns ∧ H9 wl = none := ⟨H, F.row, hwl⟩
  obtain ⟨_, hlx, _⟩ := F.dial.stood
  have nlw : l ≠ wl := ne_of_none hlx hwl
  have npw : pl ≠ wl := ne_of_none hpx hwl
  have nwr : wl ≠ r := (F.row.ne hwl).symm
  cases ppx with
  | @cons v1 _ xr _ r1 rr =>
  have r2 := r1.tm (.of s1)
  have rr2 := TNs.tm (.of s1) rr
  refine ⟨_, rfl, pl, v1 :: xr, 0, v1, rfl, rfl, SqL.of (s1 _ _ hpx), atI_nat (j := 0) rfl, by show 2 ≤ sizeLine; decide, fun pt hpt => ?_⟩
  have s2 := same_new (o := .tup [V.ref wl, v1]) hpt
  have s12 := s1.trans s2
  refine ⟨pt, _, rfl, SqT.of upd_same, rfl, .ref wl, _, rfl, v1, _, rfl, rfl, ?_⟩
  refine ⟨hTb.ext s12, fun fa ca H3 e3 T3 _ fa3 ca3 => ⟨T3, fun pb fb cb H4 e4 T4 _ fb4 pb4 cb4 => ?_⟩⟩
  refine ⟨by show 2 ≤ sizeLine; decide, fun fl hfl => ?_⟩
  have s5 := same_new (o := .lst [V.ref fa, V.ref fb]) hfl
  have e15 : ExtN H (upd H4 fl (.lst [V.ref fa, V.ref fb])) := ((extN_of s12).trans (e3.trans e4)).trans (extN_of s5)
  have e25 : ExtN (upd H wl (.lst [])) (upd H4 fl (.lst [V.ref fa, V.ref fb])) := ((extN_of s2).trans (e3.trans e4)).trans (extN_of s5)
  have k5 : (upd H4 fl (.lst [V.ref fa, V.ref fb])) fl = some (.lst [V.ref fa, V.ref fb]) := upd_same
  have kw5 := e25 _ _ kw nt
  have nfw : fl ≠ wl := fun z => by
    rw [z] at hfl
    rw [e4 _ _ (e3 _ _ (s2 _ _ kw) nt) nt] at hfl
    cases hfl
  have nfr : fl ≠ r := fun z => by
    obtain ⟨_, _, _, R⟩ := F.row
    rw [z] at hfl
    rw [e4 _ _ (e3 _ _ (s12 _ _ R.at_) nt) nt] at hfl
    cases hfl
  have nlf : l ≠ fl := fun z => by
    rw [← z] at hfl
    rw [e4 _ _ (e3 _ _ (s12 _ _ hlx) nt) nt] at hfl
    cases hfl
  have npf : pl ≠ fl := fun z => by
    rw [← z] at hfl
    rw [e4 _ _ (e3 _ _ (s12 _ _ hpx) nt) nt] at hfl
    cases hfl
  have fa5 := s5 _ _ (e4 _ _ fa3 lmO_is.2)
  have ca5 := s5 _ _ (e4 _ _ ca3 codeO_is.2)
  have fb5 := s5 _ _ fb4
  have pb5 := s5 _ _ pb4
  have cb5 := s5 _ _ cb4
  have T5 : Tabs [(Pt, q_lam)] (upd H4 fl (.lst [V.ref fa, V.ref fb])) := T4.ext s5
  have row5 := F.row.extN e15
  have dial5 := F.dial.ext e15
  have tm15 := extN_tm e15
  have r5 := r1.tm tm15
  have rr5 := TNs.tm tm15 rr
  have px5 := e15 _ _ hpx nt
  generalize upd H4 fl (.lst [V.ref fa, V.ref fb]) = H5 at *
  refine ⟨_, rfl, .inl ⟨rfl, _, SqL.of k5⟩, T5, fun pc fc cc H6 e6 T6 _ fc6 pc6 cc6 => ?_⟩
  have k6 := e6 _ _ k5 nt
  refine ⟨fl, _, _, rfl, rfl, k6, by show 2 < sizeLine; decide, ?_⟩
  have st : StepR fl H6 (upd H6 fl (.lst ([V.ref fa, V.ref fb] ++ [V.ref fc]))) := StepR.put _ _ _
  have row6 := row5.extN e6
  have hsc : sc ≠ fl ∨ ∀ H H', RowAt K H r sc ns → StepR fl H H' → RowAt K H' r sc ns := by
    by_cases z : sc = fl
    · right
      rcases F.row.sq with (s | ⟨ob, s⟩) | s
      · rw [z] at s
        rw [e4 _ _ (e3 _ _ (s12 _ _ s) nt) nt] at hfl
        cases hfl
      · rw [z] at s
        rw [e4 _ _ (e3 _ _ (s12 _ _ s) (fun _ z => nomatch z)) (fun _ z => nomatch z)] at hfl
        cases hfl
      · intro H H' ⟨a, b, c, R⟩ sr
        exact ⟨a, b, c, sr _ _ nfr.symm R.at_, .inr s, R.a0, R.b0, R.b1⟩
    · exact .inl z
  have row7 : RowAt K (upd H6 fl (.lst ([V.ref fa, V.ref fb] ++ [V.ref fc]))) r sc ns := hsc.elim (fun z => row6.far nfr.symm z st) (fun z => z _ _ row6 st)
  have tm7 := stepR_tml st k6
  have tm57 := (extN_tm e6).trans tm7
  have ES : ∀ {b o}, H5 b = some o → (∀ zs, o ≠ .lst zs) → (∀ ps, o ≠ .tbl ps) → (upd H6 fl (.lst ([V.ref fa, V.ref fb] ++ [V.ref fc]))) b = some o := fun h n1 n2 => st _ _ (ne_of h k5 (n1 _)) (e6 _ _ h n2)
  have ES6 : ∀ {b o}, H6 b = some o → (∀ zs, o ≠ .lst zs) → (upd H6 fl (.lst ([V.ref fa, V.ref fb] ++ [V.ref fc]))) b = some o := fun h n1 => st _ _ (ne_of h k6 (n1 _)) h
  have dial7 : DialAt (upd H6 fl (.lst ([V.ref fa, V.ref fb] ++ [V.ref fc]))) C p m l ls n (List.range n :: rest) := (dial5.ext e6).kp (Kp2.l st) k6 k6 nlf nlf
  obtain ⟨pa, z, epa⟩ := last_app (xs := List.range n :: rest) (by simp)
  have past7 : ∃ xs, (upd H6 fl (.lst ([V.ref fa, V.ref fb] ++ [V.ref fc]))) pl = some (.lst xs) ∧ Paired (TN (upd H6 fl (.lst ([V.ref fa, V.ref fb] ++ [V.ref fc])))) xs (pa ++ [z]) := by
    rw [← epa]
    exact ⟨_, st _ _ npf (e6 _ _ px5 nt), .cons (r5.tm tm57) (TNs.tm tm57 rr5)⟩
  have hpl : pa.length ≤ 1000 := by
    have := F.len
    rw [epa, List.length_append] at this
    omega
  rw [epa] at dial7
  refine qt D _ x0 x1 x2 x4 x5 x6 x7 x8 x9 x12 x13 x17 p m l pl r sc wl fl fa fb fc ns ls n pa z v1 ⟨dial7, row7, r5.tm tm57, past7, F.lk, hpl, F.nlr, F.npr⟩ nlw npw nwr h9 (st _ _ nfw.symm (e6 _ _ kw5 nt)) upd_same nfw nfr ⟨ca, ES fa5 lmO_is.1 lmO_is.2, ES ca5 codeO_is.1 codeO_is.2⟩ ⟨cb, pb, ES fb5 lmO_is.1 lmO_is.2, ES pb5 (fun _ z => nomatch z) (fun _ z => nomatch z), ES cb5 codeO_is.1 codeO_is.2⟩ ⟨cc, pc, ES6 fc6 lmO_is.1, ES6 pc6 (fun _ z => nomatch z), ES6 cc6 codeO_is.1⟩ (fun p hp => ?_) q
  obtain ⟨ps, h1, h2, h3⟩ := T6 p hp
  refine ⟨ps, st _ _ (ne_of h1 k6 (fun z => nomatch z)) h1, h2, fun pos cv hc => ?_⟩
  obtain ⟨c, e1, e2⟩ := h3 pos cv hc
  exact ⟨c, e1, st _ _ (ne_of e2 k6 (codeO_is.1 _)) e2⟩
end
end Lt

set_option Elab.async false
set_option linter.all false
set_option maxRecDepth 100000
set_option maxHeartbeats 2000000
/-! comprehensions whose parts draw from the row -/
namespace Lt
open PySem PySem.Spec PyProof.Rows L2
section
variable {K : PySem.W.Frag} {te : TE} {vs : List Nat} {σ : L2.St} {H1 : Hp} {D r sc : Addr} {ns : List Int} {Qd : Hp → Prop} {β : Type} {j : Nat}
def Cd (K : PySem.W.Frag) (r sc : Addr) (ns : List Int) (H1 : Hp) (D : Addr) (R : Hp → V → β → Prop) (ok : β → Prop) (i : Nat) (H : Hp) : Prop :=
  StepR r H1 H ∧ RowAt K H r sc ns ∧ ∃ zs bs, H D = some (.lst zs) ∧ Paired (R H) zs bs ∧ bs.length = i ∧ ∀ b ∈ bs, ok b
theorem cd_zero {R : Hp → V → β → Prop} {ok : β → Prop} (ra : RowAt K H1 r sc ns) (hD : H1 D = none) : Cd K r sc ns H1 D R ok 0 (upd H1 D (.lst [])) :=
  ⟨.of (same_new hD), ra.step (same_new hD), [], [], upd_same, .nil, rfl, fun _ h => nomatch h⟩
theorem cd_turn {R : Hp → V → β → Prop} {ok : β → Prop} {i : Nat} {H : Hp} {σ2 : L2.St} (mono : ∀ H H' v b, Tm H H' → R H v b → R H' v b) (ra1 : RowAt K H1 r sc ns) (hD : H1 D = none) (p : Cd K r sc ns H1 D R ok i H) (hi : i < 100000)
    (he : ∀ H, StepR r H1 H → RowAt K H r sc ns → ∀ Q : VK, (∀ v H' b, StepR r H H' → RowAt K H' r sc ns → R H' v b → ok b → Q v H') → te σ2 H Q) :
    te σ2 H fun y H4 => ∃ acc, H4 D = some (.lst acc) ∧ acc.length < sizeLine ∧ Cd K r sc ns H1 D R ok (i + 1) (upd H4 D (.lst (acc ++ [y]))) := by
  obtain ⟨st, ra, zs, bs, hz, pr, hl, hok⟩ := p
  refine he H st ra _ fun v H4 b st4 ra4 hr hb => ?_
  have hDr : D ≠ r := (ra1.ne hD).symm
  have h4 := st4 _ _ hDr hz
  have t4 : Tm H4 (upd H4 D (.lst (zs ++ [v]))) := Tm.lst h4
  have hzl := Paired.length pr
  refine ⟨zs, h4, by rw [hzl, hl]; exact Nat.lt_of_lt_of_le hi (by decide), (st.trans st4).mut hD, RowAt.mut ra1 hD ra4, zs ++ [v], bs ++ [b], upd_same, ?_, by rw [List.length_append, hl]; rfl, fun c hc => ?_⟩
  · exact Paired.app (paired_mono (fun a b q => mono _ _ _ _ ((st4.tm ra).trans t4) q) pr) (Paired.one (mono _ _ _ _ t4 hr))
  · rcases List.mem_append.mp hc with h | h
    · exact hok c h
    · rw [List.mem_singleton.mp h]
      exact hb
/-- over a range -/
theorem lc_rangeS {n : Nat} (R : Hp → V → β → Prop) (ok : β → Prop) (mono : ∀ H H' v b, Tm H H' → R H v b → R H' v b) (ra : RowAt K H1 r sc ns) (hz : n ≤ 100000) (hD : H1 D = none)
    (hw : ∀ x, wipe ((wipe σ vs).set j (some x)) vs = wipe σ vs)
    (he : ∀ (i : Nat), i < n → ∀ H, StepR r H1 H → RowAt K H r sc ns → ∀ Q : VK, (∀ v H' b, StepR r H H' → RowAt K H' r sc ns → R H' v b → ok b → Q v H') → te ((wipe σ vs).set j (some (.int ((0 : Int) + (i : Nat))))) H Q)
    (hd : ∀ H zs bs, StepR r H1 H → RowAt K H r sc ns → H D = some (.lst zs) → Paired (R H) zs bs → bs.length = n → (∀ b ∈ bs, ok b) → Qd H) :
    ∃ W : Nat → Nat → Hp → Prop, (∃ m, W 0 m (upd H1 D (.lst []))) ∧ ∀ i m H, W i m H →
      ((Itr 0 n).stop i H ∧ Qd H) ∨ ((Itr 0 n).go i H ∧ ∃ Nx : Hp → Prop, (∀ H', Nx H' → ∃ m', m' < m ∧ W (i + 1) m' H') ∧ ∀ x H', (Itr 0 n).yld i H x H' → gName j x (wipe σ vs) H' fun σ2 H2 => wipe σ2 vs = wipe σ vs ∧ tYes σ2 H2 fun b H3 =>
        if b = true then te σ2 H3 fun y H4 => ∃ acc, H4 D = some (.lst acc) ∧ acc.length < sizeLine ∧ Nx (upd H4 D (.lst (acc ++ [y]))) else Nx H3) :=
  lc_range (lo := 0) (n := n) (Cd K r sc ns H1 D R ok) (cd_zero ra hD)
    (fun i H hi p => ⟨hw _, iteT (B := Cd K r sc ns H1 D R ok (i + 1) H) (cd_turn mono ra hD p (by omega) (he i hi))⟩)
    (fun H p => by
      obtain ⟨st, ra', zs, bs, h1, pr, hl, hok⟩ := p
      exact hd H zs bs st ra' h1 pr hl hok)
/-- over a list that stays -/
theorem lc_listS {a : Addr} {xs : List V} (R : Hp → V → β → Prop) (ok : β → Prop) (mono : ∀ H H' v b, Tm H H' → R H v b → R H' v b) (ra : RowAt K H1 r sc ns) (hx : H1 a = some (.lst xs)) (har : a ≠ r) (hz : xs.length ≤ 100000) (hD : H1 D = none)
    (hw : ∀ x, wipe ((wipe σ vs).set j (some x)) vs = wipe σ vs)
    (he : ∀ (i : Nat) (x : V), xs[i]? = some x → ∀ H, StepR r H1 H → RowAt K H r sc ns → ∀ Q : VK, (∀ v H' b, StepR r H H' → RowAt K H' r sc ns → R H' v b → ok b → Q v H') → te ((wipe σ vs).set j (some x)) H Q)
    (hd : ∀ H zs bs, StepR r H1 H → RowAt K H r sc ns → H D = some (.lst zs) → Paired (R H) zs bs → bs.length = xs.length → (∀ b ∈ bs, ok b) → Qd H) :
    ∃ W : Nat → Nat → Hp → Prop, (∃ m, W 0 m (upd H1 D (.lst []))) ∧ ∀ i m H, W i m H →
      ((Itl K a).stop i H ∧ Qd H) ∨ ((Itl K a).go i H ∧ ∃ Nx : Hp → Prop, (∀ H', Nx H' → ∃ m', m' < m ∧ W (i + 1) m' H') ∧ ∀ x H', (Itl K a).yld i H x H' → gName j x (wipe σ vs) H' fun σ2 H2 => wipe σ2 vs = wipe σ vs ∧ tYes σ2 H2 fun b H3 =>
        if b = true then te σ2 H3 fun y H4 => ∃ acc, H4 D = some (.lst acc) ∧ acc.length < sizeLine ∧ Nx (upd H4 D (.lst (acc ++ [y]))) else Nx H3) :=
  lc_list (xs := xs) (Cd K r sc ns H1 D R ok) (cd_zero ra hD) (fun i H _ p => SqL.of (p.1 _ _ har hx))
    (fun i x H hi p => ⟨hw x, iteT (B := Cd K r sc ns H1 D R ok (i + 1) H) (by
      have hl := (List.getElem?_eq_some_iff.mp hi).1
      exact cd_turn mono ra hD p (by omega) (he i x hi))⟩)
    (fun H p => by
      obtain ⟨st, ra', zs, bs, h1, pr, hl, hok⟩ := p
      exact hd H zs bs st ra' h1 pr hl hok)
end
theorem rn_mono : ∀ (H H' : Hp) (v : V) (b : Nat), Tm H H' → RN H v b → RN H' v b := fun _ _ _ _ _ r => r
end Lt

set_option Elab.async false
set_option linter.all false
set_option maxRecDepth 100000
set_option maxHeartbeats 1000000
/-! tuples whose object is known: they bear no dict, so their methods are found -/
namespace L2
open PySem PySem.Spec PyProof.Rows
section
variable {X : Cx} {a : Expr} {ta : TE} {te : St → Hp → (Int → Int → Hp → Prop) → Prop} {e : Expr}
def kTupF (K : PySem.W.Frag) (x : V) (H : Hp) (Q : VK) : Prop := ∃ p xs, x = .ref p ∧ SqL K H p xs ∧ ∀ q o, o.dict = none → H q = none → Q (.ref q) (upd H q (.frz o (.tup xs)))
theorem pe_tupleOfF {p pos : Pos} (hg : Gl X "tuple") (hm : X.mg "tuple" = none) (ha : PE X a ta) (na : starEach [a] X.env = (false, eval a X.env) :: starEach [] X.env := by rfl) :
    PE X (.Call (.Name "tuple" p) [a] [] pos) (tThen ta (kTupF X.K)) := by
  refine ⟨fun pins s σ H Q I h => ?_⟩
  refine Call_ (ld_blt I hg hm boot_tuple (PyProof.Rows.callWith_type1 (one_arg ha I h (fun v s2 x H2 I2 r q => ?_) na) na))
  obtain ⟨l, xs, rfl, hs, q⟩ := q
  obtain rfl : v = .ref l := r
  obtain ⟨its, rv, pl, hz⟩ := I2.list hs
  refine call_tuple_list pl.isList (fun h' hk => ?_) (by rw [List.size_toArray, ← rv.length]; exact hz)
  have I3 : Inv X pins σ H2 { s2 with heap := h' } := I2.kept (t' := s2.toks) hk
  have hget : (h'.push { cls := .type "tuple", data := .seq its.toArray }).get? h'.objs.size = some { cls := .type "tuple", data := .seq its.toArray } := Heap.get?_push_size _ rfl
  have I4 := I3.laid (a := h'.objs.size) (o := .frz { cls := .type "tuple", data := .seq its.toArray } (.tup xs)) (h' := h'.push { cls := .type "tuple", data := .seq its.toArray }) (t' := s2.toks) (fun b o e => Heap.get?_push_of_some _ e) (Nat.le_refl _) ⟨hget, hz, its, rv, _, hget, rfl, _, rfl⟩
  exact ⟨.ref h'.objs.size, _, I4, rfl, q _ _ rfl (I3.hok.fresh (Nat.le_refl _))⟩
def tTupRgF (te : St → Hp → (Int → Int → Hp → Prop) → Prop) : TE := fun σ H Q => te σ H fun a b H1 => RgOk a b ∧ ∀ q o, o.dict = none → H1 q = none → Q (.ref q) (upd H1 q (.frz o (.tup (rgV a b))))
theorem pe_tupRgF {p pos : Pos} (hc : X.calm = true) (hg : Gl X "tuple") (hm : X.mg "tuple" = none) (he : PRg X e te) (na : starEach [e] X.env = (false, eval e X.env) :: starEach [] X.env := by rfl) : PE X (.Call (.Name "tuple" p) [e] [] pos) (tTupRgF te) := by
  refine ⟨fun pins s σ H Q I h => ?_⟩
  refine Call_ (ld_blt I hg hm boot_tuple (PyProof.Rows.callWith_type1 (args_cons (thn (he pins s σ H _ I h) fun x s1 ⟨r, a, b, t, u, v, H1, ex, hr, I1, ok, q⟩ => args_nil ?_) na) na))
  subst ex
  obtain ⟨b1, b2, b3, b4, b5⟩ := ok
  refine call_tuple_range (n := (b - a).toNat) (I1.ok.hd hc) hr (small_one b1 b2 b3 b4) (rangeSize_nat a b) b5 fun h' tk acc hk hi => ?_
  have I2 : Inv X pins σ H1 { s1 with heap := h', toks := tk } := I1.kept hk
  have hget : (h'.push { cls := .type "tuple", data := .seq acc }).get? h'.objs.size = some { cls := .type "tuple", data := .seq acc } := Heap.get?_push_size _ rfl
  have hz : (rgV a b).length ≤ sizeLine := by rw [rgV_length, sizeLine_eq]; omega
  have hi2 : IsTup (h'.push { cls := .type "tuple", data := .seq acc }) h'.objs.size acc.toList.toArray := by rw [Array.toArray_toList]; exact IsTup.new _ _
  have I3 := I2.laid (a := h'.objs.size) (o := .frz { cls := .type "tuple", data := .seq acc } (.tup (rgV a b))) (h' := h'.push { cls := .type "tuple", data := .seq acc }) (t' := tk) (fun c o e => Heap.get?_push_of_some _ e) (Nat.le_refl _) ⟨hget, hz, acc.toList, vals_rg hi, hi2⟩
  exact ⟨.ref h'.objs.size, _, I3, rfl, q _ _ rfl (I2.hok.fresh (Nat.le_refl _))⟩
/-- a method of a tuple whose object is known -/
def tBMF (r : V → List V → Hp → VK → Prop) (to : TE) (t : TA) : TE := fun σ H Q => to σ H fun x H1 => (∃ a o xs, x = .ref a ∧ H1 a = some (.frz o (.tup xs)) ∧ o.dict = none) ∧ t σ H1 fun ys H2 => r x ys H2 Q
theorem pe_bmF {o e : Expr} {es : List Expr} {to : TE} {t : TA} {name : Str} {apos cpos : Pos} {id : String} {r : V → List V → Hp → VK → Prop} (slot : Slot "tuple" name id) (hty : typeOf (.builtin id) = pure (.type "method_descriptor")) (hm : MtR X id r) (ho : PE X o to) (ha : PA X (e :: es) t)
    (hbase : attributeBase o name X.env (eval o X.env) = eval o X.env := by rfl)
    (hfew : ((backTo cpos (starEach (e :: es) X.env)).all (fun x => !x.1) && (backToKw cpos (keywordEach [] X.env)).all (fun x => x.1.isSome)
      && decide ((e :: es).length + ([] : List Keyword).length + (if ([] : List Keyword).isEmpty then 0 else 1) < 30)) = true := by rfl)
    (hline : (apos.endLine == cpos.line) = true := by rfl) (hs : starEach (e :: es) X.env = (false, eval e X.env) :: starEach es X.env := by rfl) (hplain : (backTo cpos (starEach es X.env)).any (·.1) = false := by rfl) :
    PE X (.Call (.Attribute o name apos) (e :: es) [] cpos) (tBMF r to t) := by
  refine ⟨fun pins s σ H Q I h => ?_⟩
  refine wpAny_Call_method_late hbase hfew hline rfl (thn (ho.run pins s σ H _ I h) fun v s1 ⟨x, H1, I1, r1, ty, q1⟩ => ?_)
  obtain ⟨a, ob, xs, rfl, hH, hdn⟩ := ty
  obtain rfl : v = Value.ref a := r1
  obtain ⟨hget, hz, its, rv, ob', hget', hcls, hdat⟩ := (show ObjOk X.prog X.w H1 s1.heap a (.frz ob (.tup xs)) from I1.hok a _ hH)
  refine ⟨"tuple", id, PySem.F.plainAttrs_tuple, slot, hty, ⟨ob', hget', hcls⟩, fun b eb => ?_, ?_⟩
  · cases eb
    exact ⟨ob, hget, hdn⟩
  have hA := ha.run cpos pins s1 σ H1 _ I1 q1
  rw [hs] at hA ⊢
  refine Calls.callWith_builtin (by show (false || (backTo cpos (starEach es X.env)).any (·.1)) = false; rw [hplain] <;> rfl) (Calls.evalArgs_plain ?_)
  exact thn hA fun us s2 ⟨vs, H2, I2, r2, q2⟩ => hm pins s2 σ H2 (.ref a) vs (.ref a) us Q I2 rfl r2 q2
end
end L2

set_option Elab.async false
set_option linter.all false
set_option maxRecDepth 100000
set_option maxHeartbeats 1000000
namespace Lt
open PySem PySem.Spec PyProof.Rows L2
/-- a turn whose object is known -/
def TF (H : Hp) (v : V) (t : List Nat) : Prop := ∃ a o, v = .ref a ∧ H a = some (.frz o (.tup (nIs t))) ∧ o.dict = none
theorem TF.tn {H : Hp} {v : V} {t : List Nat} (h : TF H v t) : TN H v t := let ⟨a, o, e, h, _⟩ := h; ⟨a, e, .inr ⟨o, h⟩⟩
theorem TF.tm {H H' : Hp} {v : V} {t : List Nat} (e : Tm H H') (h : TF H v t) : TF H' v t := let ⟨a, o, ev, h, d⟩ := h; ⟨a, o, ev, e.2 _ _ _ h, d⟩
section
variable {P : Program} {w : World} {K : PySem.W.Frag} {mg : Str → Option Value} {base : Heap}
/-! ### _law_is -/
def spIs : Sp := fun vs H Q _ => ∃ (a b : Bool), vs = [.bl a, .bl b] ∧ Q (.bl (decide (a = b))) H
/-! ### _law_behind, _law_back, _law_swap -/
theorem sc_law_behind : FnScope ["one", "other", "place"] ["one", "other"] (defScope s_law_behind) := ⟨rfl, rfl, rfl, by decide +kernel, rfl, by decide +kernel, by decide +kernel⟩
theorem has_law_behind (T : Top K mg "_law_behind" s_law_behind ["one", "other"]) (B : Bi mg) : Has P w K mg base CX0 1 "_law_behind" ["one", "other"] spProd := by
  refine T.ok sc_law_behind (fun vs H Q E h => ?_) (fun f cdv A outer s H vs Q E hr h => ?_)
  · obtain ⟨a, b, x, y, rfl, _⟩ := h
    rfl
  · obtain ⟨a, b, x, y, rfl, ha, hb, hxy, hx, q⟩ := h
    refine ⟨_, pss_one (ps_ret (pe_tupleOf (by rfl) B.tuple (pe_lc (own := [("place", 2)]) (g := gName 2) (te := tOp (rIxT K) (tVar 1) (tVar 2)) (by rfl) sc_law_behind.nd (pi_tup (pv 0)) (blkOk_by (own := [("place", 2)]) (N := ["one", "other", "place"]) (sc := defScope s_law_behind) (by decide +kernel))
      (fun _ _ _ _ _ => pg_name (i := 2) sc_law_behind.nd rfl (Or.inl rfl)) (fun _ _ _ _ _ => pts_nil) (fun _ _ _ _ _ => pe_ix ix_tup (pv 1) (pv 2) (fun _ _ => rfl))))), ?_⟩
    obtain ⟨pa, rfl, ea⟩ := ha
    obtain ⟨pb, rfl, eb⟩ := hb
    refine ⟨_, rfl, pa, rfl, ⟨_, ea.sq⟩, fun D hD => lc_tupM RN (prod x y) (fun _ _ _ _ _ r => r) ea.sq (fun H' sm => (ea.sm sm).sq) (by rw [nIs_len]; omega) (by rw [prod_len, nIs_len]) hD (fun x => rfl) (fun i v n hi hn H' sm Q' q' => ?_) (fun H' zs sm hz pr => ?_)⟩
    · rw [nIs_get] at hi
      obtain ⟨m, hm, rfl⟩ := Option.map_eq_some_iff.mp hi
      have hlt := hxy m (List.mem_of_getElem? hm)
      have e : n = y.getD m 0 := by
        have z : (prod x y)[i]? = some (y.getD m 0) := by
          unfold prod
          rw [List.getElem?_map, hm]
          rfl
        exact Option.some.inj (hn.symm.trans z)
      refine ⟨_, rfl, _, rfl, pb, _, _, nI n, rfl, rfl, (eb.sm sm).sq, atI_nat ?_, q' _ _ (Same.refl _) rfl⟩
      rw [nIs_get, e, List.getD_eq_getElem?_getD, List.getElem?_eq_getElem hlt]
      rfl
    · refine .inl ⟨D, zs, rfl, SqL.of hz, fun p hp => q _ _ (sm.trans (same_new hp)) (tn_of upd_same (RN.all pr))⟩
/-- the same, the new turn's object told -/
def spProdF : Sp := fun vs H Q _ => ∃ (a b : V) (x y : List Nat), vs = [a, b] ∧ TN H a x ∧ TN H b y ∧ (∀ i ∈ x, i < y.length) ∧ x.length ≤ 1000 ∧ ∀ v H', Same H H' → TF H' v (prod x y) → Q v H'
theorem has_law_behindF (T : Top K mg "_law_behind" s_law_behind ["one", "other"]) (B : Bi mg) : Has P w K mg base CX0 1 "_law_behind" ["one", "other"] spProdF := by
  refine T.ok sc_law_behind (fun vs H Q E h => ?_) (fun f cdv A outer s H vs Q E hr h => ?_)
  · obtain ⟨a, b, x, y, rfl, _⟩ := h
    rfl
  · obtain ⟨a, b, x, y, rfl, ha, hb, hxy, hx, q⟩ := h
    refine ⟨_, pss_one (ps_ret (pe_tupleOfF (by rfl) B.tuple (pe_lc (own := [("place", 2)]) (g := gName 2) (te := tOp (rIxT K) (tVar 1) (tVar 2)) (by rfl) sc_law_behind.nd (pi_tup (pv 0)) (blkOk_by (own := [("place", 2)]) (N := ["one", "other", "place"]) (sc := defScope s_law_behind) (by decide +kernel))
      (fun _ _ _ _ _ => pg_name (i := 2) sc_law_behind.nd rfl (Or.inl rfl)) (fun _ _ _ _ _ => pts_nil) (fun _ _ _ _ _ => pe_ix ix_tup (pv 1) (pv 2) (fun _ _ => rfl))))), ?_⟩
    obtain ⟨pa, rfl, ea⟩ := ha
    obtain ⟨pb, rfl, eb⟩ := hb
    refine ⟨_, rfl, pa, rfl, ⟨_, ea.sq⟩, fun D hD => lc_tupM RN (prod x y) (fun _ _ _ _ _ r => r) ea.sq (fun H' sm => (ea.sm sm).sq) (by rw [nIs_len]; omega) (by rw [prod_len, nIs_len]) hD (fun x => rfl) (fun i v n hi hn H' sm Q' q' => ?_) (fun H' zs sm hz pr => ?_)⟩
    · rw [nIs_get] at hi
      obtain ⟨m, hm, rfl⟩ := Option.map_eq_some_iff.mp hi
      have hlt := hxy m (List.mem_of_getElem? hm)
      have e : n = y.getD m 0 := by
        have z : (prod x y)[i]? = some (y.getD m 0) := by
          unfold prod
          rw [List.getElem?_map, hm]
          rfl
        exact Option.some.inj (hn.symm.trans z)
      refine ⟨_, rfl, _, rfl, pb, _, _, nI n, rfl, rfl, (eb.sm sm).sq, atI_nat ?_, q' _ _ (Same.refl _) rfl⟩
      rw [nIs_get, e, List.getD_eq_getElem?_getD, List.getElem?_eq_getElem hlt]
      rfl
    · refine ⟨D, zs, rfl, SqL.of hz, fun p o ho hp => q _ _ (sm.trans (same_new hp)) ⟨p, o, rfl, by rw [upd_same, RN.all pr], ho⟩⟩
def rTupIx (K : PySem.W.Frag) : V → List V → Hp → VK → Prop := fun x xs H Q => ∃ p, ∃ ys : List Int, ∃ z j, x = .ref p ∧ xs = [.int z] ∧ SqT K H p (ys.map V.int) ∧ ys[j]? = some z ∧ (∀ m, m < j → ys[m]? ≠ some z) ∧ Q (.int (j : Nat)) H
def spLawBack : Sp := fun vs H Q _ => ∃ (a : V) (t : List Nat) (n : Nat), vs = [a] ∧ TF H a t ∧ IsP n t ∧ n ≤ 1000 ∧ ∀ v H', Same H H' → TK H' v (inv t) → Q v H'
def spLawSwap : Sp := fun vs H Q _ => ∃ (a b : V) (x y : List Nat) (n : Nat), vs = [a, b] ∧ TF H a x ∧ TF H b y ∧ IsP n x ∧ IsP n y ∧ n ≤ 1000 ∧ ∀ v H', Same H H' → TK H' v (prod (prod x y) (prod (inv x) (inv y))) → Q v H'
/-! ### _law_permutation -/
def spLawPerm (K : PySem.W.Frag) : Sp := fun vs H Q _ => ∃ (r sc : Addr) (ns : List Int) (n : Nat), vs = [.ref r, nI n] ∧ RowAt K H r sc ns ∧ n ≤ 1000 ∧ ∀ v H' t, IsP n t → StepR r H H' → RowAt K H' r sc ns → TK H' v t → Q v H'
theorem sc_law_permutation : FnScope ["row", "places", "left", "found", "turn"] ["row", "places"] (defScope s_law_permutation) := ⟨rfl, rfl, rfl, by decide +kernel, rfl, by decide +kernel, by decide +kernel⟩
theorem nIs_erase : ∀ (t : List Nat) (i : Nat), (nIs t).eraseIdx i = nIs (t.eraseIdx i)
  | [], _ => rfl
  | _ :: _, 0 => rfl
  | a :: t, i + 1 => by
    show nI a :: (nIs t).eraseIdx i = nI a :: nIs (t.eraseIdx i)
    rw [nIs_erase t i]
theorem erase_perm : ∀ (l : List Nat) (x : Nat) (h : x < l.length), (l[x] :: l.eraseIdx x).Perm l
  | [], x, h => absurd h (Nat.not_lt_zero x)
  | a :: l, 0, _ => List.Perm.refl _
  | a :: l, x + 1, h => (List.Perm.swap a (l[x]'(Nat.lt_of_succ_lt_succ h)) (l.eraseIdx x)).trans ((erase_perm l x (Nat.lt_of_succ_lt_succ h)).cons a)
theorem has_law_permutation (T : Top K mg "_law_permutation" s_law_permutation ["row", "places"]) (B : Bi mg) (hT : Has P w K mg base CX0 1 "_law_taken" ["row", "many"] (spTaken K)) : Has P w K mg base CX0 2 "_law_permutation" ["row", "places"] (spLawPerm K) := by
  refine T.ok sc_law_permutation (fun vs H Q E h => ?_) (fun f cdv A outer s H vs Q E hr h => ?_)
  · obtain ⟨r, sc, ns, n, rfl, _⟩ := h
    rfl
  · obtain ⟨r, sc, ns, n, rfl, ra, hn, q⟩ := h
    refine ⟨_, pss_cons (ps_par (i := 2) (j := 3) (by rfl) sc_law_permutation.nd rfl rfl (by decide) rfl rfl (pa_cons (pe_listRg (by rfl) (by rfl) B.list (prg_1 (by rfl) B.range (pv 1))) (pa_cons (pe_lst pa_nil) pa_nil)) (by rfl))
      (pss_cons (ps_for PassesOwn.never rfl (pi_range1 (by rfl) B.range (pa_cons (pv 1) pa_nil)) (pg_name (i := 4) sc_law_permutation.nd rfl (Or.inl rfl))
        (pss_one (ps_expr (pe_bm PySem.F.plainAttrs_list PySem.F.slot_list_append PySem.F.type_list_append mt_append (pv 3) (pa_cons
          (pe_bm PySem.F.plainAttrs_list PySem.F.slot_list_pop PySem.F.type_list_pop mt_popAt (pv 2) (pa_cons (pe_has hT hr (by rfl) (pa_cons (pv 0) (pa_cons (pe_callB call_len_seq (by rfl) B.len PySem.boot_len (pa_cons (pv 2) pa_nil)) pa_nil))) pa_nil)) pa_nil)))))
      (pss_one (ps_ret (pe_tupleOf (by rfl) B.tuple (pv 3))))), ?_⟩
    refine ⟨_, rfl, n, rfl, .of_le (by omega) (by omega) (by omega) (by omega), fun lf hlf => ?_⟩
    have s1 := same_new (o := .lst (rgV 0 n)) hlf
    refine ⟨Nat.zero_le _, fun fd hfd => ⟨_, _, rfl, ?_⟩⟩
    have s2 := s1.trans (same_new (o := .lst []) hfd)
    have hfd0 : H fd = none := s1.free hfd
    have hlfd : lf ≠ fd := fun z => by rw [← z, upd_same] at hfd; cases hfd
    refine ⟨_, rfl, (n : Int), rfl, by omega, by omega, for_range (lo := 0) (n := (n : Int).toNat) (fun i σ H' => ∃ (l f : List Nat) (y : Option V), σ = [some (.ref r), some (nI n), some (.ref lf), some (.ref fd), y] ∧ StepR r H H' ∧ RowAt K H' r sc ns ∧ H' lf = some (.lst (nIs l)) ∧ H' fd = some (.lst (nIs f)) ∧ (f ++ l).Perm (List.range n) ∧ f.length = i)
      ⟨List.range n, [], none, rfl, .of s2, ra.step s2, by rw [upd_ne hlfd, upd_same, rgV_nat], by rw [upd_same]; rfl, List.Perm.refl _, rfl⟩ ?_ ?_⟩
    · rintro i σ H' hi ⟨l, f, y, rfl, st, ra', hl, hf, pm, hfl⟩
      have hlen := pm.length_eq
      rw [List.length_append, List.length_range] at hlen
      have hl1 : 1 ≤ l.length := by omega
      refine ⟨_, rfl, .inl ⟨rfl, _, SqL.of hf⟩, _, rfl, .inl ⟨rfl, _, SqL.of hl⟩, _, rfl, _, rfl, lf, nIs l, rfl, .inl (SqL.of hl), r, sc, ns, l.length, by rw [nIs_len]; rfl, ra', hl1, by omega, fun x H2 hx st2 ra2 => ?_⟩
      have hlr : lf ≠ r := (ra.ne hlf).symm
      have hfr : fd ≠ r := (ra.ne hfd0).symm
      have hl2 := st2 _ _ hlr hl
      have hf2 := st2 _ _ hfr hf
      refine ⟨lf, nIs l, (x : Int), x, nI l[x], rfl, rfl, hl2, by omega, by omega, (ixN_seq (Evl.ixN_nat (by rw [nIs_len]; exact hx))).1, by rw [nIs_get, List.getElem?_eq_getElem hx]; rfl, ?_⟩
      have hf3 : (upd H2 lf (.lst ((nIs l).eraseIdx x))) fd = some (.lst (nIs f)) := by rw [upd_ne hlfd.symm]; exact hf2
      refine ⟨fd, nIs f, nI l[x], rfl, rfl, hf3, by rw [nIs_len, sizeLine_eq]; omega, ?_⟩
      refine ⟨l.eraseIdx x, f ++ [l[x]], _, rfl, ((st.trans st2).mut hlf).mut hfd0, RowAt.mut ra hfd0 (RowAt.mut ra hlf ra2), ?_, ?_, ?_, by rw [List.length_append, hfl]; rfl⟩
      · rw [upd_ne hlfd, upd_same, nIs_erase]
      · rw [upd_same]
        unfold nIs
        rw [List.map_append]
        rfl
      · rw [List.append_assoc]
        refine List.Perm.trans (List.Perm.append_left f ?_) pm
        exact erase_perm l x hx
    · rintro σ H' ⟨l, f, y, rfl, st, ra', hl, hf, pm, hfl⟩
      have hlen := pm.length_eq
      rw [List.length_append, List.length_range] at hlen
      have hl0 : l = [] := by
        cases l with
        | nil => rfl
        | cons a l => rw [List.length_cons] at hlen; omega
      subst hl0
      rw [List.append_nil] at pm
      refine ⟨_, rfl, .inl ⟨fd, nIs f, rfl, SqL.of hf, fun p hp => ?_⟩⟩
      have sp := same_new (o := .tup (nIs f)) hp
      exact q _ _ f pm (st.trans (.of sp)) (ra'.step sp) ⟨p, rfl, upd_same⟩
end
end Lt

set_option Elab.async false
set_option linter.all false
set_option maxRecDepth 100000
set_option maxHeartbeats 1000000
namespace Lt
open PySem PySem.Spec PyProof.Rows L2
/-! ### _law_alike, of equal data -/
def Pl : Nat → PyData → Prop
  | _, .int _ => True
  | _, .none => True
  | k + 1, .tuple ds => ds.length ≤ 1000 ∧ ∀ e ∈ ds, Pl k e
  | k + 1, .list ds => ds.length ≤ 1000 ∧ ∀ e ∈ ds, Pl k e
  | _, _ => False
def isTL (d : PyData) : Bool := isTup d || isLst d
theorem kit_TL {K : PySem.W.Frag} (d : PyData) : PySem.W.kitAny K (.type (tyN d)) [.type "tuple", .type "list"] = some (isTL d) := by
  refine kitAny_cons (b := isTup d) (kit_ty (kit_tup d)) (fun h => ?_) (fun h => by unfold isTL; rw [h]; rfl)
  refine kitAny_cons (b := isLst d) (kit_ty (kit_lst d)) (fun h2 => ?_) (fun h2 => by unfold isTL; rw [h, h2]; rfl)
  unfold isTL
  rw [h, h2]
  exact kitAny_nil
theorem cls_TL : Paired ClsV [V.ty "tuple", V.ty "list"] [.type "tuple", .type "list"] := .cons (.ty _) (.cons (.ty _) .nil)
section
variable {P : Program} {w : World} {K : PySem.W.Frag} {mg : Str → Option Value} {base : Heap}
def spAlike (k : Nat) : Sp := fun vs H Q _ => ∃ (v u : V) (d : PyData), vs = [v, u] ∧ Rp H v d ∧ Rp H u d ∧ Pl k d ∧ ∀ H', Same H H' → Q (.bl true) H'
theorem sc_law_alike : FnScope ["found", "due", "k"] ["found", "due"] (defScope s_law_alike) := ⟨rfl, rfl, rfl, by decide +kernel, rfl, by decide +kernel, by decide +kernel⟩
theorem Rp.ix {K : PySem.W.Frag} {H : Hp} {a : Addr} {xs : List V} {i : Nat} {v : V} {Q : VK} (h : H a = some (.lst xs) ∨ RT H a xs) (hi : xs[i]? = some v) (q : Q v H) : rIx K (.ref a) (.int ((0 : Int) + (i : Nat))) H Q := by
  have e : atI xs ((0 : Int) + (i : Nat)) = some v := by rw [Int.zero_add]; exact atI_nat hi
  rcases h with h | h
  · exact .inl ⟨a, xs, _, v, rfl, rfl, SqL.of h, e, q⟩
  · exact .inr (.inl ⟨a, xs, _, v, rfl, rfl, h.sq, e, q⟩)
theorem RpAll.getR {H : Hp} : ∀ {ds : List PyData} {vs : List V} {i : Nat}, RpAll H vs ds → i < ds.length → ∃ v d, vs[i]? = some v ∧ ds[i]? = some d ∧ Rp H v d := fun {ds vs i} h hi => by
  have hl := h.len
  have hv : vs[i]? = some (vs[i]'(by omega)) := List.getElem?_eq_getElem (by omega)
  obtain ⟨d, h1, h2⟩ := h.get hv
  exact ⟨_, d, hv, h1, h2⟩
/-- a list or tuple -/
theorem Rp.seq {H : Hp} {v : V} {d : PyData} (h : Rp H v d) (ht : isTL d = true) : ∃ a xs ds, v = .ref a ∧ (H a = some (.lst xs) ∨ RT H a xs) ∧ RpAll H xs ds ∧ (d = .tuple ds ∨ d = .list ds) := by
  cases h with
  | lst h a => exact ⟨_, _, _, rfl, .inl h, a, .inr rfl⟩
  | tup h a => exact ⟨_, _, _, rfl, .inr h, a, .inl rfl⟩
  | non => cases ht
  | bl => cases ht
  | int => cases ht
  | str => cases ht
theorem sq_or {K : PySem.W.Frag} {H : Hp} {a : Addr} {xs : List V} (h : H a = some (.lst xs) ∨ RT H a xs) : SqL K H a xs ∨ SqT K H a xs := by
  rcases h with h | h
  · exact .inl (SqL.of h)
  · exact .inr h.sq
theorem or_same {H H' : Hp} {a : Addr} {xs : List V} (s : Same H H') (h : H a = some (.lst xs) ∨ RT H a xs) : H' a = some (.lst xs) ∨ RT H' a xs := by
  rcases h with h | h
  · exact .inl (s _ _ h)
  · exact .inr (h.sm s)
theorem has_law_alike (T : Top K mg "_law_alike" s_law_alike ["found", "due"]) (B : Bi mg) : ∀ k, Has P w K mg base CX0 (k + 1) "_law_alike" ["found", "due"] (spAlike k) := by
  have step : ∀ (k : Nat) (sp : Sp) (hsp : ∀ (v u : V) (d : PyData) (H : Hp) (Q : VK), (∃ k', k = k' + 1 ∧ Pl k' d) → Rp H v d → Rp H u d → (∀ H', Same H H' → Q (.bl true) H') → sp [v, u] H Q E0), Has P w K mg base CX0 k "_law_alike" ["found", "due"] sp → Has P w K mg base CX0 (k + 1) "_law_alike" ["found", "due"] (spAlike k) := by
    intro k sp hsp hA
    refine T.ok sc_law_alike (fun vs H Q E h => ?_) (fun f cdv A outer s H vs Q E hr h => ?_)
    · obtain ⟨v, u, d, rfl, _⟩ := h
      rfl
    · obtain ⟨v, u, d, rfl, hv, hu, hp, q⟩ := h
      refine ⟨_, pss_cons (ps_if (pt_val (pe_callB call_isiT (by rfl) B.isinstance PyProof.Rows.boot_isinstance (pa_cons (pv 1) (pa_cons (pe_tup (pa_cons (pe_bltn (by rfl) B.tuple PyProof.Rows.boot_tuple (rr_ty "tuple")) (pa_cons (pe_bltn (by rfl) B.list PyProof.Rows.boot_list (rr_ty "list")) pa_nil))) pa_nil))))
          (pss_cons (ps_if (PW.pt (pw_or (pt_not (pt_val (pe_callB call_isiT (by rfl) B.isinstance PyProof.Rows.boot_isinstance (pa_cons (pv 0) (pa_cons (pe_tup (pa_cons (pe_bltn (by rfl) B.tuple PyProof.Rows.boot_tuple (rr_ty "tuple")) (pa_cons (pe_bltn (by rfl) B.list PyProof.Rows.boot_list (rr_ty "list")) pa_nil))) pa_nil)))))
            (pw_or1 (pt_cmpR op_ne (pe_callB call_isi (by rfl) B.isinstance PyProof.Rows.boot_isinstance (pa_cons (pv 0) (pa_cons (pe_bltn (by rfl) B.list PyProof.Rows.boot_list (rr_ty "list")) pa_nil))) (pe_callB call_isi (by rfl) B.isinstance PyProof.Rows.boot_isinstance (pa_cons (pv 1) (pa_cons (pe_bltn (by rfl) B.list PyProof.Rows.boot_list (rr_ty "list")) pa_nil))) (nomark _)))))
            (pss_one (ps_ret pe_bl)) pss_nil)
          (pss_cons (ps_if (pt_cmpR op_ne (pe_callB call_len_seq (by rfl) B.len PySem.boot_len (pa_cons (pv 0) pa_nil)) (pe_callB call_len_seq (by rfl) B.len PySem.boot_len (pa_cons (pv 1) pa_nil)) (nomark _)) (pss_one (ps_ret pe_bl)) pss_nil)
          (pss_one (ps_ret (pe_cmpR (op_eqD hr.units) (pe_lc (own := [("k", 2)]) (g := gName 2) (tt := tNot (tB (tCall sp [] E0 (tCons (tOp (rIx K) (tVar 0) (tVar 2)) (tCons (tOp (rIx K) (tVar 1) (tVar 2)) tNil))))) (te := tVar 2) (by rfl) sc_law_alike.nd (pi_range1 (by rfl) B.range (pa_cons (pe_callB call_len_seq (by rfl) B.len PySem.boot_len (pa_cons (pv 1) pa_nil)) pa_nil))
              (blkOk_by (own := [("k", 2)]) (N := ["found", "due", "k"]) (sc := defScope s_law_alike) (by decide +kernel)) (fun _ _ _ _ _ => pg_name (i := 2) sc_law_alike.nd rfl (Or.inl rfl))
              (fun _ _ _ _ _ => pts_one (pt_not (pt_val (pe_has hA hr (by rfl) (pa_cons (pe_ix ix_seq (pv 0) (pv 2) (fun _ _ => rfl)) (pa_cons (pe_ix ix_seq (pv 1) (pv 2) (fun _ _ => rfl)) pa_nil))))))
              (fun _ _ _ _ _ => pv 2)) (pe_lst pa_nil) (nomark _)))))) pss_nil)
        (pss_cons (ps_if (PW.pt (pw_or (pt_cmp (pc_isN (pv 1))) (pw_or1 (pt_val (pe_callB call_isi (by rfl) B.isinstance PyProof.Rows.boot_isinstance (pa_cons (pv 1) (pa_cons (pe_bltn (by rfl) B.str PyProof.Rows.boot_str (rr_ty "str")) pa_nil)))))))
          (pss_one (ps_ret (pe_and (pe_cmpR (op_eqD hr.units) (pv 0) (pv 1) (nomark _)) (pe_one (pe_cmpR op_eq (pe_callB call_isi (by rfl) B.isinstance PyProof.Rows.boot_isinstance (pa_cons (pv 0) (pa_cons (pe_bltn (by rfl) B.str PyProof.Rows.boot_str (rr_ty "str")) pa_nil))) (pe_callB call_isi (by rfl) B.isinstance PyProof.Rows.boot_isinstance (pa_cons (pv 1) (pa_cons (pe_bltn (by rfl) B.str PyProof.Rows.boot_str (rr_ty "str")) pa_nil))) (nomark _)))))) pss_nil)
        (pss_one (ps_ret (pe_and (pe_callB call_isi (by rfl) B.isinstance PyProof.Rows.boot_isinstance (pa_cons (pv 0) (pa_cons (pe_bltn (by rfl) B.int PyProof.Rows.boot_int (rr_ty "int")) pa_nil)))
          (pe_and (pe_cmpR op_eq (pe_callB call_isi (by rfl) B.isinstance PyProof.Rows.boot_isinstance (pa_cons (pv 0) (pa_cons (pe_bltn (by rfl) B.bool PyProof.Rows.boot_bool (rr_ty "bool")) pa_nil))) (pe_callB call_isi (by rfl) B.isinstance PyProof.Rows.boot_isinstance (pa_cons (pv 1) (pa_cons (pe_bltn (by rfl) B.bool PyProof.Rows.boot_bool (rr_ty "bool")) pa_nil))) (nomark _))
            (pe_one (pe_cmpR op_eq (pv 0) (pv 1) (nomark _)))))))), ?_⟩
      refine ⟨_, rfl, by show 2 ≤ sizeLine; decide, fun tp htp => ?_⟩
      have s1 := same_new (o := .tup [V.ty "tuple", V.ty "list"]) htp
      have hv1 := Rp.same s1 _ _ hv
      have hu1 := Rp.same s1 _ _ hu
      refine ⟨u, tp, _, _, _, isTL d, rfl, upd_same, cls_TL, rp_ty hu1, kit_TL d, isTL d, rfl, ?_⟩
      by_cases hT : isTL d = true
      · rw [hT]
        refine iteT ⟨_, rfl, by show 2 ≤ sizeLine; decide, fun tp2 htp2 => ?_⟩
        have s2 := same_new (o := .tup [V.ty "tuple", V.ty "list"]) htp2
        have s12 := s1.trans s2
        have hv2 := Rp.same s2 _ _ hv1
        have hu2 := Rp.same s2 _ _ hu1
        refine ⟨v, tp2, _, _, _, isTL d, rfl, upd_same, cls_TL, rp_ty hv2, kit_TL d, isTL d, rfl, ?_⟩
        rw [hT]
        refine iteF ⟨_, rfl, v, .ty "list", _, _, isLst d, rfl, .ty _, rp_ty hv2, kit_ty (kit_lst d), _, rfl, u, .ty "list", _, _, isLst d, rfl, .ty _, rp_ty hu2, kit_ty (kit_lst d), rfl, _, rfl, iteNS rfl ?_⟩
        obtain ⟨a, xs, ds, rfl, ha, hx, hd⟩ := hv2.seq hT
        obtain ⟨b, ys, ds2, rfl, hb, hy, hd2⟩ := hu2.seq hT
        have eds : ds2 = ds := by
          rcases hd with e | e <;> rcases hd2 with e2 | e2 <;> rw [e] at e2 <;> first | (injection e2 with z; exact z.symm) | cases e2
        subst eds
        have hxl := hx.len
        have hyl := hy.len
        have hpl : ∃ k', k = k' + 1 ∧ ds2.length ≤ 1000 ∧ ∀ e ∈ ds2, Pl k' e := by
          cases k with
          | zero => rcases hd with e | e <;> rw [e] at hp <;> exact hp.elim
          | succ k' => rcases hd with e | e <;> rw [e] at hp <;> exact ⟨k', rfl, hp⟩
        obtain ⟨k', ek, hl, hpe⟩ := hpl
        refine ⟨_, rfl, a, xs, rfl, sq_or ha, _, rfl, b, ys, rfl, sq_or hb, rfl, _, rfl, iteNS (by rw [hxl, hyl]) ?_⟩
        refine ⟨_, rfl, b, ys, rfl, sq_or hb, (ys.length : Int), rfl, by omega, by omega, fun D hD => ?_⟩
        refine lc_range (lo := 0) (n := (ys.length : Int).toNat) (fun i H' => Same (upd (upd H tp (.tup [V.ty "tuple", V.ty "list"])) tp2 (.tup [V.ty "tuple", V.ty "list"])) H' ∧ H' D = some (.lst [])) ⟨same_new hD, upd_same⟩ ?_ ?_
        · rintro i H' hi ⟨sm, hDl⟩
          refine ⟨rfl, ?_⟩
          have hid : i < ds2.length := by omega
          obtain ⟨x1, d1, e1, e2, r1⟩ := hx.getR hid
          obtain ⟨x2, d2, e3, e4, r2⟩ := hy.getR hid
          have ed : d1 = d2 := Option.some.inj (e2.symm.trans e4)
          subst ed
          refine ⟨_, rfl, _, rfl, Rp.ix (or_same sm ha) e1 ⟨_, rfl, _, rfl, Rp.ix (or_same sm hb) e3 ?_⟩⟩
          refine hsp x1 x2 d1 H' _ ⟨k', ek, hpe d1 (List.mem_of_getElem? e2)⟩ (Rp.same sm _ _ r1) (Rp.same sm _ _ r2) fun H4 s4 => ?_
          exact ⟨true, rfl, iteF ⟨sm.trans s4, s4 _ _ hDl⟩⟩
        · rintro H' ⟨sm, hDl⟩
          refine ⟨Nat.zero_le _, fun p2 hp2 => ?_⟩
          have s5 := same_new (o := .lst []) hp2
          refine ⟨.list [], .list [], .lst (SqL.of (s5 _ _ hDl)) .nil, .lst (SqL.of upd_same) .nil, rfl, rfl, ?_⟩
          exact q _ ((s12.trans sm).trans s5)
      · have hF : isTL d = false := by simpa using hT
        rw [hF]
        have hi : (∃ i, d = .int i) ∨ d = .none := by
          cases d with
          | int i => exact .inl ⟨i, rfl⟩
          | tuple ds => exact absurd rfl hT
          | list ds => exact absurd rfl hT
          | none => exact .inr rfl
          | bool b => cases k <;> exact hp.elim
          | str b => cases k <;> exact hp.elim
          | dict b => cases k <;> exact hp.elim
        rcases hi with ⟨i, rfl⟩ | rfl
        rotate_left
        · cases hv
          cases hu
          refine iteF ⟨_, rfl, _, rfl, iteT (iteT ?_)⟩
          refine ⟨_, rfl, _, rfl, .none, .none, .non, .non, rfl, rfl, true, congrArg V.bl rfl, iteT ?_⟩
          exact ⟨_, rfl, .non, .ty "str", _, _, false, rfl, .ty _, .base .non, kit_ty (kit_str .none), _, rfl, .non, .ty "str", _, _, false, rfl, .ty _, .base .non, kit_ty (kit_str .none), rfl, q _ s1⟩
        cases hv
        cases hu
        refine iteF ⟨_, rfl, _, rfl, iteF ?_⟩
        refine ⟨_, rfl, .int i, .ty "str", _, _, false, rfl, .ty _, .base (.int i), kit_ty (kit_str (.int i)), false, rfl, iteF ?_⟩
        refine ⟨_, rfl, .int i, .ty "int", _, _, true, rfl, .ty _, .base (.int i), kit_ty (kit_int (.int i)), true, rfl, iteT ?_⟩
        refine ⟨_, rfl, .int i, .ty "bool", _, _, false, rfl, .ty _, .base (.int i), kit_ty (kit_bool (.int i)), _, rfl, .int i, .ty "bool", _, _, false, rfl, .ty _, .base (.int i), kit_ty (kit_bool (.int i)), rfl, true, rfl, iteT ?_⟩
        refine ⟨_, rfl, _, rfl, rfl, ?_⟩
        have e : decide (V.int i = V.int i) = true := decide_eq_true rfl
        rw [e]
        exact q _ s1
  intro k
  induction k with
  | zero =>
    obtain ⟨f, fd, hm, F, b⟩ := T
    exact step 0 (fun _ _ _ _ => False) (fun v u d H Q h _ _ _ => by obtain ⟨k', e, _⟩ := h; cases e) ⟨f, fd, hm, F.kp, b, ⟨fun _ _ _ _ h => h.elim, fun _ _ _ _ _ _ _ _ _ _ _ _ _ h => h.elim⟩⟩
  | succ k ih => exact step (k + 1) (spAlike k) (fun v u d H Q h hv hu q => by
      obtain ⟨k', e, hp⟩ := h
      cases e
      exact ⟨v, u, d, rfl, hv, hu, hp, q⟩) ih
end
end Lt

set_option Elab.async false
set_option linter.all false
set_option maxRecDepth 100000
set_option maxHeartbeats 1000000
namespace Lt
open PySem PySem.Spec PyProof.Rows L2
theorem Paired.perm {α β : Type} {R : α → β → Prop} {ys xs : List α} (p : ys.Perm xs) : ∀ {ts : List β}, Paired R xs ts → ∃ us, Paired R ys us ∧ us.Perm ts := by
  induction p with
  | nil => intro ts h; cases h; exact ⟨[], .nil, List.Perm.refl _⟩
  | cons x _ ih =>
    intro ts h
    cases h with
    | cons r t =>
      obtain ⟨us, h1, h2⟩ := ih t
      exact ⟨_ :: us, .cons r h1, h2.cons _⟩
  | swap x y l =>
    intro ts h
    cases h with
    | cons r t =>
      cases t with
      | cons r2 t => exact ⟨_, .cons r2 (.cons r t), List.Perm.swap _ _ _⟩
  | trans _ _ ih1 ih2 =>
    intro ts h
    obtain ⟨us, h1, h2⟩ := ih2 h
    obtain ⟨ws, h3, h4⟩ := ih1 h1
    exact ⟨ws, h3, h4.trans h2⟩
theorem Paired.pairwise {α β : Type} {R : α → β → Prop} {S : α → α → Prop} {S' : β → β → Prop} (h : ∀ x y s t, R x s → R y t → S x y → S' s t) : ∀ {xs : List α} {ts : List β}, Paired R xs ts → xs.Pairwise S → ts.Pairwise S'
  | _, _, .nil, _ => .nil
  | _, _, .cons r t, .cons a b => .cons (fun s hs => by
      obtain ⟨i, hi, e⟩ := List.getElem_of_mem hs
      obtain ⟨x, hx, rx⟩ := Paired.getR t (show _[i]? = some s by rw [List.getElem?_eq_getElem hi, e])
      exact h _ _ _ _ r rx (a x (List.mem_of_getElem? hx))) (Paired.pairwise h t b)
theorem Paired.memL {α β : Type} {R : α → β → Prop} {xs : List α} {ts : List β} (p : Paired R xs ts) {x : α} (h : x ∈ xs) : ∃ t ∈ ts, R x t := by
  obtain ⟨i, hi, e⟩ := List.getElem_of_mem h
  obtain ⟨t, ht, r⟩ := Paired.getL p (show xs[i]? = some x by rw [List.getElem?_eq_getElem hi, e])
  exact ⟨t, List.mem_of_getElem? ht, r⟩
theorem paired_imp {α β : Type} {R R' : α → β → Prop} (h : ∀ a b, R a b → R' a b) : ∀ {xs : List α} {ts : List β}, Paired R xs ts → Paired R' xs ts := paired_mono h
/-- a list of turns whose objects are known -/
def LF (H : Hp) (a : Addr) (ts : List (List Nat)) : Prop := ∃ xs, H a = some (.lst xs) ∧ Paired (TF H) xs ts
theorem TFs.tm {H H' : Hp} (e : Tm H H') {xs : List V} {ts : List (List Nat)} (p : Paired (TF H) xs ts) : Paired (TF H') xs ts := paired_mono (fun _ _ r => TF.tm e r) p
theorem LF.same {H H' : Hp} {a : Addr} {ts : List (List Nat)} (h : LF H a ts) (e : Same H H') : LF H' a ts := let ⟨xs, h1, h2⟩ := h; ⟨xs, e _ _ h1, TFs.tm (.of e) h2⟩
theorem LF.step {K : PySem.W.Frag} {r sc : Addr} {ns : List Int} {H H' : Hp} {a : Addr} {ts : List (List Nat)} (h : LF H a ts) (ra : RowAt K H r sc ns) (hr : a ≠ r) (e : StepR r H H') : LF H' a ts := let ⟨xs, h1, h2⟩ := h; ⟨xs, e _ _ hr h1, TFs.tm (e.tm ra) h2⟩
theorem LF.lt {H : Hp} {a : Addr} {ts : List (List Nat)} (h : LF H a ts) : LT H a ts := let ⟨xs, h1, h2⟩ := h; ⟨xs, h1, paired_mono (fun _ _ r => TF.tn r) h2⟩
/-- the addresses and numbers -/
theorem ks_of {H : Hp} : ∀ {xs : List V} {ts : List (List Nat)}, Paired (TF H) xs ts → ∃ ks : List (Addr × List Int), xs = ks.map (fun p => V.ref p.1) ∧ ks.map (·.2) = ts.map iN ∧ ∀ p ∈ ks, ∃ t ∈ ts, p.2 = iN t ∧ TF H (.ref p.1) t
  | _, _, .nil => ⟨[], rfl, rfl, fun p h => by cases h⟩
  | _, _, .cons (a := x) (b := t) r s => by
    obtain ⟨ks, h1, h2, h3⟩ := ks_of s
    obtain ⟨a, o, e, ho, hd⟩ := id r
    refine ⟨(a, iN t) :: ks, by rw [e, h1]; rfl, by rw [List.map_cons, h2]; rfl, fun p hp => ?_⟩
    rcases List.mem_cons.mp hp with z | hp
    · rw [z]
      exact ⟨t, List.mem_cons_self, rfl, a, o, rfl, ho, hd⟩
    · obtain ⟨t', ht, z⟩ := h3 p hp
      exact ⟨t', List.mem_cons_of_mem _ ht, z⟩
theorem cut_one (xs : List V) (j : Nat) : cutV xs (some (j : Int)) (some ((j : Int) + 1)) = (xs.drop j).take 1 := by
  unfold cutV
  have e : ((j : Int) + 1) = ((j + 1 : Nat) : Int) := by omega
  rw [e, HT.sIx_nat, HT.sIx_nat]
  by_cases h : j < xs.length
  · rw [Nat.min_eq_left (Nat.le_of_lt h), Nat.min_eq_left h]
    congr 1
    omega
  · rw [Nat.min_eq_right (by omega), Nat.min_eq_right (by omega), List.drop_of_length_le (Nat.le_refl _), List.drop_of_length_le (by omega), List.take_nil, List.take_nil]
/-! ### the mirror -/
structure SpI (gs : List (List Nat)) (n j : Nat) (F : List (List Nat)) : Prop where
  nd : F.Nodup
  made : ∀ t ∈ F, Mk gs n t
  st : List.range n ∈ F
  cl : ∀ (i : Nat) (t : List Nat), i < j → F[i]? = some t → ∀ g ∈ gs, prod t g ∈ F
theorem SpI.skip {gs : List (List Nat)} {n j : Nat} {F : List (List Nat)} (h : SpI gs n j F) (hj : F.length ≤ j) : SpI gs n (j + 1) F :=
  ⟨h.nd, h.made, h.st, fun i t hi e => by
    have := (List.getElem?_eq_some_iff.mp e).1
    exact h.cl i t (by omega) e⟩
theorem SpI.next {gs : List (List Nat)} {n j : Nat} {F M : List (List Nat)} {one : List Nat} (h : SpI gs n j F) (h1 : F[j]? = some one) (hM : M.Nodup) (hM1 : ∀ t ∈ M, ∃ g ∈ gs, t = prod one g) (hM2 : ∀ g ∈ gs, prod one g ∈ M) :
    SpI gs n (j + 1) (F ++ M.filter fun t => decide (t ∉ F)) := by
  have hjl := (List.getElem?_eq_some_iff.mp h1).1
  have hone := h.made one (List.mem_of_getElem? h1)
  refine ⟨List.nodup_append.mpr ⟨h.nd, hM.filter _, fun a ha b hb e => ?_⟩, fun t ht => ?_, List.mem_append.mpr (.inl h.st), fun i t hi e g hg => ?_⟩
  · subst e
    have := (List.mem_filter.mp hb).2
    exact (of_decide_eq_true this) ha
  · rcases List.mem_append.mp ht with z | z
    · exact h.made t z
    · obtain ⟨g, hg, e⟩ := hM1 t (List.mem_filter.mp z).1
      rw [e]
      exact .step hone hg
  · rw [List.getElem?_append_left (by omega)] at e
    by_cases hij : i < j
    · exact List.mem_append.mpr (.inl (h.cl i t hij e g hg))
    · have : i = j := by omega
      subst this
      rw [h1] at e
      have e := Option.some.inj e
      subst e
      by_cases hin : prod one g ∈ F
      · exact List.mem_append.mpr (.inl hin)
      · exact List.mem_append.mpr (.inr (List.mem_filter.mpr ⟨hM2 g hg, decide_eq_true hin⟩))
theorem SpI.all {gs : List (List Nat)} {n j : Nat} {F : List (List Nat)} (h : SpI gs n j F) (hj : F.length ≤ j) : ∀ t, t ∈ F ↔ Mk gs n t := fun t => by
  refine ⟨h.made t, fun m => ?_⟩
  induction m with
  | still => exact h.st
  | @step t g _ hg ih =>
    obtain ⟨i, hi, e⟩ := List.getElem_of_mem ih
    exact h.cl i t (by omega) (by rw [List.getElem?_eq_getElem hi, e]) g hg
/-! ### a tuple or a list of turns -/
def GS (H : Hp) (v : V) (ts : List (List Nat)) : Prop := TT H v ts ∨ ∃ a, v = .ref a ∧ LT H a ts
theorem GS.same {H H' : Hp} {v : V} {ts : List (List Nat)} (h : GS H v ts) (e : Same H H') : GS H' v ts := by
  rcases h with h | ⟨a, rfl, h⟩
  · exact .inl (h.tm (.of e))
  · exact .inr ⟨a, rfl, h.same e⟩
def iSq (K : PySem.W.Frag) (i : Nat) : TI := fun σ H R => iTup K (tVar i) σ H R ∨ iList K (tVar i) σ H R
theorem pi_sq {X : Cx} {tg : Expr} {l : Expr} {i : Nat} (h : PE X l (tVar i)) : PI X tg l (iSq X.K i) :=
  ⟨fun pins s σ H R I q => q.elim ((pi_tup h).run pins s σ H R I) ((pi_list h).run pins s σ H R I)⟩
theorem sq_lc {K : PySem.W.Frag} {te : TE} {vs : List Nat} {σ : L2.St} {H1 : Hp} {β : Type} {i j : Nat} {gv : V} {gs : List (List Nat)} {Q : VK} (R : Hp → V → β → Prop) (ys : List β) (mono : ∀ H H' v b, Tm H H' → R H v b → R H' v b) (hgs : GS H1 gv gs) (hσ : σ[i]? = some (some gv)) (hz : gs.length ≤ 100000) (hy : ys.length = gs.length)
    (hw : ∀ x, wipe ((wipe σ vs).set j (some x)) vs = wipe σ vs)
    (he : ∀ (k : Nat) (x : V) (b : β) (g : List Nat), gs[k]? = some g → ys[k]? = some b → TN H1 x g → ∀ H, Same H1 H → ∀ Q : VK, (∀ v H', Same H H' → R H' v b → Q v H') → te ((wipe σ vs).set j (some x)) H Q)
    (hd : ∀ D H zs, H1 D = none → Same H1 H → H D = some (.lst zs) → Paired (R H) zs ys → Q (.ref D) H) : tLc (iSq K i) (gName j) tYes te vs σ H1 Q := by
  rcases hgs with ⟨a, xs, rfl, ha, p⟩ | ⟨a, rfl, xs, ha, p⟩
  · refine .inl ⟨_, hσ, a, rfl, ⟨_, SqT.of ha⟩, fun D hD => lc_tupM R ys mono (SqT.of ha) (fun H s => SqT.of (s _ _ ha)) (by rw [Paired.length p]; exact hz) (by rw [Paired.length p]; exact hy) hD hw (fun k x b hx hb => ?_) (fun H zs => hd D H zs hD)⟩
    obtain ⟨g, hg, r⟩ := Paired.getL p hx
    exact he k x b g hg hb r
  · refine .inr ⟨_, hσ, a, rfl, ⟨_, SqL.of ha⟩, fun D hD => lc_listM R ys mono (fun H s => SqL.of (s _ _ ha)) (by rw [Paired.length p]; exact hz) (by rw [Paired.length p]; exact hy) hD hw (fun k x b hx hb => ?_) (fun H zs => hd D H zs hD)⟩
    obtain ⟨g, hg, r⟩ := Paired.getL p hx
    exact he k x b g hg hb r
section
variable {P : Program} {w : World} {K : PySem.W.Frag} {mg : Str → Option Value} {base : Heap}
def spSpan : Sp := fun vs H Q _ => ∃ (gv : V) (gs : List (List Nat)) (n : Nat), vs = [nI n, gv] ∧ GS H gv gs ∧ (∀ g ∈ gs, IsP n g) ∧ 1 ≤ n ∧ n ≤ 9 ∧ gs.length ≤ 60 ∧ Few gs n 63 ∧
  ∀ p H' ts, Same H H' → H p = none → LF H' p ts → ts.Nodup → (∀ t, t ∈ ts ↔ Mk gs n t) → Asc ts → Q (.ref p) H'
theorem sc_law_span : FnScope ["places", "given", "found", "turn", "one", "later", "other"] ["places", "given"] (defScope s_law_span) := ⟨rfl, rfl, rfl, by decide +kernel, rfl, by decide +kernel, by decide +kernel⟩
theorem has_law_span (T : Top K mg "_law_span" s_law_span ["places", "given"]) (B : Bi mg) (hP : Has P w K mg base CX0 1 "_law_behind" ["one", "other"] spProdF) : Has P w K mg base CX0 2 "_law_span" ["places", "given"] spSpan := by
  refine T.ok sc_law_span (fun vs H Q E h => ?_) (fun f cdv A outer s H vs Q E hr h => ?_)
  · obtain ⟨gv, gs, n, rfl, _⟩ := h
    rfl
  · obtain ⟨gv, gs, n, rfl, hgv, hg, hn1, hn9, hgl, hf, q⟩ := h
    have hu64 := hr.units
    have hu65 : A.units + 3 + 65 < cLine := by have := hr.un; show A.units + 3 + 65 < cLine; have e : (A.deeper (envOfC "_law_span" (defScope s_law_span) s.heap.objs.size f cdv)).units = A.units + 3 := rfl; omega
    refine ⟨_, pss_cons (ps_set (i := 2) sc_law_span.nd rfl (Or.inr rfl) (pe_lst (pa_cons (pe_tupRgF (by rfl) (by rfl) B.tuple (prg_1 (by rfl) B.range (pv 0))) pa_nil)))
      (pss_cons (ps_for PassesOwn.never rfl (pi_range1 (by rfl) B.range (pa_cons pe_int pa_nil)) (pg_name (i := 3) sc_law_span.nd rfl (Or.inl rfl))
        (pss_one (ps_for PassesOwn.never rfl (pi_list (pe_slice sl_list (pv 2) (po_some (pv 3)) (po_some (pe_op op_add (pv 3) pe_int)))) (pg_name (i := 4) sc_law_span.nd rfl (Or.inr rfl))
          (pss_cons (ps_setLc (i := 5) (own := [("other", 6)]) (g := gName 6) (te := tCall spProdF [] E0 (tCons (tVar 4) (tCons (tVar 6) tNil))) (by rfl) sc_law_span.nd rfl rfl (sw_true rfl rfl rfl (by decide +kernel)) (pi_sq (pv 1)) (blkOk_by (own := [("other", 6)]) (N := ["places", "given", "found", "turn", "one", "later", "other"]) (sc := defScope s_law_span) (by decide +kernel))
            (fun _ _ _ _ _ => pg_name (i := 6) sc_law_span.nd rfl (Or.inl rfl)) (fun _ _ _ _ _ => pts_nil) (fun _ _ _ _ _ => pe_has hP hr (by rfl) (pa_cons (pv 4) (pa_cons (pv 6) pa_nil))))
          (pss_one (ps_set (i := 2) sc_law_span.nd rfl (Or.inr rfl) (pe_op op_cat (pv 2) (pe_lc (own := [("other", 6)]) (g := gName 6) (tt := tTest (tOp (rNotInD K) (tVar 6) (tVar 2))) (te := tVar 6) (by rfl) sc_law_span.nd
            (pi_list (pe_callB (cr_sortedT (by rfl)) (by rfl) B.sorted PyProof.Rows.boot_sorted (pa_cons (pe_callTy (cr_setOfT (by rfl) hu64) (by rfl) B.set PyProof.Rows.boot_set (pa_cons (pv 5) pa_nil)) pa_nil)))
            (blkOk_by (own := [("other", 6)]) (N := ["places", "given", "found", "turn", "one", "later", "other"]) (sc := defScope s_law_span) (by decide +kernel))
            (fun _ _ _ _ _ => pg_name (i := 6) sc_law_span.nd rfl (Or.inl rfl)) (fun _ _ _ _ _ => pts_one (pt_cmpR (op_notInD hu65) (pv 6) (pv 2) (by rfl))) (fun _ _ _ _ _ => pv 6)))))))))
      (pss_one (ps_ret (pe_callB (cr_sortT (d := n) (B := 9) hn1) (by rfl) B.sorted PyProof.Rows.boot_sorted (pa_cons (pv 2) pa_nil))))), ?_⟩
    refine ⟨_, rfl, n, rfl, .of_le (by omega) (by omega) (by omega) (by omega), fun q0 o ho hq0 => ⟨by show 1 ≤ sizeLine; decide, fun fl hfl => ?_⟩⟩
    have s1 := same_new (o := .frz o (.tup (rgV 0 n))) hq0
    have s2 := s1.trans (same_new (o := .lst [.ref q0]) hfl)
    have hq0l : q0 ≠ fl := fun z => by rw [← z, upd_same] at hfl; cases hfl
    refine ⟨300, rfl, by decide, by decide, for_range (lo := 0) (n := 300) (fun j σ H' => ∃ fl F x3 x4 x5 x6, σ = [some (nI n), some gv, some (.ref fl), x3, x4, x5, x6] ∧ Same H H' ∧ LF H' fl F ∧ SpI gs n j F)
      ⟨fl, [List.range n], none, none, none, none, rfl, s2, ⟨[.ref q0], upd_same, .cons ⟨q0, o, rfl, by rw [upd_ne hq0l, upd_same, rgV_nat], ho⟩ .nil⟩, ⟨List.pairwise_singleton _ _, fun t ht => by rw [List.mem_singleton.mp ht]; exact .still, List.mem_singleton.mpr rfl, fun i t hi => absurd hi (Nat.not_lt_zero i)⟩⟩ ?_ ?_⟩
    · rintro j σ H' hj ⟨fl, F, x3, x4, x5, x6, rfl, sm, ⟨xs, hxs, hp⟩, sp⟩
      simp only [Int.zero_add]
      have hFl : F.length ≤ 63 := hf.le sp.nd sp.made
      have hxl : xs.length = F.length := Paired.length hp
      refine ⟨_, rfl, _, rfl, (j : Int), rfl, _, rfl, (j : Int), 1, rfl, rfl, (j : Int) + 1, rfl, fl, xs, rfl, SqL.of hxs, fun sl hsl => ?_⟩
      have ssl := same_new (o := .lst (cutV xs (some (j : Int)) (some ((j : Int) + 1)))) hsl
      refine ⟨sl, rfl, ⟨_, SqL.of upd_same⟩, for_list (K := K) (a := sl) (xs := cutV xs (some (j : Int)) (some ((j : Int) + 1)))
        (fun i σ H2 => ∃ fl' F' x4 x5 x6, σ = [some (nI n), some gv, some (.ref fl'), some (nI j), x4, x5, x6] ∧ Same H' H2 ∧ LF H2 fl' F' ∧ (i = 0 → F' = F) ∧ (1 ≤ i → SpI gs n (j + 1) F') ∧ H2 sl = some (.lst (cutV xs (some (j : Int)) (some ((j : Int) + 1)))))
        ⟨fl, F, x4, x5, x6, rfl, ssl, LF.same ⟨xs, hxs, hp⟩ ssl, fun _ => rfl, fun h => absurd h (by omega), upd_same⟩ (fun i σ H2 _ ⟨_, _, _, _, _, _, _, _, _, _, h⟩ => SqL.of h) ?_ ?_⟩
      · rintro i x σ H2 hi ⟨fl', F', x4, x5, x6, rfl, sm1, ⟨xs2, hxs2, hp2⟩, h0, _, hsl2⟩
        have sm2 := sm.trans sm1
        rw [cut_one] at hi
        have hi0 : i = 0 := by
          have := (List.getElem?_eq_some_iff.mp hi).1
          rw [List.length_take] at this
          omega
        subst hi0
        have eF := h0 rfl
        subst eF
        rw [List.getElem?_take_of_lt (by omega), List.getElem?_drop, Nat.add_zero] at hi
        obtain ⟨one, hone, htf0⟩ := Paired.getL hp hi
        have hi := hone
        have htf : TF H2 x one := htf0.tm (.of sm1)
        have honeP := (sp.made one (List.mem_of_getElem? hone)).isP hg
        -- later
        dsimp only [gName, tSeq, tAsg, List.set]
        refine sq_lc TF (gs.map (prod one)) (fun _ _ _ _ e r => TF.tm e r) (hgv.same sm2) (by rfl) (by omega) (by rw [List.length_map]) (by intro _; rfl) (fun k y b g hgk hb hyg H3 s3 Q' q' => ?_) (fun D H3 zs hD s3 hz pz => ?_)
        · rw [List.getElem?_map, hgk] at hb
          have hb := Option.some.inj hb
          subst hb
          have hgP := hg g (List.mem_of_getElem? hgk)
          exact ⟨_, rfl, _, rfl, x, y, one, g, rfl, htf.tn.tm (.of s3), hyg.tm (.of s3), fun i hi => by rw [hgP.len]; exact honeP.lt i hi, by rw [honeP.len]; omega, q'⟩
        · -- found = found + [..]
          obtain ⟨ks, ek1, ek2, ek3⟩ := ks_of pz
          have hksl : ks.length < 64 := by
            have e := congrArg List.length ek2
            rw [List.length_map, List.length_map, List.length_map] at e
            omega
          have hks : ∀ p ∈ ks, SqT K H3 p.1 (p.2.map V.int) := fun p hp => by
            obtain ⟨t, _, e, a, o, ea, hao, _⟩ := ek3 p hp
            cases ea
            rw [e, show (iN t).map V.int = nIs t from (nIs_int t).symm]
            exact RT.sq (.inr ⟨o, hao⟩)
          have hz' : H3 D = some (.lst (ks.map fun p => V.ref p.1)) := by rw [hz, ek1]
          refine ⟨_, rfl, _, rfl, D, ks, rfl, SqL.of hz', hks, hksl, fun aS L haS hL1 hL2 => ?_⟩
          have s4 := same_new (o := SetTO P w aS L) haS
          have hLP : ∀ p ∈ L, ∃ t ∈ gs.map (prod one), p.2 = iN t ∧ TF H3 (.ref p.1) t := fun p hp => ek3 p (hL1 p hp)
          have hmulP : ∀ t ∈ gs.map (prod one), IsP n t := fun t ht => by
            obtain ⟨g, hgm, e⟩ := List.mem_map.mp ht
            rw [← e]
            exact honeP.prod (hg g hgm)
          refine ⟨aS, L, n, 9, rfl, upd_same, fun p hp => ?_, hn1, fun p hp => ?_, fun L' sp' pm nd h64 pw hsp' => ?_⟩
          · rcases hks p (hL1 p hp) with (z | ⟨o, z⟩) | z
            · exact .inl (.inl (s4 _ _ z))
            · exact .inl (.inr ⟨o, s4 _ _ z⟩)
            · exact .inr z
          · obtain ⟨t, ht, e, _⟩ := hLP p hp
            rw [e]
            exact ⟨by rw [iN_len, (hmulP t ht).len], bd_iN (hmulP t ht) hn9⟩
          have s5 := same_new (o := .lst (L'.map fun q : Addr × List Int => V.ref q.1)) hsp'
          have s45 := s4.trans s5
          refine ⟨sp', rfl, ⟨_, SqL.of upd_same⟩, fun D2 hD2 => ?_⟩
          have hL' : ∀ q ∈ L', q.2 = iN (q.2.map Int.toNat) ∧ q.2.map Int.toNat ∈ gs.map (prod one) ∧ TF H3 (.ref q.1) (q.2.map Int.toNat) := fun q hq => by
            obtain ⟨t, ht, e, tf⟩ := hLP q (pm.mem_iff.mp hq)
            have et : q.2.map Int.toNat = t := by
              rw [e]
              show (t.map Int.ofNat).map Int.toNat = t
              rw [List.map_map]
              exact (List.map_congr_left (g := id) fun _ _ => rfl).trans (List.map_id t)
            rw [et]
            exact ⟨e, ht, tf⟩
          have hM : (L'.map fun q : Addr × List Int => q.2.map Int.toNat).Nodup := by
            have e : (L'.map fun q : Addr × List Int => q.2.map Int.toNat).map iN = L'.map (·.2) := by
              rw [List.map_map]
              exact List.map_congr_left fun q hq => (hL' q hq).1.symm
            rw [← e] at nd
            exact nodup_of_map nd
          have hM1 : ∀ t ∈ (L'.map fun q : Addr × List Int => q.2.map Int.toNat), ∃ g ∈ gs, t = prod one g := fun t ht => by
            obtain ⟨q, hq, e⟩ := List.mem_map.mp ht
            obtain ⟨g, hgm, e2⟩ := List.mem_map.mp (hL' q hq).2.1
            exact ⟨g, hgm, by rw [← e, ← e2]⟩
          have hM2 : ∀ g ∈ gs, prod one g ∈ (L'.map fun q : Addr × List Int => q.2.map Int.toNat) := fun g hgm => by
            have h1 : iN (prod one g) ∈ ks.map (·.2) := by
              rw [ek2]
              exact List.mem_map.mpr ⟨_, List.mem_map.mpr ⟨g, hgm, rfl⟩, rfl⟩
            obtain ⟨p, hp, e⟩ := List.mem_map.mp h1
            obtain ⟨q, hq, e2⟩ := List.mem_map.mp (hL2 p hp)
            have hq' := pm.mem_iff.mpr hq
            refine List.mem_map.mpr ⟨q, hq', iN_inj ?_⟩
            rw [← (hL' q hq').1]
            exact e2.trans e
          have hlfl : L'.length ≤ 64 := Nat.le_of_lt h64
          have sB := s3.trans s45
          have hp2B := TFs.tm (.of sB) hp2
          have hxs2B := sB _ _ hxs2
          refine lc_list (xs := L'.map fun q : Addr × List Int => V.ref q.1) (fun i H4 => Same (upd (upd H3 aS (SetTO P w aS L)) sp' (.lst (L'.map fun q : Addr × List Int => V.ref q.1))) H4 ∧ ∃ zs, H4 D2 = some (.lst zs) ∧ Paired (TF H4) zs (((L'.map fun q : Addr × List Int => q.2.map Int.toNat).take i).filter fun t => decide (t ∉ F')) ∧ zs.length ≤ i)
            ⟨same_new hD2, [], upd_same, .nil, Nat.le_refl 0⟩ (fun i H4 _ h => SqL.of (h.1 _ _ upd_same)) ?_ ?_
          · rintro i x' H4 hi' ⟨sD, zs, hz4, pz4, hzl⟩
            rw [List.getElem?_map] at hi'
            obtain ⟨qe, hqe, rfl⟩ := Option.map_eq_some_iff.mp hi'
            have hqm := List.mem_of_getElem? hqe
            obtain ⟨_, ht1, ht2⟩ := hL' qe hqm
            have hil : i < 64 := by have := (List.getElem?_eq_some_iff.mp hqe).1; omega
            have tf4 : TF H4 (.ref qe.1) (qe.2.map Int.toNat) := ht2.tm (.of (s45.trans sD))
            have etake : (L'.map fun q : Addr × List Int => q.2.map Int.toNat).take (i + 1) = (L'.map fun q : Addr × List Int => q.2.map Int.toNat).take i ++ [qe.2.map Int.toNat] := by
              rw [List.take_add_one, List.getElem?_map, hqe]
              rfl
            refine ⟨rfl, _, rfl, _, rfl, dT (qe.2.map Int.toNat), F'.map dT, tf4.tn.dp, .lst (SqL.of (sD _ _ hxs2B)) (TNs.dp (paired_mono (fun _ _ r => TF.tn r) (TFs.tm (.of sD) hp2B))), sh_T _, sh_LT _, _, rfl, ?_⟩
            rw [any_dT]
            by_cases hin : qe.2.map Int.toNat ∈ F'
            · rw [decide_eq_true hin]
              refine iteF ⟨sD, zs, hz4, ?_, by omega⟩
              rw [etake, List.filter_append, List.filter_cons, if_neg (by simpa using hin), List.filter_nil, List.append_nil]
              exact pz4
            · rw [decide_eq_false hin]
              have t4 := Tm.lst (o := .lst (zs ++ [V.ref qe.1])) hz4
              refine iteT ⟨_, rfl, zs, hz4, by rw [sizeLine_eq]; omega, same_mut sD hD2, zs ++ [V.ref qe.1], upd_same, ?_, by rw [List.length_append]; show zs.length + 1 ≤ i + 1; omega⟩
              rw [etake, List.filter_append, List.filter_cons, if_pos (by simpa using hin), List.filter_nil]
              exact Paired.app (TFs.tm t4 pz4) (Paired.one (tf4.tm t4))
          · rintro H4 ⟨sD, zs, hz4, pz4, hzl⟩
            rw [List.length_map, show L'.length = (L'.map fun q : Addr × List Int => q.2.map Int.toNat).length from (List.length_map ..).symm, List.take_length] at pz4
            rw [List.length_map] at hzl
            have hxs4 := sD _ _ hxs2B
            have hx2l : xs2.length ≤ 63 := by rw [Paired.length hp2]; exact hFl
            refine ⟨fl', D2, xs2, zs, rfl, rfl, hxs4, hz4, by rw [sizeLine_eq]; omega, fun np hnp => ?_⟩
            have s6 := same_new (o := .lst (xs2 ++ zs)) hnp
            have sE := (sB.trans sD).trans s6
            refine ⟨np, _, _, _, _, rfl, sm1.trans sE, ⟨xs2 ++ zs, upd_same, Paired.app (TFs.tm (.of (sD.trans s6)) hp2B) (TFs.tm (.of s6) pz4)⟩, fun h => absurd h (by omega), fun _ => sp.next hi hM hM1 hM2, sE _ _ hsl2⟩
      · rintro σ H2 ⟨fl', F', x4, x5, x6, rfl, sm1, lf2, h0, h1, _⟩
        refine ⟨fl', F', _, _, _, _, rfl, sm.trans sm1, lf2, ?_⟩
        rw [cut_one, List.length_take, List.length_drop] at h0 h1
        by_cases hlt : j < xs.length
        · exact h1 (by omega)
        · rw [h0 (by omega)]
          exact sp.skip (by omega)
    · rintro σ H' ⟨fl, F, x3, x4, x5, x6, rfl, sm, ⟨xs, hxs, hp⟩, sp⟩
      have hFl : F.length ≤ 63 := hf.le sp.nd sp.made
      have hxl : xs.length = F.length := Paired.length hp
      refine ⟨_, rfl, fl, xs, rfl, SqL.of hxs, by omega, fun x hx => ?_, fun ys p pm pw hp2 => ?_⟩
      · obtain ⟨t, ht, a, o, rfl, hao, _⟩ := Paired.memL hp hx
        have htP := (sp.made t ht).isP hg
        exact ⟨iN t, ⟨a, rfl, by rw [show (iN t).map V.int = nIs t from (nIs_int t).symm]; exact RT.sq (.inr ⟨o, hao⟩)⟩, by rw [iN_len, htP.len], bd_iN htP hn9⟩
      · obtain ⟨ts, h1, h2⟩ := Paired.perm pm hp
        have s2 := same_new (o := .lst ys) hp2
        refine q p _ ts (sm.trans s2) (sm.free hp2) ⟨ys, upd_same, TFs.tm (.of s2) h1⟩ (h2.nodup_iff.mpr sp.nd) (fun t => h2.mem_iff.trans (sp.all (by omega) t)) ?_
        refine Paired.pairwise (R := TF H') (fun x y s t rx ry hxy => ?_) h1 pw
        obtain ⟨a, o, rfl, hao, _⟩ := rx
        obtain ⟨a', o', rfl, hao', _⟩ := ry
        exact hxy (iN s) (iN t) ⟨a, rfl, by rw [show (iN s).map V.int = nIs s from (nIs_int s).symm]; exact RT.sq (.inr ⟨o, hao⟩)⟩ ⟨a', rfl, by rw [show (iN t).map V.int = nIs t from (nIs_int t).symm]; exact RT.sq (.inr ⟨o', hao'⟩)⟩
end
end Lt

set_option linter.all false
set_option Elab.async false
set_option maxRecDepth 100000
/-! locks whose places are called otherwise; small locks -/
namespace Lt
def cj (s t : List Nat) : List Nat := prod (prod (inv s) t) s
theorem cj_isP {n : Nat} {s t : List Nat} (hs : IsP n s) (ht : IsP n t) : IsP n (cj s t) := (hs.inv.prod ht).prod hs
theorem cj_still {n : Nat} {s : List Nat} (hs : IsP n s) : cj s (List.range n) = List.range n := by
  unfold cj
  rw [prod_still_r hs.inv.lt, prod_inv_l hs]
theorem bd {n : Nat} {x y : List Nat} (hx : IsP n x) (hy : IsP n y) : ∀ i ∈ x, i < y.length := fun i hi => by rw [hy.len]; exact hx.lt i hi
theorem cj_prod {n : Nat} {s a b : List Nat} (hs : IsP n s) (ha : IsP n a) (hb : IsP n b) : cj s (prod a b) = prod (cj s a) (cj s b) := by
  unfold cj
  have h1 : prod (prod (prod (inv s) a) s) (prod (prod (inv s) b) s) = prod (prod (inv s) a) (prod s (prod (prod (inv s) b) s)) := prod_assoc (bd (hs.inv.prod ha) hs)
  have h2 : prod s (prod (prod (inv s) b) s) = prod b s := by
    rw [← prod_assoc (bd hs (hs.inv.prod hb)), ← prod_assoc (bd hs hs.inv), prod_inv_r hs, prod_still_l hb.len]
  rw [h1, h2, ← prod_assoc (bd hs.inv ha), prod_assoc (bd (hs.inv.prod ha) hb)]
theorem Mk.cj {gs : List (List Nat)} {n : Nat} {s : List Nat} (hg : ∀ g ∈ gs, IsP n g) (hs : IsP n s) {u : List Nat} (h : Mk (gs.map (Lt.cj s)) n u) : ∃ t, Mk gs n t ∧ u = Lt.cj s t := by
  induction h with
  | still => exact ⟨_, .still, (cj_still hs).symm⟩
  | @step a g _ hm ih =>
    obtain ⟨t, ht, e⟩ := ih
    obtain ⟨g', hg', e'⟩ := List.mem_map.mp hm
    exact ⟨_, .step ht hg', by rw [cj_prod hs (ht.isP hg) (hg g' hg'), e, e']⟩
theorem Few.cj {gs : List (List Nat)} {n m : Nat} {s : List Nat} (hg : ∀ g ∈ gs, IsP n g) (hs : IsP n s) (h : Few gs n m) : Few (gs.map (Lt.cj s)) n m := by
  obtain ⟨D, h1, h2⟩ := h
  refine ⟨D.map (Lt.cj s), by rw [List.length_map]; exact h1, fun u hu => ?_⟩
  obtain ⟨t, ht, e⟩ := hu.cj hg hs
  rw [e]
  exact List.mem_map.mpr ⟨t, h2 t ht, rfl⟩
theorem few_of {gs : List (List Nat)} {n k : Nat} (h : (qq gs n k).length ≤ k) : Few gs n k :=
  ⟨(qq gs n k).map (·.1), by rw [List.length_map]; exact h, fun t ht => (qq_full h t).mpr ht⟩
theorem Few.mono {gs : List (List Nat)} {n m m' : Nat} (h : Few gs n m) (l : m ≤ m') : Few gs n m' := let ⟨D, h1, h2⟩ := h; ⟨D, Nat.le_trans h1 l, h2⟩
/-- what is led where -/
theorem cj_at {n : Nat} {s t u : List Nat} (hs : IsP n s) (ht : IsP n t) (hl : u.length = n) (h : ∀ (i si ti : Nat), s[i]? = some si → t[i]? = some ti → u[si]? = s[ti]?) : u = cj s t := by
  apply List.ext_getElem?
  intro p
  by_cases hp : p < n
  · have hm : p ∈ s := hs.mem.mpr hp
    have hj := List.idxOf_lt_length_of_mem hm
    have hjn : s.idxOf p < n := by rw [← hs.len]; exact hj
    have e1 : s[s.idxOf p]? = some p := by rw [List.getElem?_eq_getElem hj, List.getElem_idxOf]
    have e2 : t[s.idxOf p]? = some (t[s.idxOf p]'(by rw [ht.len]; exact hjn)) := List.getElem?_eq_getElem _
    have htl : t[s.idxOf p]'(by rw [ht.len]; exact hjn) < s.length := by rw [hs.len]; exact ht.lt _ (List.getElem_mem _)
    rw [h _ _ _ e1 e2]
    unfold cj prod inv
    rw [List.getElem?_map, List.getElem?_map, List.getElem?_map, hs.len, List.getElem?_range hp]
    simp only [Option.map_some]
    rw [List.getD_eq_getElem?_getD (l := t), e2, Option.getD_some, List.getD_eq_getElem?_getD, List.getElem?_eq_getElem htl, Option.getD_some]
  · rw [List.getElem?_eq_none (by omega), List.getElem?_eq_none (by rw [(cj_isP hs ht).len]; omega)]
/-! ### all permutations of few places -/
def lists (n : Nat) : Nat → List (List Nat)
  | 0 => [[]]
  | k + 1 => (List.range n).flatMap fun a => (lists n k).map (a :: ·)
theorem mem_lists {n : Nat} : ∀ (t : List Nat), (∀ i ∈ t, i < n) → t ∈ lists n t.length
  | [], _ => List.mem_singleton.mpr rfl
  | a :: t, h => List.mem_flatMap.mpr ⟨a, List.mem_range.mpr (h a List.mem_cons_self), List.mem_map.mpr ⟨t, mem_lists t fun i hi => h i (List.mem_cons_of_mem _ hi), rfl⟩⟩
theorem few_all {gs : List (List Nat)} {n m : Nat} (hg : ∀ g ∈ gs, IsP n g) (h : ((lists n n).filter fun t => decide (IsP n t)).length ≤ m) : Few gs n m :=
  ⟨_, h, fun t ht => by
    have hp := ht.isP hg
    have z := mem_lists t hp.lt
    rw [hp.len] at z
    exact List.mem_filter.mpr ⟨z, decide_eq_true hp⟩⟩
theorem all4 : ((lists 4 4).filter fun t => decide (IsP 4 t)).length ≤ 60 := by decide +kernel
theorem all3 : ((lists 3 3).filter fun t => decide (IsP 3 t)).length ≤ 60 := by decide +kernel
theorem all2 : ((lists 2 2).filter fun t => decide (IsP 2 t)).length ≤ 60 := by decide +kernel
/-! ### the known locks -/
def known : List (List (List Nat)) := [[[1, 2, 3, 0]], [[1, 0, 3, 2], [2, 3, 0, 1]], [[1, 2, 3, 0], [3, 2, 1, 0]], [[1, 0, 2, 3, 4, 5], [0, 1, 3, 2, 4, 5], [0, 1, 2, 3, 5, 4]],
  [[1, 2, 3, 4, 5, 6, 7, 0]], [[1, 2, 3, 4, 5, 6, 7, 8, 0]], [[1, 2, 3, 0, 5, 6, 7, 4], [4, 7, 6, 5, 2, 1, 0, 3]], [[1, 2, 0, 3, 4, 5], [0, 1, 2, 4, 5, 3]], [[1, 2, 0], [1, 0, 2]],
  [[1, 2, 0, 3], [1, 0, 3, 2]], [[1, 2, 0, 3, 4], [0, 1, 2, 4, 3]], [[3, 4, 5, 6, 7, 8, 0, 1, 2], [0, 1, 2, 4, 5, 3, 8, 6, 7]], [[1, 2, 3, 4, 0], [1, 2, 0, 3, 4]], [[1, 2, 3, 0], [1, 0, 2, 3]],
  [[1, 2, 3, 4, 0], [0, 4, 3, 2, 1]]]
def fine (gs : List (List Nat)) : Bool := match gs with
  | [] => false
  | g :: _ => decide (gs.length ≤ 4) && decide (2 ≤ g.length) && decide (g.length ≤ 9) && gs.all (fun t => decide (IsP g.length t)) && decide ((qq gs g.length 60).length ≤ 60)
theorem known_fine : known.all fine = true := by decide +kernel
theorem fine_of {gs : List (List Nat)} (h : gs ∈ known) : ∃ n, 1 ≤ gs.length ∧ gs.length ≤ 4 ∧ 2 ≤ n ∧ n ≤ 9 ∧ (∀ g ∈ gs, IsP n g) ∧ Few gs n 60 := by
  have z := List.all_eq_true.mp known_fine gs h
  cases gs with
  | nil => cases z
  | cons g gs =>
    have z : (decide ((g :: gs).length ≤ 4) && decide (2 ≤ g.length) && decide (g.length ≤ 9) && (g :: gs).all (fun t => decide (IsP g.length t)) && decide ((qq (g :: gs) g.length 60).length ≤ 60)) = true := z
    simp only [Bool.and_eq_true, decide_eq_true_eq, List.all_eq_true] at z
    obtain ⟨⟨⟨⟨z1, z2⟩, z3⟩, z4⟩, z5⟩ := z
    exact ⟨g.length, by show 1 ≤ gs.length + 1; omega, z1, z2, z3, z4, few_of z5⟩
end Lt

set_option Elab.async false
set_option linter.all false
set_option maxRecDepth 100000
set_option maxHeartbeats 1000000
namespace Lt
open PySem PySem.Spec PyProof.Rows L2
/-! ### a written table of locks -/
def isInts : List Expr → List Nat → Bool
  | [], [] => true
  | .Constant (.int i) _ _ :: es, n :: t => decide (i = Int.ofNat n) && isInts es t
  | _, _ => false
def isTurns : List Expr → List (List Nat) → Bool
  | [], [] => true
  | .Tuple es _ _ :: r, t :: ts => isInts es t && isTurns r ts
  | _, _ => false
def isTab : List (Option Expr) → List Expr → List (Str × List (List Nat)) → Bool
  | [], [], [] => true
  | some (.Constant (.str x) _ _) :: ks, .Tuple es _ _ :: vs, (y, ts) :: tab => decide (x = y) && isTurns es ts && isTab ks vs tab
  | _, _, _ => false
theorem PA.imp {X : Cx} {es : List Expr} {t t' : TA} (h : PA X es t) (i : ∀ σ H Q, t' σ H Q → t σ H Q) : PA X es t' := ⟨fun pos pins s σ H Q I q => h.run pos pins s σ H Q I (i σ H Q q)⟩
theorem PE.imp {X : Cx} {e : Expr} {t t' : TE} (h : PE X e t) (i : ∀ σ H Q, t' σ H Q → t σ H Q) : PE X e t' := ⟨fun pins s σ H Q I q => h.run pins s σ H Q I (i σ H Q q)⟩
section
variable {X : Cx}
theorem pa_ints : ∀ {es : List Expr} {t : List Nat}, isInts es t = true → PA X es (fun _ H Q => Q (nIs t) H)
  | [], [], _ => pa_nil
  | [], _ :: _, h => by cases h
  | e :: es, [], h => by
    cases e with
    | Constant c j p => cases c <;> cases h
    | _ => cases h
  | e :: es, n :: t, h => by
    cases e with
    | Constant c j p =>
      cases c with
      | int i =>
        have h : (decide (i = Int.ofNat n) && isInts es t) = true := h
        rw [Bool.and_eq_true, decide_eq_true_eq] at h
        obtain ⟨rfl, h2⟩ := h
        exact PA.imp (pa_cons pe_int (pa_ints h2)) fun σ H Q q => q
      | _ => cases h
    | _ => cases h
theorem pe_turn {es : List Expr} {k : Nat} {pos : Pos} {t : List Nat} (h : isInts es t = true) (hl : t.length ≤ 1000) : PE X (.Tuple es k pos) (fun _ H Q => ∀ v H', Same H H' → TK H' v t → Q v H') :=
  PE.imp (pe_tup (pa_ints h)) fun σ H Q q => ⟨by rw [nIs_len, sizeLine_eq]; omega, fun p hp => q _ _ (same_new hp) ⟨p, rfl, upd_same⟩⟩
theorem pa_turns : ∀ {es : List Expr} {ts : List (List Nat)}, isTurns es ts = true → (∀ t ∈ ts, t.length ≤ 1000) → PA X es (fun _ H Q => ∀ vs H', Same H H' → Paired (TN H') vs ts → Q vs H')
  | [], [], _, _ => PA.imp pa_nil fun σ H Q q => q _ _ (Same.refl _) .nil
  | [], _ :: _, h, _ => by cases h
  | e :: es, [], h, _ => by cases e <;> cases h
  | e :: es, t :: ts, h, hl => by
    cases e with
    | Tuple es2 k pos =>
      have h : (isInts es2 t && isTurns es ts) = true := h
      rw [Bool.and_eq_true] at h
      refine PA.imp (pa_cons (pe_turn h.1 (hl t List.mem_cons_self)) (pa_turns h.2 fun x hx => hl x (List.mem_cons_of_mem _ hx))) fun σ H Q q => ?_
      exact fun v H1 s1 hv vs H2 s2 hvs => q _ _ (s1.trans s2) (.cons (hv.tn.tm (.of s2)) hvs)
    | _ => cases h
def Tb (H : Hp) (p : V × V) (x : Str × List (List Nat)) : Prop := p.1 = .str x.1 ∧ TT H p.2 x.2
theorem pps_tab {pos : Pos} : ∀ {ks : List (Option Expr)} {vs : List Expr} {tab : List (Str × List (List Nat))}, isTab ks vs tab = true → (∀ x ∈ tab, x.2.length ≤ 1000 ∧ ∀ t ∈ x.2, t.length ≤ 1000) →
    ∃ trs, PPs X pos ks vs trs ∧ ∀ σ H Q, (∀ ps H', Same H H' → Paired (Tb H') ps tab → Q ps H') → tPairs trs σ H Q
  | [], [], [], _, _ => ⟨[], pps_nil, fun σ H Q q => q _ _ (Same.refl _) .nil⟩
  | [], [], _ :: _, h, _ => by cases h
  | [], _ :: _, _, h, _ => by cases h
  | k :: ks, [], tab, h, _ => by
    cases k with
    | none => cases h
    | some e => cases e with
      | Constant c j p => cases c <;> cases h
      | _ => cases h
  | k :: ks, v :: vs, [], h, _ => by
    cases k with
    | none => cases h
    | some e => cases e with
      | Constant c j p => cases c <;> cases v <;> cases h
      | _ => cases h
  | k :: ks, v :: vs, (y, ts) :: tab, h, hl => by
    cases k with
    | none => cases h
    | some e => cases e with
      | Constant c j p => cases c with
        | str x => cases v with
          | Tuple es k2 pos2 =>
            have h : (decide (x = y) && isTurns es ts && isTab ks vs tab) = true := h
            rw [Bool.and_eq_true, Bool.and_eq_true, decide_eq_true_eq] at h
            obtain ⟨⟨rfl, h1⟩, h2⟩ := h
            obtain ⟨hl1, hl2⟩ := hl (x, ts) List.mem_cons_self
            obtain ⟨trs, p, r⟩ := pps_tab h2 fun z hz => hl z (List.mem_cons_of_mem _ hz)
            refine ⟨_, pps_cons pe_str (pe_tup (pa_turns h1 hl2)) p, fun σ H Q q => ?_⟩
            refine fun us H1 s1 hus => ⟨by rw [Paired.length hus, sizeLine_eq]; exact Nat.le_trans hl1 (by decide), fun pt hpt => ?_⟩
            have s2 := same_new (o := .tup us) hpt
            refine r σ _ _ fun ps H3 s3 hps => q _ _ ((s1.trans s2).trans s3) (.cons ⟨rfl, TT.tm (.of s3) ⟨pt, us, rfl, upd_same, TNs.tm (.of s2) hus⟩⟩ hps)
          | _ => cases h
        | _ => cases h
      | _ => cases h
/-- what a dict of names and locks holds -/
def DB (H : Hp) (kv : Key × V) (x : Str × List (List Nat)) : Prop := kv.1 = Sum.inr x.1 ∧ TT H kv.2 x.2
theorem tb_kvs {H : Hp} : ∀ {ps : List (V × V)} {tab : List (Str × List (List Nat))}, Paired (Tb H) ps tab → ∃ kvs : List (Key × V), ps = kvs.map (fun kv => (kV kv.1, kv.2)) ∧ Paired (DB H) kvs tab
  | _, _, .nil => ⟨[], rfl, .nil⟩
  | p :: _, x :: _, .cons r t => by
    obtain ⟨kvs, h1, h2⟩ := tb_kvs t
    refine ⟨(Sum.inr x.1, p.2) :: kvs, ?_, .cons ⟨rfl, r.2⟩ h2⟩
    rw [h1]
    have e : p = (V.str x.1, p.2) := Prod.ext r.1 rfl
    rw [e]
    rfl
theorem db_val {H : Hp} {x : Str} {ts : List (List Nat)} : ∀ {kvs : List (Key × V)} {tab : List (Str × List (List Nat))}, Paired (DB H) kvs tab → (tab.map (·.1)).Nodup → (x, ts) ∈ tab → ∃ v, valV kvs (Sum.inr x) = some v ∧ TT H v ts
  | _, _, .nil, _, h => by cases h
  | p :: ps, q :: qs, .cons r s, hn, h => by
    rw [List.map_cons] at hn
    obtain ⟨h1, h2⟩ := List.nodup_cons.mp hn
    rcases List.mem_cons.mp h with e | h
    · subst e
      exact ⟨p.2, valV_pos r.1, r.2⟩
    · have hne : ¬ p.1 = Sum.inr x := fun e => h1 (by
        rw [r.1] at e
        injection e with e
        rw [e]
        exact List.mem_map.mpr ⟨_, h, rfl⟩)
      rw [valV_neg hne]
      exact db_val s h2 h
theorem mergeK_nil {H : Hp} : ∀ {kvs : List (Key × V)} {tab : List (Str × List (List Nat))} {acc : List (Key × V)} {at_ : List (Str × List (List Nat))}, Paired (DB H) kvs tab → Paired (DB H) acc at_ → ((at_ ++ tab).map (·.1)).Nodup → mergeK acc kvs = acc ++ kvs
  | _, _, acc, _, .nil, _, _ => by
    show acc = acc ++ []
    rw [List.append_nil]
  | p :: ps, q :: qs, acc, at_, .cons r s, ha, hn => by
    have hnone : valV acc p.1 = none := by
      cases e : valV acc p.1 with
      | none => rfl
      | some v =>
        exfalso
        have m := valV_in e
        obtain ⟨kv, hkv, ekv⟩ := List.mem_map.mp m
        obtain ⟨y, hy, ry⟩ := Paired.memL ha hkv
        have e1 : y.1 = q.1 := by
          have z : (Sum.inr y.1 : Key) = Sum.inr q.1 := ry.1.symm.trans (ekv.trans r.1)
          injection z
        rw [List.map_append, List.map_cons] at hn
        exact (List.nodup_append.mp hn).2.2 y.1 (List.mem_map.mpr ⟨y, hy, rfl⟩) q.1 List.mem_cons_self e1
    show mergeK (putK acc p.1 p.2) ps = acc ++ p :: ps
    rw [putK_new p.2 hnone, mergeK_nil (acc := acc ++ [(p.1, p.2)]) (at_ := at_ ++ [q]) s (Paired.app ha (Paired.one r)) (by rw [List.append_assoc]; exact hn), List.append_assoc]
    rfl
/-- {'a': ((..), ..), ..} -/
def tTab (tab : List (Str × List (List Nat))) : TE := fun _ H Q => ∀ p H' kvs, Same H H' → H p = none → H' p = some (.dK kvs) → Paired (DB H') kvs tab → Q (.ref p) H'
theorem pe_tab {ks : List (Option Expr)} {vs : List Expr} {pos : Pos} {tab : List (Str × List (List Nat))} (h : isTab ks vs tab = true) (hl : ∀ x ∈ tab, x.2.length ≤ 1000 ∧ ∀ t ∈ x.2, t.length ≤ 1000) (hn : (tab.map (·.1)).Nodup) (h15 : tab.length ≤ 15)
    (hall : ks.all (·.isSome) = true) (hlen : ks.length = vs.length) (h0 : ks ≠ []) (hk15 : ks.length ≤ 15) : PE X (.Dict ks vs pos) (tTab tab) := by
  obtain ⟨trs, p, r⟩ := pps_tab (X := X) (pos := pos) h hl
  refine PE.imp (pe_disp p hall hlen h0 hk15) fun σ H Q q => ?_
  refine fun d hd => r σ _ _ fun ps H2 s2 hps => ⟨s2 _ _ upd_same, ?_⟩
  obtain ⟨kvs, e, hb⟩ := tb_kvs hps
  refine ⟨kvs, e, by rw [Paired.length hb]; exact h15, ?_⟩
  have em : mergeK [] kvs = kvs := mergeK_nil (acc := []) (at_ := []) hb .nil hn
  rw [em]
  have hd2 : H2 d = some (.dK []) := s2 _ _ upd_same
  have tm : Tm H2 (upd H2 d (.dK kvs)) := .mut hd2 (fun _ z => nomatch z) fun _ _ z => nomatch z
  have sH : Same H (upd H2 d (.dK kvs)) := same_mut ((same_new hd).trans s2) hd
  exact q d _ kvs sH hd upd_same (paired_mono (fun a b z => ⟨z.1, z.2.tm tm⟩) hb)
end
def names : List Str := ["four", "klein", "square", "cube", "eight", "nine", "quaternions", "threes", "three", "tetra", "six", "heis", "five", "whole", "ten"]
def table : List (Str × List (List Nat)) := names.zip known
theorem table_nd : (table.map (·.1)).Nodup := by decide +kernel
theorem table_len : ∀ x ∈ table, x.2.length ≤ 1000 ∧ ∀ t ∈ x.2, t.length ≤ 1000 := by decide +kernel
theorem table_known {x : Str × List (List Nat)} (h : x ∈ table) : x.2 ∈ known := by
  unfold table at h
  exact (List.of_mem_zip (a := x.1) (b := x.2) h).2
end Lt

set_option Elab.async false
set_option linter.all false
set_option maxRecDepth 100000
set_option maxHeartbeats 1000000
namespace Lt
open PySem PySem.Spec PyProof.Rows L2
theorem names_in : ∀ nm ∈ names, ∃ ts, (nm, ts) ∈ table := fun nm h => by
  have z : (names.all fun nm => table.any fun x => decide (x.1 = nm)) = true := by decide +kernel
  obtain ⟨x, hx, e⟩ := List.any_eq_true.mp (List.all_eq_true.mp z nm h)
  have e := of_decide_eq_true e
  exact ⟨x.2, by rw [← e]; exact hx⟩
theorem three_of {nm : Str} {ts : List (List Nat)} (h : (nm, ts) ∈ table) : ts.length ≤ 3 := by
  have z : (table.all fun x => decide (x.2.length ≤ 3)) = true := by decide +kernel
  exact of_decide_eq_true (List.all_eq_true.mp z _ h)
section
variable {P : Program} {w : World} {K : PySem.W.Frag} {mg : Str → Option Value} {base : Heap}
def spKnown (K : PySem.W.Frag) : Sp := fun vs H Q _ => ∃ (r kl sc : Addr) (ns : List Int) (kn : List Str), vs = [.ref r, .ref kl] ∧ RowAt K H r sc ns ∧ H kl = some (.lst (kn.map V.str)) ∧ kl ≠ r ∧ 1 ≤ kn.length ∧ kn.length ≤ 100 ∧ (∀ x ∈ kn, x ∈ names) ∧
  ∀ v H' ls n, ls.length ≤ 3 → GL ls n → Few ls n 60 → StepR r H H' → RowAt K H' r sc ns → TT H' v ls → Q v H'
theorem sc_law_known : FnScope ["row", "kinds", "locks", "lock", "order", "found", "turn", "named", "place", "comes"] ["row", "kinds"] (defScope s_law_known) := ⟨rfl, rfl, rfl, by decide +kernel, rfl, by decide +kernel, by decide +kernel⟩
theorem has_law_known (T : Top K mg "_law_known" s_law_known ["row", "kinds"]) (B : Bi mg) (hK : Has P w K mg base CX0 2 "_law_pick" ["row", "things"] (spPick K)) (hM : Has P w K mg base CX0 2 "_law_permutation" ["row", "places"] (spLawPerm K)) : Has P w K mg base CX0 3 "_law_known" ["row", "kinds"] (spKnown K) := by
  refine T.ok sc_law_known (fun vs H Q E h => ?_) (fun f cdv A outer s H vs Q E hr h => ?_)
  · obtain ⟨r, kl, sc, ns, kn, rfl, _⟩ := h
    rfl
  · obtain ⟨r, kl, sc, ns, kn, rfl, ra, hkl, hne, hk1, hk2, hkn, q⟩ := h
    have hu := hu_of hr
    refine ⟨_, pss_cons (ps_set (i := 2) sc_law_known.nd rfl (Or.inl rfl) (pe_tab (tab := table) (by decide +kernel) table_len table_nd (by decide) (by rfl) (by rfl) (fun z => by cases z) (by decide)))
      (pss_cons (ps_set (i := 3) sc_law_known.nd rfl (Or.inl rfl) (pe_dget hu (pv 2) (pe_has hK hr (by rfl) (pa_cons (pv 0) (pa_cons (pv 1) pa_nil))) (fun _ _ => rfl)))
      (pss_cons (ps_set (i := 4) sc_law_known.nd rfl (Or.inl rfl) (pe_has hM hr (by rfl) (pa_cons (pv 0) (pa_cons (pe_callB call_len_seq (by rfl) B.len PySem.boot_len (pa_cons (pe_ix ix_tup (pv 3) pe_int (fun _ _ => rfl)) pa_nil)) pa_nil))))
      (pss_cons (ps_set (i := 5) sc_law_known.nd rfl (Or.inl rfl) (pe_lst pa_nil))
      (pss_cons (ps_for PassesOwn.never rfl (pi_tup (pv 3)) (pg_name (i := 6) sc_law_known.nd rfl (Or.inl rfl))
        (pss_cons (ps_set (i := 7) sc_law_known.nd rfl (Or.inl rfl) (pe_op op_rep (pe_lst (pa_cons pe_int pa_nil)) (pe_callB call_len_seq (by rfl) B.len PySem.boot_len (pa_cons (pv 6) pa_nil))))
        (pss_cons (ps_for PassesOwn.never rfl (pi_enumT (by rfl) B.enumerate (pa_cons (pv 6) pa_nil)) (pg_tup rfl (pgs_cons (pg_name (i := 8) sc_law_known.nd rfl (Or.inl rfl)) (pgs_cons (pg_name (i := 9) sc_law_known.nd rfl (Or.inl rfl)) pgs_nil)))
          (pss_one (ps_asg (pe_ix ix_tup (pv 4) (pv 9) (fun _ _ => rfl)) (pg_sub (pv 7) (pe_ix ix_tup (pv 4) (pv 8) (fun _ _ => rfl)) set_list))))
        (pss_one (ps_expr (pe_bm PySem.F.plainAttrs_list PySem.F.slot_list_append PySem.F.type_list_append mt_append (pv 5) (pa_cons (pe_tupleOf (by rfl) B.tuple (pv 7)) pa_nil)))))))
      (pss_one (ps_ret (pe_tupleOf (by rfl) B.tuple (pv 5)))))))), ?_⟩
    refine fun d H1 kvs s1 hd hd1 hDB => ?_
    refine ⟨_, rfl, _, rfl, _, rfl, r, kl, sc, ns, kn.map V.str, rfl, ra.step s1, s1 _ _ hkl, hne, by rw [List.length_map]; exact hk1, by rw [List.length_map]; omega, fun x H2 hx st2 ra2 => ?_⟩
    obtain ⟨nm, hnm, rfl⟩ := List.mem_map.mp hx
    obtain ⟨ts, hts⟩ := names_in nm (hkn nm hnm)
    obtain ⟨n, hf1, hf2, hf3, hf4, hf5, hf6⟩ := fine_of (table_known hts)
    obtain ⟨lv, hlv, htt1⟩ := db_val hDB table_nd hts
    have hdr : d ≠ r := (ra.ne hd).symm
    have hd2 := st2 _ _ hdr hd1
    have htt2 := htt1.tm (st2.tm (ra.step s1))
    refine ⟨d, lv, rfl, by rw [← hlv]; exact DGet.k (k := Sum.inr nm) hd2, ?_⟩
    have gl : GL ts n := ⟨hf1, hf2, hf3, hf4, hf5⟩
    obtain ⟨a, xs, b, rfl, ha, hp, h0, t0, hbt, htl⟩ := htt2.head gl
    refine ⟨_, rfl, _, rfl, a, xs, 0, .ref b, rfl, rfl, SqT.of ha, h0, b, _, rfl, .inr hbt.sq, r, sc, ns, n, by rw [nIs_len, htl]; rfl, ra2, by omega, fun o H3 s hs st3 ra3 ho => ?_⟩
    have ha3 : H3 a = some (.tup xs) := (st3.tm ra2).1 _ _ ha
    have hp3 : Paired (TN H3) xs ts := TNs.tm (st3.tm ra2) hp
    obtain ⟨po, rfl, hpo⟩ := ho
    have st13 : StepR r H H3 := ((StepR.of s1).trans st2).trans st3
    refine ⟨Nat.zero_le _, fun fl hfl => ?_⟩
    have sl := same_new (o := .lst []) hfl
    refine ⟨_, rfl, a, rfl, ⟨_, SqT.of (sl _ _ ha3)⟩, for_tup (K := K) (a := a) (xs := xs) (fun i σ H' => ∃ x6 x7 x8 x9 us, σ = [some (.ref r), some (.ref kl), some (.ref d), some (.ref a), some (.ref po), some (.ref fl), x6, x7, x8, x9] ∧ Same H3 H' ∧ H' fl = some (.lst us) ∧ Paired (TN H') us ((ts.take i).map (cj s)))
      ⟨none, none, none, none, [], rfl, sl, upd_same, .nil⟩ (fun i σ H' _ ⟨_, _, _, _, _, _, s, _⟩ => SqT.of (s _ _ ha3)) ?_ ?_⟩
    · rintro i x σ H' hi ⟨x6, x7, x8, x9, us, rfl, sm, hus, pus⟩
      obtain ⟨t, ht, htn0⟩ := Paired.getL hp3 hi
      have htP := hf5 t (List.mem_of_getElem? ht)
      obtain ⟨pt, rfl, hpt⟩ := htn0.tm (.of sm)
      have hil : i < 4 := Nat.lt_of_lt_of_le (List.getElem?_eq_some_iff.mp ht).1 hf2
      refine ⟨by show 1 ≤ sizeLine; decide, fun l hl => ?_⟩
      have s5 := same_new (o := .lst [V.int 0]) hl
      refine ⟨_, rfl, pt, _, rfl, .inr (hpt.sm s5).sq, l, (t.length : Int), [V.int 0], rfl, by rw [nIs_len], upd_same, by omega, by rw [htP.len]; omega, ?_, fun nm hnm => ?_⟩
      · show 1 * (t.length : Int).toNat ≤ sizeLine
        rw [htP.len, sizeLine_eq]
        omega
      have s6 := s5.trans (same_new (o := .lst (List.replicate (t.length : Int).toNat [V.int 0]).flatten) hnm)
      have hnm0 : H' nm = none := s5.free hnm
      refine ⟨_, rfl, pt, _, rfl, (hpt.sm s6).sq, for_enumT (K := K) (xs := nIs t) (fun k σ2 H2' => ∃ (acc : List Nat) (y z : Option V), σ2 = [some (.ref r), some (.ref kl), some (.ref d), some (.ref a), some (.ref po), some (.ref fl), some (.ref pt), some (.ref nm), y, z] ∧ Same H' H2' ∧ H2' nm = some (.lst (nIs acc)) ∧ acc.length = n ∧ ∀ (i si ti : Nat), i < k → s[i]? = some si → t[i]? = some ti → acc[si]? = s[ti]?)
        ⟨List.replicate n 0, x8, x9, rfl, s6, by rw [upd_same, ← rep_zero, htP.len]; rfl, List.length_replicate .., fun i si ti h => absurd h (Nat.not_lt_zero i)⟩ (fun k σ2 H2' _ ⟨_, _, _, _, s, _⟩ => (hpt.sm s).sq) ?_ ?_⟩
      · rintro k y σ2 H2' T' hk ⟨acc, y8, y9, rfl, sm2, hnm2, hacc, hj⟩ hT'
        rw [nIs_get] at hk
        obtain ⟨m, hm, rfl⟩ := Option.map_eq_some_iff.mp hk
        have hmn : m < n := htP.lt m (List.mem_of_getElem? hm)
        have hkn' : k < n := by have := (List.getElem?_eq_some_iff.mp hm).1; rw [htP.len] at this; exact this
        have sT := same_new (o := .tup [nI k, nI m]) hT'
        have hnT : nm ≠ T' := ne_of_none hnm2 hT'
        have hsk : s[k]? = some (s[k]'(by rw [hs.len]; exact hkn')) := List.getElem?_eq_getElem _
        have hsm : s[m]? = some (s[m]'(by rw [hs.len]; exact hmn)) := List.getElem?_eq_getElem _
        generalize (s[k]'(by rw [hs.len]; exact hkn')) = sk at hsk
        generalize (s[m]'(by rw [hs.len]; exact hmn)) = smv at hsm
        have hskn : sk < n := hs.lt sk (List.mem_of_getElem? hsk)
        have hpo2 : (upd H2' T' (.tup [nI k, nI m])) po = some (.tup (nIs s)) := sT _ _ (sm2 _ _ (sm _ _ hpo))
        refine ⟨T', _, rfl, SqT.of upd_same, rfl, nI k, _, rfl, nI m, _, rfl, rfl, ?_⟩
        refine ⟨_, rfl, _, rfl, po, _, (m : Int), nI smv, rfl, rfl, SqT.of hpo2, atI_nat (by rw [nIs_get, hsm]; rfl), _, rfl, _, rfl, _, rfl, po, _, (k : Int), nI sk, rfl, rfl, SqT.of hpo2, atI_nat (by rw [nIs_get, hsk]; rfl), nm, nIs acc, (sk : Int), sk, rfl, rfl, sT _ _ hnm2, Evl.ixN_nat (by rw [nIs_len, hacc]; exact hskn), ?_⟩
        refine ⟨acc.set sk smv, _, _, rfl, same_mut (sm2.trans sT) hnm0, by rw [upd_same, nIs_set], by rw [List.length_set]; exact hacc, fun i si ti hik hsi hti => ?_⟩
        by_cases e : i = k
        · subst e
          rw [hsk] at hsi
          have hsi := Option.some.inj hsi
          subst hsi
          rw [hm] at hti
          have hti := Option.some.inj hti
          subst hti
          rw [List.getElem?_set_self (by omega), hsm]
        · have hne2 : sk ≠ si := fun z => e (nd_ix hs.nd hsi (z ▸ hsk))
          rw [List.getElem?_set_ne hne2]
          exact hj i si ti (by omega) hsi hti
      · rintro σ2 H2' ⟨acc, y8, y9, rfl, sm2, hnm2, hacc, hj⟩
        have ecj : acc = cj s t := cj_at hs htP hacc fun i si ti hsi hti => hj i si ti (by rw [nIs_len]; exact (List.getElem?_eq_some_iff.mp hti).1) hsi hti
        have hus2 := sm2 _ _ hus
        refine ⟨_, rfl, .inl ⟨rfl, _, SqL.of hus2⟩, _, rfl, .inl ⟨nm, nIs acc, rfl, SqL.of hnm2, fun p hp' => ?_⟩⟩
        have s7 := same_new (o := .tup (nIs acc)) hp'
        have hus3 := s7 _ _ hus2
        have husl : us.length ≤ 4 := by rw [Paired.length pus, List.length_map, List.length_take]; omega
        refine ⟨fl, us, _, rfl, rfl, hus3, by rw [sizeLine_eq]; omega, ?_⟩
        have t8 := Tm.lst (o := .lst (us ++ [V.ref p])) hus3
        refine ⟨_, _, _, _, us ++ [.ref p], rfl, same_mut ((sm.trans sm2).trans s7) hfl, upd_same, ?_⟩
        rw [List.take_add_one, ht, List.map_append]
        exact Paired.app (TNs.tm ((Tm.of (sm2.trans s7)).trans t8) pus) (Paired.one (TK.tn (TK.tm t8 ⟨p, rfl, by rw [upd_same, ecj]⟩)))
    · rintro σ H' ⟨x6, x7, x8, x9, us, rfl, sm, hus, pus⟩
      rw [Paired.length hp3, List.take_length] at pus
      refine ⟨_, rfl, .inl ⟨fl, us, rfl, SqL.of hus, fun p hp' => ?_⟩⟩
      have s7 := same_new (o := .tup us) hp'
      refine q _ _ (ts.map (cj s)) n (by rw [List.length_map]; exact three_of hts) ⟨by rw [List.length_map]; exact hf1, by rw [List.length_map]; exact hf2, hf3, hf4, fun g hg => ?_⟩ ((Few.cj hf5 hs hf6).mono (by omega)) (st13.trans (.of (sm.trans s7))) (ra3.step (sm.trans s7)) ⟨p, us, rfl, upd_same, TNs.tm (.of s7) pus⟩
      obtain ⟨t, ht, e⟩ := List.mem_map.mp hg
      rw [← e]
      exact cj_isP hs (hf5 t ht)
/-! ### _law_lock -/
def spLock (K : PySem.W.Frag) : Sp := fun vs H Q _ => ∃ (r kl sc : Addr) (ns : List Int) (kn : List Str), vs = [.ref r, .ref kl] ∧ RowAt K H r sc ns ∧ H kl = some (.lst (kn.map V.str)) ∧ kl ≠ r ∧ 1 ≤ kn.length ∧ kn.length ≤ 100 ∧ (∀ x ∈ kn, x ∈ names) ∧
  ∀ v H' ls n, ls.length ≤ 3 → GL ls n → Few ls n 60 → StepR r H H' → RowAt K H' r sc ns → TT H' v ls → Q v H'
theorem sc_law_lock : FnScope ["row", "kinds", "places", "turn"] ["row", "kinds"] (defScope s_law_lock) := ⟨rfl, rfl, rfl, by decide +kernel, rfl, by decide +kernel, by decide +kernel⟩
theorem few4 {ls : List (List Nat)} {n : Nat} (h1 : 2 ≤ n) (h2 : n ≤ 4) (hg : ∀ g ∈ ls, IsP n g) : Few ls n 60 := by
  have : n = 2 ∨ n = 3 ∨ n = 4 := by omega
  rcases this with e | e | e
  · subst e; exact (few_all hg all2).mono (by omega)
  · subst e; exact (few_all hg all3).mono (by omega)
  · subst e; exact (few_all hg all4).mono (by omega)
theorem has_law_lock (T : Top K mg "_law_lock" s_law_lock ["row", "kinds"]) (B : Bi mg) (hT : Has P w K mg base CX0 1 "_law_taken" ["row", "many"] (spTaken K)) (hK : Has P w K mg base CX0 3 "_law_known" ["row", "kinds"] (spKnown K)) (hM : Has P w K mg base CX0 2 "_law_permutation" ["row", "places"] (spLawPerm K)) :
    Has P w K mg base CX0 4 "_law_lock" ["row", "kinds"] (spLock K) := by
  refine T.ok sc_law_lock (fun vs H Q E h => ?_) (fun f cdv A outer s H vs Q E hr h => ?_)
  · obtain ⟨r, kl, sc, ns, kn, rfl, _⟩ := h
    rfl
  · obtain ⟨r, kl, sc, ns, kn, rfl, ra, hkl, hne, hk1, hk2, hkn, q⟩ := h
    have hr1 : Room 1 _ := hr.mono (by decide)
    have hr2 : Room 2 _ := hr.mono (by decide)
    refine ⟨_, pss_cons (ps_if (pt_cmpR op_gt (pe_has hT hr1 (by rfl) (pa_cons (pv 0) (pa_cons pe_int pa_nil))) pe_int (nomark _))
        (pss_one (ps_ret (pe_has hK hr (by rfl) (pa_cons (pv 0) (pa_cons (pv 1) pa_nil))))) pss_nil)
      (pss_cons (ps_set (i := 2) sc_law_lock.nd rfl (Or.inr rfl) (pe_op op_add pe_int (pe_has hT hr1 (by rfl) (pa_cons (pv 0) (pa_cons pe_int pa_nil)))))
      (pss_one (ps_ret (pe_tupleOf (by rfl) B.tuple (pe_lc (own := [("turn", 3)]) (g := gName 3) (te := tCall (spLawPerm K) [] E0 (tCons (tVar 0) (tCons (tVar 2) tNil))) (by rfl) sc_law_lock.nd
        (pi_range1 (by rfl) B.range (pa_cons (pe_op op_add pe_int (pe_has hT hr1 (by rfl) (pa_cons (pv 0) (pa_cons pe_int pa_nil)))) pa_nil)) (blkOk_by (own := [("turn", 3)]) (N := ["row", "kinds", "places", "turn"]) (sc := defScope s_law_lock) (by decide +kernel))
        (fun _ _ _ _ _ => pg_name (i := 3) sc_law_lock.nd rfl (Or.inl rfl)) (fun _ _ _ _ _ => pts_nil) (fun _ _ _ _ _ => pe_has hM hr2 (by rfl) (pa_cons (pv 0) (pa_cons (pv 2) pa_nil)))))))), ?_⟩
    refine ⟨_, rfl, r, sc, ns, 3, rfl, ra, by omega, by omega, fun x H1 hx st1 ra1 => ?_⟩
    refine ⟨(x : Int), 0, rfl, rfl, _, rfl, ite2 (fun h => ?_) (fun h => ?_)⟩
    · exact ⟨_, rfl, _, rfl, r, kl, sc, ns, kn, rfl, ra1, st1 _ _ hne hkl, hne, hk1, hk2, hkn, fun v H2 ls n l3 gl fw st2 ra2 tt => q v H2 ls n l3 gl fw (st1.trans st2) ra2 tt⟩
    · refine ⟨_, rfl, r, sc, ns, 3, rfl, ra1, by omega, by omega, fun y H2 hy st2 ra2 => ?_⟩
      refine ⟨2, (y : Int), rfl, rfl, ?_⟩
      refine ⟨_, rfl, r, sc, ns, 2, rfl, ra2, by omega, by omega, fun z H3 hz st3 ra3 => ?_⟩
      have st03 := (st1.trans st2).trans st3
      refine ⟨1, (z : Int), rfl, rfl, (1 : Int) + (z : Int), rfl, by omega, by omega, fun D hD => ?_⟩
      have hDr : D ≠ r := (ra3.ne hD).symm
      refine lc_range (lo := 0) (n := ((1 : Int) + (z : Int)).toNat) (fun i H' => StepR r H3 H' ∧ RowAt K H' r sc ns ∧ ∃ us ls, H' D = some (.lst us) ∧ Paired (TN H') us ls ∧ ls.length = i ∧ ∀ g ∈ ls, IsP (2 + y) g)
        ⟨.of (same_new hD), ra3.step (same_new hD), [], [], upd_same, .nil, rfl, fun g h => by cases h⟩ ?_ ?_
      · rintro i H' hi ⟨st4, ra4, us, ls, hus, pus, hll, hP⟩
        refine ⟨rfl, iteT (B := StepR r H3 H' ∧ RowAt K H' r sc ns ∧ ∃ us ls, H' D = some (.lst us) ∧ Paired (TN H') us ls ∧ ls.length = i ∧ ∀ g ∈ ls, IsP (2 + y) g) ⟨_, rfl, _, rfl, r, sc, ns, 2 + y, ?_, ra4, by omega, fun v H5 t ht st5 ra5 hv => ?_⟩⟩
        · show [V.ref r, V.int ((2 : Int) + (y : Int))] = [V.ref r, V.int ((2 + y : Nat) : Int)]
          rw [show ((2 + y : Nat) : Int) = (2 : Int) + (y : Int) by omega]
        · have hus5 := st5 _ _ hDr hus
          have t6 := Tm.lst (o := .lst (us ++ [v])) hus5
          refine ⟨us, hus5, by rw [Paired.length pus, hll, sizeLine_eq]; omega, (st4.trans st5).mut hD, RowAt.mut ra3 hD ra5, us ++ [v], ls ++ [t], upd_same, Paired.app (TNs.tm ((st5.tm ra4).trans t6) pus) (Paired.one (TK.tn (TK.tm t6 hv))), by rw [List.length_append, hll]; rfl, fun g hg => ?_⟩
          rcases List.mem_append.mp hg with z | z
          · exact hP g z
          · rw [List.mem_singleton.mp z]
            exact ht
      · rintro H' ⟨st4, ra4, us, ls, hus, pus, hll, hP⟩
        refine .inl ⟨D, us, rfl, SqL.of hus, fun p hp => ?_⟩
        have s7 := same_new (o := .tup us) hp
        exact q _ _ ls (2 + y) (by omega) ⟨by omega, by omega, by omega, by omega, hP⟩ (few4 (by omega) (by omega) hP) ((st03.trans st4).trans (.of s7)) (ra4.step s7) ⟨p, us, rfl, upd_same, TNs.tm (.of s7) pus⟩
end
end Lt

set_option Elab.async false
set_option linter.all false
set_option maxRecDepth 100000
set_option maxHeartbeats 2000000
/-! k13: one turn of the law's loop -/
namespace Lt
open PySem PySem.Spec PyProof.Rows L2 NdefX LamX LmX MaX
structure LoopAt (K : PySem.W.Frag) (C Pt : Addr) (H : Hp) (p m l r sc wp : Addr) (ns : List Int) (ls : List (List Nat)) (n : Nat) (ts : List (List Nat)) (pl : Addr) (pd pp : List (List Nat)) : Prop where
  dial : DialAt H C p m l ls n pd
  row : RowAt K H r sc ns
  pst : ∃ xs, H pl = some (.lst xs) ∧ Paired (TN H) xs pp
  whole : LF H wp ts
  tabs : Tabs [(Pt, q_lam)] H
  nlr : l ≠ r
  npr : pl ≠ r
  nwr : wp ≠ r
  nwl : wp ≠ l
  nwp : wp ≠ pl
  nlp : l ≠ pl
  l9 : ∃ Hq, RowAt K Hq r sc ns ∧ Hq l = none
  p9 : ∃ Hq, RowAt K Hq r sc ns ∧ Hq pl = none
theorem tabs_stepL {l : Addr} {H H' : Hp} {xs : List V} {T : List (Addr × Str)} (hl : H l = some (.lst xs)) (s : StepR l H H') (h : Tabs T H) : Tabs T H' := fun p hp => by
  obtain ⟨ps, h1, h2, h3⟩ := h p hp
  refine ⟨ps, s _ _ (ne_of h1 hl (fun z => nomatch z)) h1, h2, fun pos cv hc => ?_⟩
  obtain ⟨c, e1, e2⟩ := h3 pos cv hc
  exact ⟨c, e1, s _ _ (ne_of e2 hl (codeO_is.1 _)) e2⟩
section
variable {K : PySem.W.Frag} {C Pt : Addr} {H H' : Hp} {p m l r sc wp pl : Addr} {ns : List Int} {ls ts pd pp : List (List Nat)} {n : Nat}
theorem LoopAt.same (F : LoopAt K C Pt H p m l r sc wp ns ls n ts pl pd pp) (s : Same H H') : LoopAt K C Pt H' p m l r sc wp ns ls n ts pl pd pp :=
  { F with dial := F.dial.same s, row := F.row.step s, pst := let ⟨xs, a, b⟩ := F.pst; ⟨xs, s _ _ a, TNs.tm (.of s) b⟩, whole := F.whole.same s, tabs := F.tabs.ext s }
theorem LoopAt.step (F : LoopAt K C Pt H p m l r sc wp ns ls n ts pl pd pp) (s : StepR r H H') (ra : RowAt K H' r sc ns) : LoopAt K C Pt H' p m l r sc wp ns ls n ts pl pd pp :=
  have ⟨_, _, _, R⟩ := F.row
  { F with dial := F.dial.kp (Kp2.l s) R.at_ R.at_ F.nlr F.nlr, row := ra, pst := let ⟨xs, a, b⟩ := F.pst; ⟨xs, s _ _ F.npr a, TNs.tm (s.tm F.row) b⟩, whole := F.whole.step F.row F.nwr s, tabs := Tabs.rowX F.row s F.tabs }
theorem LoopAt.putp (F : LoopAt K C Pt H p m l r sc wp ns ls n ts pl pd pp) {xs : List V} {pp' : List (List Nat)} (hx : Paired (TN H) xs pp') : LoopAt K C Pt (upd H pl (.lst xs)) p m l r sc wp ns ls n ts pl pd pp' :=
  have ⟨ys, hy, _⟩ := F.pst
  have tm : Tm H (upd H pl (.lst xs)) := Tm.lst hy
  have s : StepR pl H (upd H pl (.lst xs)) := StepR.put _ _ _
  have ⟨Hq, rq, hq⟩ := F.p9
  { F with dial := F.dial.kp (Kp2.l s) hy hy F.nlp F.nlp, row := rq.far' hq F.row s, pst := ⟨xs, upd_same, TNs.tm tm hx⟩, whole := let ⟨ws, a, b⟩ := F.whole; ⟨ws, s _ _ F.nwp a, TFs.tm tm b⟩, tabs := tabs_stepL hy s F.tabs }
theorem LoopAt.newp (F : LoopAt K C Pt H p m l r sc wp ns ls n ts pl pd pp) {q : Addr} {xs : List V} {pp' : List (List Nat)} (hq : H q = none) (hx : Paired (TN H) xs pp') : LoopAt K C Pt (upd H q (.lst xs)) p m l r sc wp ns ls n ts q pd pp' :=
  have s : Same H (upd H q (.lst xs)) := same_new hq
  have ⟨_, _, _, R⟩ := F.row
  have ⟨_, hw, _⟩ := F.whole
  have ⟨_, hl, _⟩ := F.dial.stood
  { (F.same s) with pst := ⟨xs, upd_same, TNs.tm (.of s) hx⟩, npr := (ne_of_none R.at_ hq).symm, nwp := ne_of_none hw hq, nlp := ne_of_none hl hq, p9 := ⟨H, F.row, hq⟩ }
theorem LoopAt.stepl (F : LoopAt K C Pt H p m l r sc wp ns ls n ts pl pd pp) {pd' : List (List Nat)} (s : StepR l H H') (d : DialAt H' C p m l ls n pd') : LoopAt K C Pt H' p m l r sc wp ns ls n ts pl pd' pp :=
  have ⟨ys, hy, _⟩ := F.dial.stood
  have tm := stepR_tml s hy
  have ⟨Hq, rq, hq⟩ := F.l9
  { F with dial := d, row := rq.far' hq F.row s, pst := let ⟨xs, a, b⟩ := F.pst; ⟨xs, s _ _ F.nlp.symm a, TNs.tm tm b⟩, whole := let ⟨ws, a, b⟩ := F.whole; ⟨ws, s _ _ F.nwl a, TFs.tm tm b⟩, tabs := tabs_stepL hy s F.tabs }
end
section
variable (P : Program) (w : World) (K : PySem.W.Frag) (mg : Str → Option Value) (base : Heap)
structure Has13 (C CT CR CN CL CM : Addr) : Prop where
  bi : Bi mg
  cl : Cls K C
  init : HasI P w K mg base (L2.CX P w) 6 C "Dial" ["self", "lock"] (spDInit C)
  turn : HasM P w K mg base (L2.CX P w) 5 C "turn" ["self", "turn"] (spDTurn C CT)
  step : HasM P w K mg base (L2.CX P w) 6 C "step" ["self", "step", "bits"] (spDStep C CR CN)
  undo : HasM P w K mg base CX0 1 C "undo" ["self"] (spDUndo C)
  home : HasM P w K mg base CX0 2 C "home" ["self"] (spDHome C)
  stands : HasP P w K mg base CX0 1 C "stands" (spDStands C)
  done : HasP P w K mg base CX0 1 C "done" (spDDone C)
  ex : Ex3 K mg CT CR CN
  taken : Has P w K mg base CX0 1 "_law_taken" ["row", "many"] (spTaken K)
  pick : Has P w K mg base CX0 2 "_law_pick" ["row", "things"] (spPick K)
  behind : Has P w K mg base CX0 1 "_law_behind" ["one", "other"] spProd
  alike : ∀ k, Has P w K mg base CX0 (k + 1) "_law_alike" ["found", "due"] (spAlike k)
  span : Has P w K mg base CX0 2 "_law_span" ["places", "given"] spSpan
  lock : Has P w K mg base CX0 4 "_law_lock" ["row", "kinds"] (spLock K)
end
def forBody : Stmt → List Stmt
  | .For _ _ b _ _ => b
  | _ => []
section
variable {P : Program} {w : World} {K : PySem.W.Frag} {mg : Str → Option Value} {base : Heap} {C CT CR CN CL CM c Pt : Addr}
/-- the end of a turn -/
theorem turn_end {f0 : Addr} {A : Around} {outer : List Env} {s0 : Shared} {H0 : Hp} {E0' : XK} (hr : Room 8 (LX P w K mg base f0 (.ref c) A outer s0 H0 E0').A) (L : Has13 P w K mg base C CT CR CN CL CM) :
    ∃ t, PSs (LX P w K mg base f0 (.ref c) A outer s0 H0 E0') ((forBody (lawS 4)).drop 2) t ∧ ∀ (D : Ends) (H : Hp) (x0 x1 x2 x4 x5 x6 x8 x9 x10 x11 x12 x13 x15 x17 : Option V) (v7 : V) (p m l r sc wp pl : Addr) (ns : List Int) (ls ts pa : List (List Nat)) (z : List Nat) (n : Nat),
      LoopAt K C Pt H p m l r sc wp ns ls n ts pl (pa ++ [z]) (pa ++ [z]) → Lk ls n → (∃ rest, pa ++ [z] = List.range n :: rest) → pa.length ≤ 500 → TN H v7 z →
      (∀ H', LoopAt K C Pt H' p m l r sc wp ns ls n ts pl (pa ++ [z]) (pa ++ [z]) → D.nx [x0, x1, x2, some (.ref pl), x4, x5, x6, some v7, x8, x9, x10, x11, x12, x13, some (.ref p), x15, some (.ref r), x17] H') →
      t D [x0, x1, x2, some (.ref pl), x4, x5, x6, some v7, x8, x9, x10, x11, x12, x13, some (.ref p), x15, some (.ref r), x17] H := by
  have hu := hr.units
  have B := L.bi
  have hr1 : Room 1 _ := hr.mono (by decide)
  have hr2 : Room 2 _ := hr.mono (by decide)
  have hr3 : Room 3 _ := hr.mono (by decide)
  refine ⟨_, pss_cons (ps_if (pt_not (pt_val (pe_has (L.alike 2) hr3 (by rfl) (pa_cons (pe_lst (pa_cons (pv 7) (pa_cons (pe_hasP L.stands L.cl hr2 pass0 (pv 14)) (pa_cons (pe_hasP L.done L.cl hr2 pass0 (pv 14)) pa_nil))))
      (pa_cons (pe_lst (pa_cons (pe_ix ix_list (pv 3) (pe_un un_neg pe_int) (fun _ _ => rfl)) (pa_cons (pe_ix ix_list (pv 3) (pe_un un_neg pe_int) (fun _ _ => rfl)) (pa_cons (pe_op op_sub (pe_callB call_len_seq (by rfl) B.len PySem.boot_len (pa_cons (pv 3) pa_nil)) pe_int) pa_nil)))) pa_nil))))) (pss_one (ps_ret pe_bl)) pss_nil)
    (pss_one (ps_if (pt_cmpR (op_neD hu) (pe_has L.behind hr1 (by rfl) (pa_cons (pe_ix ix_list (pv 3) (pe_un un_neg pe_int) (fun _ _ => rfl)) (pa_cons (pe_hasM0 L.home L.cl hr2 pass0 (pv 14)) pa_nil))) (pe_ix ix_list (pv 3) pe_int (fun _ _ => rfl)) (nomark _)) (pss_one (ps_ret pe_bl)) pss_nil)), ?_⟩
  intro D H x0 x1 x2 x4 x5 x6 x8 x9 x10 x11 x12 x13 x15 x17 v7 p m l r sc wp pl ns ls ts pa z n F lk hd hlen h7 nx
  have n9 := lk.gl.2.2.2.1
  obtain ⟨dx, e⟩ := id F.dial.ins
  refine ⟨_, rfl, _, rfl, p, dx, _, rfl, e, p, m, l, ls, n, pa, z, rfl, F.dial, fun r1 h1 => ?_⟩
  refine ⟨_, rfl, p, dx, _, rfl, e, p, m, l, ls, n, pa ++ [z], rfl, F.dial, ?_⟩
  refine ⟨by show 3 ≤ sizeLine; decide, fun q1 hq1 => ?_⟩
  have s1 := same_new (o := .lst [v7, r1, nI ((pa ++ [z]).length - 1)]) hq1
  have F1 := F.same s1
  obtain ⟨xs, hx, px⟩ := F1.pst
  obtain ⟨xs', x, rfl, px1, px2⟩ := paired_end px
  have hxl := Paired.length px1
  refine ⟨_, rfl, 1, rfl, pl, _, -1, x, rfl, rfl, SqL.of hx, atI_last _ _, _, rfl, 1, rfl, pl, _, -1, x, rfl, rfl, SqL.of hx, atI_last _ _, _, rfl, pl, _, rfl, .inl (SqL.of hx), ((xs' ++ [x]).length : Int), 1, rfl, rfl, ?_⟩
  have en : V.int (((xs' ++ [x]).length : Int) - 1) = nI ((pa ++ [z]).length - 1) := by
    rw [List.length_append, List.length_append, hxl]
    show V.int _ = V.int _
    congr 1
    simp
  refine ⟨by show 3 ≤ sizeLine; decide, fun q2 hq2 => ?_⟩
  have r3 : ∀ H, Rp H (V.int (((xs' ++ [x]).length : Int) - 1)) (dN ((pa ++ [z]).length - 1)) := fun H => by rw [en]; exact .int _
  have s2 := same_new (o := .lst [x, x, V.int (((xs' ++ [x]).length : Int) - 1)]) hq2
  have s12 := s1.trans s2
  refine ⟨.ref q1, .ref q2, .list [dT z, dT z, dN ((pa ++ [z]).length - 1)], rfl, .lst (s2 _ _ upd_same) (.cons (h7.tm (.of s12)).rp (.cons (h1.tm (.of s12)).rp (.cons (.int _) .nil))), .lst upd_same (.cons (px2.tm (.of s2)).rp (.cons (px2.tm (.of s2)).rp (.cons (r3 _) .nil))), ?_, fun H3 s3 => ⟨true, rfl, iteF ?_⟩⟩
  · have zl : z.length ≤ 1000 := by
      rw [(F.dial.ok z (by simp)).len]
      omega
    have pz : Pl 1 (dT z) := ⟨by rw [List.length_map]; exact zl, fun d hd => by
      obtain ⟨i, _, rfl⟩ := List.mem_map.mp hd
      trivial⟩
    refine ⟨by show 3 ≤ 1000; decide, fun d hd => ?_⟩
    simp only [List.mem_cons, List.not_mem_nil, or_false] at hd
    rcases hd with rfl | rfl | rfl
    · exact pz
    · exact pz
    · trivial
  · have F3 := F1.same (s2.trans s3)
    obtain ⟨xs3, hx3, px3⟩ := F3.pst
    obtain ⟨xs3', y, rfl, px31, px32⟩ := paired_end px3
    obtain ⟨dx3, e3⟩ := id F3.dial.ins
    refine ⟨_, rfl, 1, rfl, pl, _, -1, y, rfl, rfl, SqL.of hx3, atI_last _ _, _, rfl, p, dx3, _, rfl, e3, rfl, p, m, l, ls, n, pa, z, rfl, F3.dial, by omega, fun r5 H5 s5 hr5 => ?_⟩
    have zP := F3.dial.ok z (by simp)
    refine pr_call (px32.tm (.of s5)) hr5.tn zP zP.inv (by omega) fun r6 H6 s6 hr6 => ?_
    have s56 := s5.trans s6
    have F6 := F3.same s56
    obtain ⟨rest, erest⟩ := hd
    obtain ⟨xs6, hx6, px6⟩ := F6.pst
    rw [erest] at px6
    cases px6 with
    | @cons y0 _ yr _ py pyr =>
    refine ⟨_, rfl, pl, _, 0, y0, rfl, rfl, SqL.of hx6, atI_nat (j := 0) rfl, dT (prod z (inv z)), dT (List.range n), hr6.tn.dp, py.dp, sh_T _, sh_T _, false, ?_, iteF (nx _ F6)⟩
    rw [eqv_dT, prod_inv_r zP, decide_eq_true rfl]
    rfl
end
end Lt

set_option Elab.async false
set_option linter.all false
set_option maxRecDepth 100000
set_option maxHeartbeats 2000000
/-! k13: a turn of the law's loop -/
namespace Lt
open PySem PySem.Spec PyProof.Rows L2 NdefX LamX LmX MaX
theorem hd_app {α : Type} {pa : List α} {z x a : α} {rest : List α} (h : pa ++ [z] = a :: rest) : ∃ rest', pa ++ [z, x] = a :: rest' := ⟨rest ++ [x], by rw [show pa ++ [z, x] = (pa ++ [z]) ++ [x] by simp, h]; rfl⟩
section
variable {P : Program} {w : World} {K : PySem.W.Frag} {mg : Str → Option Value} {base : Heap} {C CT CR CN CL CM c Pt : Addr}
theorem turn_body {f0 : Addr} {A : Around} {outer : List Env} {s0 : Shared} {H0 : Hp} {E0' : XK} (hr : Room 8 (LX P w K mg base f0 (.ref c) A outer s0 H0 E0').A) (L : Has13 P w K mg base C CT CR CN CL CM) :
    ∃ t, PSs (LX P w K mg base f0 (.ref c) A outer s0 H0 E0') (forBody (lawS 4)) t ∧ ∀ (D : Ends) (H : Hp) (x0 x1 x4 x5 x6 x7 x8 x9 x10 x11 x12 x13 x15 x17 : Option V) (p m l r sc wp pl : Addr) (ns : List Int) (ls ts past : List (List Nat)) (n : Nat),
      LoopAt K C Pt H p m l r sc wp ns ls n ts pl past past → Lk ls n → (∀ t ∈ ts, Mk ls n t) → 1 ≤ ts.length → ts.length ≤ 300 → (∃ rest, past = List.range n :: rest) → past.length ≤ 400 →
      (∀ y4 y5 y6 y7 y8 y9 y15 pl' past' H', LoopAt K C Pt H' p m l r sc wp ns ls n ts pl' past' past' → (∃ rest, past' = List.range n :: rest) → past'.length ≤ past.length + 1 → D.nx [x0, x1, some (.ref wp), some (.ref pl'), y4, y5, y6, y7, y8, y9, x10, x11, x12, x13, some (.ref p), y15, some (.ref r), x17] H') →
      t D [x0, x1, some (.ref wp), some (.ref pl), x4, x5, x6, x7, x8, x9, x10, x11, x12, x13, some (.ref p), x15, some (.ref r), x17] H := by
  have hu := hr.units
  have B := L.bi
  have hr1 : Room 1 _ := hr.mono (by decide)
  have hr2 : Room 2 _ := hr.mono (by decide)
  have hr5 : Room 5 _ := hr.mono (by decide)
  have hr6 : Room 6 _ := hr.mono (by decide)
  obtain ⟨tt, ht, qt⟩ := turn_end (Pt := Pt) (outer := outer) (s0 := s0) (H0 := H0) (E0' := E0') hr L
  refine ⟨_, pss_cons (ps_asg (pe_tup (pa_cons (pe_has L.taken hr1 (by rfl) (pa_cons (pv 16) (pa_cons pe_int pa_nil))) (pa_cons (pe_has L.pick hr2 (by rfl) (pa_cons (pv 16) (pa_cons (pv 2) pa_nil))) (pa_cons (pe_has L.pick hr2 (by rfl) (pa_cons (pv 16) (pa_cons (pv 2) pa_nil))) pa_nil))))
      (pg_tup (by rfl) (pgs_cons (pg_name (i := 5) sc_law.nd rfl (Or.inl rfl)) (pgs_cons (pg_name (i := 15) sc_law.nd rfl (Or.inr rfl)) (pgs_cons (pg_name (i := 6) sc_law.nd rfl (Or.inl rfl)) pgs_nil)))))
    (C8.pss_cut (ps_if (pt_cmpR op_eq (pv 5) pe_int (nomark _))
      (pss_cons (ps_set (i := 3) sc_law.nd rfl (Or.inl rfl) (pe_ifExp (pt_cmpR op_gt (pe_callB call_len_seq (by rfl) B.len PySem.boot_len (pa_cons (pv 3) pa_nil)) pe_int (nomark _)) (pe_slice sl_list (pv 3) po_none (po_some (pe_un un_neg pe_int))) (pv 3)))
        (pss_one (ps_set (i := 7) sc_law.nd rfl (Or.inl rfl) (pe_hasM0 L.undo L.cl hr1 pass0 (pv 14)))))
      (pss_one (ps_if (pt_cmpR op_lt (pv 5) pe_int (nomark _))
        (pss_cons (ps_expr (pe_bm PySem.F.plainAttrs_list PySem.F.slot_list_append PySem.F.type_list_append mt_append (pv 3) (pa_cons (pe_has L.behind hr1 (by rfl) (pa_cons (pe_ix ix_list (pv 3) (pe_un un_neg pe_int) (fun _ _ => rfl)) (pa_cons (pv 15) pa_nil))) pa_nil)))
          (pss_one (ps_set (i := 7) sc_law.nd rfl (Or.inl rfl) (pe_hasM L.turn L.cl hr5 passL (pv 14) (pa_cons (pv 15) pa_nil)))))
        (pss_cons (ps_set (i := 8) sc_law.nd rfl (Or.inl rfl) (pe_tupleOf (by rfl) B.tuple (pe_lc (own := [("bit", 17)]) (g := gName 17) (te := tCall (spTaken K) [] E0 (tCons (tVar 16) (tCons (tC (.int 2)) tNil))) (by rfl) sc_law.nd (pi_range1 (by rfl) B.range (pa_cons pe_int pa_nil)) (blkOk_by (own := [("bit", 17)]) (N := lawN) (sc := defScope s_law) (by decide +kernel))
            (fun _ _ _ _ _ => pg_name (i := 17) sc_law.nd rfl (Or.inl rfl)) (fun _ _ _ _ _ => pts_nil) (fun _ _ _ _ _ => pe_has L.taken hr1 (by rfl) (pa_cons (pv 16) (pa_cons pe_int pa_nil))))))
          (pss_cons (ps_set (i := 9) sc_law.nd rfl (Or.inl rfl) (pe_has L.taken hr1 (by rfl) (pa_cons (pv 16) (pa_cons pe_int pa_nil))))
          (pss_cons (ps_expr (pe_bm PySem.F.plainAttrs_list PySem.F.slot_list_append PySem.F.type_list_append mt_append (pv 3) (pa_cons (pe_has L.behind hr1 (by rfl) (pa_cons (pe_ix ix_list (pv 3) (pe_un un_neg pe_int) (fun _ _ => rfl)) (pa_cons (pe_ifExp (pt_cmpR op_eq (pe_ix ix_tup (pv 8) (pv 9) (fun _ _ => rfl)) pe_int (nomark _)) (pv 6) (pv 15)) pa_nil))) pa_nil)))
          (pss_one (ps_set (i := 7) sc_law.nd rfl (Or.inl rfl) (pe_hasM L.step L.cl hr6 passL (pv 14) (pa_cons (pe_tup (pa_cons (pv 9) (pa_cons (pv 15) (pa_cons (pv 6) pa_nil)))) (pa_cons (pv 8) pa_nil))))))))))) ht), ?_⟩
  intro D H x0 x1 x4 x5 x6 x7 x8 x9 x10 x11 x12 x13 x15 x17 p m l r sc wp pl ns ls ts past n F lk hmk hts1 hts2 hd hlen nx
  have n9 := lk.gl.2.2.2.1
  have pick : ∀ (H : Hp), LF H wp ts → ∃ wx, H wp = some (.lst wx) ∧ wx.length = ts.length ∧ ∀ x ∈ wx, ∃ t, Mk ls n t ∧ TF H x t := fun H h => by
    obtain ⟨wx, hw, pw⟩ := h
    exact ⟨wx, hw, Paired.length pw, fun x hx => by
      obtain ⟨t, htm, htf⟩ := Paired.memL pw hx
      exact ⟨t, hmk t htm, htf⟩⟩
  refine ⟨_, rfl, r, sc, ns, 5, rfl, F.row, by omega, by omega, fun way H1 hway st1 ra1 => ?_⟩
  have F1 := F.step st1 ra1
  obtain ⟨w1, hw1, l1, m1⟩ := pick H1 F1.whole
  refine ⟨_, rfl, _, rfl, r, wp, sc, ns, w1, rfl, ra1, hw1, F.nwr, by omega, by omega, fun u1 H2 hu1 st2 ra2 => ?_⟩
  obtain ⟨t1, mk1, tf1⟩ := m1 u1 hu1
  have F2 := F1.step st2 ra2
  have tf1 := tf1.tm (st2.tm ra1)
  obtain ⟨w2, hw2, l2, m2⟩ := pick H2 F2.whole
  refine ⟨_, rfl, _, rfl, r, wp, sc, ns, w2, rfl, ra2, hw2, F.nwr, by omega, by omega, fun u2 H3 hu2 st3 ra3 => ?_⟩
  obtain ⟨t2, mk2, tf2⟩ := m2 u2 hu2
  have F3 := F2.step st3 ra3
  have tf1 := tf1.tm (st3.tm ra2)
  have tf2 := tf2.tm (st3.tm ra2)
  refine ⟨by show 3 ≤ sizeLine; decide, fun pt hpt => ?_⟩
  have s4 := same_new (o := .tup [nI way, u1, u2]) hpt
  have F4 := F3.same s4
  have tn1 := tf1.tn.tm (.of s4)
  have tn2 := tf2.tn.tm (.of s4)
  refine ⟨pt, _, rfl, SqT.of upd_same, rfl, nI way, _, rfl, u1, _, rfl, u2, _, rfl, rfl, ?_⟩
  generalize upd H3 pt (.tup [nI way, u1, u2]) = H4 at *
  have pP1 := lk.isP mk1
  have pP2 := lk.isP mk2
  refine ⟨fun σ' H' => ∃ y8 y9 v7 pl' pa z, σ' = [x0, x1, some (.ref wp), some (.ref pl'), x4, some (nI way), some u2, some v7, y8, y9, x10, x11, x12, x13, some (.ref p), some u1, some (.ref r), x17] ∧ LoopAt K C Pt H' p m l r sc wp ns ls n ts pl' (pa ++ [z]) (pa ++ [z]) ∧ (∃ rest, pa ++ [z] = List.range n :: rest) ∧ (pa ++ [z]).length ≤ past.length + 1 ∧ TN H' v7 z, ?_, ?_⟩
  · refine ⟨_, rfl, rfl, _, rfl, ?_⟩
    refine ite2 (fun hw => ?_) (fun hw => ?_)
    · -- undo
      obtain ⟨xs, hx, px⟩ := F4.pst
      have hxl := Paired.length px
      refine ⟨_, rfl, pl, xs, rfl, .inl (SqL.of hx), (xs.length : Int), 1, rfl, rfl, _, rfl, ite2 (fun h => ?_) (fun h => ?_)⟩
      · have h : (1 : Int) < (xs.length : Int) := of_decide_eq_true h
        refine ⟨_, rfl, 1, rfl, -1, rfl, pl, xs, rfl, SqL.of hx, fun q hq => ?_⟩
        have xne : xs ≠ [] := fun z => by rw [z, List.length_nil] at h; omega
        have F5 := F4.newp (xs := cutV xs none (some (-1))) (pp' := past.dropLast) hq (by rw [(cut_less xs xne).1, List.dropLast_eq_take, List.dropLast_eq_take, hxl]; exact Paired.tk _ px)
        obtain ⟨dx, e⟩ := id F5.dial.ins
        refine ⟨_, rfl, p, dx, _, rfl, e, rfl, p, m, l, ls, n, past, rfl, F5.dial, by omega, fun pa z r7 H6 st6 cs d6 hr7 => ?_⟩
        rcases cs with ⟨e1, _⟩ | ⟨y, e1⟩
        · rw [hxl, e1, List.length_singleton] at h
          omega
        · have F6 := F5.stepl st6 d6
          have ed : past.dropLast = pa ++ [z] := by rw [e1, List.dropLast_concat]
          rw [ed] at F6
          obtain ⟨rest, er⟩ := hd
          refine ⟨x8, x9, r7, q, pa, z, rfl, F6, ?_, by rw [← ed, List.length_dropLast]; omega, hr7⟩
          cases pa with
          | nil =>
            rw [e1] at er
            injection er with er _
            exact ⟨[], by rw [er]; rfl⟩
          | cons a pa =>
            rw [e1] at er
            injection er with er _
            exact ⟨pa ++ [z], by rw [er]; rfl⟩
      · have h : ¬ ((1 : Int) < (xs.length : Int)) := fun z => h (decide_eq_true z)
        refine ⟨_, rfl, ?_⟩
        obtain ⟨dx, e⟩ := id F4.dial.ins
        refine ⟨_, rfl, p, dx, _, rfl, e, rfl, p, m, l, ls, n, past, rfl, F4.dial, by omega, fun pa z r7 H6 st6 cs d6 hr7 => ?_⟩
        rcases cs with ⟨e1, e2⟩ | ⟨y, e1⟩
        · have F6 := F4.stepl st6 d6
          have ed : past = pa ++ [z] := by rw [e1, e2]; rfl
          rw [ed] at F6 hd
          exact ⟨x8, x9, r7, pl, pa, z, rfl, F6, hd, by rw [ed]; omega, hr7⟩
        · rw [hxl, e1] at h
          simp only [List.length_append, List.length_singleton] at h
          omega
    · obtain ⟨pa, z, epa⟩ := last_app (xs := past) F4.dial.ne
      subst epa
      obtain ⟨rest, er⟩ := hd
      have hd' : ∀ x, ∃ rest, pa ++ [z, x] = List.range n :: rest := fun x => hd_app er
      have zP := F4.dial.ok z (by simp)
      have hlen' : pa.length + 1 ≤ 400 := by simpa using hlen
      have two : ∀ x : List Nat, pa ++ [z, x] = (pa ++ [z]) ++ [x] := fun x => by simp
      refine ⟨_, rfl, (way : Int), 3, rfl, rfl, _, rfl, ite2 (fun h => ?_) (fun h => ?_)⟩
      · -- turn
        obtain ⟨xs, hx, px⟩ := F4.pst
        obtain ⟨xs', x, rfl, px1, px2⟩ := paired_end px
        have hxl := Paired.length px1
        refine ⟨_, rfl, .inl ⟨rfl, _, SqL.of hx⟩, _, rfl, 1, rfl, pl, _, -1, x, rfl, rfl, SqL.of hx, atI_last _ _, _, rfl, pr_call px2 tn1 zP pP1 (by omega) fun rv H5 s5 hrv => ?_⟩
        have F5 := F4.same s5
        refine ⟨pl, _, rv, rfl, rfl, s5 _ _ hx, by rw [sizeLine_eq, List.length_append, List.length_singleton]; omega, ?_⟩
        have F6 := F5.putp (pp' := (pa ++ [z]) ++ [prod z t1]) (Paired.app (TNs.tm (.of s5) px) (Paired.one hrv.tn))
        have tn6 := (tn1.tm (.of s5)).tm (Tm.lst (o := .lst (xs' ++ [x] ++ [rv])) (s5 _ _ hx))
        obtain ⟨dx, e⟩ := id F6.dial.ins
        refine ⟨_, rfl, p, dx, _, rfl, e, rfl, _, rfl, p, m, l, u1, ls, n, pa, z, t1, rfl, F6.dial, lk, by omega, tn6, by rw [pP1.len]; omega, fun _ r7 H7 st7 d7 hr7 => ?_, fun nm => absurd mk1 nm⟩
        have F7 := F6.stepl st7 d7
        rw [two] at F7
        exact ⟨x8, x9, r7, pl, pa ++ [z], prod z t1, rfl, F7, by rw [← two]; exact hd' _, by simp, hr7⟩
      · -- step
        refine ⟨3, rfl, by decide, by decide, fun D hD => lc_rangeS (K := K) (r := r) (sc := sc) (ns := ns) (n := (3 : Int).toNat) RN (fun b => b < 2) rn_mono F4.row (by decide) hD (fun x => rfl) (fun i hi H' st ra Q' q' => ?_) (fun H5 zs bs st5 ra5 hz pz hbl hb => ?_)⟩
        · exact ⟨_, rfl, r, sc, ns, 2, rfl, ra, by omega, by omega, fun x H6 hx st6 ra6 => q' _ _ x st6 ra6 rfl hx⟩
        · have F5 := F4.step st5 ra5
          have tn15 := tn1.tm (st5.tm F4.row)
          have tn25 := tn2.tm (st5.tm F4.row)
          refine .inl ⟨D, zs, rfl, SqL.of hz, fun bp hbp => ?_⟩
          have s6 := same_new (o := .tup zs) hbp
          have F6 := F5.same s6
          have tn16 := tn15.tm (.of s6)
          have tn26 := tn25.tm (.of s6)
          have kb : (upd H5 bp (.tup zs)) bp = some (.tup (nIs bs)) := by rw [upd_same, RN.all pz]
          generalize upd H5 bp (.tup zs) = H6 at *
          refine ⟨_, rfl, r, sc, ns, 3, rfl, F6.row, by omega, by omega, fun own H7 hown st7 ra7 => ?_⟩
          have F7 := F6.step st7 ra7
          have tm7 := st7.tm F6.row
          have tn17 := tn16.tm tm7
          have tn27 := tn26.tm tm7
          have kb7 := tm7.1 _ _ kb
          have hbl : bs.length = 3 := hbl
          have hol : own < bs.length := by omega
          obtain ⟨xs, hx, px⟩ := F7.pst
          obtain ⟨xs', x, rfl, px1, px2⟩ := paired_end px
          have hxl := Paired.length px1
          have hbi : (nIs bs)[own]? = some (nI (bs.getD own 0)) := by
            rw [nIs_get, List.getD_eq_getElem?_getD, List.getElem?_eq_getElem hol]
            rfl
          refine ⟨_, rfl, .inl ⟨rfl, _, SqL.of hx⟩, _, rfl, 1, rfl, pl, _, -1, x, rfl, rfl, SqL.of hx, atI_last _ _, _, rfl, _, rfl, bp, _, (own : Int), nI (bs.getD own 0), rfl, rfl, SqT.of kb7, atI_nat hbi, rfl, ?_⟩
          refine (Classical.em (bs.getD own 0 = 1)).elim
            (fun h1 => ⟨true, congrArg V.bl (decide_eq_true (by rw [h1]; rfl)), iteT ⟨_, rfl, pr_call px2 tn27 zP pP2 (by omega) fun rv H8 s8 hrv => ?_⟩⟩)
            (fun h1 => ⟨false, congrArg V.bl (decide_eq_false fun z => h1 (by injection z with z; omega)), iteF ⟨_, rfl, pr_call px2 tn17 zP pP1 (by omega) fun rv H8 s8 hrv => ?_⟩⟩)
          all_goals
            have hrv : TK H8 rv (prod z (if bs.getD own 0 = 1 then t2 else t1)) := by
              first
                | (rw [if_pos h1]; exact hrv)
                | (rw [if_neg h1]; exact hrv)
            have F8 := F7.same s8
            refine ⟨pl, _, rv, rfl, rfl, s8 _ _ hx, by rw [sizeLine_eq, List.length_append, List.length_singleton]; omega, ?_⟩
            have F9 := F8.putp (pp' := (pa ++ [z]) ++ [prod z (if bs.getD own 0 = 1 then t2 else t1)]) (Paired.app (TNs.tm (.of s8) px) (Paired.one hrv.tn))
            have tm9 : Tm H7 (upd H8 pl (.lst (xs' ++ [x] ++ [rv]))) := (Tm.of s8).trans (Tm.lst (o := .lst (xs' ++ [x] ++ [rv])) (s8 _ _ hx))
            have tn19 := tn17.tm tm9
            have tn29 := tn27.tm tm9
            have kb9 := tm9.1 _ _ kb7
            generalize upd H8 pl (.lst (xs' ++ [x] ++ [rv])) = H9 at *
            obtain ⟨dx, e⟩ := id F9.dial.ins
            refine ⟨_, rfl, p, dx, _, rfl, e, rfl, _, rfl, _, rfl, _, rfl, by show 3 ≤ sizeLine; decide, fun sp hsp => ⟨_, rfl, ?_⟩⟩
            have s10 := same_new (o := .tup [nI own, u1, u2]) hsp
            have F10 := F9.same s10
            have hsm : Sml3 (.tuple [dN own, dT t1, dT t2]) := fun ds ed => by
              injection ed with ed
              subst ed
              refine ⟨by show 3 ≤ 1000; decide, fun e' he' es hes => ?_⟩
              simp only [List.mem_cons, List.not_mem_nil, or_false] at he'
              rcases he' with h | h | h
              · rw [h] at hes; cases hes
              · rw [h] at hes
                exact tlen (m := 1000) (by rw [pP1.len]; omega) es hes
              · rw [h] at hes
                exact tlen (m := 1000) (by rw [pP2.len]; omega) es hes
            refine ⟨p, m, l, .ref sp, .ref bp, ls, n, pa, z, .tuple [dN own, dT t1, dT t2], .tuple (bs.map dN), rfl, F10.dial, lk, by omega, .tup (.inl upd_same) (.cons (.int _) (.cons (tn19.tm (.of s10)).rp (.cons (tn29.tm (.of s10)).rp .nil))), hsm, .tup (.inl (s10 _ _ kb9)) (rp_nats bs), fun ds ed => ?_, .inr ⟨own, t1, t2, rfl, mk1, mk2, by omega, .inr ⟨bs, rfl, fun b hb' => Nat.le_of_lt_succ (hb b hb'), hol, fun r7 H11 st11 d11 hr7 => ?_⟩⟩⟩
            · injection ed with ed
              rw [← ed, List.length_map]
              omega
            · have F11 := F10.stepl st11 d11
              rw [two] at F11
              exact ⟨_, _, r7, pl, pa ++ [z], prod z (if bs.getD own 0 = 1 then t2 else t1), rfl, F11, by rw [← two]; exact hd' _, by simp, hr7⟩
  · rintro σ' H' ⟨y8, y9, v7, pl', pa, z, rfl, F', hd', hl', h7⟩
    refine qt D H' x0 x1 _ x4 _ _ y8 y9 x10 x11 x12 x13 _ x17 v7 p m l r sc wp pl' ns ls ts pa z n F' lk hd' (by rw [List.length_append, List.length_singleton] at hl'; omega) h7 fun H'' F'' => ?_
    exact nx _ _ _ _ _ _ _ pl' (pa ++ [z]) H'' F'' hd' hl'
end
end Lt

set_option Elab.async false
set_option linter.all false
set_option maxRecDepth 100000
set_option maxHeartbeats 2000000
/-! k13: the law -/
namespace Lt
open PySem PySem.Spec PyProof.Rows L2 NdefX LamX LmX MaX
def kinds13 : List Str := ["four", "square", "quaternions", "three", "klein", "ten", "heis", "five"]
theorem kinds13_in : ∀ x ∈ kinds13, x ∈ names := by decide +kernel
theorem upd_none {H : Hp} {a l : Addr} {o : HO} (h : (upd H a o) l = none) : H l = none := by
  by_cases e : l = a
  · rw [e, upd_same] at h; cases h
  · rw [upd_ne e] at h; exact h
section
variable {P : Program} {w : World} {K : PySem.W.Frag} {mg : Str → Option Value} {base : Heap} {C CT CR CN CL CM c Pt : Addr}
theorem law_all {f0 : Addr} {A : Around} {outer : List Env} {s0 : Shared} {H0 : Hp} {E0' : XK} (hr : Room 8 (LX P w K mg base f0 (.ref c) A outer s0 H0 E0').A) (L : Has13 P w K mg base C CT CR CN CL CM) (TB : TabB base mg c Pt) :
    ∃ t, PSs (LX P w K mg base f0 (.ref c) A outer s0 H0 E0') (defBody s_law) t ∧ ∀ (D : Ends) (H : Hp) (vs : List V) (Q : VK), D.rt = Q → spLam K Pt vs H Q C8.E0 → t D (start lawN vs) H := by
  have B := L.bi
  have hr1 : Room 1 _ := hr.mono (by decide)
  have hr2 : Room 2 _ := hr.mono (by decide)
  have hr4 : Room 4 _ := hr.mono (by decide)
  have hr7 : Room 7 _ := hr.mono (by decide)
  obtain ⟨tt, ht, qt⟩ := law_lams (outer := outer) (s0 := s0) (H0 := H0) (E0' := E0') hr B TB L.cl L.turn L.step L.pick L.stands L.ex
  obtain ⟨tb, hb, qb⟩ := turn_body (Pt := Pt) (outer := outer) (s0 := s0) (H0 := H0) (E0' := E0') hr L
  refine ⟨_, pss_cons (ps_set (i := 16) sc_law.nd rfl (Or.inr rfl) (pe_lst (pa_cons (pv 0) (pa_cons pe_int (pa_cons pe_int (pa_cons pe_int pa_nil))))))
    (pss_cons (ps_set (i := 1) sc_law.nd rfl (Or.inl rfl) (pe_has L.lock hr4 (by rfl) (pa_cons (pv 16) (pa_cons (pe_lst (pa_cons pe_str (pa_cons pe_str (pa_cons pe_str (pa_cons pe_str (pa_cons pe_str (pa_cons pe_str (pa_cons pe_str (pa_cons pe_str pa_nil))))))))) pa_nil))))
    (pss_cons (ps_asg (pe_tup (pa_cons (pe_has L.span hr2 (by rfl) (pa_cons (pe_callB call_len_seq (by rfl) B.len PySem.boot_len (pa_cons (pe_ix ix_tup (pv 1) pe_int (fun _ _ => rfl)) pa_nil)) (pa_cons (pv 1) pa_nil))) (pa_cons (pe_hasI L.init hr7 (by rfl) passL (pa_cons (pv 1) pa_nil)) pa_nil)))
      (pg_tup (by rfl) (pgs_cons (pg_name (i := 2) sc_law.nd rfl (Or.inl rfl)) (pgs_cons (pg_name (i := 14) sc_law.nd rfl (Or.inr rfl)) pgs_nil))))
    (pss_cons (ps_set (i := 3) sc_law.nd rfl (Or.inl rfl) (pe_lst (pa_cons (pe_tupRg (by rfl) (by rfl) B.tuple (prg_1 (by rfl) B.range (pe_callB call_len_seq (by rfl) B.len PySem.boot_len (pa_cons (pe_ix ix_tup (pv 1) pe_int (fun _ _ => rfl)) pa_nil)))) pa_nil)))
    (pss_cons (ps_for (passes_of rfl) rfl (pi_range1 (by rfl) B.range (pa_cons (pe_has L.taken hr1 (by rfl) (pa_cons (pv 16) (pa_cons pe_int pa_nil))) pa_nil)) (pg_name (i := 4) sc_law.nd rfl (Or.inl rfl)) hb)
    ht)))), ?_⟩
  rintro D H vs Q rfl ⟨sc, ns, rfl, hsc, hT, q⟩
  refine ⟨_, rfl, Nat.le_of_ble_eq_true rfl, fun r hr0 => ?_⟩
  have s1 := same_new (o := .lst [V.ref sc, V.int 0, V.int 7713, V.int 0]) hr0
  have ra1 : RowAt K (upd H r (.lst [V.ref sc, V.int 0, V.int 7713, V.int 0])) r sc ns := ⟨0, 7713, 0, upd_same, Same.seq s1 hsc, by omega, by omega, by omega⟩
  have hT1 := hT.ext s1
  generalize upd H r (.lst [V.ref sc, V.int 0, V.int 7713, V.int 0]) = H1 at *
  refine ⟨_, rfl, Nat.le_of_ble_eq_true rfl, fun kl hkl => ?_⟩
  have s2 := same_new (o := .lst (kinds13.map V.str)) hkl
  have k2 : (upd H1 kl (.lst (kinds13.map V.str))) kl = some (.lst (kinds13.map V.str)) := upd_same
  have hklr : kl ≠ r := (ra1.ne hkl).symm
  refine ⟨r, kl, sc, ns, kinds13, rfl, ra1.step s2, k2, hklr, by decide, by decide, kinds13_in, fun v H3 ls n l3 gl fw st3 ra3 htt => ?_⟩
  have hT3 := Tabs.rowX (ra1.step s2) st3 (hT1.ext s2)
  have lk : Lk ls n := ⟨gl, fw.mono (by decide)⟩
  obtain ⟨a, xs, b, rfl, ha, hp0, h0, t0, hbt, htl⟩ := htt.head gl
  have en : V.int ((nIs t0).length : Int) = nI n := by rw [nIs_len, htl]; rfl
  have n9 := gl.2.2.2.1
  have n2 := gl.2.2.1
  have hnl : (nIs t0).length ≤ 9 := by rw [nIs_len, htl]; exact n9
  refine ⟨_, rfl, a, xs, 0, .ref b, rfl, rfl, SqT.of ha, h0, b, nIs t0, rfl, .inr hbt.sq, ?_⟩
  refine ⟨_, rfl, .ref a, ls, n, by rw [en]; rfl, .inl ⟨a, xs, rfl, ha, hp0⟩, gl.2.2.2.2, by omega, by omega, by have := gl.2.1; omega, lk.few, fun wp H4 ts s4 hp4 lf4 hnd hmem hasc => ?_⟩
  have tt4 := htt.tm (.of s4)
  have ra4 := ra3.step s4
  have hwr : wp ≠ r := (ra3.ne hp4).symm
  refine ⟨_, rfl, fun px dx nx ndx nex => ⟨px, dx, .ref a, ls, n, rfl, upd_same, ?_, lk, fun H5 m l st5 hm5 hl5 d5 => ⟨rfl, ?_⟩⟩⟩
  · exact tt4.tm ((Tm.new ndx).trans (Tm.new ((upd_ne nex.symm).trans nx)))
  have s45 : Same H4 H5 := fun b o h => st5 b o (ne_of_none h nx) ((upd_ne (ne_of_none h nx)).trans ((upd_ne (ne_of_none h ndx)).trans h))
  have hl4 : H4 l = none := upd_none (upd_none hl5)
  refine ⟨Nat.le_of_ble_eq_true rfl, fun pt hpt => ?_⟩
  have s6 := same_new (o := .tup [V.ref wp, V.ref px]) hpt
  have k6 : (upd H5 pt (.tup [V.ref wp, V.ref px])) pt = some (.tup [V.ref wp, V.ref px]) := upd_same
  have s46 := s45.trans s6
  have d6 := d5.same s6
  generalize upd H5 pt (.tup [V.ref wp, V.ref px]) = H6 at *
  refine ⟨pt, _, rfl, SqT.of k6, rfl, .ref wp, _, rfl, .ref px, _, rfl, rfl, ?_⟩
  have s36 := s4.trans s46
  refine ⟨_, rfl, a, xs, 0, .ref b, rfl, rfl, SqT.of (s36 _ _ ha), h0, b, nIs t0, rfl, .inr (hbt.sm s36).sq, _, rfl, .of_le (by omega) (by omega) (by omega) (by omega), fun q1 hq1 => ⟨by show 1 ≤ sizeLine; decide, fun pl hpl => ?_⟩⟩
  have s7 := same_new (o := .tup (rgV 0 ((nIs t0).length : Int))) hq1
  have s8 := same_new (o := .lst [V.ref q1]) hpl
  have tn8 : TN (upd (upd H6 q1 (.tup (rgV 0 ((nIs t0).length : Int)))) pl (.lst [V.ref q1])) (.ref q1) (List.range n) := ⟨q1, rfl, .inl (by rw [s8 _ _ upd_same, nIs_len, htl, rgV_nat])⟩
  have k8 : (upd (upd H6 q1 (.tup (rgV 0 ((nIs t0).length : Int)))) pl (.lst [V.ref q1])) pl = some (.lst [V.ref q1]) := upd_same
  have s68 := s7.trans s8
  have s48 := s46.trans s68
  have npl6 : (upd H6 q1 (.tup (rgV 0 ((nIs t0).length : Int)))) pl = none := hpl
  have F7 := (ra4.step (s46.trans s7))
  have d8 := d6.same s68
  have lf8 := lf4.same s48
  have ra8 := ra4.step s48
  have hT8 := hT3.ext (s4.trans s48)
  obtain ⟨_, hl6, _⟩ := d6.stood
  obtain ⟨_, hw6, _⟩ := lf4
  have F8 : LoopAt K C Pt (upd (upd H6 q1 (.tup (rgV 0 ((nIs t0).length : Int)))) pl (.lst [V.ref q1])) px m l r sc wp ns ls n ts pl [List.range n] [List.range n] :=
    ⟨d8, ra8, ⟨_, k8, .cons tn8 .nil⟩, lf8, hT8, (ra4.ne hl4).symm, (RowAt.ne F7 hpl).symm, hwr, ne_of_none hw6 hl4, ne_of_none ((s46.trans s7) _ _ hw6) hpl, ne_of_none (s7 _ _ hl6) hpl, ⟨H4, ra4, hl4⟩, ⟨_, F7, hpl⟩⟩
  generalize upd (upd H6 q1 (.tup (rgV 0 ((nIs t0).length : Int)))) pl (.lst [V.ref q1]) = H8 at *
  have hts1 : 1 ≤ ts.length := List.length_pos_of_mem ((hmem _).mpr .still)
  have hts2 : ts.length ≤ 63 := lk.few.le hnd fun t h => (hmem t).mp h
  refine ⟨_, rfl, r, sc, ns, 20, rfl, F8.row, by omega, by omega, fun x H9 hx st9 ra9 => ?_⟩
  have F9 := F8.step st9 ra9
  refine ⟨(x : Int), rfl, by omega, by omega, for_range (lo := 0) (n := (x : Int).toNat) (fun i σ H' => ∃ y4 y5 y6 y7 y8 y9 y10 y11 y12 y13 y15 y17 pl' past, σ = [some (.ref sc), some (.ref a), some (.ref wp), some (.ref pl'), y4, y5, y6, y7, y8, y9, y10, y11, y12, y13, some (.ref px), y15, some (.ref r), y17] ∧ LoopAt K C Pt H' px m l r sc wp ns ls n ts pl' past past ∧ (∃ rest, past = List.range n :: rest) ∧ past.length ≤ i + 1)
    ⟨none, none, none, none, none, none, none, none, none, none, none, none, pl, [List.range n], rfl, F9, ⟨[], rfl⟩, Nat.le_refl _⟩ ?_ ?_⟩
  · rintro i σ H' hi ⟨y4, y5, y6, y7, y8, y9, y10, y11, y12, y13, y15, y17, pl', past, rfl, F', hd', hl'⟩
    refine qb _ H' _ _ _ y5 y6 y7 y8 y9 y10 y11 y12 y13 y15 y17 px m l r sc wp pl' ns ls ts past n F' lk (fun t h => (hmem t).mp h) hts1 (by omega) hd' (by omega) fun z4 z5 z6 z7 z8 z9 z15 pl'' past' H'' F'' hd'' hl'' => ?_
    exact ⟨z4, z5, z6, z7, z8, z9, y10, y11, y12, y13, z15, y17, pl'', past', rfl, F'', hd'', by omega⟩
  · rintro σ H' ⟨y4, y5, y6, y7, y8, y9, y10, y11, y12, y13, y15, y17, pl', past, rfl, F', hd', hl'⟩
    exact qt D H' _ _ _ y4 y5 y6 y7 y8 y9 y10 y11 y12 y13 y15 y17 px m l pl' r sc ns ls n past ⟨F'.dial, F'.row, F'.pst, hd', lk, by omega, F'.nlr, F'.npr⟩ F'.tabs q
end
end Lt

set_option Elab.async false
set_option linter.all false
set_option maxRecDepth 100000
set_option maxHeartbeats 2000000
namespace Lt
open PySem PySem.Spec PyProof.Rows L2 NdefX LamX LmX MaX
section
variable {P : Program} {w : World} {K : PySem.W.Frag} {mg : Str → Option Value} {C_BadLock C_BadRow C_TooMany C_BadTurn C_BadNumber C_Dial c Pt : Addr}
theorem TopFs.has (T : TopFs K mg C_BadLock C_BadRow C_TooMany C_BadTurn C_BadNumber C_Dial) (base : Heap) : Has13 P w K mg base C_Dial C_BadTurn C_BadRow C_BadNumber C_BadLock C_TooMany := by
  have B := T.bi
  have eL : ErrI P w K mg base "BadLock" "place" C_BadLock := T.e_BadLock.errI init_BadLock
  have eR : ErrI P w K mg base "BadRow" "place" C_BadRow := T.e_BadRow.errI init_BadRow
  have eM : ErrI P w K mg base "TooMany" "most" C_TooMany := T.e_TooMany.errI init_TooMany
  have i1 : Has P w K mg base CX0 1 "is_number" _ _ := has_is_number T.f_is_number B
  have i2 := has_are_numbers T.f_are_numbers B i1
  have i3 := has_is_permutation T.f_is_permutation B i2
  have i4 : Has P w K mg base CX0 1 "still_of" _ _ := has_still_of T.f_still_of B
  have i5 : Has P w K mg base CX0 1 "product_of" _ _ := has_product_of T.f_product_of B
  have i6 : Has P w K mg base CX0 1 "back_of" _ _ := has_back_of T.f_back_of B
  have i8 := has_words_of T.f_words_of B T.c_MOST_TURNS i4 i5
  have i16 := has_check_lock T.f_check_lock B eL T.c_MOST_GIVEN T.c_FEWEST_PLACES T.c_MOST_PLACES i3
  have i17 := has_made_words T.f_made_words B eM T.c_MOST_TURNS i16 i8
  have i18 := has_is_turn T.f_is_turn i2
  have i20 := has_check_turn T.f_check_turn T.e_BadTurn i18
  have i21 := has_is_step T.f_is_step B i1 i18
  have i22 := has_are_bits T.f_are_bits B i2
  have D : DialT K mg C_Dial := ⟨T.k_Dial.cl, T.a_Dial_made, T.a_Dial_stood, T.i_Dial, T.m_Dial_turn, T.m_Dial_step, T.m_Dial_undo, T.m_Dial_home, T.p_Dial_stands, T.p_Dial_done⟩
  have d1 := has_DTurn D i20 i5
  have j1 : Has P w K mg base CX0 1 "_law_taken" _ _ := has_law_taken T.f_law_taken B
  have j2 := has_law_pick T.f_law_pick B j1
  have j5 := has_law_permutation T.f_law_permutation B j1
  have j10 := has_law_known T.f_law_known B j2 j5
  exact { bi := B, cl := D.cl, init := has_DInit D B i17 i4, turn := d1, step := has_DStep D B T.c_MOST_INPUTS eR T.e_BadNumber i21 i22 d1, undo := has_DUndo D B, home := has_DHome D i6, stands := has_DStands D, done := has_DDone D B,
          ex := ⟨T.e_BadTurn.g, T.e_BadRow.g, T.e_BadNumber.g, T.e_BadTurn.exm, eR.exm, T.e_BadNumber.exm, T.n_BadRow_BadTurn, T.n_BadNumber_BadTurn, T.n_BadNumber_BadRow⟩,
          taken := j1, pick := j2, behind := has_law_behind T.f_law_behind B, alike := has_law_alike T.f_law_alike B, span := has_law_span T.f_law_span B (has_law_behindF T.f_law_behind B), lock := has_law_lock T.f_law_lock B j1 j10 j5 }
theorem law_top (T : TopFs K mg C_BadLock C_BadRow C_TooMany C_BadTurn C_BadNumber C_Dial) {f0 : Addr} (base : Heap) (TB : TabB base mg c Pt) (A : Around) (outer : List Env) (s0 : Shared) (H0 : Hp) (E0' : XK) (hr : Room 8 (LX P w K mg base f0 (.ref c) A outer s0 H0 E0').A) :
    ∃ t, PSs (LX P w K mg base f0 (.ref c) A outer s0 H0 E0') (defBody s_law) t ∧ ∀ (D : Ends) (H : Hp) (vs : List V) (Q : VK), D.rt = Q → spLam K Pt vs H Q C8.E0 → t D (start lawN vs) H := law_all hr (T.has base) TB
end
end Lt

open PySem PySem.W PyProof.Rows
set_option Elab.async false
set_option maxRecDepth 100000 in
set_option maxHeartbeats 0 in
theorem PySem.Challenge.cw_lockturns_k13_whole_benches_holds : PySem.Challenge.rw_lockturns_k13_whole_benches.Holds := by
  w_on; o_law; k_head; (case hw => w_witness2)
  k_fill
  refine LamX.walk_ofOwn (l := PySem.Challenge.rw_lockturns_k13_whole_benches) (n := 63) (k := 9) (x := "script") (CX := fun _ => L2.CX0) rfl (by decide) rfl ⟨rfl, by decide, by decide⟩ (by decide +kernel) (fun w h Y => PySem.W.km_in_of Y) ?F (fun _ _ _ _ _ z => z)
  case F =>
    intro w mg fa h Y KX G hmg own
    have bi : Lt.Bi mg := by
      refine' { tuple := mg_none_of KX G ?z0, list := mg_none_of KX G ?z1, range := mg_none_of KX G ?z2, len := mg_none_of KX G ?z3, sorted := mg_none_of KX G ?z4, enumerate := mg_none_of KX G ?z5, isinstance := mg_none_of KX G ?z6, all := mg_none_of KX G ?z7, set := mg_none_of KX G ?z8, int := mg_none_of KX G ?z9, bool := mg_none_of KX G ?z10, str := mg_none_of KX G ?z11 }
      all_goals k_is
    have c_MOST_TURNS : Lt.Cn mg "MOST_TURNS" 240 := by
      refine' Lt.cn_mk KX G ?a ?b
      (case a => k_is); (case b => exact ⟨_, rfl⟩)
    have c_MOST_GIVEN : Lt.Cn mg "MOST_GIVEN" 4 := by
      refine' Lt.cn_mk KX G ?a ?b
      (case a => k_is); (case b => exact ⟨_, rfl⟩)
    have c_FEWEST_PLACES : Lt.Cn mg "FEWEST_PLACES" 2 := by
      refine' Lt.cn_mk KX G ?a ?b
      (case a => k_is); (case b => exact ⟨_, rfl⟩)
    have c_MOST_PLACES : Lt.Cn mg "MOST_PLACES" 9 := by
      refine' Lt.cn_mk KX G ?a ?b
      (case a => k_is); (case b => exact ⟨_, rfl⟩)
    have c_MOST_INPUTS : Lt.Cn mg "MOST_INPUTS" 6 := by
      refine' Lt.cn_mk KX G ?a ?b
      (case a => k_is); (case b => exact ⟨_, rfl⟩)
    have f_is_number : Lt.TopX KX mg "is_number" Lt.s_is_number ["value"] := by
      refine' Lt.top_mk KX G ?a ?l ?c ?k (fun _ _ _ _ _ _ us hl => match us, hl with | [_], _ => rfl)
      (case a => k_is); (case l => k_is); (case c => k_is); (case k => k_is)
    have f_are_numbers : Lt.TopX KX mg "are_numbers" Lt.s_are_numbers ["value"] := by
      refine' Lt.top_mk KX G ?a ?l ?c ?k (fun _ _ _ _ _ _ us hl => match us, hl with | [_], _ => rfl)
      (case a => k_is); (case l => k_is); (case c => k_is); (case k => k_is)
    have f_is_permutation : Lt.TopX KX mg "is_permutation" Lt.s_is_permutation ["value", "size"] := by
      refine' Lt.top_mk KX G ?a ?l ?c ?k (fun _ _ _ _ _ _ us hl => match us, hl with | [_, _], _ => rfl)
      (case a => k_is); (case l => k_is); (case c => k_is); (case k => k_is)
    have f_still_of : Lt.TopX KX mg "still_of" Lt.s_still_of ["size"] := by
      refine' Lt.top_mk KX G ?a ?l ?c ?k (fun _ _ _ _ _ _ us hl => match us, hl with | [_], _ => rfl)
      (case a => k_is); (case l => k_is); (case c => k_is); (case k => k_is)
    have f_product_of : Lt.TopX KX mg "product_of" Lt.s_product_of ["one", "other"] := by
      refine' Lt.top_mk KX G ?a ?l ?c ?k (fun _ _ _ _ _ _ us hl => match us, hl with | [_, _], _ => rfl)
      (case a => k_is); (case l => k_is); (case c => k_is); (case k => k_is)
    have f_back_of : Lt.TopX KX mg "back_of" Lt.s_back_of ["turn"] := by
      refine' Lt.top_mk KX G ?a ?l ?c ?k (fun _ _ _ _ _ _ us hl => match us, hl with | [_], _ => rfl)
      (case a => k_is); (case l => k_is); (case c => k_is); (case k => k_is)
    have f_words_of : Lt.TopX KX mg "words_of" Lt.s_words_of ["makers", "size"] := by
      refine' Lt.top_mk KX G ?a ?l ?c ?k (fun _ _ _ _ _ _ us hl => match us, hl with | [_, _], _ => rfl)
      (case a => k_is); (case l => k_is); (case c => k_is); (case k => k_is)
    have f_check_lock : Lt.TopX KX mg "check_lock" Lt.s_check_lock ["lock"] := by
      refine' Lt.top_mk KX G ?a ?l ?c ?k (fun _ _ _ _ _ _ us hl => match us, hl with | [_], _ => rfl)
      (case a => k_is); (case l => k_is); (case c => k_is); (case k => k_is)
    have f_made_words : Lt.TopX KX mg "made_words" Lt.s_made_words ["lock"] := by
      refine' Lt.top_mk KX G ?a ?l ?c ?k (fun _ _ _ _ _ _ us hl => match us, hl with | [_], _ => rfl)
      (case a => k_is); (case l => k_is); (case c => k_is); (case k => k_is)
    have f_is_turn : Lt.TopX KX mg "is_turn" Lt.s_is_turn ["made", "value"] := by
      refine' Lt.top_mk KX G ?a ?l ?c ?k (fun _ _ _ _ _ _ us hl => match us, hl with | [_, _], _ => rfl)
      (case a => k_is); (case l => k_is); (case c => k_is); (case k => k_is)
    have f_check_turn : Lt.TopX KX mg "check_turn" Lt.s_check_turn ["made", "turn"] := by
      refine' Lt.top_mk KX G ?a ?l ?c ?k (fun _ _ _ _ _ _ us hl => match us, hl with | [_, _], _ => rfl)
      (case a => k_is); (case l => k_is); (case c => k_is); (case k => k_is)
    have f_is_step : Lt.TopX KX mg "is_step" Lt.s_is_step ["made", "inputs", "value"] := by
      refine' Lt.top_mk KX G ?a ?l ?c ?k (fun _ _ _ _ _ _ us hl => match us, hl with | [_, _, _], _ => rfl)
      (case a => k_is); (case l => k_is); (case c => k_is); (case k => k_is)
    have f_are_bits : Lt.TopX KX mg "are_bits" Lt.s_are_bits ["value"] := by
      refine' Lt.top_mk KX G ?a ?l ?c ?k (fun _ _ _ _ _ _ us hl => match us, hl with | [_], _ => rfl)
      (case a => k_is); (case l => k_is); (case c => k_is); (case k => k_is)
    have f_law_taken : Lt.TopX KX mg "_law_taken" Lt.s_law_taken ["row", "many"] := by
      refine' Lt.top_mk KX G ?a ?l ?c ?k (fun _ _ _ _ _ _ us hl => match us, hl with | [_, _], _ => rfl)
      (case a => k_is); (case l => k_is); (case c => k_is); (case k => k_is)
    have f_law_pick : Lt.TopX KX mg "_law_pick" Lt.s_law_pick ["row", "things"] := by
      refine' Lt.top_mk KX G ?a ?l ?c ?k (fun _ _ _ _ _ _ us hl => match us, hl with | [_, _], _ => rfl)
      (case a => k_is); (case l => k_is); (case c => k_is); (case k => k_is)
    have f_law_alike : Lt.TopX KX mg "_law_alike" Lt.s_law_alike ["found", "due"] := by
      refine' Lt.top_mk KX G ?a ?l ?c ?k (fun _ _ _ _ _ _ us hl => match us, hl with | [_, _], _ => rfl)
      (case a => k_is); (case l => k_is); (case c => k_is); (case k => k_is)
    have f_law_permutation : Lt.TopX KX mg "_law_permutation" Lt.s_law_permutation ["row", "places"] := by
      refine' Lt.top_mk KX G ?a ?l ?c ?k (fun _ _ _ _ _ _ us hl => match us, hl with | [_, _], _ => rfl)
      (case a => k_is); (case l => k_is); (case c => k_is); (case k => k_is)
    have f_law_behind : Lt.TopX KX mg "_law_behind" Lt.s_law_behind ["one", "other"] := by
      refine' Lt.top_mk KX G ?a ?l ?c ?k (fun _ _ _ _ _ _ us hl => match us, hl with | [_, _], _ => rfl)
      (case a => k_is); (case l => k_is); (case c => k_is); (case k => k_is)
    have f_law_span : Lt.TopX KX mg "_law_span" Lt.s_law_span ["places", "given"] := by
      refine' Lt.top_mk KX G ?a ?l ?c ?k (fun _ _ _ _ _ _ us hl => match us, hl with | [_, _], _ => rfl)
      (case a => k_is); (case l => k_is); (case c => k_is); (case k => k_is)
    have f_law_known : Lt.TopX KX mg "_law_known" Lt.s_law_known ["row", "kinds"] := by
      refine' Lt.top_mk KX G ?a ?l ?c ?k (fun _ _ _ _ _ _ us hl => match us, hl with | [_, _], _ => rfl)
      (case a => k_is); (case l => k_is); (case c => k_is); (case k => k_is)
    have f_law_lock : Lt.TopX KX mg "_law_lock" Lt.s_law_lock ["row", "kinds"] := by
      refine' Lt.top_mk KX G ?a ?l ?c ?k (fun _ _ _ _ _ _ us hl => match us, hl with | [_, _], _ => rfl)
      (case a => k_is); (case l => k_is); (case c => k_is); (case k => k_is)
    have ee_BadLock : Lt.ErrE KX mg "BadLock" "place" Lt.s_BadLock := by
      refine' Lt.err_mk KX G ?aC ?xL ?rv ?sa ?ga ?gg ?no ?kC ?eC ?tC ?hC ?iC ?sC ?i1 ?i2 ?i3 ?i4 ?i5 (fun _ _ _ _ _ _ us hl => match us, hl with | [_, _], _ => rfl)
      (case aC => k_is); (case xL => k_is); (case rv => decide +kernel); (case sa => k_is); (case ga => k_is); (case gg => k_is); (case no => k_is); (case kC => k_is); (case eC => k_is); (case tC => k_is); (case hC => k_is); (case iC => k_is); (case sC => first | rfl | k_is)
      (case i1 => k_is); (case i2 => k_is); (case i3 => k_is); (case i4 => k_is); (case i5 => k_is)
    obtain ⟨C_BadLock, e_BadLock⟩ := ee_BadLock
    have ee_BadRow : Lt.ErrE KX mg "BadRow" "place" Lt.s_BadRow := by
      refine' Lt.err_mk KX G ?aC ?xL ?rv ?sa ?ga ?gg ?no ?kC ?eC ?tC ?hC ?iC ?sC ?i1 ?i2 ?i3 ?i4 ?i5 (fun _ _ _ _ _ _ us hl => match us, hl with | [_, _], _ => rfl)
      (case aC => k_is); (case xL => k_is); (case rv => decide +kernel); (case sa => k_is); (case ga => k_is); (case gg => k_is); (case no => k_is); (case kC => k_is); (case eC => k_is); (case tC => k_is); (case hC => k_is); (case iC => k_is); (case sC => first | rfl | k_is)
      (case i1 => k_is); (case i2 => k_is); (case i3 => k_is); (case i4 => k_is); (case i5 => k_is)
    obtain ⟨C_BadRow, e_BadRow⟩ := ee_BadRow
    have ee_TooMany : Lt.ErrE KX mg "TooMany" "most" Lt.s_TooMany := by
      refine' Lt.err_mk KX G ?aC ?xL ?rv ?sa ?ga ?gg ?no ?kC ?eC ?tC ?hC ?iC ?sC ?i1 ?i2 ?i3 ?i4 ?i5 (fun _ _ _ _ _ _ us hl => match us, hl with | [_, _], _ => rfl)
      (case aC => k_is); (case xL => k_is); (case rv => decide +kernel); (case sa => k_is); (case ga => k_is); (case gg => k_is); (case no => k_is); (case kC => k_is); (case eC => k_is); (case tC => k_is); (case hC => k_is); (case iC => k_is); (case sC => first | rfl | k_is)
      (case i1 => k_is); (case i2 => k_is); (case i3 => k_is); (case i4 => k_is); (case i5 => k_is)
    obtain ⟨C_TooMany, e_TooMany⟩ := ee_TooMany
    have ee_BadTurn : Lt.NoE KX mg "BadTurn" := by
      refine' Lt.no_mk KX G ?aC ?qx ?kC ?eC ?tC ?iC ?sC
      (case aC => k_is); (case qx => first | rfl | kernel_rfl); (case kC => k_is); (case eC => k_is); (case tC => k_is); (case iC => k_is); (case sC => first | rfl | k_is)
    obtain ⟨C_BadTurn, e_BadTurn⟩ := ee_BadTurn
    have ee_BadNumber : Lt.NoE KX mg "BadNumber" := by
      refine' Lt.no_mk KX G ?aC ?qx ?kC ?eC ?tC ?iC ?sC
      (case aC => k_is); (case qx => first | rfl | kernel_rfl); (case kC => k_is); (case eC => k_is); (case tC => k_is); (case iC => k_is); (case sC => first | rfl | k_is)
    obtain ⟨C_BadNumber, e_BadNumber⟩ := ee_BadNumber
    have n_BadRow_BadTurn : Lt.ExmNoX KX C_BadRow C_BadTurn := by
      refine' Lt.exm_no KX G e_BadRow.g e_BadTurn.g ?a1 ?a2 ?h1 ?h2 ?h3 ?h4
      (case a1 => k_is); (case a2 => k_is); (case h1 => k_is); (case h2 => k_is); (case h3 => k_is); (case h4 => first | rfl | k_is)
    have n_BadNumber_BadTurn : Lt.ExmNoX KX C_BadNumber C_BadTurn := by
      refine' Lt.exm_no KX G e_BadNumber.g e_BadTurn.g ?a1 ?a2 ?h1 ?h2 ?h3 ?h4
      (case a1 => k_is); (case a2 => k_is); (case h1 => k_is); (case h2 => k_is); (case h3 => k_is); (case h4 => first | rfl | k_is)
    have n_BadNumber_BadRow : Lt.ExmNoX KX C_BadNumber C_BadRow := by
      refine' Lt.exm_no KX G e_BadNumber.g e_BadRow.g ?a1 ?a2 ?h1 ?h2 ?h3 ?h4
      (case a1 => k_is); (case a2 => k_is); (case h1 => k_is); (case h2 => k_is); (case h3 => k_is); (case h4 => first | rfl | k_is)
    have kk_Dial : Lt.ClsE KX mg "Dial" := by
      refine' Lt.cls_mk KX G ?a ?pg ?hd ?po ?sa ?mk ?kc
      (case a => k_is); (case pg => k_is); (case hd => k_is); (case po => k_is); (case sa => k_is); (case mk => k_is); (case kc => k_is)
    obtain ⟨C_Dial, k_Dial⟩ := kk_Dial
    have a_Dial_made : Lt.NoAttrX KX C_Dial "_made" := by
      refine' Lt.noattr_mk KX G k_Dial.g ?a ?n
      (case a => k_is); (case n => k_is)
    have a_Dial_stood : Lt.NoAttrX KX C_Dial "_stood" := by
      refine' Lt.noattr_mk KX G k_Dial.g ?a ?n
      (case a => k_is); (case n => k_is)
    have i_Dial : Lt.InitFX KX mg C_Dial "Dial" (L2.inClass Lt.s_Dial 0) ["self", "lock"] := by
      refine' Lt.cinit_at KX G k_Dial ?a0 ?a ?i ?l ?c ?k (fun _ _ _ _ _ _ us hl => match us, hl with | [_, _], _ => rfl)
      (case a0 => k_is); (case a => k_is); (case i => k_is); (case l => k_is); (case c => k_is); (case k => k_is)
    have m_Dial_turn : Lt.MethFX KX C_Dial "turn" "Dial.turn" (L2.inClass Lt.s_Dial 1) ["self", "turn"] := by
      refine' Lt.meth_at KX G k_Dial.g ?a0 ?a ?i ?l ?c ?k (fun _ _ _ _ _ _ us hl => match us, hl with | [_, _], _ => rfl)
      (case a0 => k_is); (case a => k_is); (case i => k_is); (case l => k_is); (case c => k_is); (case k => k_is)
    have m_Dial_step : Lt.MethFX KX C_Dial "step" "Dial.step" (L2.inClass Lt.s_Dial 2) ["self", "step", "bits"] := by
      refine' Lt.meth_at KX G k_Dial.g ?a0 ?a ?i ?l ?c ?k (fun _ _ _ _ _ _ us hl => match us, hl with | [_, _, _], _ => rfl)
      (case a0 => k_is); (case a => k_is); (case i => k_is); (case l => k_is); (case c => k_is); (case k => k_is)
    have m_Dial_undo : Lt.MethFX KX C_Dial "undo" "Dial.undo" (L2.inClass Lt.s_Dial 3) ["self"] := by
      refine' Lt.meth_at KX G k_Dial.g ?a0 ?a ?i ?l ?c ?k (fun _ _ _ _ _ _ us hl => match us, hl with | [_], _ => rfl)
      (case a0 => k_is); (case a => k_is); (case i => k_is); (case l => k_is); (case c => k_is); (case k => k_is)
    have m_Dial_home : Lt.MethFX KX C_Dial "home" "Dial.home" (L2.inClass Lt.s_Dial 4) ["self"] := by
      refine' Lt.meth_at KX G k_Dial.g ?a0 ?a ?i ?l ?c ?k (fun _ _ _ _ _ _ us hl => match us, hl with | [_], _ => rfl)
      (case a0 => k_is); (case a => k_is); (case i => k_is); (case l => k_is); (case c => k_is); (case k => k_is)
    have p_Dial_stands : Lt.PropFX KX C_Dial "stands" "Dial.stands" (L2.inClass Lt.s_Dial 5) := by
      refine' Lt.prop_at KX G k_Dial.g ?a0 ?a ?gt ?t ?rc ?l ?c ?k (fun _ _ _ _ _ _ us hl => match us, hl with | [_], _ => rfl)
      (case a0 => k_is); (case a => k_is); (case gt => k_is); (case t => k_is); (case rc => k_is); (case l => k_is); (case c => k_is); (case k => k_is)
    have p_Dial_done : Lt.PropFX KX C_Dial "done" "Dial.done" (L2.inClass Lt.s_Dial 6) := by
      refine' Lt.prop_at KX G k_Dial.g ?a0 ?a ?gt ?t ?rc ?l ?c ?k (fun _ _ _ _ _ _ us hl => match us, hl with | [_], _ => rfl)
      (case a0 => k_is); (case a => k_is); (case gt => k_is); (case t => k_is); (case rc => k_is); (case l => k_is); (case c => k_is); (case k => k_is)
    refine' Lt.lam_at (lvl := 8) Lt.sc_law KX hmg own G ?a ?l ?c ?lc ?lp ?hh ?np (fun s u => .of_eq rfl) (fun base TB => Lt.law_top ⟨bi, c_MOST_TURNS, c_MOST_GIVEN, c_FEWEST_PLACES, c_MOST_PLACES, c_MOST_INPUTS, e_BadLock, e_BadRow, e_TooMany, e_BadTurn, e_BadNumber, n_BadRow_BadTurn, n_BadNumber_BadTurn, n_BadNumber_BadRow, k_Dial, a_Dial_made, a_Dial_stood, i_Dial, m_Dial_turn, m_Dial_step, m_Dial_undo, m_Dial_home, p_Dial_stands, p_Dial_done, f_is_number, f_are_numbers, f_is_permutation, f_still_of, f_product_of, f_back_of, f_words_of, f_check_lock, f_made_words, f_is_turn, f_check_turn, f_is_step, f_are_bits, f_law_taken, f_law_pick, f_law_alike, f_law_permutation, f_law_behind, f_law_span, f_law_known, f_law_lock⟩ base TB)
    (case a => k_is); (case l => k_is); (case c => k_is); (case lc => k_is); (case lp => rfl); (case hh => intro K' hK; unfold PySem.W.codeHdIn; rw [hK]; rfl); (case np => first | rfl | kernel_rfl | decide)
#print axioms PySem.Challenge.cw_lockturns_k13_whole_benches_holds

