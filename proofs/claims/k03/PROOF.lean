import PyProof.Rows.All
import Wide.All
import OpenK.AllK
import Wide.FinOn
import HandS.ForMost
import HandS.TupSets
import HandS.Conv
import HandS.Strs
import HandS.SortInts
import HandS.IsInst
import HandS.TupAny
import HandS.TupLen
import HandS.TupMul
import HandS.Deep
import HandS.Evl
import KE.GoesEnum
import KE.KDictDisplayH
import HandS.ExcInit
import HandS.ExcOwn
import HandS.ExcField
import HandS.TryOnly
import HandS.ForExc
import HandS.Small
import HandS.EndOwn
import HandS.NestedK
import HandS.DictComp
import HandS.Style
import PySem.Challenge.RW_lockturns_k03_whole_rings
set_option Elab.async false
set_option linter.all false
set_option maxRecDepth 100000
set_option maxHeartbeats 4000000
/-! enumerate over a tuple, in a for -/
namespace LtR
open PySem PyProof.Rows
open AutoSeq1 (wpAny_loadPart')
theorem meets_enum1 {v : Value} {o : Obj} {H : Heap → Prop} (B : Begins v o H) :
    Meets (Builtin.«enumerate.__new__» ⟨[.type "enumerate", v], []⟩) (fun _ R s => H s.heap ∧
      R (.ok (.ret (.ref (s.heap.push o).objs.size))) { s with heap := (s.heap.push o).push { cls := .type "enumerate", data := .fields #[.none, .bool false, .ref s.heap.objs.size, rawInt 0, .none, .none] } }) :=
  .of_wp fun prog w A R s h => by
    obtain ⟨hp, g, d, tk, os⟩ := s
    obtain ⟨h1, h⟩ := h
    have hsub := sub_enumerate
    have q1 : ∀ {A' : Around} {E : Value → Shared → Prop} {Q : Value → Shared → Prop}, Q (.ref hp.objs.size) ⟨hp.push o, g, d, tk, os⟩ → wpAny (model prog w) A' (pyIter v) Q E ⟨hp, g, d, tk, os⟩ :=
      fun q => B.iter prog w _ _ ⟨hp, g, d, tk, os⟩ _ h1 q
    wp_walk using q1
    refine wpAny_stack_any fun st => wpAny_pure ?_
    split
    · rename_i c _ _ _ _ _
      cases (c == Value.type "enumerate")
      · wp_walk using q1
        exact ⟨_, rfl, h⟩
      · wp_walk using q1
        exact ⟨_, rfl, h⟩
    · wp_walk using q1
      exact ⟨_, rfl, h⟩
section
variable {prog : Program} {w : World} {A : Around} {E : Value → Shared → Prop} {s : Shared}
theorem enum1_begins {v : Value} {o : Obj} {H : Heap → Prop} {Q : Value → Shared → Prop} (B : Begins v o H) (h1 : H s.heap)
    (h : ∀ h', IsEnum h' (s.heap.objs.size + 1) s.heap.objs.size 0 .none → h'.get? s.heap.objs.size = some o → h'.objs.size = s.heap.objs.size + 2 →
      (∀ b o, s.heap.get? b = some o → h'.get? b = some o) → Q (.ref (s.heap.objs.size + 1)) { s with heap := h' }) :
    wpAny (model prog w) A (call (.type "enumerate") [v]) Q E s := by
  refine callType_new F.called_enumerate (by decide) (F.typeCall_enumerate_1 _) (F.newCall_enumerate_1 _) (fun obj => F.args_object_init_2 obj _) F.entry_enumerate_new
    (meets_enum1 B) ⟨h1, ?_⟩
  have hz : (s.heap.push o).objs.size = s.heap.objs.size + 1 := Heap.size_push ..
  show _ ∧ _
  rw [hz]
  have he : IsEnum ((s.heap.push o).push { cls := .type "enumerate", data := .fields #[.none, .bool false, .ref s.heap.objs.size, rawInt 0, .none, .none] }) (s.heap.objs.size + 1) s.heap.objs.size 0 .none := by
    have := Heap.get?_push_size (s.heap.push o) (o := { cls := .type "enumerate", data := .fields #[.none, .bool false, .ref s.heap.objs.size, rawInt 0, .none, .none] }) rfl
    rw [hz] at this; exact this
  refine ⟨⟨_, he, rfl⟩, h _ he (Heap.get?_push_of_some _ (Heap.get?_push_size _ B.free)) (by rw [Heap.size_push, hz]) fun b o x => Heap.get?_push_of_some _ (Heap.get?_push_of_some _ x)⟩
end
end LtR
namespace L2
open PySem PySem.Spec PyProof.Rows
/-- the tuple at a as it stands at each turn, each item in a new pair -/
def Itet (K : PySem.W.Frag) (a : Addr) : It :=
  ⟨fun i H => ∃ (xs : List V) (x : V), SqT K H a xs ∧ xs[i]? = some x, fun i H v H' => ∃ T x, v = .ref T ∧ H T = none ∧ H' = upd H T (.tup [.int (i : Nat), x]) ∧ ∀ xs, SqT K H a xs → xs[i]? = some x, fun i H => ∃ xs : List V, SqT K H a xs ∧ xs.length = i⟩
theorem turn_enumT {P : Program} {w : World} {K : PySem.W.Frag} {elts : List Expr} {kk : Nat} {tpos : Pos} (a e it : Addr) (hae : a ≠ e) (hai : a ≠ it) :
    Turn P w K (.Tuple elts kk tpos) (Itet K a) [e, it] e (fun i h => (∃ old, IsEnum h e it ((i : Nat) : Int) old) ∧ h.IsTupleIter it a i ∧ e ≠ it) where
  mem := by simp
  obj := fun i h st b hb => by
    obtain ⟨⟨old, he⟩, ⟨o, ho, hc, hd⟩, _⟩ := st
    have e' : b = e ∨ b = it := by simpa using hb
    rcases e' with z | z
    · rw [z]; exact ⟨_, he, fun v q => nomatch q⟩
    · rw [z]; exact ⟨o, ho, fun v q => by rw [hd] at q; cases q⟩
  keep := fun i h h' st k => let ⟨⟨old, he⟩, hi, hne⟩ := st; ⟨⟨old, k e (by simp) _ he⟩, hi.at fun o q => k it (by simp) o q, hne⟩
  item := by
    intro X hP hw hK hc i pins s σ H E I hf st hg
    subst hP hw hK
    obtain ⟨⟨old, he⟩, hit, hne⟩ := st
    obtain ⟨xs, x, hq, hx⟩ := hg
    obtain ⟨its, rv, p, hz⟩ := I.tuple hq
    obtain ⟨u, hu, ru⟩ := rv.get hx
    have hel : e < s.heap.objs.size := Heap.lt_size he
    have hil : it < s.heap.objs.size := by obtain ⟨_, q, _⟩ := hit; exact Heap.lt_size q
    have hu' : its.toArray[i]? = some u := by simpa using hu
    have hlt : i < its.toArray.size := (Array.getElem?_eq_some_iff.mp hu').1
    refine wpAny_pyNext_enum_itemD (Draws.tuple (prog := X.prog) (w := X.w) (A := X.A.in1) (I.ok.hd hc) it a hai its.toArray) he ⟨hit, (show s.heap.IsTuple a its.toArray from p)⟩ hlt hne (by simp [hne, Ne.symm hae]) fun x' h' tk hP ho hst' hT hsz hk => ?_
    have ex : x' = u := Option.some.inj ((show its.toArray[i]? = some x' from hP).symm.trans hu')
    subst ex
    obtain ⟨hit', hp'⟩ := hst'
    refine ⟨_, rfl, wpAny_letOwnedTupleGo_enum (s := { s with heap := h', toks := tk + 1 }) ho fun h'' he' sb => ?_⟩
    have hT2 : h''.get? s.heap.objs.size = some { cls := .type "tuple", data := .seq #[.int i tk, x'] } := (sb.2 _ (Nat.ne_of_gt hel)).trans hT
    have new : ObjOk X.prog X.w (upd H s.heap.objs.size (.tup [.int (i : Nat), x])) h'' s.heap.objs.size (.tup [.int (i : Nat), x]) :=
      ⟨by show 2 ≤ sizeLine; decide, [.int i tk, x'], .cons ⟨_, rfl⟩ (.cons ru .nil), ⟨_, hT2, rfl, _, rfl⟩⟩
    have I1 : Inv X pins σ (upd H s.heap.objs.size (.tup [.int (i : Nat), x])) { s with heap := h'', toks := tk + 1 } :=
      I.turnedNew (ch := [e, it]) (fun b ob hb q => (sb.2 b (fun z => hb (by simp [z]))).trans (hk b ob (fun z => hb (by simp [z])) (fun z => hb (by simp [z])) q)) hf (Nat.le_refl _) new
    refine ⟨.ref s.heap.objs.size, _, I1, rfl, ⟨_, x, rfl, I.hok.fresh (Nat.le_refl _), rfl, fun ys hy => by rw [I.tuple_inj hy hq]; exact hx⟩, ⟨⟨x', ?_⟩, hit'.at fun o q => (sb.2 it (Ne.symm hne)).trans q, hne⟩, fun b hb => ?_⟩
    · have e1 : ((i + 1 : Nat) : Int) = (i : Int) + 1 := by omega
      rw [e1]; exact he'
    · have hb' : b < s.heap.objs.size := by
        have e' : b = e ∨ b = it := by simpa using hb
        rcases e' with z | z
        · rw [z]; exact hel
        · rw [z]; exact hil
      rw [upd_ne (Nat.ne_of_lt hb')]
      exact (hf b hb).1
  done := by
    intro X hP hw hK hc i pins s σ H E I hf st hg
    subst hP hw hK
    obtain ⟨⟨old, he⟩, hit, hne⟩ := st
    obtain ⟨xs, hq, hx⟩ := hg
    obtain ⟨its, rv, p, hz⟩ := I.tuple hq
    obtain ⟨f0, f1, f2, f3, f4, f5⟩ := hf it (by simp)
    have hl := rv.length
    have hn : its.toArray.size = i := by simp; omega
    exact wpAny_pyNext_enum_endD (Draws.tuple (prog := X.prog) (w := X.w) (A := X.A.in1) (I.ok.hd hc) it a hai its.toArray) he (show s.heap.IsTupleIter it a its.toArray.size ∧ s.heap.IsTuple a its.toArray from ⟨by rw [hn]; exact hit, p⟩) fun h' eb => ⟨rfl, I.turned (t' := s.toks) (fun b o hb q => eb b o hb q) f0 f1 f3 f4 f5⟩
  self := fun A i s Q E st h => let ⟨⟨_, he⟩, _⟩ := st; wpAny_pyIter_enum he h
def iEnumT (K : PySem.W.Frag) (ta : TA) : TI := fun σ H R => ta σ H fun vs H1 => ∃ a xs, vs = [.ref a] ∧ SqT K H1 a xs ∧ R (Itet K a) H1
theorem pi_enumT {X : Cx} {e : Expr} {ta : TA} {p pos tpos : Pos} {elts : List Expr} {kk : Nat} (hg : Gl X "enumerate") (hm : X.mg "enumerate" = none) (ha : PA X [e] ta) (hs : starEach [e] X.env = [(false, eval e X.env)] := by rfl) :
    PI X (.Tuple elts kk tpos) (.Call (.Name "enumerate" p) [e] [] pos) (iEnumT X.K ta) := by
  refine ⟨fun pins s σ H R I h => ?_⟩
  refine Call_ (ld_blt I hg hm boot_enumerate (PyProof.Rows.callWith_type1 (thn (ha.run pos pins s σ H _ I h) fun us s1 ⟨vs, H1, I1, r1, q1⟩ => ?_) hs rfl))
  obtain ⟨a, xs, ex, hq, q⟩ := q1
  subst ex
  cases r1 with
  | cons r rr =>
    cases rr
    cases r
    obtain ⟨its, rv, p', hz⟩ := I1.tuple hq
    have hal : a < s1.heap.objs.size := by obtain ⟨_, e, _⟩ := p'; exact Heap.lt_size e
    refine LtR.enum1_begins (begins_tuple a its.toArray) (show s1.heap.IsTuple a its.toArray from p') fun h' he hit hsz hk => wpAny_pyIter_enum he ?_
    have I2 : Inv X pins σ H1 { s1 with heap := h' } := I1.kept (t' := s1.toks) hk
    refine ⟨s1.heap.objs.size + 1, [s1.heap.objs.size + 1, s1.heap.objs.size], _, _, H1, rfl, I2, turn_enumT a (s1.heap.objs.size + 1) s1.heap.objs.size (Nat.ne_of_lt (Nat.lt_succ_of_lt hal)) (Nat.ne_of_lt hal), ⟨⟨.none, he⟩, ⟨_, hit, rfl, rfl⟩, Nat.succ_ne_self _⟩, fun b hb => ?_, q⟩
    have e' : b = s1.heap.objs.size + 1 ∨ b = s1.heap.objs.size := by simpa using hb
    have hle : s1.heap.objs.size ≤ b := by
      rcases e' with z | z
      · rw [z]; exact Nat.le_add_right _ _
      · rw [z]; exact Nat.le_refl _
    exact I1.fpOk hle (I1.hok.fresh hle)
end L2

set_option Elab.async false
set_option linter.all false
set_option maxRecDepth 100000
set_option maxHeartbeats 4000000
/-! sorted of a dict whose keys are tuples of ints; sorted of a tuple of ints; tuple.index of ints; {tuple: v} -/
namespace L2
open PySem PySem.Spec PyProof.Rows
section
variable {X : Cx}
/-- t.index(i), the first place -/
theorem mt_tup_indexI : MtR X "tuple.index" (fun x xs H Q => ∃ p, ∃ ys : List Int, ∃ z j, x = .ref p ∧ xs = [.int z] ∧ SqT X.K H p (ys.map V.int) ∧ ys[j]? = some z ∧ (∀ m, m < j → ys[m]? ≠ some z) ∧ Q (.int (j : Nat)) H) := by
  intro pins s σ H x xs v us Q I rx rs h
  obtain ⟨p, ys, z, j, rfl, rfl, hq, hy, hno, q⟩ := h
  cases rx
  obtain ⟨u, rfl, t, rfl⟩ := vals1 rs
  obtain ⟨its, r, pl, hz⟩ := I.tuple hq
  obtain ⟨⟨cls, dd, dt, sl⟩, ho, hc, n, hd⟩ := pl
  simp only at hc hd
  subst hc
  subst hd
  have hl : its.toArray.size = ys.length := by rw [List.size_toArray, ← r.length, List.length_map]
  have hj : j < its.toArray.size := by rw [hl]; exact (List.getElem?_eq_some_iff.mp hy).1
  have at' : ∀ (m : Nat) (hm : m < its.toArray.size), ∃ y t', ys[m]? = some y ∧ its.toArray[m] = Value.int y t' := fun m hm => by
    have hm' : m < ys.length := by rw [← hl]; exact hm
    obtain ⟨w, hw, t', hw'⟩ := r.get (i := m) (x := .int ys[m]) (by simp [hm'])
    refine ⟨ys[m], t', List.getElem?_eq_getElem hm', ?_⟩
    have e := (List.getElem?_eq_some_iff.mp hw).2
    rw [← hw', ← e]
    simp
  have flat : (ys.map V.int).all flatV = true := by
    rw [List.all_map]
    exact List.all_eq_true.mpr fun _ _ => rfl
  refine call_meets PySem.F.slot_tuple_index ⟨_, ho, rfl⟩ PySem.F.entry_tuple_index (PySem.F.args_tuple_index_2 _ _) (TI.tuple_indexAt p its.toArray n dd sl (.int z t) (eqU (.int z)) j hj ?_ ?_)
    ⟨ho, fun w hw => mem_eqAt (x := .int z) ⟨t, rfl⟩ rfl r flat w (by simpa using hw), ⟨.int (j : Nat), H, I.tok _, ⟨_, rfl⟩, q⟩⟩
  · obtain ⟨y, t', h1, h2⟩ := at' j hj
    rw [hy] at h1
    cases h1
    rw [h2]
    show (z == z) = true
    exact beq_self_eq_true z
  · intro m hm hmj
    obtain ⟨y, t', h1, h2⟩ := at' m hm
    rw [h2]
    show (y == z) = false
    exact beq_eq_false_iff_ne.mpr fun e => hno m hmj (e ▸ h1)
/-- sorted(d), d a dict with fewer than 64 keys, all tuples of dd ints in [0, B) -/
def rSortDT (d : Nat) (B : Int) : List V → Hp → VK → Prop := fun vs H Q => ∃ (a : Addr) (kvs : List (List Key × V)) (ks : List (List Int)), vs = [V.ref a] ∧ Rd H a (.dT kvs) ∧ kvs.map (·.1) = ks.map (fun k => k.map Sum.inl) ∧ ks.length < 64 ∧ (∀ k ∈ ks, k.length = d ∧ TS.Bd B k) ∧
  ∀ (bs : List Addr) (ks' : List (List Int)) (p : Addr), ks'.Perm ks → ks'.Pairwise (fun x y => TS.code B x ≤ TS.code B y) → Paired (fun (b : Addr) k => H b = some (.tup (k.map V.int))) bs ks' → H p = none → Q (.ref p) (upd H p (.lst (bs.map V.ref)))
theorem kV_ints (k : List Int) : (k.map (Sum.inl : Int → Key)).map kV = k.map V.int := by
  rw [List.map_map]
  rfl
def refA : Value → Addr
  | .ref a => a
  | _ => 0
theorem keys_perm {H : Hp} : ∀ {kvs : List (List Key × V)} {xs : List (List Key × Addr × Value)} {ks : List (List Int)}, KT H kvs xs → kvs.map (·.1) = ks.map (fun k => k.map Sum.inl) →
    Paired (fun (u : Value) (k : List Int) => ∃ b, u = .ref b ∧ H b = some (.tup (k.map V.int))) (xs.map fun x => Value.ref x.2.1) ks
  | _, _, [], .nil, _ => .nil
  | _, _, [], .cons _ _, e => by simp at e
  | _, _, _ :: _, .nil, e => by simp at e
  | p :: ps, q :: qs, k :: ks, .cons h t, e => by
    rw [List.map_cons, List.map_cons] at e
    injection e with e1 e2
    refine .cons ⟨q.2.1, rfl, ?_⟩ (keys_perm t e2)
    have z := h.2.1
    rw [e1, kV_ints] at z
    exact z
theorem paired_map_eq {β γ : Type} {F : β → γ → Prop} {f : β → γ} (h : ∀ u k, F u k → f u = k) : ∀ {us : List β} {ks : List γ}, Paired F us ks → us.map f = ks
  | _, _, .nil => rfl
  | _, _, .cons r t => by rw [List.map_cons, h _ _ r, paired_map_eq h t]
theorem paired_mem_left {β γ : Type} {F : β → γ → Prop} : ∀ {us : List β} {ks : List γ}, Paired F us ks → ∀ u ∈ us, ∃ k ∈ ks, F u k
  | _, _, .nil, u, h => by cases h
  | _, _, .cons r t, u, h => by
    rcases List.mem_cons.mp h with e | h
    · subst e
      exact ⟨_, List.mem_cons_self, r⟩
    · obtain ⟨k, hk, f⟩ := paired_mem_left t u h
      exact ⟨k, List.mem_cons_of_mem _ hk, f⟩
theorem paired_of_map {β γ δ : Type} {F : γ → δ → Prop} {f : β → γ} {g : β → δ} : ∀ {us : List β}, (∀ u ∈ us, F (f u) (g u)) → Paired F (us.map f) (us.map g)
  | [], _ => .nil
  | u :: us, h => .cons (h u List.mem_cons_self) (paired_of_map fun v hv => h v (List.mem_cons_of_mem _ hv))
theorem cr_sortDT {d : Nat} {B : Int} (hc : X.calm = true) (hd1 : 1 ≤ d) : CallR X (.builtin "sorted") (rSortDT d B) := by
  intro pins s σ H xs us Q I r q
  obtain ⟨a, kvs, ks, rfl, hd, hks, h64, hB, q⟩ := q
  obtain ⟨u, eu, rx⟩ := vals1 r
  subst eu
  cases rx
  obtain ⟨z, lo, kx, pr, o, es, ep, ho, hx, hdt, he, hn⟩ := (show ObjOk X.prog X.w H s.heap a (.dT kvs) from hd.ok I.hok)
  have l1 : es.size = kx.length := size_of_entries he
  have l2 : kvs.length = kx.length := Paired.length pr
  refine Calls.call_function_entry PyProof.Rows.kind_sorted PyProof.Rows.plain_sorted PyProof.Rows.entry_sorted (PyProof.Rows.args_sorted1 _) ?_
  unfold Builtin.«sorted»
  refine wpAny_bind (m := checkCount "sorted" 1 1 _) (wpAny_pure ?_)
  refine wpAny_bind (PySem.W.kdu_collect (A := X.A.in1) (kdl_raw lo hx hdt) (I.ok.hd hc) ho (by omega) fun h' tk acc hk hacc => ?_)
  have ea : acc.toList = kx.map fun x => Value.ref x.2.1 := by
    have hl : acc.toList.length = kx.length := by rw [Array.length_toList, hacc.1]; exact l1
    apply List.ext_getElem?
    intro j
    rw [List.getElem?_map]
    cases hj : acc.toList[j]? with
    | none =>
      have h1 := List.getElem?_eq_none_iff.mp hj
      rw [List.getElem?_eq_none (by omega)]
      all_goals rfl
    | some v =>
      obtain ⟨en, hen, hv⟩ := hacc.2 j v (by rw [← Array.getElem?_toList]; exact hj)
      have qe := entry_at he j
      rw [hen] at qe
      cases hb : kx[j]? with
      | none =>
        rw [hb] at qe
        exact nomatch (show some en = none from qe)
      | some b =>
        rw [hb] at qe
        have e2 : en = entryOfKey (tupleKind (mixKind X.prog X.w)) b := Option.some.inj qe
        rw [hv, e2]
        all_goals rfl
  have I1 : Inv X pins σ H { s with heap := h', toks := tk } := I.kept hk
  have prk := keys_perm pr hks
  rw [← ea] at prk
  generalize acc.toList = vs at prk
  have hvl : vs.length = ks.length := Paired.length prk
  have tup : ∀ b (k : List Int), H b = some (.tup (k.map V.int)) → TS.TupInts h' (.ref b) k := fun b k e => tupI_raw I1 (SqT.of e)
  have hin : ∀ v ∈ vs, ∃ b k, k ∈ ks ∧ v = .ref b ∧ H b = some (.tup (k.map V.int)) := fun v hv => by
    obtain ⟨k, hk', b, e1, e2⟩ := paired_mem_left prk v hv
    exact ⟨b, k, hk', e1, e2⟩
  have hmap : vs.map (TS.intsOf h') = ks := paired_map_eq (fun u k h => by
    obtain ⟨b, e1, e2⟩ := h
    subst e1
    exact (tup b k e2).ints) prk
  refine wpAny_bind (wpAny_newList ?_ (by rw [hvl, sizeLine_eq]; omega))
  have hoL : (h'.push (seqObj "list" vs.toArray 0)).get? h'.objs.size = some (seqObj "list" vs.toArray 0) := Heap.get?_push_size _ rfl
  show wpAny _ _ _ _ _ { s with heap := h'.push (seqObj "list" vs.toArray 0), toks := tk }
  have keep : ∀ b u, h'.get? b = some u → (h'.push (seqObj "list" vs.toArray 0)).get? b = some u := fun b u e => Heap.get?_push_of_some _ e
  have I2 : Inv X pins σ H { s with heap := h'.push (seqObj "list" vs.toArray 0), toks := tk } := I1.kept (t' := tk) keep
  have tup2 : ∀ b (k : List Int), H b = some (.tup (k.map V.int)) → TS.TupInts (h'.push (seqObj "list" vs.toArray 0)) (.ref b) k := fun b k e => tupI_raw I2 (SqT.of e)
  have x : TS.TupsOk (h'.push (seqObj "list" vs.toArray 0)) d B vs := fun v hv => by
    obtain ⟨b, k, hk', e1, e2⟩ := hin v hv
    subst e1
    exact ⟨k, tup2 b k e2, (hB k hk').1, (hB k hk').2⟩
  refine wpAny_bind (wpAny_holding (TS.call_sort_tups (s := { s with heap := h'.push (seqObj "list" vs.toArray 0), toks := tk }) hoL (by rw [hvl]; exact h64) hd1 x fun out a1 a2 => ?_))
  obtain ⟨c, hcc⟩ := PyProof.Rows.sortedHeap_at (vs := vs) (out := out) hoL
  have hin' : ∀ v ∈ out.toList, ∃ b k, k ∈ ks ∧ v = .ref b ∧ H b = some (.tup (k.map V.int)) := fun v hv => hin v (a1.mem_iff.mp hv)
  have intz : ∀ v ∈ out.toList, TS.intsOf (h'.push (seqObj "list" vs.toArray 0)) v = TS.intsOf h' v := fun v hv => by
    obtain ⟨b, k, _, e1, e2⟩ := hin' v hv
    subst e1
    rw [(tup2 b k e2).ints, (tup b k e2).ints]
  have hn' : H h'.objs.size = none := I1.hok.fresh (Nat.le_refl _)
  have vr : Vals ((out.toList.map refA).map V.ref) out.toList := by
    have e : out.toList = (out.toList.map refA).map Value.ref := by
      rw [List.map_map]
      refine (List.map_id' out.toList).symm.trans (List.map_congr_left fun v hv => ?_)
      obtain ⟨b, k, _, e1, e2⟩ := hin' v hv
      subst e1
      rfl
    have z := vals_refs (out.toList.map refA)
    rw [← e] at z
    exact z
  have hlen : ((out.toList.map refA).map V.ref).length ≤ sizeLine := by
    rw [List.length_map, List.length_map, a1.length_eq, hvl, sizeLine_eq]
    omega
  refine wpAny_pure ⟨_, rfl, .ref h'.objs.size, upd H h'.objs.size (.lst ((out.toList.map refA).map V.ref)), I1.laid (t' := tk) (fun b u e => ?_) (Nat.le_refl _) ⟨hlen, out.toList, c, vr, hcc⟩, rfl, ?_⟩
  · have hlt : b < h'.objs.size := Heap.lt_size e
    show (PyProof.Rows.sortedHeap (h'.push (seqObj "list" vs.toArray 0)) h'.objs.size vs out).get? b = some u
    rw [PyProof.Rows.sortedHeap_old (Nat.ne_of_lt hlt) (by rw [PyProof.Rows.size_push']; exact Nat.lt_succ_of_lt hlt)]
    exact Heap.get?_push_of_some _ e
  · refine q (out.toList.map refA) (out.toList.map (TS.intsOf h')) h'.objs.size ?_ ?_ ?_ hn'
    · have z := a1.map (TS.intsOf h')
      rw [hmap] at z
      exact z
    · refine List.pairwise_map.mpr (List.Pairwise.imp_of_mem (fun {u v} hu hv h => ?_) a2)
      rw [← intz u hu, ← intz v hv]
      exact h
    · refine paired_of_map fun v hv => ?_
      obtain ⟨b, k, _, e1, e2⟩ := hin' v hv
      subst e1
      rw [(tup b k e2).ints]
      exact e2
/-- sorted(t), t a tuple of fewer than 64 ints -/
def rSortIT (K : PySem.W.Frag) : List V → Hp → VK → Prop := fun vs H Q => ∃ (a : Addr) (ns : List Int), vs = [V.ref a] ∧ SqT K H a (ns.map V.int) ∧ ns.length < 64 ∧
  ∀ (ns' : List Int) (p : Addr), ns'.Perm ns → ns'.Pairwise (· ≤ ·) → H p = none → Q (.ref p) (upd H p (.lst (ns'.map V.int)))
end
section
variable {prog : Program} {w : World} {A : Around} {E : Value → Shared → Prop} {s : Shared}
theorem collect_tup {l : Addr} {vs : List Value} {Q : List Value → Shared → Prop} (hl : s.heap.IsTuple l vs.toArray)
    (h : Q vs { s with heap := (s.heap.push (seqObj "list" #[] 0)).update s.heap.objs.size (Obj.mapSeq (· ++ vs.toArray)) }) (hsz : vs.length ≤ sizeLine) :
    wpAny (model prog w) A (collect (.ref l)) Q E s := by
  obtain ⟨o, ho, hc, n, hd⟩ := id hl
  unfold collect
  refine wpAny_bind (wpAny_runValue (codeAny_builtin entry_proto_collect' ?_))
  show wpAny _ _ (do again (.builtin "list.__iadd__" ⟨[← newList [], .ref l], []⟩)) _ _ s
  refine wpAny_bind (wpAny_newList (wpAny_pure ⟨Code.quiet_builtin _ (by decide +kernel), codeAny_builtin entry_list_iadd' ?_⟩))
  show wpAny _ _ (Builtin.List.listExtendWith (.ref s.heap.objs.size) (.ref l) (.ref s.heap.objs.size)) _ _ { s with heap := s.heap.push (seqObj "list" #[] 0) }
  unfold Builtin.List.listExtendWith
  have ho' : (s.heap.push (seqObj "list" #[] 0)).get? l = some o := Heap.get?_push_of_some _ ho
  refine wpAny_bind (wpAny_typeOf (T := "tuple") ⟨o, ho', hc⟩ ?_)
  have ht : (Value.type "tuple" == Value.type "tuple") = true := by rfl
  rw [if_pos (by rw [ht]; simp)]
  refine wpAny_bind (listItems_at ho' hd ?_)
  refine wpAny_bind (listItems_at (xs := #[]) (n := 0) (Heap.get?_push_size _ rfl) rfl ?_)
  rw [if_neg (by simp)]
  refine wpAny_bind (listUpdate_at (xs := #[]) (n := 0) (Heap.get?_push_size _ rfl) rfl ?_ (Nat.zero_le _) (by show (#[] ++ vs.toArray).size ≤ sizeLine + 1; simp only [Array.size_append, List.size_toArray, List.length_nil]; omega))
  refine wpAny_pure ?_
  show wpAny (model prog w) A (do
      let o ← load s.heap.objs.size
      match o.data with
      | .seq xs _ => pure xs.toList
      | _ => unsupported "internal:collect") Q E { s with heap := (s.heap.push (seqObj "list" #[] 0)).update s.heap.objs.size (Obj.mapSeq (· ++ vs.toArray)) }
  refine wpAny_bind (wpAny_load (get?_update_seq (Heap.get?_push_size _ rfl) _) ?_)
  show wpAny _ _ (pure ((#[] : Array Value) ++ vs.toArray).toList) Q E _
  rw [show ((#[] : Array Value) ++ vs.toArray).toList = vs by simp]
  exact wpAny_pure h
theorem sorted_tupI {l : Addr} {vs : List Value} {ns : List Int} {Q : Value → Shared → Prop} (hl : s.heap.IsTuple l vs.toArray) (hI : IntsAre vs ns) (h64 : vs.length < 64)
    (h : ∀ (out : Array Value) (ns' : List Int), IntsAre out.toList ns' → ns'.Perm ns → ns'.Pairwise (· ≤ ·) → Q (.ref (s.heap.objs.size + 1)) { s with heap := sortedAll s.heap vs out }) :
    wpAny (model prog w) A (call (.builtin "sorted") [.ref l]) Q E s := by
  refine Calls.call_function_entry kind_sorted plain_sorted entry_sorted (args_sorted1 _) ?_
  unfold Builtin.«sorted»
  refine wpAny_bind (m := checkCount "sorted" 1 1 _) (wpAny_pure ?_)
  refine wpAny_bind (collect_tup hl ?_ (by rw [sizeLine_eq]; omega))
  refine wpAny_bind (wpAny_newList ?_ (by rw [sizeLine_eq]; omega))
  have hsz : ((s.heap.push (seqObj "list" #[] 0)).update s.heap.objs.size (Obj.mapSeq (· ++ vs.toArray))).objs.size = s.heap.objs.size + 1 := by
    rw [Heap.size_update, size_push']
  have hoL : (((s.heap.push (seqObj "list" #[] 0)).update s.heap.objs.size (Obj.mapSeq (· ++ vs.toArray))).push (seqObj "list" vs.toArray 0)).get? (s.heap.objs.size + 1) = some (seqObj "list" vs.toArray 0) := by
    rw [← hsz]; exact Heap.get?_push_size _ rfl
  show wpAny _ _ _ _ _ { s with heap := ((s.heap.push (seqObj "list" #[] 0)).update s.heap.objs.size (Obj.mapSeq (· ++ vs.toArray))).push (seqObj "list" vs.toArray 0) }
  rw [hsz]
  refine wpAny_bind (wpAny_holding (wpAny_call_entry slot_list_sort ⟨_, hoL, rfl⟩ entry_list_sort (list_sort_tree hoL hI h64 fun out ns' a1 a2 a3 => ⟨_, rfl, ?_⟩) (args_list_sort _)))
  exact wpAny_pure ⟨_, rfl, h out ns' a1 a2 a3⟩
end
section
variable {X : Cx}
theorem cr_sortIT : CallR X (.builtin "sorted") (rSortIT X.K) := by
  intro pins s σ H vs us Q I r h
  obtain ⟨a, ns, rfl, hs, h64, q⟩ := h
  obtain ⟨its, rv, hl, _⟩ := I.tuple hs
  rw [Vals.ref1 r]
  have hi := rv.ints
  refine sorted_tupI hl hi (by rw [hi.length]; exact h64) fun out ns' h1 h2 h3 => ?_
  obtain ⟨ep, he'⟩ := PyProof.Rows.sortedAll_at s.heap its out
  have hlen : (ns'.map V.int).length ≤ sizeLine := by rw [List.length_map, h2.length_eq]; exact small64 h64
  exact ⟨.ref _, upd H (s.heap.objs.size + 1) (.lst (ns'.map V.int)), I.laid (t' := s.toks) (fun _ _ => PyProof.Rows.sortedAll_old) (Nat.le_succ _) ⟨hlen, out.toList, ep, vals_of_ints h1, he'⟩, rfl, q ns' _ h2 h3 (I.hok.fresh (Nat.le_succ _))⟩
/-- {k: v}, k a tuple of ints and texts -/
def tDispT (tk tv : TE) : TE := fun σ H Q => ∀ p, H p = none → tk σ (upd H p (.dT [])) fun x H1 => tv σ H1 fun y H2 => ∃ (b : Addr) (k : List Key), x = .ref b ∧ H2 p = some (.dT []) ∧ H2 b = some (.tup (k.map kV)) ∧ Q (.ref p) (upd H2 p (.dT [(k, y)]))
theorem pe_dispT {k v : Expr} {pos : Pos} {tk tv : TE} (hu : X.A.units + 1 < cLine) (hk : PE X k tk) (hv : PE X v tv) : PE X (.Dict [some k] [v] pos) (tDispT tk tv) := by
  refine ⟨fun pins s σ H Q I q => ?_⟩
  have hn := I.hok.fresh (Nat.le_refl s.heap.objs.size)
  have I1 := I.laid (a := s.heap.objs.size) (o := .dT []) (h' := s.heap.push { cls := .type "dict", data := .dict #[] }) (t' := s.toks) (fun _ _ q => Heap.get?_push_of_some _ q) (Nat.le_refl _) (dt_empty s.heap I.big)
  have hroom : (tupleKind (mixKind X.prog X.w)).room X.A := (show X.A.units < cLine by omega)
  rw [arm_eval_Dict, zip_pairTrees [some k] [v] X.env pos rfl rfl, dictDisplay_pairs (pairTrees [some k] [v] X.env pos) (by intro z; cases z) (by show 1 < 17; omega)]
  refine wpAny_bind (wpAny_standAt (wpAny_bind (wpAny_subDictH (knd := tupleKind (mixKind X.prog X.w)) (Q := fun d s' => wpAny (model X.prog X.w) X.A (pure (Value.ref d)) (EP X pins σ Q) X.xe s') hroom (by show 1 ≤ 15; omega) ?_)))
  refine pairTrees_cons_walk (thn (hk.run pins _ σ _ _ I1 (q _ hn)) fun u s1 ⟨x, H1, I2, rx, q1⟩ => thn (hv.run pins s1 σ H1 _ I2 q1) fun w2 s2 ⟨y, H2, I3, ry, q2⟩ => pairTrees_nil_walk ?_)
  obtain ⟨b, ks, rfl, hp, hb, qq⟩ := q2
  cases rx
  obtain ⟨z, hd, xs0, rel, dd⟩ := dt_of I3.hok hp
  cases rel
  refine ⟨[(ks, b, w2)], ⟨rfl, rfl, key_of I3.hok hb, trivial⟩, dd, fun h' tk' dd' hs => wpAny_pure ⟨.ref s.heap.objs.size, _, ?_, rfl, qq⟩⟩
  obtain ⟨o, es, ep, ho, h2, h3, h4, _, h5⟩ := dd'
  refine d_write I3 (by rw [hp]; exact True.intro) hs ⟨o, ho⟩ ⟨by show 1 ≤ sizeLine; decide, hd, [(ks, b, w2)], .cons ⟨rfl, ?_, ry⟩ .nil, o, es, ep, ho, h2, h3, h4, h5⟩
  rw [upd_ne (ne_of hb hp (fun z => nomatch z))]
  exact hb
end
end L2

set_option Elab.async false
set_option linter.all false
set_option maxRecDepth 100000
set_option maxHeartbeats 4000000
/-! the common ground: turns and locks in the heap, defs by name -/
namespace Lt
open PySem PySem.Spec PyProof.Rows L2
/-! ### heaps -/
theorem same_new {H : Hp} {p : Addr} {o : HO} (h : H p = none) : Same H (upd H p o) := fun b x e => by
  rw [upd_ne (ne_of_none e h)]
  exact e
/-- an object that H does not know may change -/
theorem same_mut {H H' : Hp} {p : Addr} {o : HO} (e : Same H H') (h : H p = none) : Same H (upd H' p o) := fun a u ha => by
  rw [upd_ne (ne_of_none ha h)]
  exact e a u ha
/-- the tuples stay -/
def Tm (H H' : Hp) : Prop := (∀ a xs, H a = some (.tup xs) → H' a = some (.tup xs)) ∧ ∀ a o xs, H a = some (.frz o (.tup xs)) → H' a = some (.frz o (.tup xs))
theorem Tm.refl (H : Hp) : Tm H H := ⟨fun _ _ h => h, fun _ _ _ h => h⟩
theorem Tm.trans {H H1 H2 : Hp} (a : Tm H H1) (b : Tm H1 H2) : Tm H H2 := ⟨fun c x h => b.1 c x (a.1 c x h), fun c o x h => b.2 c o x (a.2 c o x h)⟩
theorem Tm.of {H H' : Hp} (e : Same H H') : Tm H H' := ⟨fun a xs h => e a _ h, fun a o xs h => e a _ h⟩
/-- a tuple to be read: its object known or not -/
abbrev RT (H : Hp) (a : Addr) (xs : List V) : Prop := Rd H a (.tup xs)
theorem RT.tm {H H' : Hp} {a : Addr} {xs : List V} (h : RT H a xs) (e : Tm H H') : RT H' a xs := by
  rcases h with h | ⟨o, h⟩
  · exact .inl (e.1 _ _ h)
  · exact .inr ⟨o, e.2 _ _ _ h⟩
theorem RT.sm {H H' : Hp} {a : Addr} {xs : List V} (h : RT H a xs) (e : Same H H') : RT H' a xs := h.tm (.of e)
theorem RT.sq {K : PySem.W.Frag} {H : Hp} {a : Addr} {xs : List V} (h : RT H a xs) : SqT K H a xs := .inl h
/-- what is no tuple may change -/
theorem Tm.mut {H : Hp} {p : Addr} {o u : HO} (h : H p = some u) (hu : ∀ xs, u ≠ .tup xs) (hf : ∀ ob xs, u ≠ .frz ob (.tup xs)) : Tm H (upd H p o) :=
  ⟨fun a xs e => by rw [upd_ne (ne_of e h (fun z => hu xs z.symm))]; exact e, fun a ob xs e => by rw [upd_ne (ne_of e h (fun z => hf ob xs z.symm))]; exact e⟩
theorem Tm.lst {H : Hp} {p : Addr} {o : HO} {ys : List V} (h : H p = some (.lst ys)) : Tm H (upd H p o) := .mut h (fun _ z => nomatch z) fun _ _ z => nomatch z
theorem Tm.dT {H : Hp} {p : Addr} {o : HO} {ys : List (List Key × V)} (h : H p = some (.dT ys)) : Tm H (upd H p o) := .mut h (fun _ z => nomatch z) fun _ _ z => nomatch z
theorem Tm.new {H : Hp} {p : Addr} {o : HO} (h : H p = none) : Tm H (upd H p o) := .of (same_new h)

/-! ### turns: tuples of numbers -/
def nI (n : Nat) : V := .int (n : Int)
def nIs (t : List Nat) : List V := t.map nI
def TN (H : Hp) (v : V) (t : List Nat) : Prop := ∃ a, v = .ref a ∧ RT H a (nIs t)
/-- one that no dict refuses as a key -/
def TK (H : Hp) (v : V) (t : List Nat) : Prop := ∃ a, v = .ref a ∧ H a = some (.tup (nIs t))
theorem TK.tn {H : Hp} {v : V} {t : List Nat} (h : TK H v t) : TN H v t := let ⟨a, e, h⟩ := h; ⟨a, e, .inl h⟩
theorem TK.tm {H H' : Hp} {v : V} {t : List Nat} (e : Tm H H') (h : TK H v t) : TK H' v t := let ⟨a, ev, ha⟩ := h; ⟨a, ev, e.1 _ _ ha⟩
/-- a tuple of turns -/
def TT (H : Hp) (v : V) (ts : List (List Nat)) : Prop := ∃ a xs, v = .ref a ∧ H a = some (.tup xs) ∧ Paired (TN H) xs ts
/-- a list of turns at a -/
def LT (H : Hp) (a : Addr) (ts : List (List Nat)) : Prop := ∃ xs, H a = some (.lst xs) ∧ Paired (TN H) xs ts
theorem TN.tm {H H' : Hp} {v : V} {t : List Nat} (e : Tm H H') (h : TN H v t) : TN H' v t := let ⟨a, ev, ha⟩ := h; ⟨a, ev, ha.tm e⟩
theorem TNs.tm {H H' : Hp} (e : Tm H H') : ∀ {xs : List V} {ts : List (List Nat)}, Paired (TN H) xs ts → Paired (TN H') xs ts
  | _, _, .nil => .nil
  | _, _, .cons r t => .cons (r.tm e) (TNs.tm e t)
theorem TT.tm {H H' : Hp} {v : V} {t : List (List Nat)} (e : Tm H H') (h : TT H v t) : TT H' v t := let ⟨a, xs, ev, ha, p⟩ := h; ⟨a, xs, ev, e.1 _ _ ha, TNs.tm e p⟩
theorem LT.same {H H' : Hp} {v : Addr} {t : List (List Nat)} (e : Same H H') (h : LT H v t) : LT H' v t := let ⟨xs, ha, p⟩ := h; ⟨xs, e _ _ ha, TNs.tm (.of e) p⟩
theorem nIs_len (t : List Nat) : (nIs t).length = t.length := List.length_map ..
theorem nIs_get (t : List Nat) (i : Nat) : (nIs t)[i]? = (t[i]?).map nI := List.getElem?_map ..
theorem nIs_int (t : List Nat) : nIs t = (t.map Int.ofNat).map V.int := by
  unfold nIs
  rw [List.map_map]
  rfl
theorem nIs_key (t : List Nat) : nIs t = (t.map fun n : Nat => (Sum.inl (Int.ofNat n) : Key)).map kV := by
  unfold nIs
  rw [List.map_map]
  rfl
theorem Paired.getL {α β : Type} {F : α → β → Prop} : ∀ {xs : List α} {ys : List β} {i : Nat} {x : α}, Paired F xs ys → xs[i]? = some x → ∃ y, ys[i]? = some y ∧ F x y
  | _, _, _, _, .nil, e => by simp at e
  | _, _, 0, _, .cons r _, e => by simp at e; subst e; exact ⟨_, rfl, r⟩
  | _, _, i + 1, x, .cons _ t, e => by
    obtain ⟨u, h1, h2⟩ := Paired.getL (i := i) (x := x) t (by simpa using e)
    exact ⟨u, by simpa using h1, h2⟩
theorem Paired.getR {α β : Type} {F : α → β → Prop} : ∀ {xs : List α} {ys : List β} {i : Nat} {y : β}, Paired F xs ys → ys[i]? = some y → ∃ x, xs[i]? = some x ∧ F x y
  | _, _, _, _, .nil, e => by simp at e
  | _, _, 0, _, .cons r _, e => by simp at e; subst e; exact ⟨_, rfl, r⟩
  | _, _, i + 1, x, .cons _ t, e => by
    obtain ⟨u, h1, h2⟩ := Paired.getR (i := i) (y := x) t (by simpa using e)
    exact ⟨u, by simpa using h1, h2⟩
theorem Paired.app {α β : Type} {F : α → β → Prop} : ∀ {xs xs' : List α} {ys ys' : List β}, Paired F xs ys → Paired F xs' ys' → Paired F (xs ++ xs') (ys ++ ys')
  | _, _, _, _, .nil, h => h
  | _, _, _, _, .cons r t, h => .cons r (Paired.app t h)
theorem Paired.one {α β : Type} {F : α → β → Prop} {x : α} {y : β} (h : F x y) : Paired F [x] [y] := .cons h .nil
theorem Paired.tk {α β : Type} {F : α → β → Prop} : ∀ (n : Nat) {xs : List α} {ys : List β}, Paired F xs ys → Paired F (xs.take n) (ys.take n)
  | 0, _, _, _ => .nil
  | _ + 1, _, _, .nil => .nil
  | n + 1, _, _, .cons r t => .cons r (Paired.tk n t)
theorem Paired.dr {α β : Type} {F : α → β → Prop} : ∀ (n : Nat) {xs : List α} {ys : List β}, Paired F xs ys → Paired F (xs.drop n) (ys.drop n)
  | 0, _, _, h => h
  | _ + 1, _, _, .nil => .nil
  | n + 1, _, _, .cons r t => Paired.dr n t

/-! ### data for == and in -/
def dN (n : Nat) : PyData := .int (n : Int)
def dT (t : List Nat) : PyData := .tuple (t.map dN)
theorem dp_nats {K : PySem.W.Frag} {H : Hp} : ∀ t : List Nat, DpAll K H (nIs t) (t.map dN)
  | [] => .nil
  | n :: t => .cons (.int _) (dp_nats t)
theorem TN.dp {K : PySem.W.Frag} {H : Hp} {v : V} {t : List Nat} (h : TN H v t) : Dp K H v (dT t) := by
  obtain ⟨a, rfl, ha⟩ := h
  exact .tup ha.sq (dp_nats t)
theorem TNs.dp {K : PySem.W.Frag} {H : Hp} : ∀ {xs : List V} {ts : List (List Nat)}, Paired (TN H) xs ts → DpAll K H xs (ts.map dT)
  | _, _, .nil => .nil
  | _, _, .cons r t => .cons r.dp (TNs.dp t)
theorem TT.dp {K : PySem.W.Frag} {H : Hp} {v : V} {ts : List (List Nat)} (h : TT H v ts) : Dp K H v (.tuple (ts.map dT)) := by
  obtain ⟨a, xs, rfl, ha, p⟩ := h
  exact .tup (SqT.of ha) (TNs.dp p)
theorem LT.dp {K : PySem.W.Frag} {H : Hp} {a : Addr} {ts : List (List Nat)} (h : LT H a ts) : Dp K H (.ref a) (.list (ts.map dT)) := by
  obtain ⟨xs, ha, p⟩ := h
  exact .lst (SqL.of ha) (TNs.dp p)
theorem eqvAll_map {α : Type} [DecidableEq α] {f : α → PyData} (h : ∀ x y, PyData.eqv (f x) (f y) = decide (x = y)) : ∀ xs ys : List α, PyData.eqvAll (xs.map f) (ys.map f) = decide (xs = ys)
  | [], [] => by simp [PyData.eqvAll]
  | [], _ :: _ => by simp [PyData.eqvAll]
  | _ :: _, [] => by simp [PyData.eqvAll]
  | x :: xs, y :: ys => by
    rw [List.map_cons, List.map_cons, PyData.eqvAll, h, eqvAll_map h xs ys]
    by_cases e1 : x = y <;> by_cases e2 : xs = ys <;> simp [e1, e2]
theorem eqv_dN (a b : Nat) : PyData.eqv (dN a) (dN b) = decide (a = b) := by
  show ((a : Int) == (b : Int)) = decide (a = b)
  by_cases e : a = b
  · subst e; simp
  · rw [decide_eq_false e]
    exact beq_eq_false_iff_ne.mpr (by omega)
theorem eqv_dT (s t : List Nat) : PyData.eqv (dT s) (dT t) = decide (s = t) := by
  show PyData.eqvAll (s.map dN) (t.map dN) = _
  exact eqvAll_map eqv_dN s t
theorem eqv_dTT (s t : List (List Nat)) : PyData.eqv (.tuple (s.map dT)) (.tuple (t.map dT)) = decide (s = t) := by
  show PyData.eqvAll (s.map dT) (t.map dT) = _
  exact eqvAll_map eqv_dT s t
theorem depth_nats : ∀ t : List Nat, PyData.depthAll (t.map dN) = 0
  | [] => rfl
  | n :: t => by
    show max (PyData.depth (dN n)) (PyData.depthAll (t.map dN)) = 0
    rw [depth_nats t]
    rfl
theorem can_nats : ∀ t : List Nat, PyData.canLayAll0 (t.map dN) = true
  | [] => rfl
  | n :: t => by
    show (PyData.canLay0 (dN n) && PyData.canLayAll0 (t.map dN)) = true
    rw [can_nats t]
    rfl
theorem depth_turns : ∀ t : List (List Nat), PyData.depthAll (t.map dT) ≤ 1
  | [] => Nat.zero_le _
  | n :: t => by
    show max (PyData.depthAll (n.map dN) + 1) (PyData.depthAll (t.map dT)) ≤ 1
    rw [depth_nats n]
    have := depth_turns t
    omega
theorem can_turns : ∀ t : List (List Nat), PyData.canLayAll0 (t.map dT) = true
  | [] => rfl
  | n :: t => by
    show (PyData.canLayAll0 (n.map dN) && PyData.canLayAll0 (t.map dT)) = true
    rw [can_turns t, can_nats n]
    rfl
theorem sh_T (t : List Nat) : SeqAt.shaped (dT t) = true := by
  show (PyData.canLayAll0 (t.map dN) && decide (PyData.depthAll (t.map dN) + 1 ≤ 64)) = true
  rw [can_nats, depth_nats]
  rfl
theorem sh_TT (t : List (List Nat)) : SeqAt.shaped (.tuple (t.map dT)) = true := by
  show (PyData.canLayAll0 (t.map dT) && decide (PyData.depthAll (t.map dT) + 1 ≤ 64)) = true
  have := depth_turns t
  rw [can_turns, decide_eq_true (by omega)]
  rfl
theorem sh_LT (t : List (List Nat)) : SeqAt.shaped (.list (t.map dT)) = true := sh_TT t
theorem any_dT (ts : List (List Nat)) (t : List Nat) : ((ts.map dT).any fun z => PyData.eqv z (dT t)) = decide (t ∈ ts) := by
  induction ts with
  | nil => simp
  | cons a ts ih =>
    rw [List.map_cons, List.any_cons, ih, eqv_dT]
    by_cases e : a = t
    · subst e; simp
    · have e' : ¬ t = a := fun z => e z.symm
      simp [e, e']

/-! ### defs by name -/
section
variable (P : Program) (w : World) (K : PySem.W.Frag) (mg : Str → Option Value) (base : Heap)
/-- the def x of the module's top keeps the promise sp -/
def Has (CX : CXT) (k : Nat) (x : Str) (ps : List Str) (sp : Sp) : Prop :=
  ∃ (f : Addr) (fd : FuncData), mg x = some (.ref f) ∧ PySem.W.keepIn K (.ref f) = true ∧ Binds K fd ps [] ∧ FnOk P w K mg base CX k f fd ps sp
/-- the def x of the module's top is the statement st -/
def Top (x : Str) (st : Stmt) (ps : List Str) : Prop := ∃ (f : Addr) (fd : FuncData), mg x = some (.ref f) ∧ Fun K x x st f fd ∧ Binds K fd ps []
end
section
variable {P : Program} {w : World} {K : PySem.W.Frag} {mg : Str → Option Value} {base : Heap}
theorem Has.mono {CX : CXT} {j k : Nat} {x : Str} {ps : List Str} {sp : Sp} (h : Has P w K mg base CX j x ps sp) (l : j ≤ k) : Has P w K mg base CX k x ps sp :=
  let ⟨f, fd, a, b, c, d⟩ := h
  ⟨f, fd, a, b, c, d.mono l⟩
theorem Has.imp {CX : CXT} {k : Nat} {x : Str} {ps : List Str} {sp sp' : Sp} (h : Has P w K mg base CX k x ps sp) (i : ∀ vs H Q E, sp' vs H Q E → sp vs H Q E) : Has P w K mg base CX k x ps sp' :=
  let ⟨f, fd, a, b, c, d⟩ := h
  ⟨f, fd, a, b, c, d.imp i⟩
/-- THE RULE for a def that raises nothing -/
theorem Top.ok {x : Str} {st : Stmt} {N ps : List Str} {k : Nat} {sp : Sp} (T : Top K mg x st ps) (S : FnScope N ps (defScope st)) (len : ∀ vs H Q E, sp vs H Q E → vs.length = ps.length)
    (hbody : ∀ (f : Addr) (cdv : Value) (A : Around) (outer : List Env) (s : Shared) (H : Hp) (vs : List V) (Q : VK) (E : XK), Room k (A.deeper (envOfC x (defScope st) s.heap.objs.size f cdv)) → sp vs H Q E →
      ∃ t, PSs (cxOf CX0 P w K mg base N x (defScope st) f cdv A outer s H E).nox (defBody st) t ∧ t { nx := fun _ H' => Q .non H', rt := Q } (start N vs) H) : Has P w K mg base CX0 (k + 1) x ps sp := by
  obtain ⟨f, fd, hm, F, b⟩ := T
  exact ⟨f, fd, hm, F.kp, b, F.ok S len fun cdv A outer s H vs Q E hr h => hbody f cdv A outer s H vs Q E hr h⟩
end
/-- a call of such a def -/
theorem pe_has {X : Cx} {k : Nat} {x : Str} {ps : List Str} {sp : Sp} {e : Expr} {es : List Expr} {t : TA} {p pos : Pos} (h : Has X.prog X.w X.K X.mg X.base CX0 k x ps sp) (hr : Room k X.A) (hg : Gl X x) (ha : PA X (e :: es) t)
    (hdb : (x == ("__debug__" : Str)) = false := by decide) (he : starEach (e :: es) X.env = (false, eval e X.env) :: starEach es X.env := by rfl) (hpl : (backTo pos (starEach es X.env)).any (·.1) = false := by rfl) :
    PE X (.Call (.Name x p) (e :: es) [] pos) (tCall sp [] E0 t) := by
  obtain ⟨f, fd, hm, hk, hb, F⟩ := h
  exact pe_call F hr hg hm hk hb .nil pass0 ha hdb he hpl
end Lt

set_option linter.all false
set_option Elab.async false
/-! permutations as lists of numbers; the turns that given ones make -/
namespace Lt
def IsP (n : Nat) (t : List Nat) : Prop := t.Perm (List.range n)
instance (n : Nat) (t : List Nat) : Decidable (IsP n t) := inferInstanceAs (Decidable (t.Perm (List.range n)))
theorem IsP.len {n : Nat} {t : List Nat} (h : IsP n t) : t.length = n := by
  have e := List.Perm.length_eq h
  rw [List.length_range] at e
  exact e
theorem IsP.nd {n : Nat} {t : List Nat} (h : IsP n t) : t.Nodup := (List.Perm.nodup_iff h).mpr List.nodup_range
theorem IsP.mem {n : Nat} {t : List Nat} (h : IsP n t) {i : Nat} : i ∈ t ↔ i < n := (List.Perm.mem_iff h).trans List.mem_range
theorem IsP.lt {n : Nat} {t : List Nat} (h : IsP n t) : ∀ i ∈ t, i < n := fun i hi => h.mem.mp hi
theorem IsP.still (n : Nat) : IsP n (List.range n) := List.Perm.refl _
def prod (x y : List Nat) : List Nat := x.map fun i => y.getD i 0
theorem prod_len (x y : List Nat) : (prod x y).length = x.length := List.length_map ..
theorem map_getD_range : ∀ (y : List Nat), (List.range y.length).map (fun i => y.getD i 0) = y := fun y => by
  apply List.ext_getElem?
  intro i
  rw [List.getElem?_map]
  by_cases h : i < y.length
  · rw [List.getElem?_range h, Option.map_some, List.getD_eq_getElem?_getD, List.getElem?_eq_getElem h, Option.getD_some]
  · rw [List.getElem?_eq_none (by rw [List.length_range]; omega), List.getElem?_eq_none (by omega), Option.map_none]
theorem IsP.prod {n : Nat} {x y : List Nat} (hx : IsP n x) (hy : IsP n y) : IsP n (prod x y) := by
  have h : (Lt.prod x y).Perm ((List.range n).map fun i => y.getD i 0) := List.Perm.map _ hx
  have e := map_getD_range y
  rw [hy.len] at e
  rw [e] at h
  exact h.trans hy
theorem prod_still_l {n : Nat} {x : List Nat} (hx : x.length = n) : prod (List.range n) x = x := by
  subst hx
  exact map_getD_range x
theorem getD_range {n i : Nat} (h : i < n) : (List.range n).getD i 0 = i := by
  rw [List.getD_eq_getElem?_getD, List.getElem?_range h, Option.getD_some]
theorem prod_still_r {n : Nat} {x : List Nat} (hx : ∀ i ∈ x, i < n) : prod x (List.range n) = x := by
  unfold prod
  refine (List.map_congr_left (g := id) fun i hi => ?_).trans (List.map_id x)
  exact getD_range (hx i hi)
theorem prod_assoc {x y z : List Nat} (hx : ∀ i ∈ x, i < y.length) : prod (prod x y) z = prod x (prod y z) := by
  unfold prod
  rw [List.map_map]
  refine List.map_congr_left fun i hi => ?_
  show z.getD (y.getD i 0) 0 = (y.map fun i => z.getD i 0).getD i 0
  rw [List.getD_eq_getElem?_getD (l := y.map _), List.getElem?_map, List.getD_eq_getElem?_getD (l := y), List.getElem?_eq_getElem (hx i hi)]
  rfl
def inv (t : List Nat) : List Nat := (List.range t.length).map fun p => t.idxOf p
theorem inv_len (t : List Nat) : (inv t).length = t.length := by
  unfold inv
  rw [List.length_map, List.length_range]
theorem map_idxOf {t : List Nat} (h : t.Nodup) : t.map (fun p => t.idxOf p) = List.range t.length := by
  apply List.ext_getElem?
  intro i
  rw [List.getElem?_map]
  by_cases hi : i < t.length
  · rw [List.getElem?_range hi, List.getElem?_eq_getElem hi, Option.map_some, h.idxOf_getElem i hi]
  · rw [List.getElem?_eq_none (by omega), List.getElem?_eq_none (by rw [List.length_range]; omega), Option.map_none]
theorem IsP.inv {n : Nat} {t : List Nat} (h : IsP n t) : IsP n (inv t) := by
  have e := map_idxOf h.nd
  rw [h.len] at e
  have h2 : ((List.range n).map fun p => t.idxOf p).Perm (t.map fun p => t.idxOf p) := List.Perm.map _ (List.Perm.symm h)
  rw [e] at h2
  unfold IsP Lt.inv
  rw [h.len]
  exact h2
theorem prod_inv_r {n : Nat} {t : List Nat} (h : IsP n t) : prod t (inv t) = List.range n := by
  have e : prod t (inv t) = t.map fun p => t.idxOf p := by
    unfold prod
    refine List.map_congr_left fun p hp => ?_
    have hl : p < t.length := by rw [h.len]; exact h.lt p hp
    show ((List.range t.length).map fun p => t.idxOf p).getD p 0 = t.idxOf p
    rw [List.getD_eq_getElem?_getD, List.getElem?_map, List.getElem?_range hl]
    rfl
  rw [e, map_idxOf h.nd, h.len]
theorem prod_inv_l {n : Nat} {t : List Nat} (h : IsP n t) : prod (inv t) t = List.range n := by
  unfold prod inv
  rw [List.map_map, h.len]
  refine (List.map_congr_left (g := id) fun p hp => ?_).trans (List.map_id _)
  have hm : p ∈ t := h.mem.mpr (List.mem_range.mp hp)
  show t.getD (t.idxOf p) 0 = p
  rw [List.getD_eq_getElem?_getD, List.getElem?_eq_getElem (List.idxOf_lt_length_of_mem hm), Option.getD_some, List.getElem_idxOf]
theorem inv_unique {n : Nat} {a b : List Nat} (ha : IsP n a) (hb : IsP n b) (h : prod a b = List.range n) : b = inv a := by
  have h1 : prod (prod (inv a) a) b = prod (inv a) (prod a b) := prod_assoc fun i hi => by rw [ha.len]; exact ha.inv.lt i hi
  rw [prod_inv_l ha, h, prod_still_l hb.len, prod_still_r ha.inv.lt] at h1
  exact h1
theorem inv_prod {n : Nat} {a b : List Nat} (ha : IsP n a) (hb : IsP n b) : inv (prod a b) = prod (inv b) (inv a) := by
  refine (inv_unique (ha.prod hb) (hb.inv.prod ha.inv) ?_).symm
  rw [prod_assoc fun i hi => by rw [hb.len]; exact ha.lt i hi]
  rw [← prod_assoc (x := b) fun i hi => by rw [hb.inv.len]; exact hb.lt i hi, prod_inv_r hb, prod_still_l ha.inv.len, prod_inv_r ha]
/-! ### the turns that makers make, one behind another -/
abbrev W := List Nat × List Nat
/-- the words behind one turn with the makers gs, the first of which stands at place p -/
def grow (t w : List Nat) : List (List Nat) → Nat → List W → List W
  | [], _, L => L
  | g :: gs, p, L => grow t w gs (p + 1) (if prod t g ∈ L.map (·.1) then L else L ++ [(prod t g, w ++ [p])])
/-- the words when the first k have been gone through -/
def qq (gs : List (List Nat)) (n : Nat) : Nat → List W
  | 0 => [(List.range n, [])]
  | k + 1 => match (qq gs n k)[k]? with
    | none => qq gs n k
    | some (t, w) => grow t w gs 0 (qq gs n k)
theorem grow_pre (t w : List Nat) : ∀ (gs : List (List Nat)) (p : Nat) (L : List W), ∃ M, grow t w gs p L = L ++ M
  | [], _, L => ⟨[], (List.append_nil L).symm⟩
  | g :: gs, p, L => by
    show ∃ M, grow t w gs (p + 1) (if prod t g ∈ L.map (·.1) then L else L ++ [(prod t g, w ++ [p])]) = L ++ M
    split
    · exact grow_pre t w gs (p + 1) L
    · obtain ⟨M, e⟩ := grow_pre t w gs (p + 1) (L ++ [(prod t g, w ++ [p])])
      exact ⟨[(prod t g, w ++ [p])] ++ M, by rw [e, List.append_assoc]⟩
theorem qq_pre (gs : List (List Nat)) (n : Nat) : ∀ k, ∃ M, qq gs n (k + 1) = qq gs n k ++ M := fun k => by
  show ∃ M, (match (qq gs n k)[k]? with
    | none => qq gs n k
    | some (t, w) => grow t w gs 0 (qq gs n k)) = qq gs n k ++ M
  split
  · exact ⟨[], (List.append_nil _).symm⟩
  · exact grow_pre _ _ _ _ _
theorem qq_pre' (gs : List (List Nat)) (n k : Nat) : ∀ j, ∃ M, qq gs n (k + j) = qq gs n k ++ M
  | 0 => ⟨[], (List.append_nil _).symm⟩
  | j + 1 => by
    obtain ⟨M, e⟩ := qq_pre' gs n k j
    obtain ⟨M', e'⟩ := qq_pre gs n (k + j)
    exact ⟨M ++ M', by rw [← List.append_assoc, ← e, ← e']; rfl⟩
theorem qq_mono (gs : List (List Nat)) (n : Nat) {k m : Nat} (h : k ≤ m) : ∃ M, qq gs n m = qq gs n k ++ M := by
  obtain ⟨M, e⟩ := qq_pre' gs n k (m - k)
  rw [show k + (m - k) = m by omega] at e
  exact ⟨M, e⟩
/-- at the end nothing more comes -/
theorem qq_end (gs : List (List Nat)) (n : Nat) {k : Nat} (h : (qq gs n k).length ≤ k) : ∀ j, qq gs n (k + j) = qq gs n k
  | 0 => rfl
  | j + 1 => by
    have ih := qq_end gs n h j
    show (match (qq gs n (k + j))[k + j]? with
      | none => qq gs n (k + j)
      | some (t, w) => grow t w gs 0 (qq gs n (k + j))) = qq gs n k
    rw [ih, List.getElem?_eq_none (by omega)]
theorem qq_end' (gs : List (List Nat)) (n : Nat) {k m : Nat} (h : (qq gs n k).length ≤ k) (hm : k ≤ m) : qq gs n m = qq gs n k := by
  have e := qq_end gs n h (m - k)
  rw [show k + (m - k) = m by omega] at e
  exact e
theorem grow_keys (t w : List Nat) : ∀ (gs : List (List Nat)) (p : Nat) (L : List W) (x : List Nat), x ∈ (grow t w gs p L).map (·.1) ↔ x ∈ L.map (·.1) ∨ ∃ g ∈ gs, x = prod t g
  | [], _, L, x => by
    show x ∈ L.map (·.1) ↔ _
    simp
  | g :: gs, p, L, x => by
    show x ∈ (grow t w gs (p + 1) (if prod t g ∈ L.map (·.1) then L else L ++ [(prod t g, w ++ [p])])).map (·.1) ↔ _
    rw [grow_keys t w gs (p + 1)]
    split
    · rename_i h
      constructor
      · rintro (h1 | ⟨g', hg, e⟩)
        · exact .inl h1
        · exact .inr ⟨g', List.mem_cons_of_mem _ hg, e⟩
      · rintro (h1 | ⟨g', hg, e⟩)
        · exact .inl h1
        · rcases List.mem_cons.mp hg with z | hg
          · subst z
            rw [e]
            exact .inl h
          · exact .inr ⟨g', hg, e⟩
    · rw [List.map_append, List.mem_append]
      constructor
      · rintro ((h1 | h1) | ⟨g', hg, e⟩)
        · exact .inl h1
        · exact .inr ⟨g, List.mem_cons_self, List.mem_singleton.mp h1⟩
        · exact .inr ⟨g', List.mem_cons_of_mem _ hg, e⟩
      · rintro (h1 | ⟨g', hg, e⟩)
        · exact .inl (.inl h1)
        · rcases List.mem_cons.mp hg with z | hg
          · subst z
            exact .inl (.inr (List.mem_singleton.mpr e))
          · exact .inr ⟨g', hg, e⟩
theorem nodup_snoc {α : Type} {l : List α} {x : α} (h : l.Nodup) (hx : x ∉ l) : (l ++ [x]).Nodup :=
  List.nodup_append.mpr ⟨h, List.pairwise_singleton _ _, fun a ha b hb e => by
    rw [List.mem_singleton.mp hb] at e
    exact hx (e ▸ ha)⟩
theorem grow_nd (t w : List Nat) : ∀ (gs : List (List Nat)) (p : Nat) (L : List W), (L.map (·.1)).Nodup → ((grow t w gs p L).map (·.1)).Nodup
  | [], _, _, h => h
  | g :: gs, p, L, h => by
    refine grow_nd t w gs (p + 1) _ ?_
    split
    · exact h
    · rename_i hx
      rw [List.map_append]
      exact nodup_snoc h hx
theorem qq_nd (gs : List (List Nat)) (n : Nat) : ∀ k, ((qq gs n k).map (·.1)).Nodup
  | 0 => List.pairwise_singleton _ _
  | k + 1 => by
    show ((match (qq gs n k)[k]? with
      | none => qq gs n k
      | some (t, w) => grow t w gs 0 (qq gs n k)).map (fun x : W => x.1)).Nodup
    split
    · exact qq_nd gs n k
    · exact grow_nd _ _ _ _ _ (qq_nd gs n k)
/-- what the makers make -/
inductive Mk (gs : List (List Nat)) (n : Nat) : List Nat → Prop
  | still : Mk gs n (List.range n)
  | step {t g : List Nat} : Mk gs n t → g ∈ gs → Mk gs n (prod t g)
theorem Mk.isP {gs : List (List Nat)} {n : Nat} (hg : ∀ g ∈ gs, IsP n g) {t : List Nat} (h : Mk gs n t) : IsP n t := by
  induction h with
  | still => exact IsP.still n
  | step _ hm ih => exact ih.prod (hg _ hm)
theorem qq_mk (gs : List (List Nat)) (n : Nat) : ∀ k, ∀ t ∈ (qq gs n k).map (·.1), Mk gs n t
  | 0, t, h => by
    rw [List.mem_singleton.mp (show t ∈ [List.range n] from h)]
    exact .still
  | k + 1, t, h => by
    have ih := qq_mk gs n k
    have h' : t ∈ (match (qq gs n k)[k]? with
      | none => qq gs n k
      | some (t, w) => grow t w gs 0 (qq gs n k)).map (fun x : W => x.1) := h
    split at h'
    · exact ih t h'
    · rename_i t0 w0 e
      rcases (grow_keys t0 w0 gs 0 _ t).mp h' with z | ⟨g, hg, z⟩
      · exact ih t z
      · rw [z]
        exact .step (ih t0 (List.mem_map.mpr ⟨_, List.mem_of_getElem? e, rfl⟩)) hg
theorem qq_head (gs : List (List Nat)) (n k : Nat) : (List.range n, ([] : List Nat)) ∈ qq gs n k := by
  obtain ⟨M, e⟩ := qq_mono gs n (Nat.zero_le k)
  rw [e]
  exact List.mem_append.mpr (.inl (List.mem_singleton.mpr rfl))
/-- where the words are all gone through, they are all that is made -/
theorem qq_full {gs : List (List Nat)} {n k : Nat} (h : (qq gs n k).length ≤ k) : ∀ t, t ∈ (qq gs n k).map (·.1) ↔ Mk gs n t := fun t => by
  refine ⟨qq_mk gs n k t, fun m => ?_⟩
  induction m with
  | still => exact List.mem_map.mpr ⟨_, qq_head gs n k, rfl⟩
  | @step t g _ hg ih =>
    obtain ⟨⟨t', w'⟩, hm, e⟩ := List.mem_map.mp ih
    have e : t' = t := e
    subst e
    obtain ⟨i, hi, ei⟩ := List.getElem_of_mem hm
    -- position i was gone through at turn i
    have hk : i + 1 ≤ k := by omega
    obtain ⟨M, eM⟩ := qq_mono gs n hk
    obtain ⟨M0, eM0⟩ := qq_mono gs n (show i ≤ i + 1 by omega)
    by_cases hq : i < (qq gs n i).length
    · have g1 : (qq gs n i)[i]? = some (t', w') := by
        have z : (qq gs n k)[i]? = some (t', w') := by rw [List.getElem?_eq_getElem hi, ei]
        rw [eM, eM0, List.append_assoc, List.getElem?_append_left hq] at z
        exact z
      have g2 : qq gs n (i + 1) = grow t' w' gs 0 (qq gs n i) := by
        show (match (qq gs n i)[i]? with
          | none => qq gs n i
          | some (t, w) => grow t w gs 0 (qq gs n i)) = _
        rw [g1]
      rw [eM, List.map_append, List.mem_append]
      refine .inl ?_
      rw [g2]
      exact (grow_keys t' w' gs 0 _ _).mpr (.inr ⟨g, hg, rfl⟩)
    · have z := qq_end' gs n (show (qq gs n i).length ≤ i by omega) (show i ≤ k by omega)
      rw [z] at hi
      exact absurd hi hq
theorem nodup_len {α : Type} [DecidableEq α] : ∀ (l D : List α), l.Nodup → (∀ x ∈ l, x ∈ D) → l.length ≤ D.length
  | [], _, _, _ => Nat.zero_le _
  | x :: l, D, hn, hs => by
    obtain ⟨h1, h2⟩ := List.nodup_cons.mp hn
    have hx : x ∈ D := hs x List.mem_cons_self
    have ih := nodup_len l (D.erase x) h2 fun y hy => by
      have hne : y ≠ x := fun e => h1 (e ▸ hy)
      exact (List.mem_erase_of_ne hne).2 (hs y (List.mem_cons_of_mem _ hy))
    have e := List.length_erase_of_mem hx
    have hp : 0 < D.length := List.length_pos_of_mem hx
    show l.length + 1 ≤ D.length
    omega
/-- few turns are made: at most m -/
def Few (gs : List (List Nat)) (n m : Nat) : Prop := ∃ D : List (List Nat), D.length ≤ m ∧ ∀ t, Mk gs n t → t ∈ D
theorem Few.le {gs : List (List Nat)} {n m : Nat} (h : Few gs n m) {l : List (List Nat)} (hn : l.Nodup) (hl : ∀ t ∈ l, Mk gs n t) : l.length ≤ m := by
  obtain ⟨D, h1, h2⟩ := h
  exact Nat.le_trans (nodup_len l D hn fun t ht => h2 t (hl t ht)) h1
theorem Few.qq {gs : List (List Nat)} {n m : Nat} (h : Few gs n m) (k : Nat) : (qq gs n k).length ≤ m := by
  have z := h.le (qq_nd gs n k) (qq_mk gs n k)
  rw [List.length_map] at z
  exact z
end Lt

set_option Elab.async false
set_option linter.all false
set_option maxRecDepth 100000
set_option maxHeartbeats 4000000
namespace Lt
open PySem PySem.Spec PyProof.Rows L2
/-- the built-in names that the module leaves as they are -/
structure Bi (mg : Str → Option Value) : Prop where
  tuple : mg "tuple" = none
  list : mg "list" = none
  range : mg "range" = none
  len : mg "len" = none
  sorted : mg "sorted" = none
  enumerate : mg "enumerate" = none
  isinstance : mg "isinstance" = none
  all : mg "all" = none
  set : mg "set" = none
  int : mg "int" = none
  bool : mg "bool" = none
  str : mg "str" = none
/-! ### comprehensions -/
section
variable {K : PySem.W.Frag} {te : TE} {vs : List Nat} {σ : L2.St} {H1 : Hp} {D : Addr} {Qd : Hp → Prop} {β : Type} {j : Nat}
/-- what a comprehension's list holds after i turns -/
def Cm (H1 : Hp) (D : Addr) (R : Hp → V → β → Prop) (ys : List β) (i : Nat) (H : Hp) : Prop := Same H1 H ∧ ∃ zs, H D = some (.lst zs) ∧ Paired (R H) zs (ys.take i) ∧ zs.length ≤ i
theorem paired_mono {α γ : Type} {R R' : α → γ → Prop} (h : ∀ a b, R a b → R' a b) : ∀ {xs : List α} {ys : List γ}, Paired R xs ys → Paired R' xs ys
  | _, _, .nil => .nil
  | _, _, .cons r t => .cons (h _ _ r) (paired_mono h t)
theorem cm_turn {R : Hp → V → β → Prop} {ys : List β} {i : Nat} {H : Hp} {σ2 : L2.St} (mono : ∀ H H' v b, Tm H H' → R H v b → R H' v b) (hD : H1 D = none) (p : Cm H1 D R ys i H) (hi : i < 100000) {b : β} (hb : ys[i]? = some b)
    (he : ∀ H, Same H1 H → ∀ Q : VK, (∀ v H', Same H H' → R H' v b → Q v H') → te σ2 H Q) :
    te σ2 H fun y H4 => ∃ acc, H4 D = some (.lst acc) ∧ acc.length < sizeLine ∧ Cm H1 D R ys (i + 1) (upd H4 D (.lst (acc ++ [y]))) := by
  obtain ⟨sm, zs, hz, pr, hl⟩ := p
  refine he H sm _ fun v H4 s4 r => ?_
  have h4 := s4 _ _ hz
  have t4 : Tm H4 (upd H4 D (.lst (zs ++ [v]))) := Tm.lst h4
  refine ⟨zs, h4, Nat.lt_of_le_of_lt hl (Nat.lt_of_lt_of_le hi (by decide)), same_mut (sm.trans s4) hD, zs ++ [v], upd_same, ?_, by rw [List.length_append]; show zs.length + 1 ≤ i + 1; omega⟩
  rw [List.take_add_one, hb]
  exact Paired.app (paired_mono (fun a b q => mono _ _ _ _ ((Tm.of s4).trans t4) q) pr) (Paired.one (mono _ _ _ _ t4 r))
theorem lc_tupM {a : Addr} {xs : List V} (R : Hp → V → β → Prop) (ys : List β) (mono : ∀ H H' v b, Tm H H' → R H v b → R H' v b) (hx : SqT K H1 a xs) (hxK : ∀ H, Same H1 H → SqT K H a xs) (hz : xs.length ≤ 100000) (hy : ys.length = xs.length) (hD : H1 D = none)
    (hw : ∀ x, wipe ((wipe σ vs).set j (some x)) vs = wipe σ vs)
    (he : ∀ (i : Nat) (x : V) (b : β), xs[i]? = some x → ys[i]? = some b → ∀ H, Same H1 H → ∀ Q : VK, (∀ v H', Same H H' → R H' v b → Q v H') → te ((wipe σ vs).set j (some x)) H Q)
    (hd : ∀ H zs, Same H1 H → H D = some (.lst zs) → Paired (R H) zs ys → Qd H) :
    ∃ W : Nat → Nat → Hp → Prop, (∃ m, W 0 m (upd H1 D (.lst []))) ∧ ∀ i m H, W i m H →
      ((Itt K a).stop i H ∧ Qd H) ∨ ((Itt K a).go i H ∧ ∃ Nx : Hp → Prop, (∀ H', Nx H' → ∃ m', m' < m ∧ W (i + 1) m' H') ∧ ∀ x H', (Itt K a).yld i H x H' → gName j x (wipe σ vs) H' fun σ2 H2 => wipe σ2 vs = wipe σ vs ∧ tYes σ2 H2 fun b H3 =>
        if b = true then te σ2 H3 fun y H4 => ∃ acc, H4 D = some (.lst acc) ∧ acc.length < sizeLine ∧ Nx (upd H4 D (.lst (acc ++ [y]))) else Nx H3) :=
  lc_tup (xs := xs) (Cm H1 D R ys) ⟨same_new hD, [], upd_same, .nil, Nat.le_refl _⟩ (fun i H _ p => hxK H p.1)
    (fun i x H hi p => ⟨hw x, iteT (B := Cm H1 D R ys (i + 1) H) (by
      have hl := (List.getElem?_eq_some_iff.mp hi).1
      have hb : ys[i]? = some (ys[i]'(by omega)) := List.getElem?_eq_getElem (by omega)
      exact cm_turn mono hD p (by omega) hb (he i x _ hi hb))⟩)
    (fun H p => by
      obtain ⟨sm, zs, h1, pr, _⟩ := p
      rw [← hy, List.take_length] at pr
      exact hd H zs sm h1 pr)
theorem lc_listM {a : Addr} {xs : List V} (R : Hp → V → β → Prop) (ys : List β) (mono : ∀ H H' v b, Tm H H' → R H v b → R H' v b) (hxK : ∀ H, Same H1 H → SqL K H a xs) (hz : xs.length ≤ 100000) (hy : ys.length = xs.length) (hD : H1 D = none)
    (hw : ∀ x, wipe ((wipe σ vs).set j (some x)) vs = wipe σ vs)
    (he : ∀ (i : Nat) (x : V) (b : β), xs[i]? = some x → ys[i]? = some b → ∀ H, Same H1 H → ∀ Q : VK, (∀ v H', Same H H' → R H' v b → Q v H') → te ((wipe σ vs).set j (some x)) H Q)
    (hd : ∀ H zs, Same H1 H → H D = some (.lst zs) → Paired (R H) zs ys → Qd H) :
    ∃ W : Nat → Nat → Hp → Prop, (∃ m, W 0 m (upd H1 D (.lst []))) ∧ ∀ i m H, W i m H →
      ((Itl K a).stop i H ∧ Qd H) ∨ ((Itl K a).go i H ∧ ∃ Nx : Hp → Prop, (∀ H', Nx H' → ∃ m', m' < m ∧ W (i + 1) m' H') ∧ ∀ x H', (Itl K a).yld i H x H' → gName j x (wipe σ vs) H' fun σ2 H2 => wipe σ2 vs = wipe σ vs ∧ tYes σ2 H2 fun b H3 =>
        if b = true then te σ2 H3 fun y H4 => ∃ acc, H4 D = some (.lst acc) ∧ acc.length < sizeLine ∧ Nx (upd H4 D (.lst (acc ++ [y]))) else Nx H3) :=
  lc_list (xs := xs) (Cm H1 D R ys) ⟨same_new hD, [], upd_same, .nil, Nat.le_refl _⟩ (fun i H _ p => hxK H p.1)
    (fun i x H hi p => ⟨hw x, iteT (B := Cm H1 D R ys (i + 1) H) (by
      have hl := (List.getElem?_eq_some_iff.mp hi).1
      have hb : ys[i]? = some (ys[i]'(by omega)) := List.getElem?_eq_getElem (by omega)
      exact cm_turn mono hD p (by omega) hb (he i x _ hi hb))⟩)
    (fun H p => by
      obtain ⟨sm, zs, h1, pr, _⟩ := p
      rw [← hy, List.take_length] at pr
      exact hd H zs sm h1 pr)
theorem lc_rangeM {n : Nat} (R : Hp → V → β → Prop) (ys : List β) (mono : ∀ H H' v b, Tm H H' → R H v b → R H' v b) (hz : n ≤ 100000) (hy : ys.length = n) (hD : H1 D = none)
    (hw : ∀ x, wipe ((wipe σ vs).set j (some x)) vs = wipe σ vs)
    (he : ∀ (i : Nat) (b : β), i < n → ys[i]? = some b → ∀ H, Same H1 H → ∀ Q : VK, (∀ v H', Same H H' → R H' v b → Q v H') → te ((wipe σ vs).set j (some (.int ((0 : Int) + (i : Nat))))) H Q)
    (hd : ∀ H zs, Same H1 H → H D = some (.lst zs) → Paired (R H) zs ys → Qd H) :
    ∃ W : Nat → Nat → Hp → Prop, (∃ m, W 0 m (upd H1 D (.lst []))) ∧ ∀ i m H, W i m H →
      ((Itr 0 n).stop i H ∧ Qd H) ∨ ((Itr 0 n).go i H ∧ ∃ Nx : Hp → Prop, (∀ H', Nx H' → ∃ m', m' < m ∧ W (i + 1) m' H') ∧ ∀ x H', (Itr 0 n).yld i H x H' → gName j x (wipe σ vs) H' fun σ2 H2 => wipe σ2 vs = wipe σ vs ∧ tYes σ2 H2 fun b H3 =>
        if b = true then te σ2 H3 fun y H4 => ∃ acc, H4 D = some (.lst acc) ∧ acc.length < sizeLine ∧ Nx (upd H4 D (.lst (acc ++ [y]))) else Nx H3) :=
  lc_range (lo := 0) (n := n) (Cm H1 D R ys) ⟨same_new hD, [], upd_same, .nil, Nat.le_refl _⟩
    (fun i H hi p => ⟨hw _, iteT (B := Cm H1 D R ys (i + 1) H) (by
      have hb : ys[i]? = some (ys[i]'(by omega)) := List.getElem?_eq_getElem (by omega)
      exact cm_turn mono hD p (by omega) hb (he i _ hi hb))⟩)
    (fun H p => by
      obtain ⟨sm, zs, h1, pr, _⟩ := p
      rw [← hy, List.take_length] at pr
      exact hd H zs sm h1 pr)
end
/-- a new tuple of numbers -/
theorem tn_of {H : Hp} {zs : List V} {p : Addr} {t : List Nat} (h : H p = some (.tup zs)) (e : zs = nIs t) : TK H (.ref p) t := ⟨p, rfl, by rw [h, e]⟩
def RN (_ : Hp) (v : V) (n : Nat) : Prop := v = nI n
theorem RN.all {H : Hp} : ∀ {zs : List V} {t : List Nat}, Paired (RN H) zs t → zs = nIs t
  | _, _, .nil => rfl
  | _, _, .cons r t => by rw [(show _ = nI _ from r), RN.all t]; rfl
end Lt

set_option Elab.async false
set_option linter.all false
set_option maxRecDepth 100000
namespace Lt
open PySem PySem.Spec PyProof.Rows L2
def topS (i : Nat) : Stmt := PySem.Challenge.pw_lockturns_k03_whole_rings.main.body.getD i (.Pass ⟨0, 0, 0, 0⟩)
abbrev s_LockError : Stmt := topS 1
abbrev s_BadLock : Stmt := topS 2
abbrev s_TooMany : Stmt := topS 3
abbrev s_is_number : Stmt := topS 6
abbrev s_are_numbers : Stmt := topS 7
abbrev s_is_permutation : Stmt := topS 8
abbrev s_still_of : Stmt := topS 9
abbrev s_product_of : Stmt := topS 10
abbrev s_back_of : Stmt := topS 11
abbrev s_bracket_of : Stmt := topS 12
abbrev s_words_of : Stmt := topS 13
abbrev s_group_of : Stmt := topS 14
abbrev s_all_turns : Stmt := topS 19
abbrev s_check_lock : Stmt := topS 20
abbrev s_made_words : Stmt := topS 21
abbrev s_is_turn : Stmt := topS 22
abbrev s_are_turns : Stmt := topS 23
abbrev s_lower : Stmt := topS 25
abbrev s_is_dying : Stmt := topS 26
abbrev s_ring : Stmt := topS 27
abbrev s_shows_ring : Stmt := topS 28
abbrev s_brackets_made : Stmt := topS 29
abbrev s_led_into : Stmt := topS 30
abbrev s_fading_turns : Stmt := topS 31
abbrev s_law_taken : Stmt := topS 33
abbrev s_law_pick : Stmt := topS 34
abbrev s_law_is : Stmt := topS 35
abbrev s_law_permutation : Stmt := topS 36
abbrev s_law_behind : Stmt := topS 37
abbrev s_law_back : Stmt := topS 38
abbrev s_law_swap : Stmt := topS 39
abbrev s_law_span : Stmt := topS 40
abbrev s_law_known : Stmt := topS 41
abbrev s_law_lock : Stmt := topS 42
abbrev s_law_terms : Stmt := topS 43
abbrev s_law_shown : Stmt := topS 44
abbrev s_law : Stmt := topS 45
end Lt

set_option Elab.async false
set_option linter.all false
set_option maxRecDepth 100000
set_option maxHeartbeats 4000000
namespace Lt
open PySem PySem.Spec PyProof.Rows L2
section
variable {P : Program} {w : World} {K : PySem.W.Frag} {mg : Str → Option Value} {base : Heap}
/-! ### product_of -/
def spProd : Sp := fun vs H Q _ => ∃ (a b : V) (x y : List Nat), vs = [a, b] ∧ TN H a x ∧ TN H b y ∧ (∀ i ∈ x, i < y.length) ∧ x.length ≤ 1000 ∧ ∀ v H', Same H H' → TK H' v (prod x y) → Q v H'
theorem sc_product_of : FnScope ["one", "other", "place"] ["one", "other"] (defScope s_product_of) := ⟨rfl, rfl, rfl, by decide +kernel, rfl, by decide +kernel, by decide +kernel⟩
theorem has_product_of (T : Top K mg "product_of" s_product_of ["one", "other"]) (B : Bi mg) : Has P w K mg base CX0 1 "product_of" ["one", "other"] spProd := by
  refine T.ok sc_product_of (fun vs H Q E h => ?_) (fun f cdv A outer s H vs Q E hr h => ?_)
  · obtain ⟨a, b, x, y, rfl, _⟩ := h
    rfl
  · obtain ⟨a, b, x, y, rfl, ha, hb, hxy, hx, q⟩ := h
    refine ⟨_, pss_one (ps_ret (pe_tupleOf (by rfl) B.tuple (pe_lc (own := [("place", 2)]) (g := gName 2) (te := tOp (rIxT K) (tVar 1) (tVar 2)) (by rfl) sc_product_of.nd (pi_tup (pv 0)) (blkOk_by (own := [("place", 2)]) (N := ["one", "other", "place"]) (sc := defScope s_product_of) (by decide +kernel))
      (fun _ _ _ _ _ => pg_name (i := 2) sc_product_of.nd rfl (Or.inl rfl)) (fun _ _ _ _ _ => pts_nil) (fun _ _ _ _ _ => pe_ix ix_tup (pv 1) (pv 2) (fun _ _ => rfl))))), ?_⟩
    obtain ⟨pa, rfl, ea⟩ := ha
    obtain ⟨pb, rfl, eb⟩ := hb
    refine ⟨_, rfl, pa, rfl, ⟨_, ea.sq⟩, fun D hD => lc_tupM RN (prod x y) (fun _ _ _ _ _ r => r) (ea.sq) (fun H' sm => (ea.sm sm).sq) (by rw [nIs_len]; omega) (by rw [prod_len, nIs_len]) hD (fun x => rfl) (fun i v n hi hn H' sm Q' q' => ?_) (fun H' zs sm hz pr => ?_)⟩
    · rw [nIs_get] at hi
      obtain ⟨m, hm, rfl⟩ := Option.map_eq_some_iff.mp hi
      have hlt := hxy m (List.mem_of_getElem? hm)
      have e : n = y.getD m 0 := by
        have z : (prod x y)[i]? = some (y.getD m 0) := by
          unfold prod
          rw [List.getElem?_map, hm]
          rfl
        exact Option.some.inj (hn.symm.trans z)
      refine ⟨_, rfl, _, rfl, pb, _, _, nI n, rfl, rfl, (eb.sm sm).sq, atI_nat ?_, q' _ _ (Same.refl _) rfl⟩
      rw [nIs_get, e, List.getD_eq_getElem?_getD, List.getElem?_eq_getElem hlt]
      rfl
    · refine .inl ⟨D, zs, rfl, SqL.of hz, fun p hp => q _ _ (sm.trans (same_new hp)) (tn_of upd_same (RN.all pr))⟩
/-! ### still_of -/
def spStill : Sp := fun vs H Q _ => ∃ (n : Nat), vs = [nI n] ∧ n ≤ 1000 ∧ ∀ v H', Same H H' → TK H' v (List.range n) → Q v H'
theorem sc_still_of : FnScope ["size"] ["size"] (defScope s_still_of) := ⟨rfl, rfl, rfl, by decide +kernel, rfl, by decide +kernel, by decide +kernel⟩
theorem rgV_nat (n : Nat) : rgV 0 (n : Int) = nIs (List.range n) := by
  unfold rgV nIs
  have e : ((n : Int) - 0).toNat = n := by omega
  rw [e]
  refine List.map_congr_left fun i _ => ?_
  show V.int (0 + (i : Int)) = V.int (i : Int)
  rw [Int.zero_add]
theorem has_still_of (T : Top K mg "still_of" s_still_of ["size"]) (B : Bi mg) : Has P w K mg base CX0 1 "still_of" ["size"] spStill := by
  refine T.ok sc_still_of (fun vs H Q E h => ?_) (fun f cdv A outer s H vs Q E hr h => ?_)
  · obtain ⟨n, rfl, _⟩ := h
    rfl
  · obtain ⟨n, rfl, hn, q⟩ := h
    refine ⟨_, pss_one (ps_ret (pe_tupRg (by rfl) (by rfl) B.tuple (prg_1 (by rfl) B.range (pv 0)))), ?_⟩
    refine ⟨_, rfl, _, rfl, .of_le (by omega) (by omega) (by omega) (by omega), fun p hp => q _ _ (same_new hp) (tn_of upd_same (rgV_nat n))⟩
end
end Lt

set_option Elab.async false
set_option linter.all false
set_option maxRecDepth 100000
set_option maxHeartbeats 4000000
namespace Lt
open PySem PySem.Spec PyProof.Rows L2
/-! ### any plain value -/
mutual
inductive Rp (H : Hp) : V → PyData → Prop
  | non : Rp H .non .none
  | bl (b : Bool) : Rp H (.bl b) (.bool b)
  | int (i : Int) : Rp H (.int i) (.int i)
  | str (x : Str) : Rp H (.str x) (.str x)
  | lst {a : Addr} {xs : List V} {ds : List PyData} : H a = some (.lst xs) → RpAll H xs ds → Rp H (.ref a) (.list ds)
  | tup {a : Addr} {xs : List V} {ds : List PyData} : RT H a xs → RpAll H xs ds → Rp H (.ref a) (.tuple ds)
inductive RpAll (H : Hp) : List V → List PyData → Prop
  | nil : RpAll H [] []
  | cons {v : V} {vs : List V} {d : PyData} {ds : List PyData} : Rp H v d → RpAll H vs ds → RpAll H (v :: vs) (d :: ds)
end
mutual
theorem Rp.same {H H' : Hp} (e : Same H H') : ∀ (d : PyData) (v : V), Rp H v d → Rp H' v d
  | .none, _, .non => .non
  | .bool _, _, .bl b => .bl b
  | .int _, _, .int i => .int i
  | .str _, _, .str i => .str i
  | .list ds, _, .lst h a => .lst (e _ _ h) (RpAll.same e ds _ a)
  | .tuple ds, _, .tup h a => .tup (h.sm e) (RpAll.same e ds _ a)
theorem RpAll.same {H H' : Hp} (e : Same H H') : ∀ (ds : List PyData) (vs : List V), RpAll H vs ds → RpAll H' vs ds
  | [], _, .nil => .nil
  | d :: ds, _, .cons r t => .cons (Rp.same e d _ r) (RpAll.same e ds _ t)
end
mutual
theorem Rp.dp {K : PySem.W.Frag} {H : Hp} : ∀ (d : PyData) (v : V), Rp H v d → Dp K H v d
  | .none, _, .non => .non
  | .bool _, _, .bl b => .bl b
  | .int _, _, .int i => .int i
  | .str _, _, .str i => .str i
  | .list ds, _, .lst h a => .lst (SqL.of h) (RpAll.dp ds _ a)
  | .tuple ds, _, .tup h a => .tup h.sq (RpAll.dp ds _ a)
theorem RpAll.dp {K : PySem.W.Frag} {H : Hp} : ∀ (ds : List PyData) (vs : List V), RpAll H vs ds → DpAll K H vs ds
  | [], _, .nil => .nil
  | d :: ds, _, .cons r t => .cons (Rp.dp d _ r) (RpAll.dp ds _ t)
end
theorem RpAll.get {H : Hp} : ∀ {ds : List PyData} {vs : List V} {i : Nat} {v : V}, RpAll H vs ds → vs[i]? = some v → ∃ d, ds[i]? = some d ∧ Rp H v d
  | _, _, _, _, .nil, e => by simp at e
  | _, _, 0, _, .cons r _, e => by
    have e := Option.some.inj e
    subst e
    exact ⟨_, rfl, r⟩
  | _, _, i + 1, v, .cons _ t, e => by
    obtain ⟨d, h1, h2⟩ := RpAll.get (i := i) (v := v) t (by simpa using e)
    exact ⟨d, by simpa using h1, h2⟩
theorem RpAll.len {H : Hp} : ∀ {ds : List PyData} {vs : List V}, RpAll H vs ds → vs.length = ds.length
  | _, _, .nil => rfl
  | _, _, .cons _ t => by rw [List.length_cons, List.length_cons, RpAll.len t]
theorem rp_nats {H : Hp} : ∀ t : List Nat, RpAll H (nIs t) (t.map dN)
  | [] => .nil
  | n :: t => .cons (.int _) (rp_nats t)
theorem TN.rp {H : Hp} {v : V} {t : List Nat} (h : TN H v t) : Rp H v (dT t) := by
  obtain ⟨a, rfl, ha⟩ := h
  exact .tup ha (rp_nats t)
theorem TNs.rp {H : Hp} : ∀ {xs : List V} {ts : List (List Nat)}, Paired (TN H) xs ts → RpAll H xs (ts.map dT)
  | _, _, .nil => .nil
  | _, _, .cons r t => .cons r.rp (TNs.rp t)
theorem TT.rp {H : Hp} {v : V} {ts : List (List Nat)} (h : TT H v ts) : Rp H v (.tuple (ts.map dT)) := by
  obtain ⟨a, xs, rfl, ha, p⟩ := h
  exact .tup (.inl ha) (TNs.rp p)
def tyN : PyData → String
  | .none => "NoneType"
  | .bool _ => "bool"
  | .int _ => "int"
  | .str _ => "str"
  | .list _ => "list"
  | .tuple _ => "tuple"
  | .dict _ => "dict"
theorem rp_ty {K : PySem.W.Frag} {H : Hp} {v : V} {d : PyData} (h : Rp H v d) : TyX K H v (.type (tyN d)) := by
  cases h with
  | non => exact .base .non
  | bl b => exact .base (.bl b)
  | int b => exact .base (.int b)
  | str b => exact .base (.str b)
  | lst h _ => exact .base (.lst h)
  | tup h _ =>
    rcases h with h | ⟨o, h⟩
    · exact .base (.tup h)
    · exact .fTuple h
def isIntB : PyData → Bool
  | .int _ => true
  | .bool _ => true
  | _ => false
def isBl : PyData → Bool
  | .bool _ => true
  | _ => false
def isTup : PyData → Bool
  | .tuple _ => true
  | _ => false
def isLst : PyData → Bool
  | .list _ => true
  | _ => false
def isStr : PyData → Bool
  | .str _ => true
  | _ => false
def isNum : PyData → Bool
  | .int _ => true
  | _ => false
theorem kit_int : ∀ d : PyData, kitB (tyN d) "int" = some (isIntB d)
  | .none => (by decide +kernel : kitB "NoneType" "int" = some false)
  | .bool _ => (by decide +kernel : kitB "bool" "int" = some true)
  | .int _ => (by decide +kernel : kitB "int" "int" = some true)
  | .str _ => (by decide +kernel : kitB "str" "int" = some false)
  | .list _ => (by decide +kernel : kitB "list" "int" = some false)
  | .tuple _ => (by decide +kernel : kitB "tuple" "int" = some false)
  | .dict _ => (by decide +kernel : kitB "dict" "int" = some false)
theorem kit_bool : ∀ d : PyData, kitB (tyN d) "bool" = some (isBl d)
  | .none => (by decide +kernel : kitB "NoneType" "bool" = some false)
  | .bool _ => (by decide +kernel : kitB "bool" "bool" = some true)
  | .int _ => (by decide +kernel : kitB "int" "bool" = some false)
  | .str _ => (by decide +kernel : kitB "str" "bool" = some false)
  | .list _ => (by decide +kernel : kitB "list" "bool" = some false)
  | .tuple _ => (by decide +kernel : kitB "tuple" "bool" = some false)
  | .dict _ => (by decide +kernel : kitB "dict" "bool" = some false)
theorem kit_tup : ∀ d : PyData, kitB (tyN d) "tuple" = some (isTup d)
  | .none => (by decide +kernel : kitB "NoneType" "tuple" = some false)
  | .bool _ => (by decide +kernel : kitB "bool" "tuple" = some false)
  | .int _ => (by decide +kernel : kitB "int" "tuple" = some false)
  | .str _ => (by decide +kernel : kitB "str" "tuple" = some false)
  | .list _ => (by decide +kernel : kitB "list" "tuple" = some false)
  | .tuple _ => (by decide +kernel : kitB "tuple" "tuple" = some true)
  | .dict _ => (by decide +kernel : kitB "dict" "tuple" = some false)
theorem kit_lst : ∀ d : PyData, kitB (tyN d) "list" = some (isLst d)
  | .none => (by decide +kernel : kitB "NoneType" "list" = some false)
  | .bool _ => (by decide +kernel : kitB "bool" "list" = some false)
  | .int _ => (by decide +kernel : kitB "int" "list" = some false)
  | .str _ => (by decide +kernel : kitB "str" "list" = some false)
  | .list _ => (by decide +kernel : kitB "list" "list" = some true)
  | .tuple _ => (by decide +kernel : kitB "tuple" "list" = some false)
  | .dict _ => (by decide +kernel : kitB "dict" "list" = some false)
theorem kit_str : ∀ d : PyData, kitB (tyN d) "str" = some (isStr d)
  | .none => (by decide +kernel : kitB "NoneType" "str" = some false)
  | .bool _ => (by decide +kernel : kitB "bool" "str" = some false)
  | .int _ => (by decide +kernel : kitB "int" "str" = some false)
  | .str _ => (by decide +kernel : kitB "str" "str" = some true)
  | .list _ => (by decide +kernel : kitB "list" "str" = some false)
  | .tuple _ => (by decide +kernel : kitB "tuple" "str" = some false)
  | .dict _ => (by decide +kernel : kitB "dict" "str" = some false)
theorem rr_ty (n : String) : RelV (.ty n) (.type n) := rfl
section
variable {P : Program} {w : World} {K : PySem.W.Frag} {mg : Str → Option Value} {base : Heap}
/-! ### is_number -/
def spNum : Sp := fun vs H Q _ => ∃ (v : V) (d : PyData), vs = [v] ∧ Rp H v d ∧ Q (.bl (isNum d)) H
theorem sc_is_number : FnScope ["value"] ["value"] (defScope s_is_number) := ⟨rfl, rfl, rfl, by decide +kernel, rfl, by decide +kernel, by decide +kernel⟩
theorem has_is_number (T : Top K mg "is_number" s_is_number ["value"]) (B : Bi mg) : Has P w K mg base CX0 1 "is_number" ["value"] spNum := by
  refine T.ok sc_is_number (fun vs H Q E h => ?_) (fun f cdv A outer s H vs Q E hr h => ?_)
  · obtain ⟨v, d, rfl, _⟩ := h
    rfl
  · obtain ⟨v, d, rfl, hd, q⟩ := h
    refine ⟨_, pss_one (ps_ret (pe_and (pe_callB call_isi (by rfl) B.isinstance PyProof.Rows.boot_isinstance (pa_cons (pv 0) (pa_cons (pe_bltn (by rfl) B.int PyProof.Rows.boot_int (rr_ty "int")) pa_nil)))
      (pe_one (pe_not (pe_callB call_isi (by rfl) B.isinstance PyProof.Rows.boot_isinstance (pa_cons (pv 0) (pa_cons (pe_bltn (by rfl) B.bool PyProof.Rows.boot_bool (rr_ty "bool")) pa_nil))))))), ?_⟩
    refine ⟨_, rfl, v, .ty "int", _, _, isIntB d, rfl, .ty _, rp_ty hd, kit_ty (kit_int d), isIntB d, rfl, ite2 (fun h => ?_) (fun h => ?_)⟩
    · refine ⟨_, rfl, v, .ty "bool", _, _, isBl d, rfl, .ty _, rp_ty hd, kit_ty (kit_bool d), isBl d, rfl, ?_⟩
      have e : (!isBl d) = isNum d := by cases d <;> first | rfl | cases h
      show Q (.bl (!isBl d)) H
      rw [e]
      exact q
    · have e : false = isNum d := by cases d <;> first | rfl | exact absurd rfl h
      show Q (.bl false) H
      rw [e]
      exact q
/-! ### are_numbers -/
def isNums : PyData → Bool
  | .tuple ds => ds.all isNum
  | _ => false
def spNums : Sp := fun vs H Q _ => ∃ (v : V) (d : PyData), vs = [v] ∧ Rp H v d ∧ (∀ ds, d = .tuple ds → ds.length ≤ 1000) ∧ ∀ H', Same H H' → Q (.bl (isNums d)) H'
theorem sc_are_numbers : FnScope ["value", "part"] ["value"] (defScope s_are_numbers) := ⟨rfl, rfl, rfl, by decide +kernel, rfl, by decide +kernel, by decide +kernel⟩
theorem bls_of : ∀ {zs : List V} {bs : List Bool}, Paired (fun v b => v = V.bl b) zs bs → zs = bs.map V.bl
  | _, _, .nil => rfl
  | _, _, .cons r t => by rw [r, bls_of t]; rfl
theorem has_are_numbers (T : Top K mg "are_numbers" s_are_numbers ["value"]) (B : Bi mg) (hN : Has P w K mg base CX0 1 "is_number" ["value"] spNum) : Has P w K mg base CX0 2 "are_numbers" ["value"] spNums := by
  refine T.ok sc_are_numbers (fun vs H Q E h => ?_) (fun f cdv A outer s H vs Q E hr h => ?_)
  · obtain ⟨v, d, rfl, _⟩ := h
    rfl
  · obtain ⟨v, d, rfl, hd, hl, q⟩ := h
    refine ⟨_, pss_one (ps_ret (pe_and (pe_callB call_isi (by rfl) B.isinstance PyProof.Rows.boot_isinstance (pa_cons (pv 0) (pa_cons (pe_bltn (by rfl) B.tuple PyProof.Rows.boot_tuple (rr_ty "tuple")) pa_nil)))
      (pe_one (pe_callB (cr_all (by rfl)) (by rfl) B.all PyProof.Rows.boot_all (pa_cons (pe_lc (own := [("part", 1)]) (g := gName 1) (te := tCall spNum [] E0 (tCons (tVar 1) tNil)) (by rfl) sc_are_numbers.nd (pi_tup (pv 0)) (blkOk_by (own := [("part", 1)]) (N := ["value", "part"]) (sc := defScope s_are_numbers) (by decide +kernel))
        (fun _ _ _ _ _ => pg_name (i := 1) sc_are_numbers.nd rfl (Or.inl rfl)) (fun _ _ _ _ _ => pts_nil) (fun _ _ _ _ _ => pe_has hN hr (by rfl) (pa_cons (pv 1) pa_nil))) pa_nil))))), ?_⟩
    refine ⟨_, rfl, v, .ty "tuple", _, _, isTup d, rfl, .ty _, rp_ty hd, kit_ty (kit_tup d), isTup d, rfl, ite2 (fun h => ?_) (fun h => ?_)⟩
    · cases hd with
      | @tup a xs ds ha hx =>
        have hlen := hl ds rfl
        have hxl := hx.len
        refine ⟨_, rfl, a, rfl, ⟨_, ha.sq⟩, fun D hD => lc_tupM (fun _ v b => v = V.bl b) (ds.map isNum) (fun _ _ _ _ _ r => r) (ha.sq) (fun H' sm => (ha.sm sm).sq) (by omega) (by rw [List.length_map, hxl]) hD (fun x => rfl) (fun i v n hi hn H' sm Q' q' => ?_) (fun H' zs sm hz pr => ?_)⟩
        · obtain ⟨d, e1, e2⟩ := hx.get hi
          rw [List.getElem?_map, e1] at hn
          have hn : isNum d = n := Option.some.inj hn
          exact ⟨_, rfl, v, d, rfl, Rp.same sm d _ e2, q' _ _ (Same.refl _) (by rw [hn])⟩
        · refine ⟨D, ds.map isNum, rfl, SqL.of (by rw [hz, bls_of pr]), ?_⟩
          have e : (ds.map isNum).all id = isNums (.tuple ds) := by rw [List.all_map]; rfl
          rw [e]
          exact q _ sm
      | non => cases h
      | bl => cases h
      | int => cases h
      | str => cases h
      | lst => cases h
    · have e : false = isNums d := by cases d <;> first | rfl | exact absurd rfl h
      show Q (.bl false) H
      rw [e]
      exact q _ (Same.refl _)
/-! ### is_permutation -/
def numOf : PyData → Int
  | .int i => i
  | _ => 0
def numsOf : PyData → List Int
  | .tuple ds => ds.map numOf
  | _ => []
def rangeI (n : Nat) : List Int := (List.range n).map Int.ofNat
def isPermD (d : PyData) (n : Nat) : Bool := isNums d && decide ((numsOf d).Perm (rangeI n))
def spPerm : Sp := fun vs H Q _ => ∃ (v : V) (d : PyData) (n : Nat), vs = [v, nI n] ∧ Rp H v d ∧ (∀ ds, d = .tuple ds → ds.length < 64) ∧ n < 64 ∧ ∀ H', Same H H' → Q (.bl (isPermD d n)) H'
theorem sc_is_permutation : FnScope ["value", "size"] ["value", "size"] (defScope s_is_permutation) := ⟨rfl, rfl, rfl, by decide +kernel, rfl, by decide +kernel, by decide +kernel⟩
theorem nums_vals {H : Hp} : ∀ {ds : List PyData} {xs : List V}, RpAll H xs ds → ds.all isNum = true → xs = (ds.map numOf).map V.int
  | _, _, .nil, _ => rfl
  | d :: ds, _, .cons r t, h => by
    rw [List.all_cons, Bool.and_eq_true] at h
    cases r with
    | int i => rw [nums_vals t h.2]; rfl
    | non => cases h.1
    | bl => cases h.1
    | str => cases h.1
    | lst => cases h.1
    | tup => cases h.1
theorem rgV_int (n : Nat) : rgV 0 (n : Int) = (rangeI n).map V.int := by
  unfold rgV rangeI
  have e : ((n : Int) - 0).toNat = n := by omega
  rw [e, List.map_map]
  refine List.map_congr_left fun i _ => ?_
  show V.int (0 + (i : Int)) = V.int (i : Int)
  rw [Int.zero_add]
theorem rangeI_sorted (n : Nat) : (rangeI n).Pairwise (· ≤ ·) := by
  unfold rangeI
  rw [List.pairwise_map]
  exact List.Pairwise.imp (fun {a b} h => Int.ofNat_le.mpr (Nat.le_of_lt h)) List.pairwise_lt_range
theorem dp_ints {K : PySem.W.Frag} {H : Hp} : ∀ t : List Int, DpAll K H (t.map V.int) (t.map PyData.int)
  | [] => .nil
  | n :: t => .cons (.int _) (dp_ints t)
theorem depth_ints : ∀ t : List Int, PyData.depthAll (t.map PyData.int) = 0
  | [] => rfl
  | n :: t => by
    show max (PyData.depth (.int n)) (PyData.depthAll (t.map PyData.int)) = 0
    rw [depth_ints t]
    rfl
theorem can_ints : ∀ t : List Int, PyData.canLayAll0 (t.map PyData.int) = true
  | [] => rfl
  | n :: t => by
    show (PyData.canLay0 (.int n) && PyData.canLayAll0 (t.map PyData.int)) = true
    rw [can_ints t]
    rfl
theorem sh_ints (t : List Int) : SeqAt.shaped (.list (t.map PyData.int)) = true := by
  show (PyData.canLayAll0 (t.map PyData.int) && decide (PyData.depthAll (t.map PyData.int) + 1 ≤ 64)) = true
  rw [can_ints, depth_ints]
  rfl
theorem eqv_ints (s t : List Int) : PyData.eqv (.list (s.map PyData.int)) (.list (t.map PyData.int)) = decide (s = t) := by
  show PyData.eqvAll (s.map PyData.int) (t.map PyData.int) = _
  refine eqvAll_map (fun x y => ?_) s t
  show (x == y) = decide (x = y)
  by_cases e : x = y
  · subst e; simp
  · rw [decide_eq_false e]
    exact beq_eq_false_iff_ne.mpr e
theorem has_is_permutation (T : Top K mg "is_permutation" s_is_permutation ["value", "size"]) (B : Bi mg) (hN : Has P w K mg base CX0 2 "are_numbers" ["value"] spNums) : Has P w K mg base CX0 3 "is_permutation" ["value", "size"] spPerm := by
  refine T.ok sc_is_permutation (fun vs H Q E h => ?_) (fun f cdv A outer s H vs Q E hr h => ?_)
  · obtain ⟨v, d, n, rfl, _⟩ := h
    rfl
  · obtain ⟨v, d, n, rfl, hd, hl, hn, q⟩ := h
    refine ⟨_, pss_one (ps_ret (pe_and (pe_has hN hr (by rfl) (pa_cons (pv 0) pa_nil))
      (pe_one (pe_cmpR (op_eqD hr.units) (pe_callB cr_sortIT (by rfl) B.sorted PyProof.Rows.boot_sorted (pa_cons (pv 0) pa_nil)) (pe_listRg (by rfl) (by rfl) B.list (prg_1 (by rfl) B.range (pv 1))) (nomark _))))), ?_⟩
    refine ⟨_, rfl, v, d, rfl, hd, (fun ds e => by have := hl ds e; omega), fun H1 s1 => ⟨isNums d, rfl, ite2 (fun h => ?_) (fun h => ?_)⟩⟩
    · cases hd with
      | @tup a xs ds ha hx =>
        have h : ds.all isNum = true := h
        have ex := nums_vals hx h
        have ha1 := ha.sm s1
        rw [ex] at ha1
        have hlen := hl ds rfl
        refine ⟨_, rfl, a, ds.map numOf, rfl, ha1.sq, by rw [List.length_map]; exact hlen, fun ns' p pm so hp => ?_⟩
        refine ⟨_, rfl, n, rfl, .of_le (by omega) (by omega) (by omega) (by omega), fun p2 hp2 => ?_⟩
        have e1 : upd (upd H1 p (.lst (ns'.map V.int))) p2 (.lst (rgV 0 n)) p = some (.lst (ns'.map V.int)) := by
          rw [upd_ne (fun z => by rw [← z, upd_same] at hp2; cases hp2), upd_same]
        refine ⟨.list (ns'.map PyData.int), .list ((rangeI n).map PyData.int), .lst (SqL.of e1) (dp_ints _), .lst (SqL.of (by rw [upd_same, rgV_int])) (dp_ints _), sh_ints _, sh_ints _, ?_⟩
        rw [eqv_ints]
        have e : decide (ns' = rangeI n) = isPermD (.tuple ds) n := by
          have hb : isNums (.tuple ds) = true := h
          unfold isPermD
          rw [hb, Bool.true_and]
          refine decide_eq_decide.mpr ⟨fun e => ?_, fun e => ?_⟩
          · rw [← e]
            exact pm.symm
          · exact List.Perm.eq_of_pairwise (fun x y _ _ h1 h2 => Int.le_antisymm h1 h2) so (rangeI_sorted n) (pm.trans e)
        rw [e]
        exact q _ ((s1.trans (same_new hp)).trans (same_new hp2))
      | non => cases h
      | bl => cases h
      | int => cases h
      | str => cases h
      | lst => cases h
    · have e : false = isPermD d n := by
        unfold isPermD
        have z : isNums d = false := by simpa using h
        rw [z]
        rfl
      show Q (.bl false) H1
      rw [e]
      exact q _ s1
end
end Lt

set_option Elab.async false
set_option linter.all false
set_option maxRecDepth 100000
set_option maxHeartbeats 4000000
namespace Lt
open PySem PySem.Spec PyProof.Rows L2
theorem for_enumT {K : PySem.W.Frag} {a : Addr} {xs : List V} {g : TG} {tb : TS} {D : Ends} {σ : L2.St} {H : Hp} (Pv : Nat → L2.St → Hp → Prop) (h0 : Pv 0 σ H) (hl : ∀ i σ H, i ≤ xs.length → Pv i σ H → SqT K H a xs)
    (hs : ∀ (i : Nat) (x : V) σ H T, xs[i]? = some x → Pv i σ H → H T = none → g (.ref T) σ (upd H T (.tup [nI i, x])) fun σ2 H2 => tb { D with nx := Pv (i + 1), ct := Pv (i + 1), bk := D.nx } σ2 H2) (hd : ∀ σ H, Pv xs.length σ H → D.nx σ H) :
    ∃ W : Nat → Nat → L2.St → Hp → Prop, (∃ m, W 0 m σ H) ∧ ∀ i m σ H, W i m σ H →
      ((Itet K a).stop i H ∧ D.nx σ H) ∨ ((Itet K a).go i H ∧ ∃ N : L2.St → Hp → Prop, (∀ σ' H', N σ' H' → ∃ m', m' < m ∧ W (i + 1) m' σ' H') ∧ ∀ x H', (Itet K a).yld i H x H' → g x σ H' fun σ2 H2 => tb { D with nx := N, ct := N, bk := D.nx } σ2 H2) := by
  refine ⟨fun i m σ H => m = xs.length - i ∧ i ≤ xs.length ∧ Pv i σ H, ⟨xs.length, by simp, Nat.zero_le _, h0⟩, ?_⟩
  rintro i m σ H ⟨rfl, hi, p⟩
  have q := hl i σ H hi p
  by_cases hlt : i < xs.length
  · refine .inr ⟨⟨xs, xs[i], q, by simp [hlt]⟩, Pv (i + 1), fun σ' H' p' => ⟨xs.length - (i + 1), by omega, rfl, hlt, p'⟩, fun x H' y => ?_⟩
    obtain ⟨T, z, rfl, hT, rfl, hz⟩ := y
    exact hs i z σ H T (hz xs q) p hT
  · have e : i = xs.length := by omega
    subst e
    exact .inl ⟨⟨xs, q, rfl⟩, hd σ H p⟩
section
variable {P : Program} {w : World} {K : PySem.W.Frag} {mg : Str → Option Value} {base : Heap}
/-! ### back_of -/
def spBack : Sp := fun vs H Q _ => ∃ (a : V) (t : List Nat) (n : Nat), vs = [a] ∧ TN H a t ∧ IsP n t ∧ n ≤ 1000 ∧ ∀ v H', Same H H' → TK H' v (inv t) → Q v H'
theorem sc_back_of : FnScope ["turn", "led_from", "place", "led"] ["turn"] (defScope s_back_of) := ⟨rfl, rfl, rfl, by decide +kernel, rfl, by decide +kernel, by decide +kernel⟩
theorem rep_zero (n : Nat) : (List.replicate n [V.int 0]).flatten = nIs (List.replicate n 0) := by
  induction n with
  | zero => rfl
  | succ n ih => rw [List.replicate_succ, List.flatten_cons, ih]; rfl
theorem inv_of {n : Nat} {t acc : List Nat} (h : IsP n t) (hl : acc.length = n) (ha : ∀ (j p : Nat), t[j]? = some p → acc[p]? = some j) : acc = inv t := by
  apply List.ext_getElem?
  intro p
  by_cases hp : p < n
  · have hm : p ∈ t := h.mem.mpr hp
    have hj := List.idxOf_lt_length_of_mem hm
    have e := ha (t.idxOf p) p (by rw [List.getElem?_eq_getElem hj, List.getElem_idxOf])
    rw [e]
    unfold inv
    rw [List.getElem?_map, h.len, List.getElem?_range hp]
    rfl
  · rw [List.getElem?_eq_none (by omega), List.getElem?_eq_none (by rw [inv_len, h.len]; omega)]
theorem nIs_set (t : List Nat) (i n : Nat) : (nIs t).set i (nI n) = nIs (t.set i n) := by
  unfold nIs
  rw [List.map_set]
theorem has_back_of (T : Top K mg "back_of" s_back_of ["turn"]) (B : Bi mg) : Has P w K mg base CX0 1 "back_of" ["turn"] spBack := by
  refine T.ok sc_back_of (fun vs H Q E h => ?_) (fun f cdv A outer s H vs Q E hr h => ?_)
  · obtain ⟨a, t, n, rfl, _⟩ := h
    rfl
  · obtain ⟨a, t, n, rfl, ⟨pa, rfl, ea⟩, ht, hn, q⟩ := h
    refine ⟨_, pss_cons (ps_set (i := 1) sc_back_of.nd rfl (Or.inl rfl) (pe_op op_rep (pe_lst (pa_cons pe_int pa_nil)) (pe_callB call_len_seq (by rfl) B.len PySem.boot_len (pa_cons (pv 0) pa_nil))))
      (pss_cons (ps_for PassesOwn.never rfl (pi_enumT (by rfl) B.enumerate (pa_cons (pv 0) pa_nil)) (pg_tup rfl (pgs_cons (pg_name (i := 2) sc_back_of.nd rfl (Or.inl rfl)) (pgs_cons (pg_name (i := 3) sc_back_of.nd rfl (Or.inl rfl)) pgs_nil)))
        (pss_one (ps_asg (pv 2) (pg_sub (pv 1) (pv 3) set_list))))
      (pss_one (ps_ret (pe_tupleOf (by rfl) B.tuple (pv 1))))), ?_⟩
    have hlen := ht.len
    refine ⟨by show 1 ≤ sizeLine; decide, fun l hl => ?_⟩
    have s1 := same_new (o := .lst [V.int 0]) hl
    refine ⟨_, rfl, pa, _, rfl, .inr (ea.sm s1).sq, l, (t.length : Int), [V.int 0], rfl, by rw [nIs_len], upd_same, by omega, by omega, ?_, fun p hp => ?_⟩
    · show 1 * (t.length : Int).toNat ≤ sizeLine
      rw [sizeLine_eq]
      omega
    have s2 : Same H _ := s1.trans (same_new (o := .lst (List.replicate (t.length : Int).toNat [V.int 0]).flatten) hp)
    have hp0 : H p = none := s1.free hp
    refine ⟨_, rfl, pa, _, rfl, (ea.sm s2).sq, for_enumT (K := K) (xs := nIs t) (fun i σ H' => ∃ (acc : List Nat) (x y : Option V), σ = [some (.ref pa), some (.ref p), x, y] ∧ Same H H' ∧ H' p = some (.lst (nIs acc)) ∧ acc.length = n ∧ ∀ (j z : Nat), j < i → t[j]? = some z → acc[z]? = some j)
      ⟨List.replicate n 0, none, none, rfl, s2, ?_, List.length_replicate .., fun j z hj => absurd hj (Nat.not_lt_zero _)⟩ (fun i σ H' _ ⟨_, _, _, _, sm, _⟩ => (ea.sm sm).sq) ?_ ?_⟩
    · rw [upd_same, ← rep_zero, hlen]
      rfl
    · rintro i x σ H' T hi ⟨acc, y2, y3, rfl, sm, hp', hacc, hj⟩ hT
      rw [nIs_get] at hi
      obtain ⟨m, hm, rfl⟩ := Option.map_eq_some_iff.mp hi
      have hmn : m < n := ht.lt m (List.mem_of_getElem? hm)
      have spT : p ≠ T := ne_of_none hp' hT
      have sT := same_new (o := .tup [nI i, nI m]) hT
      refine ⟨T, _, rfl, SqT.of upd_same, rfl, nI i, _, rfl, nI m, _, rfl, rfl, ?_⟩
      refine ⟨_, rfl, _, rfl, _, rfl, p, nIs acc, (m : Int), m, rfl, rfl, sT _ _ hp', ?_, ?_⟩
      · rw [nIs_len, hacc]
        exact Evl.ixN_nat hmn
      · refine ⟨acc.set m i, some (nI i), some (nI m), rfl, same_mut (sm.trans sT) hp0, ?_, by rw [List.length_set]; exact hacc, fun j z hji hz => ?_⟩
        · rw [upd_same, nIs_set]
        · by_cases e : j = i
          · subst e
            rw [hm] at hz
            have hz := Option.some.inj hz
            subst hz
            rw [List.getElem?_set_self (by omega)]
          · have hne : m ≠ z := fun q => e (nd_ix ht.nd hz (q ▸ hm))
            rw [List.getElem?_set_ne hne]
            exact hj j z (by omega) hz
    · rintro σ H' ⟨acc, y2, y3, rfl, sm, hp', hacc, hj⟩
      refine ⟨_, rfl, .inl ⟨p, nIs acc, rfl, SqL.of hp', fun r hr => q _ _ (sm.trans (same_new hr)) (tn_of upd_same ?_)⟩⟩
      rw [inv_of ht hacc fun j z hz => hj j z (by rw [nIs_len]; exact (List.getElem?_eq_some_iff.mp hz).1) hz]
end
end Lt

set_option Elab.async false
set_option linter.all false
set_option maxRecDepth 100000
set_option maxHeartbeats 4000000
namespace Lt
open PySem PySem.Spec PyProof.Rows L2
/-! ### dicts from turns to words -/
def keyN (t : List Nat) : List Key := t.map fun n : Nat => (Sum.inl (Int.ofNat n) : Key)
theorem keyN_inj {s t : List Nat} (h : keyN s = keyN t) : s = t := by
  unfold keyN at h
  exact (List.map_inj_right (fun x y e => by injection e with e; exact Int.ofNat.inj e)).mp h
def DE (H : Hp) (kv : List Key × V) (tw : List Nat × List Nat) : Prop := kv.1 = keyN tw.1 ∧ TN H kv.2 tw.2
def DW (H : Hp) (d : Addr) (L : List (List Nat × List Nat)) : Prop := ∃ kvs, H d = some (.dT kvs) ∧ Paired (DE H) kvs L
theorem DEs.tm {H H' : Hp} (e : Tm H H') : ∀ {kvs : List (List Key × V)} {L : List (List Nat × List Nat)}, Paired (DE H) kvs L → Paired (DE H') kvs L
  | _, _, .nil => .nil
  | _, _, .cons r t => .cons ⟨r.1, r.2.tm e⟩ (DEs.tm e t)
theorem DW.tm {H H' : Hp} {d : Addr} {L : List (List Nat × List Nat)} (h : DW H d L) (e : Tm H H') (ed : H' d = H d) : DW H' d L := let ⟨kvs, h1, h2⟩ := h; ⟨kvs, ed.trans h1, DEs.tm e h2⟩
theorem DW.same {H H' : Hp} {d : Addr} {L : List (List Nat × List Nat)} (h : DW H d L) (e : Same H H') : DW H' d L := let ⟨kvs, h1, h2⟩ := h; ⟨kvs, e _ _ h1, DEs.tm (.of e) h2⟩
theorem dw_none {H : Hp} {t : List Nat} : ∀ {kvs : List (List Key × V)} {L : List (List Nat × List Nat)}, Paired (DE H) kvs L → t ∉ L.map (·.1) → valV kvs (keyN t) = none
  | _, _, .nil, _ => rfl
  | p :: ps, q :: qs, .cons r s, h => by
    have hne : ¬ p.1 = keyN t := fun e => h (by
      rw [List.map_cons]
      rw [r.1] at e
      rw [keyN_inj e]
      exact List.mem_cons_self)
    rw [valV_neg hne]
    exact dw_none s fun m => h (List.mem_cons_of_mem _ m)
theorem dw_some {H : Hp} {t w : List Nat} : ∀ {kvs : List (List Key × V)} {L : List (List Nat × List Nat)}, Paired (DE H) kvs L → (L.map (·.1)).Nodup → (t, w) ∈ L → ∃ v, valV kvs (keyN t) = some v ∧ TN H v w
  | _, _, .nil, _, h => by cases h
  | p :: ps, q :: qs, .cons r s, hn, h => by
    rw [List.map_cons] at hn
    obtain ⟨h1, h2⟩ := List.nodup_cons.mp hn
    rcases List.mem_cons.mp h with e | h
    · subst e
      exact ⟨p.2, valV_pos r.1, r.2⟩
    · have hne : ¬ p.1 = keyN t := fun e => h1 (by
        rw [r.1] at e
        rw [keyN_inj e]
        exact List.mem_map.mpr ⟨_, h, rfl⟩)
      rw [valV_neg hne]
      exact dw_some s h2 h
theorem dw_isSome {H : Hp} {t : List Nat} {kvs : List (List Key × V)} {L : List (List Nat × List Nat)} (p : Paired (DE H) kvs L) (hn : (L.map (·.1)).Nodup) : (valV kvs (keyN t)).isSome = decide (t ∈ L.map (·.1)) := by
  by_cases h : t ∈ L.map (·.1)
  · obtain ⟨⟨t', w⟩, hm, e⟩ := List.mem_map.mp h
    have e : t' = t := e
    subst e
    obtain ⟨v, hv, _⟩ := dw_some p hn hm
    rw [hv, decide_eq_true h]
    rfl
  · rw [dw_none p h, decide_eq_false h]
    rfl
theorem TK.key {H : Hp} {v : V} {t : List Nat} (h : TK H v t) : ∃ b, v = .ref b ∧ H b = some (.tup ((keyN t).map kV)) := by
  obtain ⟨b, e, hb⟩ := h
  exact ⟨b, e, by rw [hb, nIs_key]; rfl⟩
theorem TN.key {H : Hp} {v : V} {t : List Nat} (h : TN H v t) : ∃ b, v = .ref b ∧ RT H b ((keyN t).map kV) := by
  obtain ⟨b, e, hb⟩ := h
  refine ⟨b, e, ?_⟩
  have z : nIs t = (keyN t).map kV := by rw [nIs_key]; rfl
  rw [← z]
  exact hb
theorem LT.tm {H H' : Hp} {a : Addr} {ts : List (List Nat)} (h : LT H a ts) (e : Tm H H') (ea : H' a = H a) : LT H' a ts := let ⟨xs, h1, h2⟩ := h; ⟨xs, ea.trans h1, TNs.tm e h2⟩
/-! ### d[k], k in d: the key to be read -/
def GetR (H : Hp) (a : Addr) (kvs : List (List Key × V)) (k : List Key) (y : V) : Prop := ∃ b, y = .ref b ∧ Rd H a (.dT kvs) ∧ RT H b (k.map kV)
def tDGetR (td ty : TE) : TE := fun σ H Q => td σ H fun x H1 => ty σ H1 fun y H2 => ∃ a v kvs k b, x = .ref a ∧ y = .ref b ∧ Rd H2 a (.dT kvs) ∧ RT H2 b (k.map kV) ∧ valV kvs k = some v ∧ Q v H2
def tDInR (ty td : TE) : TE := fun σ H Q => ty σ H fun y H1 => td σ H1 fun x H2 => ∃ a kvs k b, x = .ref a ∧ y = .ref b ∧ Rd H2 a (.dT kvs) ∧ RT H2 b (k.map kV) ∧ Q (.bl (valV kvs k).isSome) H2
def tDNotInR (ty td : TE) : TE := fun σ H Q => ty σ H fun y H1 => td σ H1 fun x H2 => ∃ a kvs k b, x = .ref a ∧ y = .ref b ∧ Rd H2 a (.dT kvs) ∧ RT H2 b (k.map kV) ∧ Q (.bl (!(valV kvs k).isSome)) H2
theorem key_rd {P : Program} {w : World} {H : Hp} {h : Heap} {ks : List Key} {a : Addr} (ok : HOk P w H h) (e : RT H a (ks.map kV)) : (tupleKind (mixKind P w)).is h ks a := by
  have z : ObjOk P w H h a (.tup (ks.map kV)) := Rd.ok e ok
  obtain ⟨_, its, r, o, h1, h2, n, h3⟩ := z
  exact ⟨o, its.toArray, n, h1, h2, h3, by simpa using items_are r⟩
section
variable {X : Cx} {o i : Expr} {td ty : TE} {pos : Pos}
theorem pc_dinR (hu : X.A.units + 1 < cLine) (hi : PE X i ty) (ho : PE X o td) : PC X .In i o (tDInR ty td) := by
  refine ⟨fun pins s σ H Q I h => ?_⟩
  refine thn (hi.run pins s σ H _ I h) fun iv s1 ⟨y, H1, I1, ry, q1⟩ => thn (ho.run pins s1 σ H1 _ I1 q1) fun u s2 ⟨x, H2, I2, rx, a, kvs, k, b, ex, ey, hd, hb, q2⟩ => ?_
  subst ex ey
  obtain rfl : u = Value.ref a := rx
  obtain rfl : iv = Value.ref b := ry
  obtain ⟨z, hds, xs, rel, dd⟩ := dt_rd I2.hok hd
  refine wpAny_in_heap (tupleKind_room_in1 hu) (key_rd I2.hok hb) hds dd ?_
  have q := (rel.val k).isSome_eq
  rw [Option.isSome_map] at q
  rw [← q]
  exact ⟨.bl (valV kvs k).isSome, H2, I2.tok _, rfl, q2⟩
theorem pe_dgetR (hu : X.A.units + 1 < cLine) (ho : PE X o td) (hi : PE X i ty) (hs : NoSl i) : PE X (.Subscript o i pos) (tDGetR td ty) := by
  refine ⟨fun pins s σ H Q I h => ?_⟩
  refine subD_of PySem.F.slot_dict_getitem.lookup hs (thn (ho.run pins s σ H _ I h) fun u s1 ⟨x, H1, I1, rx, q1⟩ => thn (hi.run pins s1 σ H1 _ I1 q1) fun iv s2 ⟨y, H2, I2, ry, a, v, kvs, k, b, ex, ey, hd, hb, hv, q2⟩ => ?_)
  subst ex ey
  obtain rfl : u = Value.ref a := rx
  obtain rfl : iv = Value.ref b := ry
  obtain ⟨z, hds, xs, rel, dd⟩ := dt_rd I2.hok hd
  obtain ⟨w', hw, rw'⟩ := RelO.some_of (v := v) (o := (atKey xs k).map (·.2)) (by rw [← hv]; exact rel.val k)
  obtain ⟨p, hp, hp2⟩ := Option.map_eq_some_iff.mp hw
  have ht : s2.TypeIs (.ref a) "dict" := by
    obtain ⟨ob, _, _, h1, h2, _⟩ := dd
    exact ⟨ob, h1, h2.1⟩
  refine ⟨ht, wpAny_getItem_heap (tupleKind_room_in1 hu) (key_rd I2.hok hb) dd hp ?_⟩
  rw [hp2]
  exact ⟨v, H2, I2.tok _, rw', q2⟩
end
/-! ### the mirror's turns, maker by maker -/
theorem grow_app (t w : List Nat) : ∀ (xs ys : List (List Nat)) (p : Nat) (L : List (List Nat × List Nat)), grow t w (xs ++ ys) p L = grow t w ys (p + xs.length) (grow t w xs p L)
  | [], _, _, _ => rfl
  | x :: xs, ys, p, L => by
    show grow t w (xs ++ ys) (p + 1) _ = grow t w ys (p + (xs.length + 1)) (grow t w xs (p + 1) _)
    rw [grow_app t w xs ys (p + 1)]
    congr 1
    omega
theorem grow_next {t w : List Nat} {gs : List (List Nat)} {i : Nat} {g : List Nat} (h : gs[i]? = some g) (L : List (List Nat × List Nat)) :
    grow t w (gs.take (i + 1)) 0 L = if prod t g ∈ (grow t w (gs.take i) 0 L).map (·.1) then grow t w (gs.take i) 0 L else grow t w (gs.take i) 0 L ++ [(prod t g, w ++ [i])] := by
  have hl : i < gs.length := (List.getElem?_eq_some_iff.mp h).1
  have e : gs.take (i + 1) = gs.take i ++ [g] := by rw [List.take_add_one, h]; rfl
  rw [e, grow_app, List.length_take, Nat.min_eq_left (Nat.le_of_lt hl), Nat.zero_add]
  rfl
theorem grow_len (t w : List Nat) : ∀ (gs : List (List Nat)) (p : Nat) (L : List (List Nat × List Nat)), (grow t w gs p L).length ≤ L.length + gs.length
  | [], _, L => Nat.le_refl _
  | g :: gs, p, L => by
    have ih := grow_len t w gs (p + 1) (if prod t g ∈ L.map (·.1) then L else L ++ [(prod t g, w ++ [p])])
    show (grow t w gs (p + 1) _).length ≤ L.length + (gs.length + 1)
    split at ih
    · rename_i h
      rw [if_pos h]
      omega
    · rename_i h
      rw [if_neg h]
      rw [List.length_append] at ih
      have e : [(prod t g, w ++ [p])].length = 1 := rfl
      omega
theorem qq_len_le (gs : List (List Nat)) (n k : Nat) : ∀ i, (qq gs n (k + i)).length ≤ (qq gs n k).length + i * gs.length
  | 0 => by rw [Nat.zero_mul]; exact Nat.le_refl _
  | i + 1 => by
    have ih := qq_len_le gs n k i
    have e : (i + 1) * gs.length = i * gs.length + gs.length := Nat.succ_mul _ _
    show (match (qq gs n (k + i))[k + i]? with
      | none => qq gs n (k + i)
      | some (t, w) => grow t w gs 0 (qq gs n (k + i))).length ≤ _
    split
    · omega
    · rename_i t w _
      have := grow_len t w gs 0 (qq gs n (k + i))
      omega
/-- words[turn] + (place,) -/
theorem catA_tn {K : PySem.W.Frag} {H : Hp} {pw p : Addr} {w : List Nat} {j : Nat} {Q : VK} (hw : RT H pw (nIs w)) (hp : H p = some (.tup [nI j])) (hl : w.length ≤ 1000000) (q : ∀ v H', Same H H' → TN H' v (w ++ [j]) → Q v H') : rCatA K (.ref pw) (.ref p) H Q := by
  refine ⟨pw, p, nIs w, [nI j], rfl, rfl, hw.sq, SqT.of hp, ?_, fun e => ?_, fun _ e => (by cases e), fun _ _ p2 hp2 => ?_⟩
  · rw [nIs_len, sizeLine_eq]
    show w.length + 1 ≤ _
    omega
  · have e : w = [] := by
      cases w with
      | nil => rfl
      | cons a w => cases e
    subst e
    exact q _ _ (Same.refl _) ⟨p, rfl, .inl hp⟩
  · refine q _ _ (same_new hp2) ⟨p2, rfl, .inl ?_⟩
    rw [upd_same]
    unfold nIs
    rw [List.map_append]
    rfl
theorem grow_w (t w : List Nat) (m : Nat) : ∀ (gs : List (List Nat)) (p : Nat) (L : List (List Nat × List Nat)), w.length ≤ m → (∀ x ∈ L, x.2.length ≤ m + 1) → ∀ x ∈ grow t w gs p L, x.2.length ≤ m + 1
  | [], _, _, _, h, x, hx => h x hx
  | g :: gs, p, L, hw, h, x, hx => by
    refine grow_w t w m gs (p + 1) _ hw (fun y hy => ?_) x hx
    split at hy
    · exact h y hy
    · rcases List.mem_append.mp hy with z | z
      · exact h y z
      · rw [List.mem_singleton.mp z, List.length_append]
        show w.length + 1 ≤ m + 1
        omega
theorem qq_w (gs : List (List Nat)) (n : Nat) : ∀ k, ∀ x ∈ qq gs n k, x.2.length ≤ k
  | 0, x, h => by
    rw [List.mem_singleton.mp (show x ∈ [(List.range n, ([] : List Nat))] from h)]
    exact Nat.le_refl 0
  | k + 1, x, h => by
    have ih := qq_w gs n k
    have h' : x ∈ (match (qq gs n k)[k]? with
      | none => qq gs n k
      | some (t, w) => grow t w gs 0 (qq gs n k)) := h
    split at h'
    · exact Nat.le_succ_of_le (ih x h')
    · rename_i t w e
      exact grow_w t w k gs 0 _ (ih _ (List.mem_of_getElem? e)) (fun y hy => Nat.le_succ_of_le (ih y hy)) x h'
section
variable {P : Program} {w : World} {K : PySem.W.Frag} {mg : Str → Option Value} {base : Heap}
/-! ### bracket_of -/
def spBracket : Sp := fun vs H Q _ => ∃ (a b : V) (x y : List Nat) (n : Nat), vs = [a, b] ∧ TN H a x ∧ TN H b y ∧ IsP n x ∧ IsP n y ∧ n ≤ 1000 ∧ ∀ v H', Same H H' → TK H' v (prod (prod x y) (inv (prod y x))) → Q v H'
theorem sc_bracket_of : FnScope ["one", "other"] ["one", "other"] (defScope s_bracket_of) := ⟨rfl, rfl, rfl, by decide +kernel, rfl, by decide +kernel, by decide +kernel⟩
theorem pr_call {H : Hp} {a b : V} {x y : List Nat} {n : Nat} {Q : VK} (ha : TN H a x) (hb : TN H b y) (hx : IsP n x) (hy : IsP n y) (hn : n ≤ 1000) (q : ∀ v H', Same H H' → TK H' v (prod x y) → Q v H') : spProd [a, b] H Q E0 :=
  ⟨a, b, x, y, rfl, ha, hb, fun i hi => by rw [hy.len]; exact hx.lt i hi, by rw [hx.len]; exact hn, q⟩
theorem has_bracket_of (T : Top K mg "bracket_of" s_bracket_of ["one", "other"]) (hP : Has P w K mg base CX0 1 "product_of" ["one", "other"] spProd) (hB : Has P w K mg base CX0 1 "back_of" ["turn"] spBack) : Has P w K mg base CX0 2 "bracket_of" ["one", "other"] spBracket := by
  refine T.ok sc_bracket_of (fun vs H Q E h => ?_) (fun f cdv A outer s H vs Q E hr h => ?_)
  · obtain ⟨a, b, x, y, n, rfl, _⟩ := h
    rfl
  · obtain ⟨a, b, x, y, n, rfl, ha, hb, hx, hy, hn, q⟩ := h
    refine ⟨_, pss_one (ps_ret (pe_has hP hr (by rfl) (pa_cons (pe_has hP hr (by rfl) (pa_cons (pv 0) (pa_cons (pv 1) pa_nil))) (pa_cons (pe_has hB hr (by rfl) (pa_cons (pe_has hP hr (by rfl) (pa_cons (pv 1) (pa_cons (pv 0) pa_nil))) pa_nil)) pa_nil)))), ?_⟩
    refine ⟨_, rfl, _, rfl, pr_call ha hb hx hy hn fun u H1 s1 hu => ?_⟩
    refine ⟨_, rfl, _, rfl, pr_call (hb.tm (.of s1)) (ha.tm (.of s1)) hy hx hn fun u2 H2 s2 hu2 => ?_⟩
    refine ⟨u2, _, n, rfl, hu2.tn, hy.prod hx, hn, fun u3 H3 s3 hu3 => ?_⟩
    exact pr_call (hu.tm (.of (s2.trans s3))).tn hu3.tn (hx.prod hy) (hy.prod hx).inv hn fun u4 H4 s4 hu4 => q _ _ (((s1.trans s2).trans s3).trans s4) hu4
/-! ### words_of -/
def Cn (mg : Str → Option Value) (x : Str) (i : Int) : Prop := ∃ t, mg x = some (.int i t)
def Wd (gs : List (List Nat)) (n : Nat) (L : List (List Nat × List Nat)) : Prop := ∃ a, L = qq gs n a ∧ a ≤ L.length ∧ (L.length = a ∨ 240 < L.length)
def spWords : Sp := fun vs H Q _ => ∃ (ms : V) (gs : List (List Nat)) (n : Nat), vs = [ms, nI n] ∧ TT H ms gs ∧ (∀ g ∈ gs, IsP n g) ∧ n ≤ 1000 ∧ gs.length ≤ 1000 ∧
  ∀ d H' L, Same H H' → H d = none → DW H' d L → Wd gs n L → Q (.ref d) H'
theorem sc_words_of : FnScope ["makers", "size", "still", "words", "level", "longer", "turn", "place", "maker", "led"] ["makers", "size"] (defScope s_words_of) := ⟨rfl, rfl, rfl, by decide +kernel, rfl, by decide +kernel, by decide +kernel⟩
/-- the state at the while: behind a positions -/
structure WS (H0 : Hp) (ms st : V) (n : Nat) (gs : List (List Nat)) (d : Addr) (a : Nat) (σ : L2.St) (H : Hp) : Prop where
  sl : ∃ lv x5 x6 x7 x8 x9, σ = [some ms, some (nI n), some st, some (.ref d), some (.ref lv), x5, x6, x7, x8, x9] ∧ LT H lv (((qq gs n a).map (·.1)).drop a)
  sm : Same H0 H
  dw : DW H d (qq gs n a)
  le : a ≤ (qq gs n a).length
  le2 : a ≤ 240
theorem qq_step {gs : List (List Nat)} {n a i : Nat} {M : List (List Nat × List Nat)} (e : qq gs n (a + i) = qq gs n a ++ M) {t w : List Nat} (h : (qq gs n a)[a + i]? = some (t, w)) : qq gs n (a + i + 1) = grow t w gs 0 (qq gs n (a + i)) := by
  have z : (qq gs n (a + i))[a + i]? = some (t, w) := by
    rw [e, List.getElem?_append_left (List.getElem?_eq_some_iff.mp h).1]
    exact h
  show (match (qq gs n (a + i))[a + i]? with
    | none => qq gs n (a + i)
    | some (t, w) => grow t w gs 0 (qq gs n (a + i))) = _
  rw [z]
theorem has_words_of (T : Top K mg "words_of" s_words_of ["makers", "size"]) (B : Bi mg) (C : Cn mg "MOST_TURNS" 240) (hS : Has P w K mg base CX0 1 "still_of" ["size"] spStill) (hP : Has P w K mg base CX0 1 "product_of" ["one", "other"] spProd) :
    Has P w K mg base CX0 2 "words_of" ["makers", "size"] spWords := by
  refine T.ok sc_words_of (fun vs H Q E h => ?_) (fun f cdv A outer s H vs Q E hr h => ?_)
  · obtain ⟨ms, gs, n, rfl, _⟩ := h
    rfl
  · obtain ⟨ms, gs, n, rfl, hms, hg, hn, hgl, q⟩ := h
    obtain ⟨tk, hC⟩ := C
    have hu := hu_of hr
    refine ⟨_, pss_cons (ps_set (i := 2) sc_words_of.nd rfl (Or.inl rfl) (pe_has hS hr (by rfl) (pa_cons (pv 1) pa_nil)))
      (pss_cons (ps_set (i := 3) sc_words_of.nd rfl (Or.inl rfl) (pe_dispT hu (pv 2) (pe_tup pa_nil)))
      (pss_cons (ps_set (i := 4) sc_words_of.nd rfl (Or.inl rfl) (pe_lst (pa_cons (pv 2) pa_nil)))
      (pss_cons (ps_while PassesOwn.never (PW.pt (pw_and (pt_truth (pv 4) (by intro _; rfl)) (pw_and1 (pt_cmpR op_le (pe_callB call_len_dT (by rfl) B.len PySem.boot_len (pa_cons (pv 3) pa_nil)) (pe_glob (v := .int 240) rfl hC ⟨_, rfl⟩) (nomark _)))))
        (pss_cons (ps_set (i := 5) sc_words_of.nd rfl (Or.inl rfl) (pe_lst pa_nil))
        (pss_cons (ps_for PassesOwn.never rfl (pi_list (pv 4)) (pg_name (i := 6) sc_words_of.nd rfl (Or.inl rfl))
          (pss_one (ps_for PassesOwn.never rfl (pi_enumT (by rfl) B.enumerate (pa_cons (pv 0) pa_nil)) (pg_tup rfl (pgs_cons (pg_name (i := 7) sc_words_of.nd rfl (Or.inl rfl)) (pgs_cons (pg_name (i := 8) sc_words_of.nd rfl (Or.inl rfl)) pgs_nil)))
            (pss_cons (ps_set (i := 9) sc_words_of.nd rfl (Or.inl rfl) (pe_has hP hr (by rfl) (pa_cons (pv 6) (pa_cons (pv 8) pa_nil))))
            (pss_one (ps_if (pt_cmp (pc_dnotin hu (pv 9) (pv 3)))
              (pss_cons (ps_dput hu (pv 3) (pv 9) (pe_op op_catA (pe_dgetR hu (pv 3) (pv 6) (fun _ _ => rfl)) (pe_tup (pa_cons (pv 7) pa_nil))) rfl)
              (pss_one (ps_expr (pe_bm PySem.F.plainAttrs_list PySem.F.slot_list_append PySem.F.type_list_append mt_append (pv 5) (pa_cons (pv 9) pa_nil)))))
              pss_nil))))))
        (pss_one (ps_set (i := 4) sc_words_of.nd rfl (Or.inl rfl) (pv 5))))))
      (pss_one (ps_ret (pv 3)))))), ?_⟩
    refine ⟨_, rfl, n, rfl, hn, fun st H1 s1 hst => ?_⟩
    refine fun d hd => ⟨_, rfl, ⟨Nat.zero_le _, fun p hp => ?_⟩⟩
    have hpd : p ≠ d := fun z => by rw [z, upd_same] at hp; cases hp
    have s2 : Same H1 (upd (upd H1 d (.dT [])) p (.tup [])) := (same_new hd).trans (same_new hp)
    obtain ⟨b, ebv, hb⟩ := (hst.tm (.of s2)).key
    subst ebv
    refine ⟨b, keyN (List.range n), rfl, by rw [upd_ne hpd.symm, upd_same], hb, ?_⟩
    refine ⟨_, rfl, by show 1 ≤ sizeLine; decide, fun lv hlv => ?_⟩
    have hd0 : H d = none := s1.free hd
    have s3 : Same H1 (upd (upd (upd H1 d (.dT [])) p (.tup [])) d (.dT [(keyN (List.range n), .ref p)])) := same_mut s2 hd
    have s4 : Same H1 (upd (upd (upd (upd H1 d (.dT [])) p (.tup [])) d (.dT [(keyN (List.range n), .ref p)])) lv (.lst [.ref b])) := s3.trans (same_new hlv)
    have hdl : d ≠ lv := fun z => by rw [← z, upd_same] at hlv; cases hlv
    have hpl : p ≠ lv := fun z => by rw [← z, upd_ne hpd, upd_same] at hlv; cases hlv
    have hst' : TN (upd (upd (upd (upd H1 d (.dT [])) p (.tup [])) d (.dT [(keyN (List.range n), .ref p)])) lv (.lst [.ref b])) (.ref b) (List.range n) := (hst.tm (.of s4)).tn
    refine ⟨fun m σ H' => ∃ a, m = 240 - a ∧ WS H ms (.ref b) n gs d a σ H', ⟨240, 0, rfl, ⟨⟨lv, none, none, none, none, none, rfl, [.ref b], upd_same, .cons hst' .nil⟩, s1.trans s4, ⟨[(keyN (List.range n), .ref p)], by rw [upd_ne hdl, upd_same], .cons ⟨rfl, p, rfl, .inl ?_⟩ .nil⟩, Nat.zero_le _, Nat.zero_le _⟩⟩, ?_⟩
    · rw [upd_ne hpl, upd_ne hpd, upd_same]
      rfl
    rintro m σ H' ⟨a, rfl, ⟨⟨lv, x5, x6, x7, x8, x9, rfl, xs, hlv', hxs⟩, sm, dw, le, le2⟩⟩
    have ret : (qq gs n a).length = a ∨ 240 < (qq gs n a).length → Q (.ref d) H' := fun h => q d H' _ sm hd0 dw ⟨a, rfl, le, h⟩
    have hxl : xs.length = (qq gs n a).length - a := by
      rw [Paired.length hxs, List.length_drop, List.length_map]
    refine ⟨_, rfl, !xs.isEmpty, .inl ⟨xs, SqL.of hlv', rfl⟩, ?_⟩
    refine ite2 (fun h => ?_) (fun h => ?_)
    rotate_left
    · refine iteF ⟨_, rfl, ret (.inl ?_)⟩
      cases xs with
      | nil => simp at hxl; omega
      | cons x xs => exact absurd rfl h
    obtain ⟨kvs, hkv, pkv⟩ := dw
    have hkl : kvs.length = (qq gs n a).length := Paired.length pkv
    refine ⟨_, rfl, d, kvs, rfl, hkv, _, _, rfl, rfl, _, rfl, ite2 (fun h2 => ?_) (fun h2 => ?_)⟩
    rotate_left
    · have h2 : ¬ ((kvs.length : Int) ≤ 240) := fun z => h2 (decide_eq_true z)
      exact ⟨_, rfl, ret (.inr (by omega))⟩
    have h2 : (kvs.length : Int) ≤ 240 := of_decide_eq_true h2
    have hpos : a < (qq gs n a).length := by
      cases xs with
      | nil => simp at h
      | cons x xs => rw [List.length_cons] at hxl; omega
    refine ⟨fun σ2 H2 => WS H ms (.ref b) n gs d (qq gs n a).length σ2 H2, fun σ2 H2 hw => ⟨240 - (qq gs n a).length, by omega, _, rfl, hw⟩, ?_⟩
    -- longer = []
    refine ⟨Nat.zero_le _, fun lg hlg => ?_⟩
    have hlg0 : H lg = none := sm.free hlg
    have sl := same_new (o := .lst []) hlg
    obtain ⟨pm, mxs, rfl, hpm, hmx⟩ := hms
    have hlvg : lv ≠ lg := ne_of_none hlv' hlg
    have hdg : d ≠ lg := ne_of_none hkv hlg
    have hlv0 : ∀ H2 : Hp, Same H' H2 → H2 lv = some (.lst xs) := fun H2 s => s _ _ hlv'
    refine ⟨_, rfl, lv, rfl, ⟨_, SqL.of (sl _ _ hlv')⟩, for_list (K := K) (a := lv) (xs := xs)
      (fun i σ2 H2 => ∃ y6 y7 y8 y9 M, σ2 = [some (.ref pm), some (nI n), some (.ref b), some (.ref d), some (.ref lv), some (.ref lg), y6, y7, y8, y9] ∧ Same H H2 ∧ qq gs n (a + i) = qq gs n a ++ M ∧ DW H2 d (qq gs n (a + i)) ∧ LT H2 lg (M.map (·.1)) ∧ H2 lv = some (.lst xs) ∧ Paired (TN H2) xs (((qq gs n a).map (·.1)).drop a))
      ⟨x6, x7, x8, x9, [], rfl, sm.trans sl, by rw [List.append_nil]; rfl, DW.same ⟨kvs, hkv, pkv⟩ sl, ⟨[], upd_same, .nil⟩, sl _ _ hlv', TNs.tm (.of sl) hxs⟩
      (fun i σ2 H2 _ ⟨_, _, _, _, _, _, _, _, _, _, h, _⟩ => SqL.of h) ?_ ?_⟩
    · rintro i x σ2 H2 hi ⟨y6, y7, y8, y9, M, rfl, sm2, eM, dw2, lt2, hlv2, hx2⟩
      obtain ⟨t, ht, htn⟩ := Paired.getL hx2 hi
      rw [List.getElem?_drop, List.getElem?_map] at ht
      obtain ⟨⟨t', w'⟩, hq, et⟩ := Option.map_eq_some_iff.mp ht
      have et : t' = t := et
      subst et
      have hstep := qq_step eM hq
      have htP : IsP n t' := Mk.isP hg (qq_mk gs n a t' (List.mem_map.mpr ⟨_, List.mem_of_getElem? hq, rfl⟩))
      refine ⟨_, rfl, pm, _, rfl, SqT.of (sm2 _ _ hpm), for_enumT (K := K) (xs := mxs)
        (fun j σ3 H3 => ∃ z7 z8 z9 M', σ3 = [some (.ref pm), some (nI n), some (.ref b), some (.ref d), some (.ref lv), some (.ref lg), some x, z7, z8, z9] ∧ Same H H3 ∧ grow t' w' (gs.take j) 0 (qq gs n (a + i)) = qq gs n a ++ M' ∧ DW H3 d (qq gs n a ++ M') ∧ LT H3 lg (M'.map (·.1)) ∧ H3 lv = some (.lst xs) ∧ Paired (TN H3) xs (((qq gs n a).map (·.1)).drop a))
        ⟨y7, y8, y9, M, rfl, sm2, eM, by rw [← eM]; exact dw2, lt2, hlv2, hx2⟩ (fun j σ3 H3 _ ⟨_, _, _, _, _, s, _⟩ => SqT.of (s _ _ hpm)) ?_ ?_⟩
      · rintro j y σ3 H3 T hj ⟨z7, z8, z9, M', rfl, sm3, eM', dw3, ⟨gz, hgz, pgz⟩, hlv3, hx3⟩ hT
        obtain ⟨g, hgj, hyg⟩ := Paired.getL hmx hj
        have hgP := hg g (List.mem_of_getElem? hgj)
        have sT := same_new (o := .tup [nI j, y]) hT
        refine ⟨T, _, rfl, SqT.of upd_same, rfl, nI j, _, rfl, y, _, rfl, rfl, ?_⟩
        obtain ⟨t2, ht2, htn3⟩ := Paired.getL hx3 hi
        rw [List.getElem?_drop, List.getElem?_map, hq] at ht2
        have ht2 : t' = t2 := Option.some.inj ht2
        subst ht2
        refine ⟨_, rfl, _, rfl, pr_call (htn3.tm (.of sT)) (hyg.tm (.of (sm3.trans sT))) htP hgP hn fun v H4 s4 hv => ?_⟩
        have s34 : Same H3 H4 := sT.trans s4
        have hvP := htP.prod hgP
        obtain ⟨b1, rfl, hb1⟩ := hv.key
        obtain ⟨kv4, hk4, pk4⟩ := dw3.same s34
        have hgz4 := s34 _ _ hgz
        have pgz4 := TNs.tm (.of s34) pgz
        have hlv4 := s34 _ _ hlv3
        have hx4 := TNs.tm (.of s34) hx3
        have hnd : ((qq gs n a ++ M').map (·.1)).Nodup := by rw [← eM']; exact grow_nd _ _ _ _ _ (qq_nd gs n (a + i))
        have hnx := grow_next (t := t') (w := w') hgj (qq gs n (a + i))
        rw [eM'] at hnx
        have sm4 : Same H H4 := sm3.trans s34
        refine ⟨_, rfl, _, rfl, d, _, rfl, DGet.t hk4 hb1, _, rfl, ?_⟩
        rw [dw_isSome pk4 hnd]
        by_cases hin : prod t' g ∈ (qq gs n a ++ M').map (·.1)
        · rw [if_pos hin] at hnx
          rw [decide_eq_true hin]
          exact iteF ⟨_, _, _, M', rfl, sm4, hnx, ⟨kv4, hk4, pk4⟩, ⟨gz, hgz4, pgz4⟩, hlv4, hx4⟩
        · rw [if_neg hin] at hnx
          rw [decide_eq_false hin]
          refine iteT ?_
          have hmem : (t', w') ∈ qq gs n a ++ M' := List.mem_append.mpr (.inl (List.mem_of_getElem? hq))
          obtain ⟨wv, hwv, hwn⟩ := dw_some pk4 hnd hmem
          obtain ⟨b2, rfl, hb2⟩ := (htn3.tm (.of s34)).key
          obtain ⟨pw, rfl, hpw⟩ := hwn
          have hwl : w'.length ≤ 240 := Nat.le_trans (qq_w gs n a _ (List.mem_of_getElem? hq)) le2
          refine ⟨_, rfl, _, rfl, d, .ref pw, kv4, _, _, rfl, rfl, .inl hk4, hb2, hwv, _, rfl, by show 1 ≤ sizeLine; decide, fun p hp => ?_⟩
          have s5 := same_new (o := .tup [nI j]) hp
          refine catA_tn (hpw.sm s5) upd_same (by omega) fun v5 H5 s6 hv5 => ?_
          have s45 := s5.trans s6
          have hk5 := s45 _ _ hk4
          have hkl4 : kv4.length = (grow t' w' (gs.take j) 0 (qq gs n (a + i))).length := by rw [Paired.length pk4, ← eM']
          have hsz : kv4.length ≤ 1000000 := by
            have h0 := grow_len t' w' (gs.take j) 0 (qq gs n (a + i))
            have h1 := qq_len_le gs n a i
            have h3 : i ≤ 240 := by
              have := (List.getElem?_eq_some_iff.mp hq).1
              omega
            have h4 : i * gs.length ≤ 240 * 1000 := Nat.mul_le_mul h3 hgl
            rw [List.length_take] at h0
            omega
          refine ⟨_, rfl, _, rfl, d, _, rfl, DPut.t hk5 (s45 _ _ hb1) (by rw [sizeLine_eq]; omega), ?_⟩
          rw [putK_new v5 (dw_none pk4 hin)]
          have t6 : Tm H5 (upd H5 d (.dT (kv4 ++ [(keyN (prod t' g), v5)]))) := Tm.dT hk5
          have hg6 : (upd H5 d (.dT (kv4 ++ [(keyN (prod t' g), v5)]))) lg = some (.lst gz) := by
            rw [upd_ne (ne_of hgz4 hk4 (fun z => nomatch z))]
            exact s45 _ _ hgz4
          have hgzl : gz.length ≤ kv4.length := by
            rw [Paired.length pgz, Paired.length pk4, List.length_map, List.length_append]
            omega
          refine ⟨_, rfl, .inl ⟨rfl, _, SqL.of hg6⟩, _, rfl, lg, _, _, rfl, rfl, hg6, by rw [sizeLine_eq]; omega, ?_⟩
          have t7 := Tm.lst (o := .lst (gz ++ [.ref b1])) hg6
          have tt := (Tm.of s45).trans (t6.trans t7)
          refine ⟨_, _, _, M' ++ [(prod t' g, w' ++ [j])], rfl, ?_, ?_, ⟨kv4 ++ [(keyN (prod t' g), v5)], ?_, ?_⟩, ⟨gz ++ [.ref b1], upd_same, ?_⟩, ?_, TNs.tm tt hx4⟩
          · exact same_mut (same_mut (sm4.trans s45) hd0) hlg0
          · rw [hnx, List.append_assoc]
          · rw [upd_ne hdg, upd_same]
          · rw [← List.append_assoc]
            exact Paired.app (DEs.tm tt pk4) (Paired.one ⟨rfl, hv5.tm (t6.trans t7)⟩)
          · rw [List.map_append]
            exact Paired.app (TNs.tm tt pgz4) (Paired.one (hv.tn.tm tt))
          · rw [upd_ne hlvg, upd_ne (ne_of hlv4 hk4 (fun z => nomatch z))]
            exact s45 _ _ hlv4
      · rintro σ3 H3 ⟨z7, z8, z9, M', rfl, sm3, eM', dw3, lt3, hlv3, hx3⟩
        have e : gs.take mxs.length = gs := by rw [Paired.length hmx, List.take_length]
        rw [e] at eM'
        refine ⟨_, _, _, _, M', rfl, sm3, ?_, ?_, lt3, hlv3, hx3⟩
        · show qq gs n (a + i + 1) = _
          rw [hstep, eM']
        · show DW H3 d (qq gs n (a + i + 1))
          rw [hstep, eM']
          exact dw3
    · rintro σ2 H2 ⟨y6, y7, y8, y9, M, rfl, sm2, eM, dw2, lt2, hlv2, hx2⟩
      have e : a + xs.length = (qq gs n a).length := by omega
      rw [e] at eM dw2
      refine ⟨_, rfl, ⟨⟨lg, _, _, _, _, _, rfl, ?_⟩, sm2, dw2, ?_, by omega⟩⟩
      · rw [eM, List.map_append, List.drop_append_of_le_length (by rw [List.length_map]; exact Nat.le_refl _), List.drop_of_length_le (by rw [List.length_map]; exact Nat.le_refl _), List.nil_append]
        exact lt2
      · rw [eM, List.length_append]
        omega
end
end Lt

set_option Elab.async false
set_option linter.all false
set_option maxRecDepth 100000
set_option maxHeartbeats 4000000
/-! errors of the program's own -/
namespace L2
open PySem PySem.Spec PyProof.Rows
section
variable {X : Cx} {pos : Pos}
/-- X(), X an own exception class without own __init__ -/
theorem pmk_own0 {C : Addr} {bmB : List Value} {B newId initId : String} {x : Str} {p : Pos} (F : ExcBaseFacts B newId initId bmB) (q : PySem.W.excIn X.K C bmB newId = true) (gC : X.mg x = some (.ref C))
    (kC : PySem.W.keepIn X.K (.ref C) = true) (r : Raises X (.ref C)) (hg : Gl X x) (hdb : (x == ("__debug__" : Str)) = false := by decide) :
    PMk X (.Call (.Name x p) [] [] pos) (fun _ H Q => Q (.ref C) none H) := by
  intro pins s σ H Q I h
  refine wpAny_Call_Name_kw (ld_glob I hg gC ?_ hdb)
  refine PySem.W.callWith_K0 I.kIn kC ?_
  obtain ⟨bm, N, nm, qn, bs, hdct, sn, sub, ab, col, dd, k0, k1, k2, k3, k5, mN, hC, hN, hni, T⟩ := exc_obj I.kIn q
  exact wpAny_call_exc_subT F T hC hN hni (fun h' e hm => mk_of I hm r h (I.hok.gone hm.new)) (Nat.zero_le _)
end
end L2
namespace Lt
open PySem PySem.Spec PyProof.Rows L2
/-- __init__(self, f): self.f = f -/
def spInit (K : PySem.W.Frag) (fld : Str) : Sp := fun vs H Q _ => ∃ (a C : Addr) (v : V), vs = [.ref a, v] ∧ OexC K C ∧ PySem.W.findIn K (.ref C) fld = some none ∧ H a = some (exo a C none) ∧
  ∀ dx, H dx = none → dx ≠ a → Q .non (upd (upd H dx (exd dx [(fld, v)])) a (exo a C (some dx)))
section
variable (P : Program) (w : World) (K : PySem.W.Frag) (mg : Str → Option Value) (base : Heap)
/-- an own error class with the field fld, set by its __init__ -/
structure ErrI (x fld : Str) (C : Addr) : Prop where
  oex : OexC K C
  g : mg x = some (.ref C)
  no : PySem.W.findIn K (.ref C) fld = some none
  init : ∃ fI fd, PySem.W.findIn K (.ref C) "__init__" = some (some (.ref fI)) ∧ PySem.W.typeIn K (.ref fI) = some (.type "function") ∧ Binds K fd ["self", fld] [] ∧ FnOk P w K mg base CX0 1 fI fd ["self", fld] (spInit K fld)
  xf : XfC K C
  exm : PySem.W.exmOne K (.ref C) (.ref C) = some true
/-- one without -/
structure Err0 (x : Str) (C : Addr) : Prop where
  q : PySem.W.excIn K C [.type "ValueError", .type "Exception", .type "BaseException", .type "object"] "ValueError.__new__" = true
  g : mg x = some (.ref C)
  k : PySem.W.keepIn K (.ref C) = true
  exC : PySem.W.subIn K (.ref C) (.type "BaseException") = some true
  tyC : PySem.W.typeIn K (.ref C) = some (.type "type")
  exm : PySem.W.exmOne K (.ref C) (.ref C) = some true
end
/-- an error with its field lies behind H -/
def BadF (C : Addr) (fld : Str) (v : V) (H : Hp) (E : XK) : Prop := ∀ d H', Same H H' → H' d = some (.xd [(fld, v)]) → E (.ref C) (some d) H'
/-- an error without fields -/
def Bad0 (C : Addr) (H : Hp) (E : XK) : Prop := ∀ H', Same H H' → E (.ref C) none H'
theorem BadF.same {C : Addr} {fld : Str} {v : V} {H H' : Hp} {E : XK} (h : BadF C fld v H E) (s : Same H H') : BadF C fld v H' E := fun d H2 s2 => h d H2 (s.trans s2)
theorem Bad0.same {C : Addr} {H H' : Hp} {E : XK} (h : Bad0 C H E) (s : Same H H') : Bad0 C H' E := fun H2 s2 => h H2 (s.trans s2)
theorem mk_read {K : PySem.W.Frag} {C : Addr} {fld : Str} {v : V} {H1 : Hp} {Q : XK} (oex : OexC K C) (no : PySem.W.findIn K (.ref C) fld = some none) (h : BadF C fld v H1 Q) :
    [v].length ≤ 1000 ∧ ∀ a, H1 a = none → spInit K fld (.ref a :: ([v] ++ [])) (upd H1 a (exo a C none))
      (fun u H2 => u = .non ∧ ∃ (d : Addr) (fs : List (Str × V)), H2 a = some (exo a C (some d)) ∧ H2 d = some (exd d fs) ∧ H1 d = none ∧ Q (.ref C) (some d) (upd (del H2 a) d (.xd fs))) (fun _ _ _ => False) := by
  refine ⟨by show 1 ≤ 1000; omega, fun a ha => ⟨a, C, v, rfl, oex, no, upd_same, fun dx hdx hne => ⟨rfl, dx, [(fld, v)], upd_same, ?_, ?_, ?_⟩⟩⟩
  · rw [upd_ne hne, upd_same]
  · rw [upd_ne hne] at hdx
    exact hdx
  · rw [upd_ne hne] at hdx
    refine h dx _ (fun b o e => ?_) upd_same
    have h1 : b ≠ a := ne_of_none e ha
    have h2 : b ≠ dx := ne_of_none e hdx
    rw [upd_ne h2, del_ne h1, upd_ne h1, upd_ne h2, upd_ne h1]
    exact e
section
variable {X : Cx} {P : Program} {w : World} {K : PySem.W.Frag} {mg : Str → Option Value} {base : Heap}
/-- raise X(e) -/
theorem pmk_errI {x fld : Str} {C : Addr} {e : Expr} {ta : TA} {p pos : Pos} (T : ErrI X.prog X.w X.K X.mg X.base x fld C) (hr : Room 2 X.A) (hg : Gl X x) (ha : PA X [e] ta)
    (hdb : (x == ("__debug__" : Str)) = false := by decide) (he : starEach (e :: []) X.env = (false, eval e X.env) :: starEach [] X.env := by rfl) (hpl : (backTo pos (starEach [] X.env)).any (·.1) = false := by rfl) :
    PMk X (.Call (.Name x p) [e] [] pos) (tMkO C (spInit X.K fld) [] ta) := by
  obtain ⟨fI, fd, iC, tI, b, F⟩ := T.init
  exact pmk_oex T.oex iC tI F hr b .nil pass0 hg T.g ha hdb he hpl
theorem pmk_err0 {x : Str} {C : Addr} {p pos : Pos} (T : Err0 X.K X.mg x C) (hg : Gl X x) (hdb : (x == ("__debug__" : Str)) = false := by decide) :
    PMk X (.Call (.Name x p) [] [] pos) (fun _ H Q => Q (.ref C) none H) := pmk_own0 PySem.F.excBase_ValueError T.q T.g T.k (raises_own T.exC T.tyC) hg hdb
/-- THE RULE for a def that may raise -/
theorem Top.okX {x : Str} {st : Stmt} {N ps : List Str} {k : Nat} {sp : Sp} (T : Top K mg x st ps) (S : FnScope N ps (defScope st)) (len : ∀ vs H Q E, sp vs H Q E → vs.length = ps.length)
    (hbody : ∀ (f : Addr) (cdv : Value) (A : Around) (outer : List Env) (s : Shared) (H : Hp) (vs : List V) (Q : VK) (E : XK), Room k (A.deeper (envOfC x (defScope st) s.heap.objs.size f cdv)) → sp vs H Q E →
      ∃ t, PSs (cxOf (L2.CX P w) P w K mg base N x (defScope st) f cdv A outer s H E) (defBody st) t ∧ t { nx := fun _ H' => Q .non H', rt := Q } (start N vs) H) : Has P w K mg base (L2.CX P w) (k + 1) x ps sp := by
  obtain ⟨f, fd, hm, F, b⟩ := T
  exact ⟨f, fd, hm, F.kp, b, F.okX S len fun cdv A outer s H vs Q E hr h => hbody f cdv A outer s H vs Q E hr h⟩
/-- a call of a def that may raise, in a body that lets it out -/
theorem pe_hasX {k : Nat} {x : Str} {ps : List Str} {sp : Sp} {e : Expr} {es : List Expr} {t : TA} {p pos : Pos} {E : XK} (h : Has X.prog X.w X.K X.mg X.base (L2.CX X.prog X.w) k x ps sp) (hr : Room k X.A) (hg : Gl X x) (hx : Passes (L2.CX X.prog X.w) X E) (ha : PA X (e :: es) t)
    (hdb : (x == ("__debug__" : Str)) = false := by decide) (he : starEach (e :: es) X.env = (false, eval e X.env) :: starEach es X.env := by rfl) (hpl : (backTo pos (starEach es X.env)).any (·.1) = false := by rfl) :
    PE X (.Call (.Name x p) (e :: es) [] pos) (tCall sp [] E t) := by
  obtain ⟨f, fd, hm, hk, hb, F⟩ := h
  exact pe_call F hr hg hm hk hb .nil hx ha hdb he hpl
/-- the same where what is raised is caught around -/
theorem pe_hasS {k : Nat} {x : Str} {ps : List Str} {sp : Sp} {e : Expr} {es : List Expr} {t : TA} {p pos : Pos} {E : L2.St → XK} (h : Has X.prog X.w X.K X.mg X.base (L2.CX X.prog X.w) k x ps sp) (hr : Room k X.A) (hg : Gl X x) (hx : ∀ σ, PassesAt (L2.CX X.prog X.w) X σ (E σ)) (ha : PA X (e :: es) t)
    (hdb : (x == ("__debug__" : Str)) = false := by decide) (he : starEach (e :: es) X.env = (false, eval e X.env) :: starEach es X.env := by rfl) (hpl : (backTo pos (starEach es X.env)).any (·.1) = false := by rfl) :
    PE X (.Call (.Name x p) (e :: es) [] pos) (tCallS sp E t) := by
  obtain ⟨f, fd, hm, hk, hb, F⟩ := h
  exact pe_callS F hr hg hm hk hb hx ha hdb he hpl
end
/-- no error is wished for: the same def as one that raises nothing -/
theorem pe_hasL {X : Cx} {k : Nat} {x : Str} {ps : List Str} {sp : Sp} {e : Expr} {es : List Expr} {t : TA} {p pos : Pos} (h : Has X.prog X.w X.K X.mg X.base (L2.CX X.prog X.w) k x ps sp) (hr : Room k X.A) (hg : Gl X x) (ha : PA X (e :: es) t)
    (hdb : (x == ("__debug__" : Str)) = false := by decide) (he : starEach (e :: es) X.env = (false, eval e X.env) :: starEach es X.env := by rfl) (hpl : (backTo pos (starEach es X.env)).any (·.1) = false := by rfl) :
    PE X (.Call (.Name x p) (e :: es) [] pos) (tCall sp [] E0 t) := pe_hasX h hr hg passL ha hdb he hpl
end Lt

set_option Elab.async false
set_option linter.all false
set_option maxRecDepth 100000
set_option maxHeartbeats 2000000
namespace Lt
open PySem PySem.Spec PyProof.Rows L2
def clsB : Stmt → List Stmt
  | .ClassDef _ _ _ b _ _ _ _ _ _ _ => b
  | _ => []
def initS (st : Stmt) : Stmt := (clsB st).getD 0 (.Pass ⟨0, 0, 0, 0⟩)
section
variable {P : Program} {w : World} {K : PySem.W.Frag} {mg : Str → Option Value} {base : Heap}
theorem init_BadLock {fI : Addr} {fd : FuncData} (F : Fun K "__init__" "BadLock.__init__" (initS s_BadLock) fI fd) : FnOk P w K mg base CX0 1 fI fd ["self", "place"] (spInit K "place") := by
  refine F.ok (N := ["self", "place"]) ⟨rfl, rfl, rfl, by decide +kernel, rfl, by decide +kernel, by decide +kernel⟩ (fun vs H Q E h => ?_) (fun cdv A outer s H vs Q E hr h => ?_)
  · obtain ⟨a, C, v, rfl, _⟩ := h
    rfl
  · obtain ⟨a, C, v, rfl, ox, no, ha, q⟩ := h
    exact ⟨_, pss_one (ps_ost (pv 0) (pv 1)), _, rfl, _, rfl, a, C, rfl, ox, no, .inl ⟨ha, fun dx h1 h2 => q dx h1 h2⟩⟩
theorem init_TooMany {fI : Addr} {fd : FuncData} (F : Fun K "__init__" "TooMany.__init__" (initS s_TooMany) fI fd) : FnOk P w K mg base CX0 1 fI fd ["self", "most"] (spInit K "most") := by
  refine F.ok (N := ["self", "most"]) ⟨rfl, rfl, rfl, by decide +kernel, rfl, by decide +kernel, by decide +kernel⟩ (fun vs H Q E h => ?_) (fun cdv A outer s H vs Q E hr h => ?_)
  · obtain ⟨a, C, v, rfl, _⟩ := h
    rfl
  · obtain ⟨a, C, v, rfl, ox, no, ha, q⟩ := h
    exact ⟨_, pss_one (ps_ost (pv 0) (pv 1)), _, rfl, _, rfl, a, C, rfl, ox, no, .inl ⟨ha, fun dx h1 h2 => q dx h1 h2⟩⟩
/-- a class's own line: an error is what «except» of its class names -/
theorem exm_own {S : Addr} (h1 : PySem.W.subIn K (.ref S) (.type "BaseException") = some true) (h2 : PySem.W.isClsIn K S = true) (h3 : PySem.W.typeIn K (.ref S) = some (.type "type")) (h4 : PySem.W.subIn K (.ref S) (.ref S) = some true) : PySem.W.exmOne K (.ref S) (.ref S) = some true := by
  have i2 : (PySem.W.clsIn K S).isSome = true := h2
  have a : (if ((PySem.W.clsIn K S).isSome && PySem.W.typeIn K (.ref S) == some (.type "type")) = true then PySem.W.subIn K (.ref S) (.ref S) else none) = some true := by
    rw [if_pos (by rw [i2, h3]; rfl)]
    exact h4
  have b : (PySem.W.subIn K (.ref S) (.type "BaseException") == some true) = true := by
    rw [h1]
    rfl
  exact (if_pos b).trans a
structure ErrFs (K : PySem.W.Frag) (mg : Str → Option Value) (x fld : Str) (C : Addr) (st : Stmt) : Prop where
  g : mg x = some (.ref C)
  cls : ∃ nm q N bs bm sn sub ab col dd k0 k1 k2 k3 k5, K.lookup C = some (excClassObj nm q C N bs bm true sn sub ab col dd k0 k1 k2 k3 k5 "ValueError.__new__") ∧ PySem.HandSPX.refsVE bm = true
  sa : PySem.W.findIn K (.ref C) "__setattr__" = some (some (.builtin "object.__setattr__"))
  ga : PySem.W.findIn K (.ref C) "__getattribute__" = some (some (.builtin "BaseException.__getattribute__"))
  gg : PySem.W.findIn K (.ref C) "__getattr__" = some none
  no : PySem.W.findIn K (.ref C) fld = some none
  kC : PySem.W.keepIn K (.ref C) = true
  eC : PySem.W.subIn K (.ref C) (.type "BaseException") = some true
  tC : PySem.W.typeIn K (.ref C) = some (.type "type")
  hC : PySem.W.hasDictIn K C = true
  iC : PySem.W.isClsIn K C = true
  sC : PySem.W.subIn K (.ref C) (.ref C) = some true
  init : ∃ fI fd, PySem.W.findIn K (.ref C) "__init__" = some (some (.ref fI)) ∧ PySem.W.typeIn K (.ref fI) = some (.type "function") ∧ Binds K fd ["self", fld] [] ∧ Fun K "__init__" (x ++ ".__init__") (initS st) fI fd
theorem ErrFs.errI {x fld : Str} {C : Addr} {st : Stmt} (F : ErrFs K mg x fld C st) (ok : ∀ {fI fd}, Fun K "__init__" (x ++ ".__init__") (initS st) fI fd → FnOk P w K mg base CX0 1 fI fd ["self", fld] (spInit K fld)) : ErrI P w K mg base x fld C := by
  obtain ⟨fI, fd, h1, h2, h3, h4⟩ := F.init
  exact ⟨⟨F.cls, F.sa, F.eC, F.tC, F.kC⟩, F.g, F.no, ⟨fI, fd, h1, h2, h3, ok h4⟩, ⟨F.ga, F.gg, F.eC, F.hC⟩, exm_own F.eC F.iC F.tC F.sC⟩
end
theorem top_mk {K : PySem.W.Frag} {h : Heap} {mg : Str → Option Value} {x : Str} {st : Stmt} {ps : List Str} {f : Addr} {oc kV doc pm cdv ct : Value} {od an : Option Addr} {osl : Array (Option Value)} (X : K.In h) (G : h.Ns mainGlobals mg)
    (a : PySem.W.nsIn K mainGlobals x = some (some (.ref f))) (l : K.lookup f = some ⟨oc, od, .func (PySem.W.fnOf x x (defArgs st) (defBody st) (defScope st) .none kV doc pm an cdv ct), osl⟩) (c : PySem.W.codeIn K cdv x = true) (k : PySem.W.keepIn K (.ref f) = true)
    (hb : ∀ (kV doc pm : Value) (an : Option Addr) (cdv ct : Value) (us : List Value), us.length = ps.length → bindArgs (PySem.W.fnOf x x (defArgs st) (defBody st) (defScope st) .none kV doc pm an cdv ct) ⟨us, []⟩ = pure (ps.zip us)) : Top K mg x st ps :=
  ⟨f, _, PySem.W.mg_of X G a, fun_mk l c k, (fun_mk l c k).binds hb⟩
abbrev TopX {K : PySem.W.Frag} {h : Heap} (_ : K.In h) (mg : Str → Option Value) (x : Str) (st : Stmt) (ps : List Str) : Prop := Top K mg x st ps
abbrev ErrX {K : PySem.W.Frag} {h : Heap} (_ : K.In h) (mg : Str → Option Value) (x fld : Str) (C : Addr) (st : Stmt) : Prop := ErrFs K mg x fld C st
abbrev NoX {K : PySem.W.Frag} {h : Heap} (_ : K.In h) (mg : Str → Option Value) (x : Str) (C : Addr) : Prop := Err0 K mg x C
theorem cn_mk {K : PySem.W.Frag} {h : Heap} {mg : Str → Option Value} {x : Str} {i : Int} {v : Value} (X : K.In h) (G : h.Ns mainGlobals mg) (a : PySem.W.nsIn K mainGlobals x = some (some v)) (b : ∃ t, v = .int i t) : Cn mg x i := by
  obtain ⟨t, rfl⟩ := b
  exact ⟨t, PySem.W.mg_of X G a⟩
theorem init_mk {K : PySem.W.Frag} {x fld : Str} {C fI : Addr} {st : Stmt} {oc kV doc pm cdv ct : Value} {od an : Option Addr} {osl : Array (Option Value)} (a : PySem.W.findIn K (.ref C) "__init__" = some (some (.ref fI))) (t : PySem.W.typeIn K (.ref fI) = some (.type "function"))
    (l : K.lookup fI = some ⟨oc, od, .func (PySem.W.fnOf "__init__" (x ++ ".__init__") (defArgs (initS st)) (defBody (initS st)) (defScope (initS st)) .none kV doc pm an cdv ct), osl⟩) (c : PySem.W.codeIn K cdv (x ++ ".__init__") = true) (k : PySem.W.keepIn K (.ref fI) = true)
    (hb : ∀ (kV doc pm : Value) (an : Option Addr) (cdv ct : Value) (us : List Value), us.length = (["self", fld] : List Str).length → bindArgs (PySem.W.fnOf "__init__" (x ++ ".__init__") (defArgs (initS st)) (defBody (initS st)) (defScope (initS st)) .none kV doc pm an cdv ct) ⟨us, []⟩ = pure ((["self", fld] : List Str).zip us)) :
    ∃ fI fd, PySem.W.findIn K (.ref C) "__init__" = some (some (.ref fI)) ∧ PySem.W.typeIn K (.ref fI) = some (.type "function") ∧ Binds K fd ["self", fld] [] ∧ Fun K "__init__" (x ++ ".__init__") (initS st) fI fd :=
  ⟨fI, _, a, t, (fun_mk l c k).binds hb, fun_mk l c k⟩
theorem err_mk {K : PySem.W.Frag} {h : Heap} {mg : Str → Option Value} {x fld : Str} {C N : Addr} {st : Stmt} {nm q : Str} {bs bm sub : List Value} {sn : List Str} {ab : Bool} {col : Option Bool} {dd : Option Addr} {k0 k1 k2 k3 k5 : Option Value} (X : K.In h) (G : h.Ns mainGlobals mg)
    (a : PySem.W.nsIn K mainGlobals x = some (some (.ref C))) (xL : K.lookup C = some (excClassObj nm q C N bs bm true sn sub ab col dd k0 k1 k2 k3 k5 "ValueError.__new__")) (rv : PySem.HandSPX.refsVE bm = true)
    (sa : PySem.W.findIn K (.ref C) "__setattr__" = some (some (.builtin "object.__setattr__"))) (ga : PySem.W.findIn K (.ref C) "__getattribute__" = some (some (.builtin "BaseException.__getattribute__"))) (gg : PySem.W.findIn K (.ref C) "__getattr__" = some none) (no : PySem.W.findIn K (.ref C) fld = some none)
    (kC : PySem.W.keepIn K (.ref C) = true) (eC : PySem.W.subIn K (.ref C) (.type "BaseException") = some true) (tC : PySem.W.typeIn K (.ref C) = some (.type "type")) (hC : PySem.W.hasDictIn K C = true) (iC : PySem.W.isClsIn K C = true) (sC : PySem.W.subIn K (.ref C) (.ref C) = some true)
    {fI : Addr} {oc kV doc pm cdv ct : Value} {od an : Option Addr} {osl : Array (Option Value)} (i1 : PySem.W.findIn K (.ref C) "__init__" = some (some (.ref fI))) (i2 : PySem.W.typeIn K (.ref fI) = some (.type "function"))
    (i3 : K.lookup fI = some ⟨oc, od, .func (PySem.W.fnOf "__init__" (x ++ ".__init__") (defArgs (initS st)) (defBody (initS st)) (defScope (initS st)) .none kV doc pm an cdv ct), osl⟩) (i4 : PySem.W.codeIn K cdv (x ++ ".__init__") = true) (i5 : PySem.W.keepIn K (.ref fI) = true)
    (hb : ∀ (kV doc pm : Value) (an : Option Addr) (cdv ct : Value) (us : List Value), us.length = (["self", fld] : List Str).length → bindArgs (PySem.W.fnOf "__init__" (x ++ ".__init__") (defArgs (initS st)) (defBody (initS st)) (defScope (initS st)) .none kV doc pm an cdv ct) ⟨us, []⟩ = pure ((["self", fld] : List Str).zip us)) : ∃ C, ErrFs K mg x fld C st :=
  ⟨C, PySem.W.mg_of X G a, ⟨_, _, _, _, _, _, _, _, _, _, _, _, _, _, _, xL, rv⟩, sa, ga, gg, no, kC, eC, tC, hC, iC, sC, init_mk i1 i2 i3 i4 i5 hb⟩
theorem no_mk {K : PySem.W.Frag} {h : Heap} {mg : Str → Option Value} {x : Str} {C : Addr} (X : K.In h) (G : h.Ns mainGlobals mg) (a : PySem.W.nsIn K mainGlobals x = some (some (.ref C)))
    (qx : PySem.W.excIn K C [.type "ValueError", .type "Exception", .type "BaseException", .type "object"] "ValueError.__new__" = true) (kC : PySem.W.keepIn K (.ref C) = true) (eC : PySem.W.subIn K (.ref C) (.type "BaseException") = some true) (tC : PySem.W.typeIn K (.ref C) = some (.type "type")) (iC : PySem.W.isClsIn K C = true)
    (sC : PySem.W.subIn K (.ref C) (.ref C) = some true) : ∃ C, Err0 K mg x C := ⟨C, qx, PySem.W.mg_of X G a, kC, eC, tC, exm_own eC iC tC sC⟩
abbrev ErrE {K : PySem.W.Frag} {h : Heap} (_ : K.In h) (mg : Str → Option Value) (x fld : Str) (st : Stmt) : Prop := ∃ C, ErrFs K mg x fld C st
abbrev NoE {K : PySem.W.Frag} {h : Heap} (_ : K.In h) (mg : Str → Option Value) (x : Str) : Prop := ∃ C, Err0 K mg x C
end Lt

set_option Elab.async false
set_option linter.all false
set_option maxRecDepth 100000
namespace Lt
open PySem PySem.Spec PyProof.Rows L2
/-- what the top leaves, but the law -/
structure TopFs (K : PySem.W.Frag) (mg : Str → Option Value) (C_BadLock : Addr) (C_TooMany : Addr) : Prop where
  bi : Bi mg
  c_MOST_TURNS : Cn mg "MOST_TURNS" 240
  c_MOST_GIVEN : Cn mg "MOST_GIVEN" 4
  c_FEWEST_PLACES : Cn mg "FEWEST_PLACES" 2
  c_MOST_PLACES : Cn mg "MOST_PLACES" 9
  e_BadLock : ErrFs K mg "BadLock" "place" C_BadLock s_BadLock
  e_TooMany : ErrFs K mg "TooMany" "most" C_TooMany s_TooMany
  f_is_number : Top K mg "is_number" s_is_number ["value"]
  f_are_numbers : Top K mg "are_numbers" s_are_numbers ["value"]
  f_is_permutation : Top K mg "is_permutation" s_is_permutation ["value", "size"]
  f_still_of : Top K mg "still_of" s_still_of ["size"]
  f_product_of : Top K mg "product_of" s_product_of ["one", "other"]
  f_back_of : Top K mg "back_of" s_back_of ["turn"]
  f_bracket_of : Top K mg "bracket_of" s_bracket_of ["one", "other"]
  f_words_of : Top K mg "words_of" s_words_of ["makers", "size"]
  f_group_of : Top K mg "group_of" s_group_of ["makers", "size"]
  f_all_turns : Top K mg "all_turns" s_all_turns ["lock"]
  f_check_lock : Top K mg "check_lock" s_check_lock ["lock"]
  f_made_words : Top K mg "made_words" s_made_words ["lock"]
  f_is_turn : Top K mg "is_turn" s_is_turn ["made", "value"]
  f_are_turns : Top K mg "are_turns" s_are_turns ["made", "value"]
  f_lower : Top K mg "lower" s_lower ["lock"]
  f_is_dying : Top K mg "is_dying" s_is_dying ["lock"]
  f_ring : Top K mg "ring" s_ring ["lock"]
  f_shows_ring : Top K mg "shows_ring" s_shows_ring ["lock", "value"]
  f_brackets_made : Top K mg "brackets_made" s_brackets_made ["term", "makers"]
  f_led_into : Top K mg "led_into" s_led_into ["lock", "turns", "aims"]
  f_fading_turns : Top K mg "fading_turns" s_fading_turns ["lock", "turns"]
  f_law_taken : Top K mg "_law_taken" s_law_taken ["row", "many"]
  f_law_pick : Top K mg "_law_pick" s_law_pick ["row", "things"]
  f_law_is : Top K mg "_law_is" s_law_is ["found", "due"]
  f_law_permutation : Top K mg "_law_permutation" s_law_permutation ["row", "places"]
  f_law_behind : Top K mg "_law_behind" s_law_behind ["one", "other"]
  f_law_back : Top K mg "_law_back" s_law_back ["turn"]
  f_law_swap : Top K mg "_law_swap" s_law_swap ["one", "other"]
  f_law_span : Top K mg "_law_span" s_law_span ["places", "given"]
  f_law_known : Top K mg "_law_known" s_law_known ["row", "kinds"]
  f_law_lock : Top K mg "_law_lock" s_law_lock ["row", "kinds"]
  f_law_terms : Top K mg "_law_terms" s_law_terms ["lock", "by_all"]
  f_law_shown : Top K mg "_law_shown" s_law_shown ["lock", "whole", "value"]
end Lt

set_option linter.all false
set_option Elab.async false
/-! powers of a turn; the whole of the turns -/
namespace Lt
def pw (n : Nat) (t : List Nat) : Nat → List Nat
  | 0 => List.range n
  | k + 1 => prod (pw n t k) t
theorem pw_isP {n : Nat} {t : List Nat} (h : IsP n t) : ∀ k, IsP n (pw n t k)
  | 0 => IsP.still n
  | k + 1 => (pw_isP h k).prod h
theorem pw_one {n : Nat} {t : List Nat} (h : IsP n t) : pw n t 1 = t := prod_still_l h.len
theorem pw_add {n : Nat} {t : List Nat} (h : IsP n t) (i : Nat) : ∀ k, pw n t (i + k) = prod (pw n t i) (pw n t k)
  | 0 => (prod_still_r (pw_isP h i).lt).symm
  | k + 1 => by
    show prod (pw n t (i + k)) t = prod (pw n t i) (prod (pw n t k) t)
    rw [pw_add h i k]
    exact prod_assoc fun j hj => by rw [(pw_isP h k).len]; exact (pw_isP h i).lt j hj
theorem prod_cancel {n : Nat} {a b : List Nat} (ha : IsP n a) (hb : IsP n b) (h : prod a b = a) : b = List.range n := by
  have h1 : prod (prod (inv a) a) b = prod (inv a) (prod a b) := prod_assoc fun i hi => by rw [ha.len]; exact ha.inv.lt i hi
  rw [h, prod_inv_l ha, prod_still_l hb.len] at h1
  exact h1
theorem Mk.prod {gs : List (List Nat)} {n : Nat} (hg : ∀ g ∈ gs, IsP n g) {a b : List Nat} (ha : Mk gs n a) (hb : Mk gs n b) : Mk gs n (prod a b) := by
  induction hb with
  | still => rw [prod_still_r (ha.isP hg).lt]; exact ha
  | @step t g ht hm ih =>
    rw [← prod_assoc (x := a) fun i hi => by rw [(ht.isP hg).len]; exact (ha.isP hg).lt i hi]
    exact .step ih hm
theorem Mk.pw {gs : List (List Nat)} {n : Nat} (hg : ∀ g ∈ gs, IsP n g) {t : List Nat} (h : Mk gs n t) : ∀ k, Mk gs n (pw n t k)
  | 0 => .still
  | k + 1 => (Mk.pw hg h k).prod hg h
/-- two of many places hold the same -/
theorem dup_of {α : Type} [DecidableEq α] (f : Nat → α) : ∀ m, ¬ ((List.range m).map f).Nodup → ∃ i j, i < j ∧ j < m ∧ f i = f j
  | 0, h => absurd List.Pairwise.nil h
  | m + 1, h => by
    by_cases hn : ((List.range m).map f).Nodup
    · rw [List.range_succ, List.map_append] at h
      by_cases hx : f m ∈ (List.range m).map f
      · obtain ⟨i, hi, e⟩ := List.mem_map.mp hx
        exact ⟨i, m, List.mem_range.mp hi, Nat.lt_succ_self m, e⟩
      · exact absurd (nodup_snoc hn hx) h
    · obtain ⟨i, j, h1, h2, e⟩ := dup_of f m hn
      exact ⟨i, j, h1, by omega, e⟩
theorem pw_back {gs : List (List Nat)} {n m : Nat} (hg : ∀ g ∈ gs, IsP n g) (hf : Few gs n m) {t : List Nat} (h : Mk gs n t) : ∃ N, 1 ≤ N ∧ N ≤ m ∧ pw n t N = List.range n := by
  have hnd : ¬ ((List.range (m + 1)).map (Lt.pw n t)).Nodup := fun hnd => by
    have z := hf.le hnd fun x hx => by
      obtain ⟨k, _, e⟩ := List.mem_map.mp hx
      rw [← e]
      exact h.pw hg k
    rw [List.length_map, List.length_range] at z
    omega
  obtain ⟨i, j, hij, hj, e⟩ := dup_of _ _ hnd
  have ht := h.isP hg
  refine ⟨j - i, by omega, by omega, ?_⟩
  have z := pw_add ht i (j - i)
  rw [show i + (j - i) = j by omega, ← e] at z
  exact prod_cancel (pw_isP ht i) (pw_isP ht _) z.symm
/-- the least of some numbers -/
theorem least_of {p : Nat → Prop} [DecidablePred p] : ∀ n, p n → ∃ k, k ≤ n ∧ p k ∧ ∀ j, j < k → ¬ p j := fun n => by
  induction n using Nat.strongRecOn with
  | _ n ih =>
    intro h
    by_cases hx : ∃ j, j < n ∧ p j
    · obtain ⟨j, hj, pj⟩ := hx
      obtain ⟨k, h1, h2, h3⟩ := ih j hj pj
      exact ⟨k, by omega, h2, h3⟩
    · exact ⟨n, Nat.le_refl n, h, fun j hj pj => hx ⟨j, hj, pj⟩⟩
theorem pw_least {gs : List (List Nat)} {n m : Nat} (hg : ∀ g ∈ gs, IsP n g) (hf : Few gs n m) {t : List Nat} (h : Mk gs n t) : ∃ N, 1 ≤ N ∧ N ≤ m ∧ pw n t N = List.range n ∧ ∀ j, 1 ≤ j → j < N → pw n t j ≠ List.range n := by
  obtain ⟨N, h1, h2, h3⟩ := pw_back hg hf h
  obtain ⟨k, hk1, ⟨hk2, hk3⟩, hk4⟩ := least_of (p := fun k => 1 ≤ k ∧ pw n t k = List.range n) N ⟨h1, h3⟩
  exact ⟨k, hk2, by omega, hk3, fun j hj1 hj2 e => hk4 j hj2 ⟨hj1, e⟩⟩
/-- all the words, the lock being small -/
@[irreducible] def LL (gs : List (List Nat)) (n : Nat) : List W := qq gs n 300
theorem LL_eq (gs : List (List Nat)) (n : Nat) : LL gs n = qq gs n 300 := by unfold LL; rfl
theorem LL_of {gs : List (List Nat)} {n m a : Nat} (hf : Few gs n m) (hm : m ≤ 240) (h : (qq gs n a).length = a) : qq gs n a = LL gs n := by
  have := hf.qq a
  rw [LL_eq]
  exact (qq_end' gs n (by omega) (by omega)).symm
theorem LL_len {gs : List (List Nat)} {n m : Nat} (hf : Few gs n m) : (LL gs n).length ≤ m := by
  rw [LL_eq]
  exact hf.qq 300
theorem LL_nd (gs : List (List Nat)) (n : Nat) : ((LL gs n).map (·.1)).Nodup := by
  rw [LL_eq]
  exact qq_nd gs n 300
theorem LL_mem {gs : List (List Nat)} {n m : Nat} (hf : Few gs n m) (hm : m ≤ 240) (t : List Nat) : t ∈ (LL gs n).map (·.1) ↔ Mk gs n t := by
  rw [LL_eq]
  exact qq_full (Nat.le_trans (hf.qq 300) (by omega)) t
end Lt

set_option linter.all false
set_option Elab.async false
set_option maxHeartbeats 1000000
/-! commutators: given turns stand for any turn -/
namespace Lt
def cm (x y : List Nat) : List Nat := prod (prod x y) (inv (prod y x))
section
variable {n : Nat}
theorem pas {x y : List Nat} (z : List Nat) (hx : IsP n x) (hy : IsP n y) : prod (prod x y) z = prod x (prod y z) := prod_assoc fun i hi => by rw [hy.len]; exact hx.lt i hi
theorem pc1 {x z : List Nat} (hx : IsP n x) (hz : IsP n z) : prod (inv x) (prod x z) = z := by
  rw [← pas z hx.inv hx, prod_inv_l hx, prod_still_l hz.len]
theorem pc2 {x z : List Nat} (hx : IsP n x) (hz : IsP n z) : prod x (prod (inv x) z) = z := by
  rw [← pas z hx hx.inv, prod_inv_r hx, prod_still_l hz.len]
theorem inv_inv {x : List Nat} (hx : IsP n x) : inv (inv x) = x := (inv_unique hx.inv hx (prod_inv_l hx)).symm
theorem IsP.cm {x y : List Nat} (hx : IsP n x) (hy : IsP n y) : IsP n (cm x y) := (hx.prod hy).prod (hy.prod hx).inv
theorem cm_step {t y g : List Nat} (ht : IsP n t) (hy : IsP n y) (hg : IsP n g) : cm t (prod y g) = prod (cm t y) (prod (prod y (cm t g)) (inv y)) := by
  have A : ∀ x y z, IsP n x → IsP n y → prod (prod x y) z = prod x (prod y z) := fun x y z a b => pas z a b
  have I : ∀ x y, IsP n x → IsP n y → inv (prod x y) = prod (inv y) (inv x) := fun x y a b => inv_prod a b
  have C1 : ∀ x z, IsP n x → IsP n z → prod (inv x) (prod x z) = z := fun x z a b => pc1 a b
  have C2 : ∀ x z, IsP n x → IsP n z → prod x (prod (inv x) z) = z := fun x z a b => pc2 a b
  have Pr : ∀ x y, IsP n x → IsP n y → IsP n (prod x y) := fun x y a b => a.prod b
  have V : ∀ x, IsP n x → IsP n (inv x) := fun x a => a.inv
  unfold cm
  simp (maxDischargeDepth := 30) only [A, I, C1, C2, Pr, V, ht, hy, hg]
theorem cm_flip {c y : List Nat} (hc : IsP n c) (hy : IsP n y) : prod (prod y c) (inv y) = prod (inv (cm c y)) c := by
  have A : ∀ x y z, IsP n x → IsP n y → prod (prod x y) z = prod x (prod y z) := fun x y z a b => pas z a b
  have I : ∀ x y, IsP n x → IsP n y → inv (prod x y) = prod (inv y) (inv x) := fun x y a b => inv_prod a b
  have I2 : ∀ x, IsP n x → inv (inv x) = x := fun x a => inv_inv a
  have C3 : ∀ x, IsP n x → prod (inv x) x = List.range n := fun x a => prod_inv_l a
  have S : ∀ x, IsP n x → prod x (List.range n) = x := fun x a => prod_still_r a.lt
  have Pr : ∀ x y, IsP n x → IsP n y → IsP n (prod x y) := fun x y a b => a.prod b
  have V : ∀ x, IsP n x → IsP n (inv x) := fun x a => a.inv
  unfold cm
  simp (maxDischargeDepth := 30) only [A, I, I2, C3, S, Pr, V, hc, hy]
theorem cm_still {t : List Nat} (ht : IsP n t) : cm t (List.range n) = List.range n := by
  unfold cm
  rw [prod_still_r ht.lt, prod_still_l ht.len, prod_inv_r ht]
theorem cm_self {t : List Nat} (ht : IsP n t) : cm t t = List.range n := prod_inv_r (ht.prod ht)
end
theorem Mk.one {gs : List (List Nat)} {n : Nat} (hg : ∀ g ∈ gs, IsP n g) {g : List Nat} (h : g ∈ gs) : Mk gs n g := by
  have z := Mk.step (Mk.still (gs := gs) (n := n)) h
  rw [prod_still_l (hg g h).len] at z
  exact z
theorem Mk.inv {gs : List (List Nat)} {n m : Nat} (hg : ∀ g ∈ gs, IsP n g) (hf : Few gs n m) {t : List Nat} (h : Mk gs n t) : Mk gs n (Lt.inv t) := by
  obtain ⟨N, h1, _, e⟩ := pw_back hg hf h
  obtain ⟨k, rfl⟩ : ∃ k, N = 1 + k := ⟨N - 1, by omega⟩
  have hP := h.isP hg
  rw [pw_add hP 1 k, pw_one hP] at e
  rw [← inv_unique hP (pw_isP hP k) e]
  exact h.pw hg k
theorem Mk.mono {gs hs : List (List Nat)} {n : Nat} (hh : ∀ g ∈ hs, IsP n g) (s : ∀ g ∈ gs, Mk hs n g) {t : List Nat} (h : Mk gs n t) : Mk hs n t := by
  induction h with
  | still => exact .still
  | step _ hg ih => exact ih.prod hh (s _ hg)
theorem Few.sub {gs hs : List (List Nat)} {n m : Nat} (hf : Few hs n m) (s : ∀ t, Mk gs n t → Mk hs n t) : Few gs n m := let ⟨D, h1, h2⟩ := hf; ⟨D, h1, fun t ht => h2 t (s t ht)⟩
/-- commutators with the given turns make the commutators with any turn -/
theorem cm_all {n m : Nat} {gs bs : List (List Nat)} {N : List Nat → Prop} (hN : ∀ t, N t → IsP n t) (hgs : ∀ g ∈ gs, IsP n g) (hbs : ∀ b ∈ bs, IsP n b) (hf : Few bs n m)
    (hc : ∀ t g, N t → g ∈ gs → N (cm t g)) (hb : ∀ t g, N t → g ∈ gs → cm t g ∈ bs) {x : List Nat} (hx : Mk gs n x) : ∀ t, N t → Mk bs n (cm t x) := by
  induction hx with
  | still => exact fun t ht => by rw [cm_still (hN t ht)]; exact .still
  | @step y g hy hg ih =>
    intro t ht
    have c := hc t g ht hg
    have hyP := hy.isP hgs
    rw [cm_step (hN t ht) hyP (hgs g hg), cm_flip (hN _ c) hyP]
    exact (ih t ht).prod hbs (((ih _ c).inv hbs hf).prod hbs (.one hbs (hb t g ht hg)))
/-- a part of a whole that is less is at most half of it -/
theorem half {n : Nat} {H T : List (List Nat)} (hT : ∀ t ∈ T, IsP n t) (nd : H.Nodup) (sub : ∀ h ∈ H, h ∈ T) (pr : ∀ a ∈ T, ∀ b ∈ T, prod a b ∈ T) (cl : ∀ a ∈ H, ∀ b ∈ H, prod (inv a) b ∈ H) {t : List Nat} (ht : t ∈ T) (hn : t ∉ H) : 2 * H.length ≤ T.length := by
  have tP := hT t ht
  have P := fun h hh => hT h (sub h hh)
  have z : (H ++ H.map fun h => prod h t).Nodup := by
    refine List.nodup_append.mpr ⟨nd, ?_, fun a ha b hb e => ?_⟩
    · refine List.pairwise_map.mpr (List.Pairwise.imp_of_mem (fun {a b} ha hb hne e => hne ?_) nd)
      have e2 := congrArg (fun x => prod x (inv t)) e
      have e2 : prod (prod a t) (inv t) = prod (prod b t) (inv t) := e2
      rw [pas _ (P a ha) tP, pas _ (P b hb) tP, prod_inv_r tP, prod_still_r (P a ha).lt, prod_still_r (P b hb).lt] at e2
      exact e2
    · obtain ⟨h, hh, rfl⟩ := List.mem_map.mp hb
      subst e
      have y := cl h hh _ ha
      rw [pc1 (P h hh) tP] at y
      exact hn y
  have l := nodup_len _ T z fun x hx => by
    rcases List.mem_append.mp hx with q | q
    · exact sub x q
    · obtain ⟨h, hh, rfl⟩ := List.mem_map.mp q
      exact pr _ (sub h hh) t ht
  rw [List.length_append, List.length_map] at l
  omega
end Lt

set_option Elab.async false
set_option linter.all false
set_option maxRecDepth 100000
set_option maxHeartbeats 4000000
namespace Lt
open PySem PySem.Spec PyProof.Rows L2
/-! ### what is a lock -/
def lenOf : PyData → Nat
  | .tuple ds => ds.length
  | _ => 0
def firstBad : List PyData → Nat → Nat → Option Nat
  | [], _, _ => none
  | d :: ds, n, i => if isPermD d n = true then firstBad ds n (i + 1) else some i
def lockBad : PyData → Option (Option Nat)
  | .tuple ds => if 1 ≤ ds.length ∧ ds.length ≤ 4 then (if isTup (ds.headD .none) = true ∧ 2 ≤ lenOf (ds.headD .none) ∧ lenOf (ds.headD .none) ≤ 9 then (firstBad ds (lenOf (ds.headD .none)) 0).map some else some (some 0)) else some none
  | _ => some none
def plV : Option Nat → V
  | none => .non
  | some i => nI i
def Sml (d : PyData) : Prop := ∀ ds, d = .tuple ds → ds.length ≤ 1000 ∧ ∀ e ∈ ds, ∀ es, e = .tuple es → es.length < 64
section
variable {P : Program} {w : World} {K : PySem.W.Frag} {mg : Str → Option Value} {base : Heap} {CL CM CT : Addr}
/-! ### check_lock -/
def spCheck (CL : Addr) : Sp := fun vs H Q E => ∃ (v : V) (d : PyData), vs = [v] ∧ Rp H v d ∧ Sml d ∧ (lockBad d = none → ∀ H', Same H H' → Q .non H') ∧ ∀ pl, lockBad d = some pl → BadF CL "place" (plV pl) H E
theorem sc_check_lock : FnScope ["lock", "place", "given"] ["lock"] (defScope s_check_lock) := ⟨rfl, rfl, rfl, by decide +kernel, rfl, by decide +kernel, by decide +kernel⟩
theorem has_check_lock (T : Top K mg "check_lock" s_check_lock ["lock"]) (B : Bi mg) (X1 : ErrI P w K mg base "BadLock" "place" CL) (C1 : Cn mg "MOST_GIVEN" 4) (C2 : Cn mg "FEWEST_PLACES" 2) (C3 : Cn mg "MOST_PLACES" 9)
    (hP : Has P w K mg base CX0 3 "is_permutation" ["value", "size"] spPerm) : Has P w K mg base (L2.CX P w) 4 "check_lock" ["lock"] (spCheck CL) := by
  refine T.okX sc_check_lock (fun vs H Q E h => ?_) (fun f cdv A outer s H vs Q E hr h => ?_)
  · obtain ⟨v, d, rfl, _⟩ := h
    rfl
  · obtain ⟨v, d, rfl, hd, hs, qg, qb⟩ := h
    obtain ⟨t1, e1⟩ := C1
    obtain ⟨t2, e2⟩ := C2
    obtain ⟨t3, e3⟩ := C3
    have hr2 : Room 2 _ := hr.mono (by decide)
    refine ⟨_, pss_cons (ps_if (PW.pt (pw_or (pt_not (pt_val (pe_callB call_isi (by rfl) B.isinstance PyProof.Rows.boot_isinstance (pa_cons (pv 0) (pa_cons (pe_bltn (by rfl) B.tuple PyProof.Rows.boot_tuple (rr_ty "tuple")) pa_nil)))))
          (pw_or1 (pt_not (pt_chain op_le op_le pe_int (pe_callB call_len_seq (by rfl) B.len PySem.boot_len (pa_cons (pv 0) pa_nil)) (pe_glob (v := .int 4) rfl e1 ⟨_, rfl⟩))))))
        (pss_one (ps_raise rfl (takes_of rfl rfl rfl rfl) (pmk_errI X1 hr2 (by rfl) (pa_cons pe_non pa_nil)))) pss_nil)
      (pss_cons (ps_if (PW.pt (pw_or (pt_not (pt_val (pe_callB call_isi (by rfl) B.isinstance PyProof.Rows.boot_isinstance (pa_cons (pe_ix ix_tup (pv 0) pe_int (fun _ _ => rfl)) (pa_cons (pe_bltn (by rfl) B.tuple PyProof.Rows.boot_tuple (rr_ty "tuple")) pa_nil)))))
          (pw_or1 (pt_not (pt_chain op_le op_le (pe_glob (v := .int 2) rfl e2 ⟨_, rfl⟩) (pe_callB call_len_seq (by rfl) B.len PySem.boot_len (pa_cons (pe_ix ix_tup (pv 0) pe_int (fun _ _ => rfl)) pa_nil)) (pe_glob (v := .int 9) rfl e3 ⟨_, rfl⟩))))))
        (pss_one (ps_raise rfl (takes_of rfl rfl rfl rfl) (pmk_errI X1 hr2 (by rfl) (pa_cons pe_int pa_nil)))) pss_nil)
      (pss_one (ps_for (passes_of rfl) rfl (pi_enumT (by rfl) B.enumerate (pa_cons (pv 0) pa_nil)) (pg_tup rfl (pgs_cons (pg_name (i := 1) sc_check_lock.nd rfl (Or.inl rfl)) (pgs_cons (pg_name (i := 2) sc_check_lock.nd rfl (Or.inl rfl)) pgs_nil)))
        (pss_one (ps_if (pt_not (pt_val (pe_has hP hr (by rfl) (pa_cons (pv 2) (pa_cons (pe_callB call_len_seq (by rfl) B.len PySem.boot_len (pa_cons (pe_ix ix_tup (pv 0) pe_int (fun _ _ => rfl)) pa_nil)) pa_nil)))))
          (pss_one (ps_raise rfl (takes_of rfl rfl rfl rfl) (pmk_errI X1 hr2 (by rfl) (pa_cons (pv 1) pa_nil)))) pss_nil))))), ?_⟩
    have bad : ∀ {pl : Option Nat} {H' : Hp}, lockBad d = some pl → Same H H' → BadF CL "place" (plV pl) H' E := fun e s => (qb _ e).same s
    by_cases hT : isTup d = true
    rotate_left
    · have e : lockBad d = some none := by cases d <;> first | rfl | exact absurd rfl hT
      have hF : isTup d = false := by simpa using hT
      refine ⟨_, rfl, v, .ty "tuple", _, _, isTup d, rfl, .ty _, rp_ty hd, kit_ty (kit_tup d), isTup d, rfl, ?_⟩
      rw [hF]
      exact mk_read X1.oex X1.no (bad e (Same.refl _))
    cases hd with
    | non => cases hT
    | bl => cases hT
    | int => cases hT
    | str => cases hT
    | lst => cases hT
    | @tup a xs ds ha hx =>
      have hxl := hx.len
      obtain ⟨hs1, hs2⟩ := hs ds rfl
      refine ⟨_, rfl, .ref a, .ty "tuple", _, _, true, rfl, .ty _, rp_ty (.tup ha hx), kit_ty (kit_tup (.tuple ds)), true, rfl, iteF ?_⟩
      have none_of : ¬ (1 ≤ ds.length ∧ ds.length ≤ 4) → lockBad (.tuple ds) = some none := fun h => by
        show (if 1 ≤ ds.length ∧ ds.length ≤ 4 then _ else _) = _
        rw [if_neg h]
      refine ⟨_, rfl, a, xs, rfl, .inr (ha.sq), 1, (xs.length : Int), rfl, rfl, _, rfl, ite2 (fun h1 => ⟨_, _, rfl, rfl, _, rfl, ite2 (fun h2 => ?_) (fun h2 => ?_)⟩) (fun h1 => ⟨_, rfl, ?_⟩)⟩
      · have h2 : ¬ ((xs.length : Int) ≤ 4) := fun z => by rw [decide_eq_true z] at h2; cases h2
        exact mk_read X1.oex X1.no (bad (none_of (by omega)) (Same.refl _))
      rotate_left
      · have h1 : ¬ ((1 : Int) ≤ (xs.length : Int)) := fun z => h1 (decide_eq_true z)
        exact mk_read X1.oex X1.no (bad (none_of (by omega)) (Same.refl _))
      have h2 : (xs.length : Int) ≤ 4 := by
        by_cases z : (xs.length : Int) ≤ 4
        · exact z
        · rw [decide_eq_false z] at h2
          exact absurd rfl h2
      have h1 : (1 : Int) ≤ (xs.length : Int) := of_decide_eq_true h1
      have hlen : 1 ≤ ds.length ∧ ds.length ≤ 4 := ⟨by omega, by omega⟩
      -- the first given turn
      cases hx with
      | nil => exact absurd hlen.1 (by decide)
      | @cons x xr dd dr r0 rr =>
      have hx : RpAll H (x :: xr) (dd :: dr) := .cons r0 rr
      have eLB : lockBad (.tuple (dd :: dr)) = if isTup dd = true ∧ 2 ≤ lenOf dd ∧ lenOf dd ≤ 9 then (firstBad (dd :: dr) (lenOf dd) 0).map some else some (some 0) := by
        show (if 1 ≤ (dd :: dr).length ∧ (dd :: dr).length ≤ 4 then _ else _) = _
        rw [if_pos hlen]
        rfl
      have zero_of : ¬ (isTup dd = true ∧ 2 ≤ lenOf dd ∧ lenOf dd ≤ 9) → lockBad (.tuple (dd :: dr)) = some (some 0) := fun h => by rw [eLB, if_neg h]
      have at0 : atI (x :: xr) 0 = some x := atI_nat (j := 0) rfl
      refine ⟨_, rfl, a, _, 0, x, rfl, rfl, ha.sq, at0, x, .ty "tuple", _, _, isTup dd, rfl, .ty _, rp_ty r0, kit_ty (kit_tup dd), isTup dd, rfl, ?_⟩
      by_cases hT2 : isTup dd = true
      rotate_left
      · have hF : isTup dd = false := by simpa using hT2
        rw [hF]
        exact mk_read (v := .int 0) X1.oex X1.no (bad (zero_of fun z => hT2 z.1) (Same.refl _))
      rw [hT2]
      refine iteF ?_
      cases r0 with
      | non => cases hT2
      | bl => cases hT2
      | int => cases hT2
      | str => cases hT2
      | lst => cases hT2
      | @tup b ys es hb hy =>
      have hyl := hy.len
      refine ⟨_, rfl, a, _, 0, .ref b, rfl, rfl, ha.sq, at0, b, ys, rfl, .inr (hb.sq), 2, (ys.length : Int), rfl, rfl, _, rfl, ite2 (fun h3 => ⟨_, _, rfl, rfl, _, rfl, ite2 (fun h4 => ?_) (fun h4 => ?_)⟩) (fun h3 => ⟨_, rfl, ?_⟩)⟩
      · have h4 : ¬ ((ys.length : Int) ≤ 9) := fun z => by rw [decide_eq_true z] at h4; cases h4
        exact mk_read (v := .int 0) X1.oex X1.no (bad (zero_of fun z => h4 (by have := z.2.2; show (ys.length : Int) ≤ 9; rw [hyl]; exact Int.ofNat_le.mpr this)) (Same.refl _))
      rotate_left
      · have h3 : ¬ ((2 : Int) ≤ (ys.length : Int)) := fun z => h3 (decide_eq_true z)
        exact mk_read (v := .int 0) X1.oex X1.no (bad (zero_of fun z => h3 (by have := z.2.1; show (2 : Int) ≤ (ys.length : Int); rw [hyl]; exact Int.ofNat_le.mpr this)) (Same.refl _))
      have h4 : (ys.length : Int) ≤ 9 := by
        by_cases z : (ys.length : Int) ≤ 9
        · exact z
        · rw [decide_eq_false z] at h4
          exact absurd rfl h4
      have h3 : (2 : Int) ≤ (ys.length : Int) := of_decide_eq_true h3
      rw [if_pos ⟨rfl, by show 2 ≤ es.length; omega, by show es.length ≤ 9; omega⟩] at eLB
      have eLB : lockBad (.tuple (.tuple es :: dr)) = (firstBad (.tuple es :: dr) es.length 0).map some := eLB
      refine ⟨_, rfl, a, _, rfl, ha.sq, for_enumT (K := K) (xs := .ref b :: xr) (fun i σ H' => ∃ y z, σ = [some (.ref a), y, z] ∧ Same H H' ∧ firstBad (.tuple es :: dr) es.length 0 = firstBad ((.tuple es :: dr).drop i) es.length i)
        ⟨none, none, rfl, Same.refl _, rfl⟩ (fun i σ H' _ ⟨_, _, _, s, _⟩ => (ha.sm s).sq) ?_ ?_⟩
      · rintro i u σ H' T hi ⟨y, z, rfl, sm, hfb⟩ hTn
        obtain ⟨du, hdu, hru⟩ := hx.get hi
        have sT := same_new (o := .tup [nI i, u]) hTn
        have sm' := sm.trans sT
        have hdrop : (PyData.tuple es :: dr).drop i = du :: (PyData.tuple es :: dr).drop (i + 1) := by
          obtain ⟨hl, e⟩ := List.getElem?_eq_some_iff.mp hdu
          rw [List.drop_eq_getElem_cons hl, e]
        rw [hdrop] at hfb
        refine ⟨T, _, rfl, SqT.of upd_same, rfl, nI i, _, rfl, u, _, rfl, rfl, ?_⟩
        refine ⟨_, rfl, _, rfl, a, _, 0, .ref b, rfl, rfl, (ha.sm sm').sq, at0, b, ys, rfl, .inr ((hb.sm sm').sq), u, du, es.length, by rw [hyl]; rfl, Rp.same sm' _ _ hru, fun es' e => ?_, by omega, fun H2 s2 => ?_⟩
        · exact hs2 du (List.mem_of_getElem? hdu) es' e
        refine ⟨isPermD du es.length, rfl, ?_⟩
        by_cases hp : isPermD du es.length = true
        · rw [hp]
          refine iteF ⟨_, _, rfl, sm'.trans s2, ?_⟩
          rw [hfb]
          show (if isPermD du es.length = true then _ else _) = _
          rw [if_pos hp]
        · have hF : isPermD du es.length = false := by simpa using hp
          rw [hF]
          refine iteT ⟨_, rfl, mk_read X1.oex X1.no (bad (pl := some i) ?_ (sm'.trans s2))⟩
          rw [eLB, hfb]
          rw [show firstBad (du :: List.drop (i + 1) (PyData.tuple es :: dr)) es.length i = some i from if_neg hp]
          rfl
      · rintro σ H' ⟨y, z, rfl, sm, hfb⟩
        refine qg ?_ H' sm
        rw [eLB, hfb, List.drop_of_length_le (by rw [hxl]; exact Nat.le_refl _)]
        rfl
end
end Lt

set_option Elab.async false
set_option linter.all false
set_option maxRecDepth 100000
set_option maxHeartbeats 4000000
namespace Lt
open PySem PySem.Spec PyProof.Rows L2
def GL (ls : List (List Nat)) (n : Nat) : Prop := 1 ≤ ls.length ∧ ls.length ≤ 4 ∧ 2 ≤ n ∧ n ≤ 9 ∧ ∀ g ∈ ls, IsP n g
/-- the argument lock: no lock, too great a one, or a lock of which k -/
def LockIn (CL CM : Addr) (v : V) (H : Hp) (E : XK) (k : List (List Nat) → Nat → Prop) : Prop := ∃ d, Rp H v d ∧ Sml d ∧ (∀ pl, lockBad d = some pl → BadF CL "place" (plV pl) H E) ∧
  (lockBad d = none → ∃ ls n, TT H v ls ∧ GL ls n ∧ (∀ L, Wd ls n L → 240 < L.length → BadF CM "most" (.int 240) H E) ∧ k ls n)
theorem LockIn.imp {CL CM : Addr} {v : V} {H : Hp} {E : XK} {k k' : List (List Nat) → Nat → Prop} (h : LockIn CL CM v H E k) (i : ∀ ls n, TT H v ls → GL ls n → k ls n → k' ls n) : LockIn CL CM v H E k' := by
  obtain ⟨d, h1, h2, h3, h4⟩ := h
  refine ⟨d, h1, h2, h3, fun e => ?_⟩
  obtain ⟨ls, n, a, b, c, q⟩ := h4 e
  exact ⟨ls, n, a, b, c, i ls n a b q⟩
theorem numsOf_dT (t : List Nat) : numsOf (dT t) = t.map Int.ofNat := by
  show (t.map dN).map numOf = _
  rw [List.map_map]
  rfl
theorem isNums_dT (t : List Nat) : isNums (dT t) = true := by
  show (t.map dN).all isNum = true
  rw [List.all_map]
  exact List.all_eq_true.mpr fun _ _ => rfl
theorem ofNat_inj : ∀ x y : Nat, Int.ofNat x = Int.ofNat y → x = y := fun _ _ e => Int.ofNat.inj e
theorem perm_ofNat {a b : List Nat} (h : (a.map Int.ofNat).Perm (b.map Int.ofNat)) : a.Perm b := by
  have z := h.map Int.toNat
  rw [List.map_map, List.map_map] at z
  have e : ∀ l : List Nat, l.map (Int.toNat ∘ Int.ofNat) = l := fun l => (List.map_congr_left (g := id) fun _ _ => rfl).trans (List.map_id l)
  rw [e, e] at z
  exact z
theorem isPermD_dT (t : List Nat) (n : Nat) : isPermD (dT t) n = decide (IsP n t) := by
  unfold isPermD
  rw [isNums_dT, Bool.true_and, numsOf_dT]
  exact decide_eq_decide.mpr ⟨fun h => perm_ofNat h, fun h => List.Perm.map _ h⟩
theorem firstBad_good {n : Nat} : ∀ (ls : List (List Nat)) (i : Nat), (∀ g ∈ ls, IsP n g) → firstBad (ls.map dT) n i = none
  | [], _, _ => rfl
  | g :: ls, i, h => by
    show (if isPermD (dT g) n = true then firstBad (ls.map dT) n (i + 1) else some i) = none
    rw [isPermD_dT, decide_eq_true (h g List.mem_cons_self), if_pos rfl]
    exact firstBad_good ls (i + 1) fun x hx => h x (List.mem_cons_of_mem _ hx)
theorem lockBad_good {ls : List (List Nat)} {n : Nat} (h : GL ls n) : lockBad (.tuple (ls.map dT)) = none := by
  obtain ⟨h1, h2, h3, h4, h5⟩ := h
  cases ls with
  | nil => exact absurd h1 (by decide)
  | cons g ls =>
    have hg := (h5 g List.mem_cons_self).len
    show (if 1 ≤ ((g :: ls).map dT).length ∧ ((g :: ls).map dT).length ≤ 4 then (if isTup (dT g) = true ∧ 2 ≤ lenOf (dT g) ∧ lenOf (dT g) ≤ 9 then (firstBad ((g :: ls).map dT) (lenOf (dT g)) 0).map some else some (some 0)) else some none) = none
    have e : lenOf (dT g) = n := by
      show (g.map dN).length = n
      rw [List.length_map, hg]
    rw [if_pos ⟨by rw [List.length_map]; exact h1, by rw [List.length_map]; exact h2⟩, e, if_pos ⟨rfl, h3, h4⟩, firstBad_good _ _ h5]
    rfl
theorem sml_good {ls : List (List Nat)} {n : Nat} (h : GL ls n) : Sml (.tuple (ls.map dT)) := by
  obtain ⟨h1, h2, h3, h4, h5⟩ := h
  intro ds e
  injection e with e
  subst e
  refine ⟨by rw [List.length_map]; omega, fun x hx es ee => ?_⟩
  obtain ⟨g, hg, rfl⟩ := List.mem_map.mp hx
  injection ee with ee
  subst ee
  rw [List.length_map, (h5 g hg).len]
  omega
theorem Few.wd {ls : List (List Nat)} {n m : Nat} (h : Few ls n m) (hm : m ≤ 240) {L : List (List Nat × List Nat)} (hL : Wd ls n L) : ∃ a, L = Lt.qq ls n a ∧ L.length = a ∧ L.length ≤ m := by
  obtain ⟨a, rfl, h1, h2⟩ := hL
  have h3 := h.qq a
  exact ⟨a, rfl, by omega, h3⟩
theorem lockIn_good {CL CM : Addr} {v : V} {H : Hp} {E : XK} {k : List (List Nat) → Nat → Prop} {ls : List (List Nat)} {n m : Nat} (ht : TT H v ls) (hg : GL ls n) (hf : Few ls n m) (hm : m ≤ 240) (q : k ls n) : LockIn CL CM v H E k :=
  ⟨_, ht.rp, sml_good hg, fun pl e => (by rw [lockBad_good hg] at e; cases e), fun _ => ⟨ls, n, ht, hg, fun L hL h => by
    obtain ⟨a, _, _, z⟩ := hf.wd hm hL
    omega, q⟩⟩
theorem TT.head {H : Hp} {v : V} {ls : List (List Nat)} {n : Nat} (h : TT H v ls) (hg : GL ls n) : ∃ a xs b, v = .ref a ∧ H a = some (.tup xs) ∧ Paired (TN H) xs ls ∧ atI xs 0 = some (.ref b) ∧ ∃ t, RT H b (nIs t) ∧ t.length = n := by
  obtain ⟨a, xs, rfl, ha, p⟩ := h
  cases p with
  | nil => exact absurd hg.1 (by decide)
  | @cons x t xr tr r rr =>
    obtain ⟨b, rfl, hb⟩ := r
    exact ⟨a, _, b, rfl, ha, .cons ⟨b, rfl, hb⟩ rr, atI_nat (j := 0) rfl, t, hb, (hg.2.2.2.2 t List.mem_cons_self).len⟩
section
variable {P : Program} {w : World} {K : PySem.W.Frag} {mg : Str → Option Value} {base : Heap} {CL CM CT : Addr}
/-! ### made_words -/
def spMade (CL CM : Addr) : Sp := fun vs H Q E => ∃ v, vs = [v] ∧ LockIn CL CM v H E (fun ls n => ∀ d H' L, Same H H' → H d = none → DW H' d L → Wd ls n L → L.length ≤ 240 → Q (.ref d) H')
theorem sc_made_words : FnScope ["lock", "made"] ["lock"] (defScope s_made_words) := ⟨rfl, rfl, rfl, by decide +kernel, rfl, by decide +kernel, by decide +kernel⟩
theorem has_made_words (T : Top K mg "made_words" s_made_words ["lock"]) (B : Bi mg) (X2 : ErrI P w K mg base "TooMany" "most" CM) (C1 : Cn mg "MOST_TURNS" 240)
    (hC : Has P w K mg base (L2.CX P w) 4 "check_lock" ["lock"] (spCheck CL)) (hW : Has P w K mg base CX0 2 "words_of" ["makers", "size"] spWords) : Has P w K mg base (L2.CX P w) 5 "made_words" ["lock"] (spMade CL CM) := by
  refine T.okX sc_made_words (fun vs H Q E h => ?_) (fun f cdv A outer s H vs Q E hr h => ?_)
  · obtain ⟨v, rfl, _⟩ := h
    rfl
  · obtain ⟨v, rfl, d, hd, hs, hb, hg⟩ := h
    obtain ⟨t1, e1⟩ := C1
    have hr2 : Room 2 _ := hr.mono (by decide)
    refine ⟨_, pss_cons (ps_expr (pe_hasX (E := E) hC hr (by rfl) (passes_call (takes_of rfl rfl rfl rfl) (fun _ _ _ _ h => h)) (pa_cons (pv 0) pa_nil)))
      (pss_cons (ps_set (i := 1) sc_made_words.nd rfl (Or.inl rfl) (pe_has hW hr2 (by rfl) (pa_cons (pv 0) (pa_cons (pe_callB call_len_seq (by rfl) B.len PySem.boot_len (pa_cons (pe_ix ix_tup (pv 0) pe_int (fun _ _ => rfl)) pa_nil)) pa_nil))))
      (pss_cons (ps_if (pt_cmpR op_gt (pe_callB call_len_dT (by rfl) B.len PySem.boot_len (pa_cons (pv 1) pa_nil)) (pe_glob (v := .int 240) rfl e1 ⟨_, rfl⟩) (nomark _))
        (pss_one (ps_raise rfl (takes_of rfl rfl rfl rfl) (pmk_errI X2 hr2 (by rfl) (pa_cons (pe_glob (v := .int 240) rfl e1 ⟨_, rfl⟩) pa_nil)))) pss_nil)
      (pss_one (ps_ret (pv 1))))), ?_⟩
    refine ⟨_, rfl, v, d, rfl, hd, hs, fun eg H1 s1 => ?_, hb⟩
    obtain ⟨ls, n, ht, hgl, hM, q⟩ := hg eg
    have ht1 := ht.tm (.of s1)
    obtain ⟨a, xs, b, rfl, ha, hp, h0, t, hbt, htl⟩ := ht1.head hgl
    refine ⟨_, rfl, _, rfl, a, xs, 0, .ref b, rfl, rfl, SqT.of ha, h0, b, _, rfl, .inr (hbt.sq), .ref a, ls, n, by rw [nIs_len, htl]; rfl, ht1, hgl.2.2.2.2, by have := hgl.2.2.2.1; omega, by have := hgl.2.1; omega, fun dd H2 L s2 hdd hdw hwd => ?_⟩
    obtain ⟨kvs, hk, pk⟩ := hdw
    have s12 := s1.trans s2
    refine ⟨_, rfl, dd, kvs, rfl, hk, _, _, rfl, rfl, _, rfl, ite2 (fun h => ?_) (fun h => ?_)⟩
    · have h : (240 : Int) < (kvs.length : Int) := of_decide_eq_true h
      have hl : kvs.length = L.length := Paired.length pk
      exact mk_read X2.oex X2.no ((hM L hwd (by omega)).same s12)
    · have h : ¬ ((240 : Int) < (kvs.length : Int)) := fun z => h (decide_eq_true z)
      have hl : kvs.length = L.length := Paired.length pk
      exact ⟨_, rfl, q dd H2 L s12 (s1.free hdd) ⟨kvs, hk, pk⟩ hwd (by omega)⟩
/-! ### is_turn, are_turns, check_turn -/
def keyI (ns : List Int) : List Key := ns.map Sum.inl
theorem keyN_I (t : List Nat) : keyN t = keyI (t.map Int.ofNat) := by
  unfold keyN keyI
  rw [List.map_map]
  rfl
theorem keyI_inj {s t : List Int} (h : keyI s = keyI t) : s = t := by
  unfold keyI at h
  exact (List.map_inj_right (fun x y e => by injection e)).mp h
abbrev numL (L : List (List Nat × List Nat)) : List (List Int) := L.map fun x : List Nat × List Nat => x.1.map Int.ofNat
theorem dw_isSomeK {H : Hp} {ns : List Int} : ∀ {kvs : List (List Key × V)} {L : List (List Nat × List Nat)}, Paired (DE H) kvs L → (valV kvs (keyI ns)).isSome = decide (ns ∈ numL L)
  | _, _, .nil => by simp [valV_nil]
  | p :: ps, q :: qs, .cons r s => by
    have ep : p.1 = keyI (q.1.map Int.ofNat) := by rw [r.1, keyN_I]
    show _ = decide (ns ∈ (q.1.map Int.ofNat) :: numL qs)
    by_cases e : p.1 = keyI ns
    · have e2 : q.1.map Int.ofNat = ns := keyI_inj (ep.symm.trans e)
      rw [valV_pos e, e2, decide_eq_true List.mem_cons_self]
      rfl
    · rw [valV_neg e, dw_isSomeK s]
      refine decide_eq_decide.mpr ⟨fun h => List.mem_cons_of_mem _ h, fun h => ?_⟩
      rcases List.mem_cons.mp h with z | z
      · rw [z] at e
        exact absurd ep e
      · exact z
def isTurnD (L : List (List Nat × List Nat)) (d : PyData) : Bool := isNums d && decide (numsOf d ∈ numL L)
theorem isTurnD_dT (L : List (List Nat × List Nat)) (t : List Nat) : isTurnD L (dT t) = decide (t ∈ L.map (·.1)) := by
  unfold isTurnD
  rw [isNums_dT, Bool.true_and, numsOf_dT]
  refine decide_eq_decide.mpr ⟨fun h => ?_, fun h => ?_⟩
  · obtain ⟨x, hx, e⟩ := List.mem_map.mp h
    rw [← (List.map_inj_right ofNat_inj).mp e]
    exact List.mem_map.mpr ⟨x, hx, rfl⟩
  · obtain ⟨x, hx, e⟩ := List.mem_map.mp h
    exact List.mem_map.mpr ⟨x, hx, by rw [e]⟩
def areTurnsD (L : List (List Nat × List Nat)) : PyData → Bool
  | .tuple ds => ds.all (isTurnD L)
  | _ => false
end
end Lt


set_option Elab.async false
set_option linter.all false
set_option maxRecDepth 100000
set_option maxHeartbeats 4000000
namespace Lt
open PySem PySem.Spec PyProof.Rows L2
/-! ### ascending -/
def iN (t : List Nat) : List Int := t.map Int.ofNat
def cd (t : List Nat) : Int := TS.code 9 (iN t)
def Asc (ts : List (List Nat)) : Prop := ts.Pairwise fun x y => cd x ≤ cd y
theorem iN_len (t : List Nat) : (iN t).length = t.length := List.length_map ..
theorem iN_inj {s t : List Nat} (h : iN s = iN t) : s = t := (List.map_inj_right ofNat_inj).mp h
theorem bd_iN {n : Nat} {t : List Nat} (h : IsP n t) (hn : n ≤ 9) : TS.Bd 9 (iN t) := fun m hm => by
  obtain ⟨i, hi, rfl⟩ := List.mem_map.mp hm
  have := h.lt i hi
  exact ⟨Int.natCast_nonneg i, by show (i : Int) < 9; omega⟩
theorem code_inj : ∀ {x y : List Int}, x.length = y.length → TS.Bd 9 x → TS.Bd 9 y → TS.code 9 x = TS.code 9 y → x = y
  | [], [], _, _, _, _ => rfl
  | [], _ :: _, h, _, _, _ => by cases h
  | _ :: _, [], h, _, _, _ => by cases h
  | a :: x, b :: y, h, hx, hy, e => by
    have hl : x.length = y.length := Nat.succ.inj h
    rcases Int.lt_trichotomy a b with z | z | z
    · have := TS.code_lt hl hx.tail hy.tail z
      omega
    · subst z
      have e2 : TS.code 9 x = TS.code 9 y := by
        have e' : a * 9 ^ x.length + TS.code 9 x = a * 9 ^ y.length + TS.code 9 y := e
        rw [hl] at e'
        omega
      rw [code_inj hl hx.tail hy.tail e2]
    · have := TS.code_lt hl.symm hy.tail hx.tail z
      omega
theorem cd_inj {n : Nat} {s t : List Nat} (hs : IsP n s) (ht : IsP n t) (hn : n ≤ 9) (e : cd s = cd t) : s = t :=
  iN_inj (code_inj (by rw [iN_len, iN_len, hs.len, ht.len]) (bd_iN hs hn) (bd_iN ht hn) e)
/-- an ascending list is told by its members -/
theorem asc_one {n : Nat} {a b : List (List Nat)} (hn : n ≤ 9) (ha : ∀ t ∈ a, IsP n t) (p : a.Perm b) (h1 : Asc a) (h2 : Asc b) : a = b :=
  List.Perm.eq_of_pairwise (fun x y hx hy e1 e2 => cd_inj (ha x hx) (ha y (p.mem_iff.mpr hy)) hn (Int.le_antisymm e1 e2)) h1 h2 p
/-- a lock that is asked of -/
structure Good (H : Hp) (v : V) (ls : List (List Nat)) (n : Nat) : Prop where
  tt : TT H v ls
  gl : GL ls n
  few : Few ls n 63
theorem Good.tm {H H' : Hp} {v : V} {ls : List (List Nat)} {n : Nat} (h : Good H v ls n) (e : Tm H H') : Good H' v ls n := ⟨h.tt.tm e, h.gl, h.few⟩
theorem Good.same {H H' : Hp} {v : V} {ls : List (List Nat)} {n : Nat} (h : Good H v ls n) (e : Same H H') : Good H' v ls n := h.tm (.of e)
theorem Good.isP {H : Hp} {v : V} {ls : List (List Nat)} {n : Nat} (h : Good H v ls n) {t : List Nat} (m : Mk ls n t) : IsP n t := m.isP h.gl.2.2.2.2
theorem Good.mem {H : Hp} {v : V} {ls : List (List Nat)} {n : Nat} (h : Good H v ls n) (t : List Nat) : t ∈ (LL ls n).map (·.1) ↔ Mk ls n t := LL_mem h.few (by omega) t
section
variable {P : Program} {w : World} {K : PySem.W.Frag} {mg : Str → Option Value} {base : Heap} {CL CM CT : Addr}
theorem Good.wd {H : Hp} {v : V} {ls : List (List Nat)} {n : Nat} (g : Good H v ls n) {L : List (List Nat × List Nat)} (hL : Wd ls n L) : L = LL ls n := by
  obtain ⟨a, e1, e2, _⟩ := g.few.wd (by omega) hL
  rw [e1] at e2 ⊢
  exact LL_of g.few (by omega) e2
theorem tlen {t : List Nat} {m : Nat} (h : t.length ≤ m) : ∀ ds, dT t = .tuple ds → ds.length ≤ m := fun ds e => by
  injection e with e
  subst e
  rw [List.length_map]
  exact h
theorem isTurn_mk {H : Hp} {v : V} {ls : List (List Nat)} {n : Nat} (g : Good H v ls n) (t : List Nat) : (isTurnD (LL ls n) (dT t) = true ↔ Mk ls n t) := by
  rw [isTurnD_dT, decide_eq_true_iff]
  exact g.mem t
theorem isTurn_no {H : Hp} {v : V} {ls : List (List Nat)} {n : Nat} (g : Good H v ls n) {t : List Nat} (e : isTurnD (LL ls n) (dT t) = false) : ¬ Mk ls n t := fun z => by
  rw [(isTurn_mk g t).mpr z] at e
  cases e
/-! ### all_turns -/
def spAll (CL CM : Addr) : Sp := fun vs H Q E => ∃ v, vs = [v] ∧ LockIn CL CM v H E (fun ls n => ∀ L, Wd ls n L → L.length ≤ 240 → L.length < 64 ∧ ∀ r H' ts, Same H H' → TT H' r ts → ts.Perm (L.map (·.1)) → Asc ts → Q r H')
/-- a tuple of turns that may be keys -/
def TTK (H : Hp) (v : V) (ts : List (List Nat)) : Prop := ∃ a xs, v = .ref a ∧ H a = some (.tup xs) ∧ Paired (TK H) xs ts
theorem TTK.tt {H : Hp} {v : V} {ts : List (List Nat)} (h : TTK H v ts) : TT H v ts := let ⟨a, xs, e, ha, p⟩ := h; ⟨a, xs, e, ha, paired_mono (fun _ _ r => r.tn) p⟩
def spAllK (CL CM : Addr) : Sp := fun vs H Q E => ∃ v, vs = [v] ∧ LockIn CL CM v H E (fun ls n => ∀ L, Wd ls n L → L.length ≤ 240 → L.length < 64 ∧ ∀ r H' ts, Same H H' → TTK H' r ts → ts.Perm (L.map (·.1)) → Asc ts → Q r H')
theorem sc_all_turns : FnScope ["lock"] ["lock"] (defScope s_all_turns) := ⟨rfl, rfl, rfl, by decide +kernel, rfl, by decide +kernel, by decide +kernel⟩
theorem keysI {H : Hp} {kvs : List (List Key × V)} {L : List (List Nat × List Nat)} (p : Paired (DE H) kvs L) : kvs.map (·.1) = (numL L).map fun k => k.map Sum.inl := by
  induction p with
  | nil => rfl
  | cons r _ ih =>
    rw [List.map_cons, ih, r.1, keyN_I]
    rfl
theorem wd_isP {ls : List (List Nat)} {n : Nat} (hg : ∀ g ∈ ls, IsP n g) {L : List (List Nat × List Nat)} (h : Wd ls n L) : ∀ x ∈ L, IsP n x.1 := fun x hx => by
  obtain ⟨a, rfl, _⟩ := h
  exact (qq_mk ls n a x.1 (List.mem_map.mpr ⟨x, hx, rfl⟩)).isP hg
/-- the bases of sorted ints are turns -/
theorem turns_back {L : List (List Nat × List Nat)} : ∀ {ks : List (List Int)}, (∀ k ∈ ks, k ∈ numL L) → ∃ ts : List (List Nat), ks = ts.map iN
  | [], _ => ⟨[], rfl⟩
  | k :: ks, h => by
    obtain ⟨x, _, e⟩ := List.mem_map.mp (h k List.mem_cons_self)
    obtain ⟨ts, e2⟩ := turns_back fun y hy => h y (List.mem_cons_of_mem _ hy)
    exact ⟨x.1 :: ts, by rw [e2, List.map_cons, ← e]; rfl⟩
theorem perm_iN {a b : List (List Nat)} (h : (a.map iN).Perm (b.map iN)) : a.Perm b := by
  have z := h.map fun k : List Int => k.map Int.toNat
  rw [List.map_map, List.map_map] at z
  have e : ∀ l : List (List Nat), l.map ((fun k : List Int => k.map Int.toNat) ∘ iN) = l := fun l => (List.map_congr_left (g := id) fun t _ => by
    show (t.map Int.ofNat).map Int.toNat = t
    rw [List.map_map]
    exact (List.map_congr_left (g := id) fun _ _ => rfl).trans (List.map_id t)).trans (List.map_id l)
  rw [e, e] at z
  exact z
theorem tns_of {H : Hp} : ∀ {bs : List Addr} {ts : List (List Nat)}, Paired (fun (b : Addr) k => H b = some (.tup (k.map V.int))) bs (ts.map iN) → Paired (TK H) (bs.map V.ref) ts
  | [], [], .nil => .nil
  | b :: bs, t :: ts, .cons r s => .cons ⟨b, rfl, by rw [r, nIs_int]; rfl⟩ (tns_of s)
theorem has_all_turnsK (T : Top K mg "all_turns" s_all_turns ["lock"]) (B : Bi mg) (hM : Has P w K mg base (L2.CX P w) 5 "made_words" ["lock"] (spMade CL CM)) : Has P w K mg base (L2.CX P w) 6 "all_turns" ["lock"] (spAllK CL CM) := by
  refine T.okX sc_all_turns (fun vs H Q E h => ?_) (fun f cdv A outer s H vs Q E hr h => ?_)
  · obtain ⟨v, rfl, _⟩ := h
    rfl
  · obtain ⟨v, rfl, hl⟩ := h
    obtain ⟨n, hn1, hl⟩ : ∃ n, 1 ≤ n ∧ LockIn CL CM v H E (fun ls m => m = n ∧ ∀ L, Wd ls m L → L.length ≤ 240 → L.length < 64 ∧ ∀ r H' ts, Same H H' → TTK H' r ts → ts.Perm (L.map (·.1)) → Asc ts → Q r H') := by
      obtain ⟨d, h1, h2, h3, h4⟩ := hl
      cases hb : lockBad d with
      | some pl => exact ⟨1, Nat.le_refl 1, d, h1, h2, h3, fun e => by rw [hb] at e; cases e⟩
      | none =>
        obtain ⟨ls, n, a, b, c, q⟩ := h4 hb
        exact ⟨n, by have := b.2.2.1; omega, d, h1, h2, h3, fun _ => ⟨ls, n, a, b, c, rfl, q⟩⟩
    refine ⟨_, pss_one (ps_ret (pe_tupleOf (by rfl) B.tuple (pe_callB (cr_sortDT (d := n) (B := 9) rfl hn1) (by rfl) B.sorted PyProof.Rows.boot_sorted (pa_cons (pe_hasX (E := E) hM hr (by rfl) (passes_call (takes_of rfl rfl rfl rfl) (fun _ _ _ _ h => h)) (pa_cons (pv 0) pa_nil)) pa_nil)))), ?_⟩
    refine ⟨_, rfl, v, rfl, hl.imp fun ls m ht hg ⟨em, q⟩ d H1 L s1 hd hw hL h240 => ?_⟩
    subst em
    obtain ⟨kvs, hk, pk⟩ := hw
    obtain ⟨h64, q⟩ := q L hL h240
    have hP := wd_isP hg.2.2.2.2 hL
    refine ⟨d, kvs, numL L, rfl, .inl hk, keysI pk, by rw [List.length_map]; exact h64, fun k hk => ?_, fun bs ks' p pm so pr hp => ?_⟩
    · obtain ⟨x, hx, rfl⟩ := List.mem_map.mp hk
      exact ⟨by rw [List.length_map, (hP x hx).len], bd_iN (hP x hx) hg.2.2.2.1⟩
    · obtain ⟨ts, rfl⟩ := turns_back (L := L) fun k hk => pm.mem_iff.mp hk
      have pm2 : ts.Perm (L.map (·.1)) := perm_iN (by
        rw [List.map_map]
        exact pm)
      refine .inl ⟨p, _, rfl, SqL.of upd_same, fun r hr => ?_⟩
      have s2 := (same_new (o := .lst (bs.map V.ref)) hp).trans (same_new (o := .tup (bs.map V.ref)) hr)
      refine q _ _ ts (s1.trans s2) ⟨r, _, rfl, upd_same, paired_mono (fun _ _ r => TK.tm (.of s2) r) (tns_of pr)⟩ pm2 (show ts.Pairwise fun x y => cd x ≤ cd y from (List.pairwise_map (f := iN) (R := fun x y => TS.code 9 x ≤ TS.code 9 y)).mp so)
theorem has_all_turns (T : Top K mg "all_turns" s_all_turns ["lock"]) (B : Bi mg) (hM : Has P w K mg base (L2.CX P w) 5 "made_words" ["lock"] (spMade CL CM)) : Has P w K mg base (L2.CX P w) 6 "all_turns" ["lock"] (spAll CL CM) :=
  (has_all_turnsK T B hM).imp fun vs H Q E h => by
    obtain ⟨v, e, hl⟩ := h
    exact ⟨v, e, hl.imp fun ls n _ _ q L hL h240 => ⟨(q L hL h240).1, fun r H' ts s k => (q L hL h240).2 r H' ts s k.tt⟩⟩
end
end Lt

set_option Elab.async false
set_option linter.all false
set_option maxRecDepth 100000
set_option maxHeartbeats 1000000
namespace Lt
open PySem PySem.Spec PyProof.Rows L2
/-! ### the row of draws -/
/-- all but the object at r is as it was -/
def StepR (r : Addr) (H H' : Hp) : Prop := ∀ a o, a ≠ r → H a = some o → H' a = some o
theorem StepR.refl (r : Addr) (H : Hp) : StepR r H H := fun _ _ _ h => h
theorem StepR.trans {r : Addr} {H H1 H2 : Hp} (a : StepR r H H1) (b : StepR r H1 H2) : StepR r H H2 := fun c o hc h => b c o hc (a c o hc h)
theorem StepR.of {r : Addr} {H H' : Hp} (e : Same H H') : StepR r H H' := fun a o _ h => e a o h
theorem StepR.put (r : Addr) (H : Hp) (o : HO) : StepR r H (upd H r o) := fun a u h e => by rw [upd_ne h]; exact e
structure Row4 (K : PySem.W.Frag) (H : Hp) (r sc : Addr) (ns : List Int) (a b c : Int) : Prop where
  at_ : H r = some (.lst [.ref sc, .int a, .int b, .int c])
  sc : SqL K H sc (ns.map V.int)
  a0 : 0 ≤ a
  b0 : 0 ≤ b
  b1 : b < 2147483647
def RowAt (K : PySem.W.Frag) (H : Hp) (r sc : Addr) (ns : List Int) : Prop := ∃ a b c, Row4 K H r sc ns a b c
theorem StepR.tm {K : PySem.W.Frag} {r sc : Addr} {ns : List Int} {H H' : Hp} (s : StepR r H H') (h : RowAt K H r sc ns) : Tm H H' := by
  obtain ⟨x, b, c, R⟩ := h
  exact ⟨fun a xs e => s a _ (ne_of e R.at_ (fun z => nomatch z)) e, fun a o xs e => s a _ (ne_of e R.at_ (fun z => nomatch z)) e⟩
theorem sq_upd {K : PySem.W.Frag} {H : Hp} {r sc x : Addr} {o : HO} {ns : List Int} {ys : List V} (hr : H r = some (.lst (.ref x :: ys))) (h : SqL K H sc (ns.map V.int)) : SqL K (upd H r o) sc (ns.map V.int) := by
  have key : ∀ u, H sc = some u → u = .lst (ns.map V.int) ∨ (∃ ob, u = .frz ob (.lst (ns.map V.int))) → upd H r o sc = some u := fun u hu hc => by
    refine (upd_ne (ne_of hu hr fun z => ?_)).trans hu
    rcases hc with e | ⟨ob, e⟩
    · rw [e] at z
      injection z with z
      cases ns with
      | nil => cases z
      | cons n ns => cases z
    · rw [e] at z
      cases z
  rcases h with (h | ⟨ob, h⟩) | h
  · exact .inl (.inl (key _ h (.inl rfl)))
  · exact .inl (.inr ⟨ob, key _ h (.inr ⟨ob, rfl⟩)⟩)
  · exact .inr h
theorem Row4.put {K : PySem.W.Frag} {H : Hp} {r sc : Addr} {ns : List Int} {a b c a' b' c' : Int} (h : Row4 K H r sc ns a b c) (h1 : 0 ≤ a') (h2 : 0 ≤ b') (h3 : b' < 2147483647) : Row4 K (upd H r (.lst [.ref sc, .int a', .int b', .int c'])) r sc ns a' b' c' :=
  ⟨upd_same, sq_upd h.at_ h.sc, h1, h2, h3⟩
theorem RowAt.step {K : PySem.W.Frag} {H H' : Hp} {r sc : Addr} {ns : List Int} (h : RowAt K H r sc ns) (s : Same H H') : RowAt K H' r sc ns := by
  obtain ⟨a, b, c, R⟩ := h
  exact ⟨a, b, c, s _ _ R.at_, Same.seq s R.sc, R.a0, R.b0, R.b1⟩
theorem RowAt.sq {K : PySem.W.Frag} {H : Hp} {r sc : Addr} {ns : List Int} (h : RowAt K H r sc ns) : SqL K H sc (ns.map V.int) := let ⟨_, _, _, R⟩ := h; R.sc
theorem RowAt.ne {K : PySem.W.Frag} {H : Hp} {r sc l : Addr} {ns : List Int} (h : RowAt K H r sc ns) (hl : H l = none) : r ≠ l := let ⟨_, _, _, R⟩ := h; ne_of_none R.at_ hl
/-- an object that was not there at H0, where the row stood, may change -/
theorem RowAt.mut {K : PySem.W.Frag} {H0 H : Hp} {r sc l : Addr} {o : HO} {ns : List Int} (h0 : RowAt K H0 r sc ns) (hl : H0 l = none) (h : RowAt K H r sc ns) : RowAt K (upd H l o) r sc ns := by
  have hr := h0.ne hl
  have s0 := h0.sq
  obtain ⟨a, b, c, R⟩ := h
  refine ⟨a, b, c, (upd_ne hr).trans R.at_, ?_, R.a0, R.b0, R.b1⟩
  rcases s0 with (s0 | ⟨ob, s0⟩) | s0
  · have hne : sc ≠ l := ne_of_none s0 hl
    rcases R.sc with (z | ⟨ob, z⟩) | z
    · exact .inl (.inl ((upd_ne hne).trans z))
    · exact .inl (.inr ⟨ob, (upd_ne hne).trans z⟩)
    · exact .inr z
  · have hne : sc ≠ l := ne_of_none s0 hl
    rcases R.sc with (z | ⟨ob, z⟩) | z
    · exact .inl (.inl ((upd_ne hne).trans z))
    · exact .inl (.inr ⟨ob, (upd_ne hne).trans z⟩)
    · exact .inr z
  · exact .inr s0
theorem StepR.mut {r l : Addr} {H0 H : Hp} {o : HO} (s : StepR r H0 H) (hl : H0 l = none) : StepR r H0 (upd H l o) := fun a u ha e => by
  rw [upd_ne (ne_of_none e hl)]
  exact s a u ha e
theorem StepR.free {r l : Addr} {H0 H : Hp} (s : StepR r H0 H) (hr : r ≠ l) (hl : H l = none) : H0 l = none := by
  cases e : H0 l with
  | none => rfl
  | some o =>
    rw [s l o (Ne.symm hr) e] at hl
    cases hl
section
variable {P : Program} {w : World} {K : PySem.W.Frag} {mg : Str → Option Value} {base : Heap}
def spTaken (K : PySem.W.Frag) : Sp := fun vs H Q _ => ∃ (r sc : Addr) (ns : List Int) (m : Nat), vs = [.ref r, nI m] ∧ RowAt K H r sc ns ∧ 1 ≤ m ∧ m ≤ 1000 ∧ ∀ x H', x < m → StepR r H H' → RowAt K H' r sc ns → Q (nI x) H'
theorem sc_law_taken : FnScope ["row", "many", "found", "cell"] ["row", "many"] (defScope s_law_taken) := ⟨rfl, rfl, rfl, by decide +kernel, rfl, by decide +kernel, by decide +kernel⟩
theorem fmod_nat {i : Int} {m : Nat} (h : 1 ≤ m) : ∃ x : Nat, x < m ∧ Int.fmod i (m : Int) = (x : Int) := by
  have h0 : (0 : Int) < (m : Int) := by omega
  rw [Int.fmod_eq_emod_of_nonneg i (Int.le_of_lt h0)]
  have h1 := Int.emod_nonneg i (show (m : Int) ≠ 0 by omega)
  have h2 := Int.emod_lt_of_pos i h0
  exact ⟨(i % m).toNat, by omega, by omega⟩
theorem has_law_taken (T : Top K mg "_law_taken" s_law_taken ["row", "many"]) (B : Bi mg) : Has P w K mg base CX0 1 "_law_taken" ["row", "many"] (spTaken K) := by
  refine T.ok sc_law_taken (fun vs H Q E h => ?_) (fun f cdv A outer s H vs Q E hr h => ?_)
  · obtain ⟨r, sc, ns, m, rfl, _⟩ := h
    rfl
  · obtain ⟨r, sc, ns, m, rfl, ⟨a, b, c, R⟩, hm1, hm2, q⟩ := h
    refine ⟨_, pss_cons (ps_if (pt_cmpR op_gt (pe_ix ix_list (pv 0) pe_int (fun _ _ => rfl)) pe_int (nomark _))
        (pss_cons (ps_set (i := 2) sc_law_taken.nd rfl (Or.inl rfl) (pe_op op_modN (pe_callTy call_int1 (by rfl) B.int PyProof.Rows.boot_int (pa_cons (pe_ix ix_list (pv 0) pe_int (fun _ _ => rfl)) pa_nil)) (pv 1)))
        (pss_cons (ps_asg (pe_op op_fdivN (pe_ix ix_list (pv 0) pe_int (fun _ _ => rfl)) (pv 1)) (pg_sub (pv 0) pe_int set_list))
        (pss_one (ps_ret (pv 2))))) pss_nil)
      (pss_cons (ps_asg (pe_op op_add (pe_ix ix_list (pv 0) pe_int (fun _ _ => rfl)) pe_int) (pg_sub (pv 0) pe_int set_list))
      (pss_cons (ps_if (pt_cmpR op_gt (pe_ix ix_list (pv 0) pe_int (fun _ _ => rfl)) (pe_callB call_len_seq (by rfl) B.len PySem.boot_len (pa_cons (pe_ix ix_list (pv 0) pe_int (fun _ _ => rfl)) pa_nil)) (nomark _))
        (pss_cons (ps_asg (pe_op op_modN (pe_callTy call_int1 (by rfl) B.int PyProof.Rows.boot_int (pa_cons (pe_op op_add (pe_op op_mul (pe_ix ix_list (pv 0) pe_int (fun _ _ => rfl)) pe_int) pe_int) pa_nil)) pe_int) (pg_sub (pv 0) pe_int set_list))
        (pss_one (ps_ret (pe_op op_modN (pe_callTy call_int1 (by rfl) B.int PyProof.Rows.boot_int (pa_cons (pe_op op_fdivN (pe_ix ix_list (pv 0) pe_int (fun _ _ => rfl)) pe_int) pa_nil)) (pv 1))))) pss_nil)
      (pss_cons (ps_set (i := 3) sc_law_taken.nd rfl (Or.inl rfl) (pe_ix ix_list (pe_ix ix_list (pv 0) pe_int (fun _ _ => rfl)) (pe_op op_sub (pe_ix ix_list (pv 0) pe_int (fun _ _ => rfl)) pe_int) (fun _ _ => rfl)))
      (pss_cons (ps_asg (pe_op op_modN (pe_callTy call_int1 (by rfl) B.int PyProof.Rows.boot_int (pa_cons (pe_op op_add (pe_op op_add (pe_op op_mul (pe_ix ix_list (pv 0) pe_int (fun _ _ => rfl)) pe_int) (pv 3)) pe_int) pa_nil)) pe_int) (pg_sub (pv 0) pe_int set_list))
      (pss_cons (ps_if (pt_cmpR op_ge (pv 3) (pe_op op_pow pe_int pe_int) (nomark _))
        (pss_one (ps_asg (pe_op op_fdivN (pv 3) (pv 1)) (pg_sub (pv 0) pe_int set_list))) pss_nil)
      (pss_one (ps_ret (pe_op op_modN (pe_callTy call_int1 (by rfl) B.int PyProof.Rows.boot_int (pa_cons (pv 3) pa_nil)) (pv 1))))))))), ?_⟩
    have hm0 : (m : Int) ≠ 0 := by omega
    have hmb : ((m : Int)).natAbs < 1073741824 := by omega
    have rd : ∀ {H a b c}, Row4 K H r sc ns a b c → SqL K H r [.ref sc, .int a, .int b, .int c] := fun R => SqL.of R.at_
    have a00 := R.a0
    have b00 := R.b0
    have b11 := R.b1
    have fin : ∀ i H', StepR r H H' → RowAt K H' r sc ns → Q (.int (Int.fmod i m)) H' := fun i H' st ra => by
      obtain ⟨x, hx, ex⟩ := fmod_nat (i := i) hm1
      rw [ex]
      exact q x H' hx st ra
    refine ⟨_, rfl, r, _, 3, .int c, rfl, rfl, rd R, rfl, c, 0, rfl, rfl, _, rfl, ite2 (fun hc => ?_) (fun hc => ?_)⟩
    · refine ⟨_, rfl, r, _, 3, .int c, rfl, rfl, rd R, rfl, .inl ⟨_, rfl, _, rfl, c, m, rfl, rfl, hm0, ?_⟩⟩
      refine ⟨_, rfl, r, _, 3, .int c, rfl, rfl, rd R, rfl, _, rfl, c, m, rfl, rfl, ⟨hm0, hmb⟩, _, rfl, r, _, 3, 3, rfl, rfl, R.at_, rfl, ?_⟩
      exact ⟨_, rfl, fin c _ (StepR.put _ _ _) ⟨a, b, _, R.put a00 b00 b11⟩⟩
    · have R1 := R.put (a' := a + 1) (b' := b) (c' := c) (by omega) b00 b11
      refine ⟨_, rfl, r, _, 1, .int a, rfl, rfl, rd R, rfl, a, 1, rfl, rfl, _, rfl, r, _, 1, 1, rfl, rfl, R.at_, rfl, ?_⟩
      refine ⟨_, rfl, r, _, 1, .int (a + 1), rfl, rfl, rd R1, rfl, _, rfl, r, _, 0, .ref sc, rfl, rfl, rd R1, rfl, sc, ns.map V.int, rfl, .inl R1.sc, a + 1, _, rfl, rfl, _, rfl, ite2 (fun h2 => ?_) (fun h2 => ?_)⟩
      · obtain ⟨y, hy, ey⟩ := fmod_nat (i := b * 48271 + 11) (m := 2147483647) (by decide)
        have ey' : Int.fmod (b * 48271 + 11) 2147483647 = (y : Int) := ey
        have R2 := R1.put (a' := a + 1) (b' := Int.fmod (b * 48271 + 11) 2147483647) (c' := c) (by omega) (by omega) (by omega)
        refine ⟨_, rfl, r, _, 2, .int b, rfl, rfl, rd R1, rfl, b, 48271, rfl, rfl, .inl ⟨by omega, by omega⟩, b * 48271, 11, rfl, rfl, .inl ⟨_, rfl, b * 48271 + 11, 2147483647, rfl, rfl, (show (2147483647 : Int) ≠ 0 by decide), _, rfl, r, _, 2, 2, rfl, rfl, R1.at_, rfl, ?_⟩⟩
        refine ⟨_, rfl, r, _, 2, .int _, rfl, rfl, rd R2, rfl, _, 7, rfl, rfl, ⟨by decide, by decide⟩, .inl ⟨_, rfl, _, rfl, _, m, rfl, rfl, hm0, ?_⟩⟩
        exact fin _ _ ((StepR.put _ _ _).trans (StepR.put _ _ _)) ⟨_, _, _, R2⟩
      · have h2 : ¬ (((ns.map V.int).length : Int) < a + 1) := fun z => h2 (decide_eq_true z)
        rw [List.length_map] at h2
        have hlt : a.toNat < ns.length := by omega
        have hat : atI (ns.map V.int) (a + 1 - 1) = some (.int ns[a.toNat]) := by
          have e : a + 1 - 1 = ((a.toNat : Nat) : Int) := by omega
          rw [e]
          refine atI_nat ?_
          rw [List.getElem?_map, List.getElem?_eq_getElem hlt]
          rfl
        generalize ns[a.toNat] = z at hat
        refine ⟨_, rfl, r, _, 0, .ref sc, rfl, rfl, rd R1, rfl, _, rfl, r, _, 1, .int (a + 1), rfl, rfl, rd R1, rfl, a + 1, 1, rfl, rfl, sc, _, a + 1 - 1, .int z, rfl, rfl, R1.sc, hat, ?_⟩
        obtain ⟨y, hy, ey⟩ := fmod_nat (i := b * 48271 + z + 11) (m := 2147483647) (by decide)
        have ey' : Int.fmod (b * 48271 + z + 11) 2147483647 = (y : Int) := ey
        have R2 := R1.put (a' := a + 1) (b' := Int.fmod (b * 48271 + z + 11) 2147483647) (c' := c) (by omega) (by omega) (by omega)
        refine ⟨_, rfl, r, _, 2, .int b, rfl, rfl, rd R1, rfl, b, 48271, rfl, rfl, .inl ⟨by omega, by omega⟩, _, rfl, b * 48271, z, rfl, rfl, b * 48271 + z, 11, rfl, rfl, .inl ⟨_, rfl, b * 48271 + z + 11, 2147483647, rfl, rfl, (show (2147483647 : Int) ≠ 0 by decide), _, rfl, r, _, 2, 2, rfl, rfl, R1.at_, rfl, ?_⟩⟩
        refine ⟨_, rfl, 10, 18, rfl, rfl, ⟨by decide, by decide, by decide⟩, z, _, rfl, rfl, _, rfl, ite2 (fun h3 => ?_) (fun h3 => ?_)⟩
        · refine ⟨_, rfl, _, rfl, z, m, rfl, rfl, ⟨hm0, hmb⟩, _, rfl, r, _, 3, 3, rfl, rfl, R2.at_, rfl, ?_⟩
          refine ⟨_, rfl, .inl ⟨_, rfl, _, rfl, _, m, rfl, rfl, hm0, ?_⟩⟩
          exact fin _ _ (((StepR.put _ _ _).trans (StepR.put _ _ _)).trans (StepR.put _ _ _)) ⟨_, _, _, R2.put (by omega) (by omega) (by omega)⟩
        · refine ⟨_, rfl, .inl ⟨_, rfl, _, rfl, _, m, rfl, rfl, hm0, ?_⟩⟩
          exact fin _ _ ((StepR.put _ _ _).trans (StepR.put _ _ _)) ⟨_, _, _, R2⟩
end
end Lt

set_option Elab.async false
set_option linter.all false
set_option maxRecDepth 100000
set_option maxHeartbeats 1000000
/-! tuples whose object is known: they bear no dict, so their methods are found -/
namespace L2
open PySem PySem.Spec PyProof.Rows
section
variable {X : Cx} {a : Expr} {ta : TE} {te : St → Hp → (Int → Int → Hp → Prop) → Prop} {e : Expr}
def kTupF (K : PySem.W.Frag) (x : V) (H : Hp) (Q : VK) : Prop := ∃ p xs, x = .ref p ∧ SqL K H p xs ∧ ∀ q o, o.dict = none → H q = none → Q (.ref q) (upd H q (.frz o (.tup xs)))
theorem pe_tupleOfF {p pos : Pos} (hg : Gl X "tuple") (hm : X.mg "tuple" = none) (ha : PE X a ta) (na : starEach [a] X.env = (false, eval a X.env) :: starEach [] X.env := by rfl) :
    PE X (.Call (.Name "tuple" p) [a] [] pos) (tThen ta (kTupF X.K)) := by
  refine ⟨fun pins s σ H Q I h => ?_⟩
  refine Call_ (ld_blt I hg hm boot_tuple (PyProof.Rows.callWith_type1 (one_arg ha I h (fun v s2 x H2 I2 r q => ?_) na) na))
  obtain ⟨l, xs, rfl, hs, q⟩ := q
  obtain rfl : v = .ref l := r
  obtain ⟨its, rv, pl, hz⟩ := I2.list hs
  refine call_tuple_list pl.isList (fun h' hk => ?_) (by rw [List.size_toArray, ← rv.length]; exact hz)
  have I3 : Inv X pins σ H2 { s2 with heap := h' } := I2.kept (t' := s2.toks) hk
  have hget : (h'.push { cls := .type "tuple", data := .seq its.toArray }).get? h'.objs.size = some { cls := .type "tuple", data := .seq its.toArray } := Heap.get?_push_size _ rfl
  have I4 := I3.laid (a := h'.objs.size) (o := .frz { cls := .type "tuple", data := .seq its.toArray } (.tup xs)) (h' := h'.push { cls := .type "tuple", data := .seq its.toArray }) (t' := s2.toks) (fun b o e => Heap.get?_push_of_some _ e) (Nat.le_refl _) ⟨hget, hz, its, rv, _, hget, rfl, _, rfl⟩
  exact ⟨.ref h'.objs.size, _, I4, rfl, q _ _ rfl (I3.hok.fresh (Nat.le_refl _))⟩
def tTupRgF (te : St → Hp → (Int → Int → Hp → Prop) → Prop) : TE := fun σ H Q => te σ H fun a b H1 => RgOk a b ∧ ∀ q o, o.dict = none → H1 q = none → Q (.ref q) (upd H1 q (.frz o (.tup (rgV a b))))
theorem pe_tupRgF {p pos : Pos} (hc : X.calm = true) (hg : Gl X "tuple") (hm : X.mg "tuple" = none) (he : PRg X e te) (na : starEach [e] X.env = (false, eval e X.env) :: starEach [] X.env := by rfl) : PE X (.Call (.Name "tuple" p) [e] [] pos) (tTupRgF te) := by
  refine ⟨fun pins s σ H Q I h => ?_⟩
  refine Call_ (ld_blt I hg hm boot_tuple (PyProof.Rows.callWith_type1 (args_cons (thn (he pins s σ H _ I h) fun x s1 ⟨r, a, b, t, u, v, H1, ex, hr, I1, ok, q⟩ => args_nil ?_) na) na))
  subst ex
  obtain ⟨b1, b2, b3, b4, b5⟩ := ok
  refine call_tuple_range (n := (b - a).toNat) (I1.ok.hd hc) hr (small_one b1 b2 b3 b4) (rangeSize_nat a b) b5 fun h' tk acc hk hi => ?_
  have I2 : Inv X pins σ H1 { s1 with heap := h', toks := tk } := I1.kept hk
  have hget : (h'.push { cls := .type "tuple", data := .seq acc }).get? h'.objs.size = some { cls := .type "tuple", data := .seq acc } := Heap.get?_push_size _ rfl
  have hz : (rgV a b).length ≤ sizeLine := by rw [rgV_length, sizeLine_eq]; omega
  have hi2 : IsTup (h'.push { cls := .type "tuple", data := .seq acc }) h'.objs.size acc.toList.toArray := by rw [Array.toArray_toList]; exact IsTup.new _ _
  have I3 := I2.laid (a := h'.objs.size) (o := .frz { cls := .type "tuple", data := .seq acc } (.tup (rgV a b))) (h' := h'.push { cls := .type "tuple", data := .seq acc }) (t' := tk) (fun c o e => Heap.get?_push_of_some _ e) (Nat.le_refl _) ⟨hget, hz, acc.toList, vals_rg hi, hi2⟩
  exact ⟨.ref h'.objs.size, _, I3, rfl, q _ _ rfl (I2.hok.fresh (Nat.le_refl _))⟩
/-- a method of a tuple whose object is known -/
def tBMF (r : V → List V → Hp → VK → Prop) (to : TE) (t : TA) : TE := fun σ H Q => to σ H fun x H1 => (∃ a o xs, x = .ref a ∧ H1 a = some (.frz o (.tup xs)) ∧ o.dict = none) ∧ t σ H1 fun ys H2 => r x ys H2 Q
theorem pe_bmF {o e : Expr} {es : List Expr} {to : TE} {t : TA} {name : Str} {apos cpos : Pos} {id : String} {r : V → List V → Hp → VK → Prop} (slot : Slot "tuple" name id) (hty : typeOf (.builtin id) = pure (.type "method_descriptor")) (hm : MtR X id r) (ho : PE X o to) (ha : PA X (e :: es) t)
    (hbase : attributeBase o name X.env (eval o X.env) = eval o X.env := by rfl)
    (hfew : ((backTo cpos (starEach (e :: es) X.env)).all (fun x => !x.1) && (backToKw cpos (keywordEach [] X.env)).all (fun x => x.1.isSome)
      && decide ((e :: es).length + ([] : List Keyword).length + (if ([] : List Keyword).isEmpty then 0 else 1) < 30)) = true := by rfl)
    (hline : (apos.endLine == cpos.line) = true := by rfl) (hs : starEach (e :: es) X.env = (false, eval e X.env) :: starEach es X.env := by rfl) (hplain : (backTo cpos (starEach es X.env)).any (·.1) = false := by rfl) :
    PE X (.Call (.Attribute o name apos) (e :: es) [] cpos) (tBMF r to t) := by
  refine ⟨fun pins s σ H Q I h => ?_⟩
  refine wpAny_Call_method_late hbase hfew hline rfl (thn (ho.run pins s σ H _ I h) fun v s1 ⟨x, H1, I1, r1, ty, q1⟩ => ?_)
  obtain ⟨a, ob, xs, rfl, hH, hdn⟩ := ty
  obtain rfl : v = Value.ref a := r1
  obtain ⟨hget, hz, its, rv, ob', hget', hcls, hdat⟩ := (show ObjOk X.prog X.w H1 s1.heap a (.frz ob (.tup xs)) from I1.hok a _ hH)
  refine ⟨"tuple", id, PySem.F.plainAttrs_tuple, slot, hty, ⟨ob', hget', hcls⟩, fun b eb => ?_, ?_⟩
  · cases eb
    exact ⟨ob, hget, hdn⟩
  have hA := ha.run cpos pins s1 σ H1 _ I1 q1
  rw [hs] at hA ⊢
  refine Calls.callWith_builtin (by show (false || (backTo cpos (starEach es X.env)).any (·.1)) = false; rw [hplain] <;> rfl) (Calls.evalArgs_plain ?_)
  exact thn hA fun us s2 ⟨vs, H2, I2, r2, q2⟩ => hm pins s2 σ H2 (.ref a) vs (.ref a) us Q I2 rfl r2 q2
end
end L2

set_option Elab.async false
set_option linter.all false
set_option maxRecDepth 100000
set_option maxHeartbeats 1000000
namespace Lt
open PySem PySem.Spec PyProof.Rows L2
/-- a turn whose object is known -/
def TF (H : Hp) (v : V) (t : List Nat) : Prop := ∃ a o, v = .ref a ∧ H a = some (.frz o (.tup (nIs t))) ∧ o.dict = none
theorem TF.tn {H : Hp} {v : V} {t : List Nat} (h : TF H v t) : TN H v t := let ⟨a, o, e, h, _⟩ := h; ⟨a, e, .inr ⟨o, h⟩⟩
theorem TF.tm {H H' : Hp} {v : V} {t : List Nat} (e : Tm H H') (h : TF H v t) : TF H' v t := let ⟨a, o, ev, h, d⟩ := h; ⟨a, o, ev, e.2 _ _ _ h, d⟩
section
variable {P : Program} {w : World} {K : PySem.W.Frag} {mg : Str → Option Value} {base : Heap}
/-! ### _law_pick, _law_is -/
def spPick (K : PySem.W.Frag) : Sp := fun vs H Q _ => ∃ (r l sc : Addr) (ns : List Int) (xs : List V), vs = [.ref r, .ref l] ∧ RowAt K H r sc ns ∧ H l = some (.lst xs) ∧ l ≠ r ∧ 1 ≤ xs.length ∧ xs.length ≤ 1000 ∧ ∀ x H', x ∈ xs → StepR r H H' → RowAt K H' r sc ns → Q x H'
theorem sc_law_pick : FnScope ["row", "things"] ["row", "things"] (defScope s_law_pick) := ⟨rfl, rfl, rfl, by decide +kernel, rfl, by decide +kernel, by decide +kernel⟩
theorem has_law_pick (T : Top K mg "_law_pick" s_law_pick ["row", "things"]) (B : Bi mg) (hT : Has P w K mg base CX0 1 "_law_taken" ["row", "many"] (spTaken K)) : Has P w K mg base CX0 2 "_law_pick" ["row", "things"] (spPick K) := by
  refine T.ok sc_law_pick (fun vs H Q E h => ?_) (fun f cdv A outer s H vs Q E hr h => ?_)
  · obtain ⟨r, l, sc, ns, xs, rfl, _⟩ := h
    rfl
  · obtain ⟨r, l, sc, ns, xs, rfl, ra, hl, hne, h1, h2, q⟩ := h
    refine ⟨_, pss_one (ps_ret (pe_ix ix_list (pv 1) (pe_has hT hr (by rfl) (pa_cons (pv 0) (pa_cons (pe_callB call_len_seq (by rfl) B.len PySem.boot_len (pa_cons (pv 1) pa_nil)) pa_nil))) (fun _ _ => rfl))), ?_⟩
    refine ⟨_, rfl, _, rfl, _, rfl, l, xs, rfl, .inl (SqL.of hl), r, sc, ns, xs.length, rfl, ra, h1, h2, fun x H' hx st ra' => ?_⟩
    exact ⟨l, xs, (x : Int), xs[x], rfl, rfl, SqL.of (st l _ hne hl), atI_nat (List.getElem?_eq_getElem hx), q _ H' (List.getElem_mem hx) st ra'⟩
def spIs : Sp := fun vs H Q _ => ∃ (a b : Bool), vs = [.bl a, .bl b] ∧ Q (.bl (decide (a = b))) H
theorem sc_law_is : FnScope ["found", "due"] ["found", "due"] (defScope s_law_is) := ⟨rfl, rfl, rfl, by decide +kernel, rfl, by decide +kernel, by decide +kernel⟩
theorem has_law_is (T : Top K mg "_law_is" s_law_is ["found", "due"]) (B : Bi mg) : Has P w K mg base CX0 1 "_law_is" ["found", "due"] spIs := by
  refine T.ok sc_law_is (fun vs H Q E h => ?_) (fun f cdv A outer s H vs Q E hr h => ?_)
  · obtain ⟨a, b, rfl, _⟩ := h
    rfl
  · obtain ⟨a, b, rfl, q⟩ := h
    refine ⟨_, pss_one (ps_ret (pe_and (pe_callB call_isi (by rfl) B.isinstance PyProof.Rows.boot_isinstance (pa_cons (pv 0) (pa_cons (pe_bltn (by rfl) B.bool PyProof.Rows.boot_bool (rr_ty "bool")) pa_nil)))
      (pe_one (pe_cmpR op_eq (pv 0) (pv 1) (nomark _))))), ?_⟩
    refine ⟨_, rfl, .bl a, .ty "bool", _, _, true, rfl, .ty _, .base (.bl a), kit_ty (kit_bool (.bool a)), true, rfl, iteT ⟨_, rfl, _, rfl, rfl, ?_⟩⟩
    have e : decide (V.bl a = V.bl b) = decide (a = b) := decide_eq_decide.mpr ⟨fun h => by injection h, fun h => by rw [h]⟩
    rw [e]
    exact q
/-! ### _law_behind, _law_back, _law_swap -/
theorem sc_law_behind : FnScope ["one", "other", "place"] ["one", "other"] (defScope s_law_behind) := ⟨rfl, rfl, rfl, by decide +kernel, rfl, by decide +kernel, by decide +kernel⟩
theorem has_law_behind (T : Top K mg "_law_behind" s_law_behind ["one", "other"]) (B : Bi mg) : Has P w K mg base CX0 1 "_law_behind" ["one", "other"] spProd := by
  refine T.ok sc_law_behind (fun vs H Q E h => ?_) (fun f cdv A outer s H vs Q E hr h => ?_)
  · obtain ⟨a, b, x, y, rfl, _⟩ := h
    rfl
  · obtain ⟨a, b, x, y, rfl, ha, hb, hxy, hx, q⟩ := h
    refine ⟨_, pss_one (ps_ret (pe_tupleOf (by rfl) B.tuple (pe_lc (own := [("place", 2)]) (g := gName 2) (te := tOp (rIxT K) (tVar 1) (tVar 2)) (by rfl) sc_law_behind.nd (pi_tup (pv 0)) (blkOk_by (own := [("place", 2)]) (N := ["one", "other", "place"]) (sc := defScope s_law_behind) (by decide +kernel))
      (fun _ _ _ _ _ => pg_name (i := 2) sc_law_behind.nd rfl (Or.inl rfl)) (fun _ _ _ _ _ => pts_nil) (fun _ _ _ _ _ => pe_ix ix_tup (pv 1) (pv 2) (fun _ _ => rfl))))), ?_⟩
    obtain ⟨pa, rfl, ea⟩ := ha
    obtain ⟨pb, rfl, eb⟩ := hb
    refine ⟨_, rfl, pa, rfl, ⟨_, ea.sq⟩, fun D hD => lc_tupM RN (prod x y) (fun _ _ _ _ _ r => r) ea.sq (fun H' sm => (ea.sm sm).sq) (by rw [nIs_len]; omega) (by rw [prod_len, nIs_len]) hD (fun x => rfl) (fun i v n hi hn H' sm Q' q' => ?_) (fun H' zs sm hz pr => ?_)⟩
    · rw [nIs_get] at hi
      obtain ⟨m, hm, rfl⟩ := Option.map_eq_some_iff.mp hi
      have hlt := hxy m (List.mem_of_getElem? hm)
      have e : n = y.getD m 0 := by
        have z : (prod x y)[i]? = some (y.getD m 0) := by
          unfold prod
          rw [List.getElem?_map, hm]
          rfl
        exact Option.some.inj (hn.symm.trans z)
      refine ⟨_, rfl, _, rfl, pb, _, _, nI n, rfl, rfl, (eb.sm sm).sq, atI_nat ?_, q' _ _ (Same.refl _) rfl⟩
      rw [nIs_get, e, List.getD_eq_getElem?_getD, List.getElem?_eq_getElem hlt]
      rfl
    · refine .inl ⟨D, zs, rfl, SqL.of hz, fun p hp => q _ _ (sm.trans (same_new hp)) (tn_of upd_same (RN.all pr))⟩
/-- the same, the new turn's object told -/
def spProdF : Sp := fun vs H Q _ => ∃ (a b : V) (x y : List Nat), vs = [a, b] ∧ TN H a x ∧ TN H b y ∧ (∀ i ∈ x, i < y.length) ∧ x.length ≤ 1000 ∧ ∀ v H', Same H H' → TF H' v (prod x y) → Q v H'
theorem has_law_behindF (T : Top K mg "_law_behind" s_law_behind ["one", "other"]) (B : Bi mg) : Has P w K mg base CX0 1 "_law_behind" ["one", "other"] spProdF := by
  refine T.ok sc_law_behind (fun vs H Q E h => ?_) (fun f cdv A outer s H vs Q E hr h => ?_)
  · obtain ⟨a, b, x, y, rfl, _⟩ := h
    rfl
  · obtain ⟨a, b, x, y, rfl, ha, hb, hxy, hx, q⟩ := h
    refine ⟨_, pss_one (ps_ret (pe_tupleOfF (by rfl) B.tuple (pe_lc (own := [("place", 2)]) (g := gName 2) (te := tOp (rIxT K) (tVar 1) (tVar 2)) (by rfl) sc_law_behind.nd (pi_tup (pv 0)) (blkOk_by (own := [("place", 2)]) (N := ["one", "other", "place"]) (sc := defScope s_law_behind) (by decide +kernel))
      (fun _ _ _ _ _ => pg_name (i := 2) sc_law_behind.nd rfl (Or.inl rfl)) (fun _ _ _ _ _ => pts_nil) (fun _ _ _ _ _ => pe_ix ix_tup (pv 1) (pv 2) (fun _ _ => rfl))))), ?_⟩
    obtain ⟨pa, rfl, ea⟩ := ha
    obtain ⟨pb, rfl, eb⟩ := hb
    refine ⟨_, rfl, pa, rfl, ⟨_, ea.sq⟩, fun D hD => lc_tupM RN (prod x y) (fun _ _ _ _ _ r => r) ea.sq (fun H' sm => (ea.sm sm).sq) (by rw [nIs_len]; omega) (by rw [prod_len, nIs_len]) hD (fun x => rfl) (fun i v n hi hn H' sm Q' q' => ?_) (fun H' zs sm hz pr => ?_)⟩
    · rw [nIs_get] at hi
      obtain ⟨m, hm, rfl⟩ := Option.map_eq_some_iff.mp hi
      have hlt := hxy m (List.mem_of_getElem? hm)
      have e : n = y.getD m 0 := by
        have z : (prod x y)[i]? = some (y.getD m 0) := by
          unfold prod
          rw [List.getElem?_map, hm]
          rfl
        exact Option.some.inj (hn.symm.trans z)
      refine ⟨_, rfl, _, rfl, pb, _, _, nI n, rfl, rfl, (eb.sm sm).sq, atI_nat ?_, q' _ _ (Same.refl _) rfl⟩
      rw [nIs_get, e, List.getD_eq_getElem?_getD, List.getElem?_eq_getElem hlt]
      rfl
    · refine ⟨D, zs, rfl, SqL.of hz, fun p o ho hp => q _ _ (sm.trans (same_new hp)) ⟨p, o, rfl, by rw [upd_same, RN.all pr], ho⟩⟩
def rTupIx (K : PySem.W.Frag) : V → List V → Hp → VK → Prop := fun x xs H Q => ∃ p, ∃ ys : List Int, ∃ z j, x = .ref p ∧ xs = [.int z] ∧ SqT K H p (ys.map V.int) ∧ ys[j]? = some z ∧ (∀ m, m < j → ys[m]? ≠ some z) ∧ Q (.int (j : Nat)) H
def spLawBack : Sp := fun vs H Q _ => ∃ (a : V) (t : List Nat) (n : Nat), vs = [a] ∧ TF H a t ∧ IsP n t ∧ n ≤ 1000 ∧ ∀ v H', Same H H' → TK H' v (inv t) → Q v H'
theorem sc_law_back : FnScope ["turn", "place"] ["turn"] (defScope s_law_back) := ⟨rfl, rfl, rfl, by decide +kernel, rfl, by decide +kernel, by decide +kernel⟩
theorem has_law_back (T : Top K mg "_law_back" s_law_back ["turn"]) (B : Bi mg) : Has P w K mg base CX0 1 "_law_back" ["turn"] spLawBack := by
  refine T.ok sc_law_back (fun vs H Q E h => ?_) (fun f cdv A outer s H vs Q E hr h => ?_)
  · obtain ⟨a, t, n, rfl, _⟩ := h
    rfl
  · obtain ⟨a, t, n, rfl, ⟨pa, o, rfl, ea, ho⟩, ht, hn, q⟩ := h
    refine ⟨_, pss_one (ps_ret (pe_tupleOf (by rfl) B.tuple (pe_lc (own := [("place", 1)]) (g := gName 1) (te := tBMF (rTupIx K) (tVar 0) (tCons (tVar 1) tNil)) (by rfl) sc_law_back.nd (pi_range1 (by rfl) B.range (pa_cons (pe_callB call_len_seq (by rfl) B.len PySem.boot_len (pa_cons (pv 0) pa_nil)) pa_nil)) (blkOk_by (own := [("place", 1)]) (N := ["turn", "place"]) (sc := defScope s_law_back) (by decide +kernel))
      (fun _ _ _ _ _ => pg_name (i := 1) sc_law_back.nd rfl (Or.inl rfl)) (fun _ _ _ _ _ => pts_nil) (fun _ _ _ _ _ => pe_bmF PySem.F.slot_tuple_index PySem.F.type_tuple_index mt_tup_indexI (pv 0) (pa_cons (pv 1) pa_nil))))), ?_⟩
    have hlen := ht.len
    refine ⟨_, rfl, pa, nIs t, rfl, .inr (RT.sq (.inr ⟨o, ea⟩)), ((nIs t).length : Int), rfl, by omega, by rw [nIs_len, hlen]; omega, fun D hD => lc_rangeM (n := ((nIs t).length : Int).toNat) RN (inv t) (fun _ _ _ _ _ r => r) (by rw [nIs_len]; omega) (by rw [inv_len, nIs_len]; omega) hD (fun x => rfl) (fun i m hi hm H' sm Q' q' => ?_) (fun H' zs sm hz pr => ?_)⟩
    · have hit : i < t.length := by rw [nIs_len] at hi; omega
      have hmem : i ∈ t := ht.mem.mpr (by omega)
      have em : m = t.idxOf i := by
        unfold inv at hm
        rw [List.getElem?_map, List.getElem?_range hit] at hm
        exact (Option.some.inj hm).symm
      have hil := List.idxOf_lt_length_of_mem hmem
      refine ⟨_, rfl, ⟨pa, o, _, rfl, sm _ _ ea, ho⟩, _, rfl, pa, iN t, (0 : Int) + (i : Int), m, rfl, rfl, by rw [show (iN t).map V.int = nIs t from (nIs_int t).symm]; exact RT.sq (.inr ⟨o, sm _ _ ea⟩), ?_, fun j hj e => ?_, q' _ _ (Same.refl _) rfl⟩
      · unfold iN
        rw [em, List.getElem?_map, List.getElem?_eq_getElem hil, List.getElem_idxOf, Int.zero_add]
        rfl
      · unfold iN at e
        rw [List.getElem?_map] at e
        obtain ⟨y, hy, ey⟩ := Option.map_eq_some_iff.mp e
        have ey : (y : Int) = 0 + (i : Int) := ey
        have eyi : y = i := by omega
        subst eyi
        have : j = t.idxOf y := nd_ix ht.nd hy (by rw [List.getElem?_eq_getElem hil, List.getElem_idxOf])
        omega
    · refine .inl ⟨D, zs, rfl, SqL.of hz, fun p hp => q _ _ (sm.trans (same_new hp)) (tn_of upd_same (RN.all pr))⟩
def spLawSwap : Sp := fun vs H Q _ => ∃ (a b : V) (x y : List Nat) (n : Nat), vs = [a, b] ∧ TF H a x ∧ TF H b y ∧ IsP n x ∧ IsP n y ∧ n ≤ 1000 ∧ ∀ v H', Same H H' → TK H' v (prod (prod x y) (prod (inv x) (inv y))) → Q v H'
theorem sc_law_swap : FnScope ["one", "other"] ["one", "other"] (defScope s_law_swap) := ⟨rfl, rfl, rfl, by decide +kernel, rfl, by decide +kernel, by decide +kernel⟩
theorem has_law_swap (T : Top K mg "_law_swap" s_law_swap ["one", "other"]) (hP : Has P w K mg base CX0 1 "_law_behind" ["one", "other"] spProd) (hB : Has P w K mg base CX0 1 "_law_back" ["turn"] spLawBack) : Has P w K mg base CX0 2 "_law_swap" ["one", "other"] spLawSwap := by
  refine T.ok sc_law_swap (fun vs H Q E h => ?_) (fun f cdv A outer s H vs Q E hr h => ?_)
  · obtain ⟨a, b, x, y, n, rfl, _⟩ := h
    rfl
  · obtain ⟨a, b, x, y, n, rfl, ha, hb, hx, hy, hn, q⟩ := h
    refine ⟨_, pss_one (ps_ret (pe_has hP hr (by rfl) (pa_cons (pe_has hP hr (by rfl) (pa_cons (pv 0) (pa_cons (pv 1) pa_nil))) (pa_cons (pe_has hP hr (by rfl) (pa_cons (pe_has hB hr (by rfl) (pa_cons (pv 0) pa_nil)) (pa_cons (pe_has hB hr (by rfl) (pa_cons (pv 1) pa_nil)) pa_nil))) pa_nil)))), ?_⟩
    refine ⟨_, rfl, _, rfl, pr_call ha.tn hb.tn hx hy hn fun u1 H1 s1 h1 => ?_⟩
    refine ⟨_, rfl, a, x, n, rfl, ha.tm (.of s1), hx, hn, fun u2 H2 s2 h2 => ?_⟩
    refine ⟨_, rfl, b, y, n, rfl, hb.tm (.of (s1.trans s2)), hy, hn, fun u3 H3 s3 h3 => ?_⟩
    refine pr_call (h2.tm (.of s3)).tn h3.tn hx.inv hy.inv hn fun u4 H4 s4 h4 => ?_
    exact pr_call (h1.tm (.of ((s2.trans s3).trans s4))).tn h4.tn (hx.prod hy) (hx.inv.prod hy.inv) hn fun u5 H5 s5 h5 => q u5 H5 ((((s1.trans s2).trans s3).trans s4).trans s5) h5
/-! ### _law_permutation -/
def spLawPerm (K : PySem.W.Frag) : Sp := fun vs H Q _ => ∃ (r sc : Addr) (ns : List Int) (n : Nat), vs = [.ref r, nI n] ∧ RowAt K H r sc ns ∧ n ≤ 1000 ∧ ∀ v H' t, IsP n t → StepR r H H' → RowAt K H' r sc ns → TK H' v t → Q v H'
theorem sc_law_permutation : FnScope ["row", "places", "left", "found", "turn"] ["row", "places"] (defScope s_law_permutation) := ⟨rfl, rfl, rfl, by decide +kernel, rfl, by decide +kernel, by decide +kernel⟩
theorem nIs_erase : ∀ (t : List Nat) (i : Nat), (nIs t).eraseIdx i = nIs (t.eraseIdx i)
  | [], _ => rfl
  | _ :: _, 0 => rfl
  | a :: t, i + 1 => by
    show nI a :: (nIs t).eraseIdx i = nI a :: nIs (t.eraseIdx i)
    rw [nIs_erase t i]
theorem erase_perm : ∀ (l : List Nat) (x : Nat) (h : x < l.length), (l[x] :: l.eraseIdx x).Perm l
  | [], x, h => absurd h (Nat.not_lt_zero x)
  | a :: l, 0, _ => List.Perm.refl _
  | a :: l, x + 1, h => (List.Perm.swap a (l[x]'(Nat.lt_of_succ_lt_succ h)) (l.eraseIdx x)).trans ((erase_perm l x (Nat.lt_of_succ_lt_succ h)).cons a)
theorem has_law_permutation (T : Top K mg "_law_permutation" s_law_permutation ["row", "places"]) (B : Bi mg) (hT : Has P w K mg base CX0 1 "_law_taken" ["row", "many"] (spTaken K)) : Has P w K mg base CX0 2 "_law_permutation" ["row", "places"] (spLawPerm K) := by
  refine T.ok sc_law_permutation (fun vs H Q E h => ?_) (fun f cdv A outer s H vs Q E hr h => ?_)
  · obtain ⟨r, sc, ns, n, rfl, _⟩ := h
    rfl
  · obtain ⟨r, sc, ns, n, rfl, ra, hn, q⟩ := h
    refine ⟨_, pss_cons (ps_par (i := 2) (j := 3) (by rfl) sc_law_permutation.nd rfl rfl (by decide) rfl rfl (pa_cons (pe_listRg (by rfl) (by rfl) B.list (prg_1 (by rfl) B.range (pv 1))) (pa_cons (pe_lst pa_nil) pa_nil)) (by rfl))
      (pss_cons (ps_for PassesOwn.never rfl (pi_range1 (by rfl) B.range (pa_cons (pv 1) pa_nil)) (pg_name (i := 4) sc_law_permutation.nd rfl (Or.inl rfl))
        (pss_one (ps_expr (pe_bm PySem.F.plainAttrs_list PySem.F.slot_list_append PySem.F.type_list_append mt_append (pv 3) (pa_cons
          (pe_bm PySem.F.plainAttrs_list PySem.F.slot_list_pop PySem.F.type_list_pop mt_popAt (pv 2) (pa_cons (pe_has hT hr (by rfl) (pa_cons (pv 0) (pa_cons (pe_callB call_len_seq (by rfl) B.len PySem.boot_len (pa_cons (pv 2) pa_nil)) pa_nil))) pa_nil)) pa_nil)))))
      (pss_one (ps_ret (pe_tupleOf (by rfl) B.tuple (pv 3))))), ?_⟩
    refine ⟨_, rfl, n, rfl, .of_le (by omega) (by omega) (by omega) (by omega), fun lf hlf => ?_⟩
    have s1 := same_new (o := .lst (rgV 0 n)) hlf
    refine ⟨Nat.zero_le _, fun fd hfd => ⟨_, _, rfl, ?_⟩⟩
    have s2 := s1.trans (same_new (o := .lst []) hfd)
    have hfd0 : H fd = none := s1.free hfd
    have hlfd : lf ≠ fd := fun z => by rw [← z, upd_same] at hfd; cases hfd
    refine ⟨_, rfl, (n : Int), rfl, by omega, by omega, for_range (lo := 0) (n := (n : Int).toNat) (fun i σ H' => ∃ (l f : List Nat) (y : Option V), σ = [some (.ref r), some (nI n), some (.ref lf), some (.ref fd), y] ∧ StepR r H H' ∧ RowAt K H' r sc ns ∧ H' lf = some (.lst (nIs l)) ∧ H' fd = some (.lst (nIs f)) ∧ (f ++ l).Perm (List.range n) ∧ f.length = i)
      ⟨List.range n, [], none, rfl, .of s2, ra.step s2, by rw [upd_ne hlfd, upd_same, rgV_nat], by rw [upd_same]; rfl, List.Perm.refl _, rfl⟩ ?_ ?_⟩
    · rintro i σ H' hi ⟨l, f, y, rfl, st, ra', hl, hf, pm, hfl⟩
      have hlen := pm.length_eq
      rw [List.length_append, List.length_range] at hlen
      have hl1 : 1 ≤ l.length := by omega
      refine ⟨_, rfl, .inl ⟨rfl, _, SqL.of hf⟩, _, rfl, .inl ⟨rfl, _, SqL.of hl⟩, _, rfl, _, rfl, lf, nIs l, rfl, .inl (SqL.of hl), r, sc, ns, l.length, by rw [nIs_len]; rfl, ra', hl1, by omega, fun x H2 hx st2 ra2 => ?_⟩
      have hlr : lf ≠ r := (ra.ne hlf).symm
      have hfr : fd ≠ r := (ra.ne hfd0).symm
      have hl2 := st2 _ _ hlr hl
      have hf2 := st2 _ _ hfr hf
      refine ⟨lf, nIs l, (x : Int), x, nI l[x], rfl, rfl, hl2, by omega, by omega, (ixN_seq (Evl.ixN_nat (by rw [nIs_len]; exact hx))).1, by rw [nIs_get, List.getElem?_eq_getElem hx]; rfl, ?_⟩
      have hf3 : (upd H2 lf (.lst ((nIs l).eraseIdx x))) fd = some (.lst (nIs f)) := by rw [upd_ne hlfd.symm]; exact hf2
      refine ⟨fd, nIs f, nI l[x], rfl, rfl, hf3, by rw [nIs_len, sizeLine_eq]; omega, ?_⟩
      refine ⟨l.eraseIdx x, f ++ [l[x]], _, rfl, ((st.trans st2).mut hlf).mut hfd0, RowAt.mut ra hfd0 (RowAt.mut ra hlf ra2), ?_, ?_, ?_, by rw [List.length_append, hfl]; rfl⟩
      · rw [upd_ne hlfd, upd_same, nIs_erase]
      · rw [upd_same]
        unfold nIs
        rw [List.map_append]
        rfl
      · rw [List.append_assoc]
        refine List.Perm.trans (List.Perm.append_left f ?_) pm
        exact erase_perm l x hx
    · rintro σ H' ⟨l, f, y, rfl, st, ra', hl, hf, pm, hfl⟩
      have hlen := pm.length_eq
      rw [List.length_append, List.length_range] at hlen
      have hl0 : l = [] := by
        cases l with
        | nil => rfl
        | cons a l => rw [List.length_cons] at hlen; omega
      subst hl0
      rw [List.append_nil] at pm
      refine ⟨_, rfl, .inl ⟨fd, nIs f, rfl, SqL.of hf, fun p hp => ?_⟩⟩
      have sp := same_new (o := .tup (nIs f)) hp
      exact q _ _ f pm (st.trans (.of sp)) (ra'.step sp) ⟨p, rfl, upd_same⟩
end
end Lt

set_option Elab.async false
set_option linter.all false
set_option maxRecDepth 100000
set_option maxHeartbeats 2000000
namespace L2
open PySem PySem.Spec PyProof.Rows Lt
section
variable {X : Cx} {o i : Expr} {td ty : TE} {pos : Pos}
def tDNotInR (ty td : TE) : TE := fun σ H Q => ty σ H fun y H1 => td σ H1 fun x H2 => ∃ a kvs k b, x = .ref a ∧ y = .ref b ∧ Rd H2 a (.dT kvs) ∧ RT H2 b (k.map kV) ∧ Q (.bl (!(valV kvs k).isSome)) H2
theorem pc_dnotinR (hu : X.A.units + 1 < cLine) (hi : PE X i ty) (ho : PE X o td) : PC X .NotIn i o (tDNotInR ty td) := by
  refine ⟨fun pins s σ H Q I h => ?_⟩
  refine thn (hi.run pins s σ H _ I h) fun iv s1 ⟨y, H1, I1, ry, q1⟩ => thn (ho.run pins s1 σ H1 _ I1 q1) fun u s2 ⟨x, H2, I2, rx, a, kvs, k, b, ex, ey, hd, hb, q2⟩ => ?_
  subst ex ey
  obtain rfl : u = Value.ref a := rx
  obtain rfl : iv = Value.ref b := ry
  obtain ⟨z, hds, xs, rel, dd⟩ := dt_rd I2.hok hd
  refine wpAny_notIn_heap (tupleKind_room_in1 hu) (key_rd I2.hok hb) hds dd ?_
  have q := (rel.val k).isSome_eq
  rw [Option.isSome_map] at q
  rw [← q]
  exact ⟨.bl (!(valV kvs k).isSome), H2, I2.tok _, rfl, q2⟩
end
end L2
namespace Lt
open PySem PySem.Spec PyProof.Rows L2
section
variable {P : Program} {w : World} {K : PySem.W.Frag} {mg : Str → Option Value} {base : Heap}
theorem has_product_ofF (T : Top K mg "product_of" s_product_of ["one", "other"]) (B : Bi mg) : Has P w K mg base CX0 1 "product_of" ["one", "other"] spProdF := by
  refine T.ok sc_product_of (fun vs H Q E h => ?_) (fun f cdv A outer s H vs Q E hr h => ?_)
  · obtain ⟨a, b, x, y, rfl, _⟩ := h
    rfl
  · obtain ⟨a, b, x, y, rfl, ha, hb, hxy, hx, q⟩ := h
    refine ⟨_, pss_one (ps_ret (pe_tupleOfF (by rfl) B.tuple (pe_lc (own := [("place", 2)]) (g := gName 2) (te := tOp (rIxT K) (tVar 1) (tVar 2)) (by rfl) sc_product_of.nd (pi_tup (pv 0)) (blkOk_by (own := [("place", 2)]) (N := ["one", "other", "place"]) (sc := defScope s_law_behind) (by decide +kernel))
      (fun _ _ _ _ _ => pg_name (i := 2) sc_product_of.nd rfl (Or.inl rfl)) (fun _ _ _ _ _ => pts_nil) (fun _ _ _ _ _ => pe_ix ix_tup (pv 1) (pv 2) (fun _ _ => rfl))))), ?_⟩
    obtain ⟨pa, rfl, ea⟩ := ha
    obtain ⟨pb, rfl, eb⟩ := hb
    refine ⟨_, rfl, pa, rfl, ⟨_, ea.sq⟩, fun D hD => lc_tupM RN (prod x y) (fun _ _ _ _ _ r => r) ea.sq (fun H' sm => (ea.sm sm).sq) (by rw [nIs_len]; omega) (by rw [prod_len, nIs_len]) hD (fun x => rfl) (fun i v n hi hn H' sm Q' q' => ?_) (fun H' zs sm hz pr => ?_)⟩
    · rw [nIs_get] at hi
      obtain ⟨m, hm, rfl⟩ := Option.map_eq_some_iff.mp hi
      have hlt := hxy m (List.mem_of_getElem? hm)
      have e : n = y.getD m 0 := by
        have z : (prod x y)[i]? = some (y.getD m 0) := by
          unfold prod
          rw [List.getElem?_map, hm]
          rfl
        exact Option.some.inj (hn.symm.trans z)
      refine ⟨_, rfl, _, rfl, pb, _, _, nI n, rfl, rfl, (eb.sm sm).sq, atI_nat ?_, q' _ _ (Same.refl _) rfl⟩
      rw [nIs_get, e, List.getD_eq_getElem?_getD, List.getElem?_eq_getElem hlt]
      rfl
    · refine ⟨D, zs, rfl, SqL.of hz, fun p o ho hp => q _ _ (sm.trans (same_new hp)) ⟨p, o, rfl, by rw [upd_same, RN.all pr], ho⟩⟩
def spBracketF : Sp := fun vs H Q _ => ∃ (a b : V) (x y : List Nat) (n : Nat), vs = [a, b] ∧ TN H a x ∧ TN H b y ∧ IsP n x ∧ IsP n y ∧ n ≤ 1000 ∧ ∀ v H', Same H H' → TF H' v (cm x y) → Q v H'
theorem has_bracket_ofF (T : Top K mg "bracket_of" s_bracket_of ["one", "other"]) (hP : Has P w K mg base CX0 1 "product_of" ["one", "other"] spProd) (hF : Has P w K mg base CX0 1 "product_of" ["one", "other"] spProdF) (hB : Has P w K mg base CX0 1 "back_of" ["turn"] spBack) : Has P w K mg base CX0 2 "bracket_of" ["one", "other"] spBracketF := by
  refine T.ok sc_bracket_of (fun vs H Q E h => ?_) (fun f cdv A outer s H vs Q E hr h => ?_)
  · obtain ⟨a, b, x, y, n, rfl, _⟩ := h
    rfl
  · obtain ⟨a, b, x, y, n, rfl, ha, hb, hx, hy, hn, q⟩ := h
    refine ⟨_, pss_one (ps_ret (pe_has hF hr (by rfl) (pa_cons (pe_has hP hr (by rfl) (pa_cons (pv 0) (pa_cons (pv 1) pa_nil))) (pa_cons (pe_has hB hr (by rfl) (pa_cons (pe_has hP hr (by rfl) (pa_cons (pv 1) (pa_cons (pv 0) pa_nil))) pa_nil)) pa_nil)))), ?_⟩
    refine ⟨_, rfl, _, rfl, pr_call ha hb hx hy hn fun u H1 s1 hu => ?_⟩
    refine ⟨_, rfl, _, rfl, pr_call (hb.tm (.of s1)) (ha.tm (.of s1)) hy hx hn fun u2 H2 s2 hu2 => ?_⟩
    refine ⟨u2, _, n, rfl, hu2.tn, hy.prod hx, hn, fun u3 H3 s3 hu3 => ?_⟩
    exact ⟨u, u3, prod x y, inv (prod y x), rfl, (hu.tm (.of (s2.trans s3))).tn, hu3.tn, fun i hi => by rw [(hy.prod hx).inv.len]; exact (hx.prod hy).lt i hi, by rw [(hx.prod hy).len]; exact hn, fun u4 H4 s4 hu4 => q _ _ (((s1.trans s2).trans s3).trans s4) hu4⟩
end
end Lt

set_option Elab.async false
set_option linter.all false
set_option maxRecDepth 100000
set_option maxHeartbeats 4000000
namespace Lt
open PySem PySem.Spec PyProof.Rows L2
theorem for_enumL {K : PySem.W.Frag} {a : Addr} {xs : List V} {g : TG} {tb : TS} {D : Ends} {σ : L2.St} {H : Hp} (Pv : Nat → L2.St → Hp → Prop) (h0 : Pv 0 σ H) (hl : ∀ i σ H, i ≤ xs.length → Pv i σ H → SqL K H a xs)
    (hs : ∀ (i : Nat) (x : V) σ H T, xs[i]? = some x → Pv i σ H → H T = none → g (.ref T) σ (upd H T (.tup [nI i, x])) fun σ2 H2 => tb { D with nx := Pv (i + 1), ct := Pv (i + 1), bk := D.nx } σ2 H2) (hd : ∀ σ H, Pv xs.length σ H → D.nx σ H) :
    ∃ W : Nat → Nat → L2.St → Hp → Prop, (∃ m, W 0 m σ H) ∧ ∀ i m σ H, W i m σ H →
      ((Ite K a).stop i H ∧ D.nx σ H) ∨ ((Ite K a).go i H ∧ ∃ N : L2.St → Hp → Prop, (∀ σ' H', N σ' H' → ∃ m', m' < m ∧ W (i + 1) m' σ' H') ∧ ∀ x H', (Ite K a).yld i H x H' → g x σ H' fun σ2 H2 => tb { D with nx := N, ct := N, bk := D.nx } σ2 H2) := by
  refine ⟨fun i m σ H => m = xs.length - i ∧ i ≤ xs.length ∧ Pv i σ H, ⟨xs.length, by simp, Nat.zero_le _, h0⟩, ?_⟩
  rintro i m σ H ⟨rfl, hi, p⟩
  have q := hl i σ H hi p
  by_cases hlt : i < xs.length
  · refine .inr ⟨⟨xs, xs[i], q, by simp [hlt]⟩, Pv (i + 1), fun σ' H' p' => ⟨xs.length - (i + 1), by omega, rfl, hlt, p'⟩, fun x H' y => ?_⟩
    obtain ⟨T, z, rfl, hT, rfl, hz⟩ := y
    exact hs i z σ H T (hz xs q) p hT
  · exact .inl ⟨⟨xs, q, by omega⟩, hd σ H (by rw [show xs.length = i by omega]; exact p)⟩
section
variable {P : Program} {w : World} {K : PySem.W.Frag} {mg : Str → Option Value} {base : Heap}
/-! ### words_of, the makers a list -/
def spWordsL : Sp := fun vs H Q _ => ∃ (pm : Addr) (gs : List (List Nat)) (n : Nat), vs = [.ref pm, nI n] ∧ LT H pm gs ∧ (∀ g ∈ gs, IsP n g) ∧ n ≤ 1000 ∧ gs.length ≤ 1000 ∧
  ∀ d H' L, Same H H' → H d = none → DW H' d L → Wd gs n L → Q (.ref d) H'
theorem has_words_ofL (T : Top K mg "words_of" s_words_of ["makers", "size"]) (B : Bi mg) (C : Cn mg "MOST_TURNS" 240) (hS : Has P w K mg base CX0 1 "still_of" ["size"] spStill) (hP : Has P w K mg base CX0 1 "product_of" ["one", "other"] spProd) :
    Has P w K mg base CX0 2 "words_of" ["makers", "size"] spWordsL := by
  refine T.ok sc_words_of (fun vs H Q E h => ?_) (fun f cdv A outer s H vs Q E hr h => ?_)
  · obtain ⟨pm, gs, n, rfl, _⟩ := h
    rfl
  · obtain ⟨pm, gs, n, rfl, hms, hg, hn, hgl, q⟩ := h
    obtain ⟨tk, hC⟩ := C
    have hu := hu_of hr
    refine ⟨_, pss_cons (ps_set (i := 2) sc_words_of.nd rfl (Or.inl rfl) (pe_has hS hr (by rfl) (pa_cons (pv 1) pa_nil)))
      (pss_cons (ps_set (i := 3) sc_words_of.nd rfl (Or.inl rfl) (pe_dispT hu (pv 2) (pe_tup pa_nil)))
      (pss_cons (ps_set (i := 4) sc_words_of.nd rfl (Or.inl rfl) (pe_lst (pa_cons (pv 2) pa_nil)))
      (pss_cons (ps_while PassesOwn.never (PW.pt (pw_and (pt_truth (pv 4) (by intro _; rfl)) (pw_and1 (pt_cmpR op_le (pe_callB call_len_dT (by rfl) B.len PySem.boot_len (pa_cons (pv 3) pa_nil)) (pe_glob (v := .int 240) rfl hC ⟨_, rfl⟩) (nomark _)))))
        (pss_cons (ps_set (i := 5) sc_words_of.nd rfl (Or.inl rfl) (pe_lst pa_nil))
        (pss_cons (ps_for PassesOwn.never rfl (pi_list (pv 4)) (pg_name (i := 6) sc_words_of.nd rfl (Or.inl rfl))
          (pss_one (ps_for PassesOwn.never rfl (pi_enum (by rfl) B.enumerate (pa_cons (pv 0) pa_nil)) (pg_tup rfl (pgs_cons (pg_name (i := 7) sc_words_of.nd rfl (Or.inl rfl)) (pgs_cons (pg_name (i := 8) sc_words_of.nd rfl (Or.inl rfl)) pgs_nil)))
            (pss_cons (ps_set (i := 9) sc_words_of.nd rfl (Or.inl rfl) (pe_has hP hr (by rfl) (pa_cons (pv 6) (pa_cons (pv 8) pa_nil))))
            (pss_one (ps_if (pt_cmp (pc_dnotin hu (pv 9) (pv 3)))
              (pss_cons (ps_dput hu (pv 3) (pv 9) (pe_op op_catA (pe_dgetR hu (pv 3) (pv 6) (fun _ _ => rfl)) (pe_tup (pa_cons (pv 7) pa_nil))) rfl)
              (pss_one (ps_expr (pe_bm PySem.F.plainAttrs_list PySem.F.slot_list_append PySem.F.type_list_append mt_append (pv 5) (pa_cons (pv 9) pa_nil)))))
              pss_nil))))))
        (pss_one (ps_set (i := 4) sc_words_of.nd rfl (Or.inl rfl) (pv 5))))))
      (pss_one (ps_ret (pv 3)))))), ?_⟩
    refine ⟨_, rfl, n, rfl, hn, fun st H1 s1 hst => ?_⟩
    refine fun d hd => ⟨_, rfl, ⟨Nat.zero_le _, fun p hp => ?_⟩⟩
    have hpd : p ≠ d := fun z => by rw [z, upd_same] at hp; cases hp
    have s2 : Same H1 (upd (upd H1 d (.dT [])) p (.tup [])) := (same_new hd).trans (same_new hp)
    obtain ⟨b, ebv, hb⟩ := (hst.tm (.of s2)).key
    subst ebv
    refine ⟨b, keyN (List.range n), rfl, by rw [upd_ne hpd.symm, upd_same], hb, ?_⟩
    refine ⟨_, rfl, by show 1 ≤ sizeLine; decide, fun lv hlv => ?_⟩
    have hd0 : H d = none := s1.free hd
    have s3 : Same H1 (upd (upd (upd H1 d (.dT [])) p (.tup [])) d (.dT [(keyN (List.range n), .ref p)])) := same_mut s2 hd
    have s4 : Same H1 (upd (upd (upd (upd H1 d (.dT [])) p (.tup [])) d (.dT [(keyN (List.range n), .ref p)])) lv (.lst [.ref b])) := s3.trans (same_new hlv)
    have hdl : d ≠ lv := fun z => by rw [← z, upd_same] at hlv; cases hlv
    have hpl : p ≠ lv := fun z => by rw [← z, upd_ne hpd, upd_same] at hlv; cases hlv
    have hst' : TN (upd (upd (upd (upd H1 d (.dT [])) p (.tup [])) d (.dT [(keyN (List.range n), .ref p)])) lv (.lst [.ref b])) (.ref b) (List.range n) := (hst.tm (.of s4)).tn
    refine ⟨fun m σ H' => ∃ a, m = 240 - a ∧ WS H (.ref pm) (.ref b) n gs d a σ H', ⟨240, 0, rfl, ⟨⟨lv, none, none, none, none, none, rfl, [.ref b], upd_same, .cons hst' .nil⟩, s1.trans s4, ⟨[(keyN (List.range n), .ref p)], by rw [upd_ne hdl, upd_same], .cons ⟨rfl, p, rfl, .inl ?_⟩ .nil⟩, Nat.zero_le _, Nat.zero_le _⟩⟩, ?_⟩
    · rw [upd_ne hpl, upd_ne hpd, upd_same]
      rfl
    rintro m σ H' ⟨a, rfl, ⟨⟨lv, x5, x6, x7, x8, x9, rfl, xs, hlv', hxs⟩, sm, dw, le, le2⟩⟩
    have ret : (qq gs n a).length = a ∨ 240 < (qq gs n a).length → Q (.ref d) H' := fun h => q d H' _ sm hd0 dw ⟨a, rfl, le, h⟩
    have hxl : xs.length = (qq gs n a).length - a := by
      rw [Paired.length hxs, List.length_drop, List.length_map]
    refine ⟨_, rfl, !xs.isEmpty, .inl ⟨xs, SqL.of hlv', rfl⟩, ?_⟩
    refine ite2 (fun h => ?_) (fun h => ?_)
    rotate_left
    · refine iteF ⟨_, rfl, ret (.inl ?_)⟩
      cases xs with
      | nil => simp at hxl; omega
      | cons x xs => exact absurd rfl h
    obtain ⟨kvs, hkv, pkv⟩ := dw
    have hkl : kvs.length = (qq gs n a).length := Paired.length pkv
    refine ⟨_, rfl, d, kvs, rfl, hkv, _, _, rfl, rfl, _, rfl, ite2 (fun h2 => ?_) (fun h2 => ?_)⟩
    rotate_left
    · have h2 : ¬ ((kvs.length : Int) ≤ 240) := fun z => h2 (decide_eq_true z)
      exact ⟨_, rfl, ret (.inr (by omega))⟩
    have h2 : (kvs.length : Int) ≤ 240 := of_decide_eq_true h2
    have hpos : a < (qq gs n a).length := by
      cases xs with
      | nil => simp at h
      | cons x xs => rw [List.length_cons] at hxl; omega
    refine ⟨fun σ2 H2 => WS H (.ref pm) (.ref b) n gs d (qq gs n a).length σ2 H2, fun σ2 H2 hw => ⟨240 - (qq gs n a).length, by omega, _, rfl, hw⟩, ?_⟩
    -- longer = []
    refine ⟨Nat.zero_le _, fun lg hlg => ?_⟩
    have hlg0 : H lg = none := sm.free hlg
    have sl := same_new (o := .lst []) hlg
    obtain ⟨mxs, hpm, hmx⟩ := hms
    have hlvg : lv ≠ lg := ne_of_none hlv' hlg
    have hdg : d ≠ lg := ne_of_none hkv hlg
    have hlv0 : ∀ H2 : Hp, Same H' H2 → H2 lv = some (.lst xs) := fun H2 s => s _ _ hlv'
    refine ⟨_, rfl, lv, rfl, ⟨_, SqL.of (sl _ _ hlv')⟩, for_list (K := K) (a := lv) (xs := xs)
      (fun i σ2 H2 => ∃ y6 y7 y8 y9 M, σ2 = [some (.ref pm), some (nI n), some (.ref b), some (.ref d), some (.ref lv), some (.ref lg), y6, y7, y8, y9] ∧ Same H H2 ∧ qq gs n (a + i) = qq gs n a ++ M ∧ DW H2 d (qq gs n (a + i)) ∧ LT H2 lg (M.map (·.1)) ∧ H2 lv = some (.lst xs) ∧ Paired (TN H2) xs (((qq gs n a).map (·.1)).drop a))
      ⟨x6, x7, x8, x9, [], rfl, sm.trans sl, by rw [List.append_nil]; rfl, DW.same ⟨kvs, hkv, pkv⟩ sl, ⟨[], upd_same, .nil⟩, sl _ _ hlv', TNs.tm (.of sl) hxs⟩
      (fun i σ2 H2 _ ⟨_, _, _, _, _, _, _, _, _, _, h, _⟩ => SqL.of h) ?_ ?_⟩
    · rintro i x σ2 H2 hi ⟨y6, y7, y8, y9, M, rfl, sm2, eM, dw2, lt2, hlv2, hx2⟩
      obtain ⟨t, ht, htn⟩ := Paired.getL hx2 hi
      rw [List.getElem?_drop, List.getElem?_map] at ht
      obtain ⟨⟨t', w'⟩, hq, et⟩ := Option.map_eq_some_iff.mp ht
      have et : t' = t := et
      subst et
      have hstep := qq_step eM hq
      have htP : IsP n t' := Mk.isP hg (qq_mk gs n a t' (List.mem_map.mpr ⟨_, List.mem_of_getElem? hq, rfl⟩))
      refine ⟨_, rfl, pm, _, rfl, SqL.of (sm2 _ _ hpm), for_enumL (K := K) (xs := mxs)
        (fun j σ3 H3 => ∃ z7 z8 z9 M', σ3 = [some (.ref pm), some (nI n), some (.ref b), some (.ref d), some (.ref lv), some (.ref lg), some x, z7, z8, z9] ∧ Same H H3 ∧ grow t' w' (gs.take j) 0 (qq gs n (a + i)) = qq gs n a ++ M' ∧ DW H3 d (qq gs n a ++ M') ∧ LT H3 lg (M'.map (·.1)) ∧ H3 lv = some (.lst xs) ∧ Paired (TN H3) xs (((qq gs n a).map (·.1)).drop a))
        ⟨y7, y8, y9, M, rfl, sm2, eM, by rw [← eM]; exact dw2, lt2, hlv2, hx2⟩ (fun j σ3 H3 _ ⟨_, _, _, _, _, s, _⟩ => SqL.of (s _ _ hpm)) ?_ ?_⟩
      · rintro j y σ3 H3 T hj ⟨z7, z8, z9, M', rfl, sm3, eM', dw3, ⟨gz, hgz, pgz⟩, hlv3, hx3⟩ hT
        obtain ⟨g, hgj, hyg⟩ := Paired.getL hmx hj
        have hgP := hg g (List.mem_of_getElem? hgj)
        have sT := same_new (o := .tup [nI j, y]) hT
        refine ⟨T, _, rfl, SqT.of upd_same, rfl, nI j, _, rfl, y, _, rfl, rfl, ?_⟩
        obtain ⟨t2, ht2, htn3⟩ := Paired.getL hx3 hi
        rw [List.getElem?_drop, List.getElem?_map, hq] at ht2
        have ht2 : t' = t2 := Option.some.inj ht2
        subst ht2
        refine ⟨_, rfl, _, rfl, pr_call (htn3.tm (.of sT)) (hyg.tm (.of (sm3.trans sT))) htP hgP hn fun v H4 s4 hv => ?_⟩
        have s34 : Same H3 H4 := sT.trans s4
        have hvP := htP.prod hgP
        obtain ⟨b1, rfl, hb1⟩ := hv.key
        obtain ⟨kv4, hk4, pk4⟩ := dw3.same s34
        have hgz4 := s34 _ _ hgz
        have pgz4 := TNs.tm (.of s34) pgz
        have hlv4 := s34 _ _ hlv3
        have hx4 := TNs.tm (.of s34) hx3
        have hnd : ((qq gs n a ++ M').map (·.1)).Nodup := by rw [← eM']; exact grow_nd _ _ _ _ _ (qq_nd gs n (a + i))
        have hnx := grow_next (t := t') (w := w') hgj (qq gs n (a + i))
        rw [eM'] at hnx
        have sm4 : Same H H4 := sm3.trans s34
        refine ⟨_, rfl, _, rfl, d, _, rfl, DGet.t hk4 hb1, _, rfl, ?_⟩
        rw [dw_isSome pk4 hnd]
        by_cases hin : prod t' g ∈ (qq gs n a ++ M').map (·.1)
        · rw [if_pos hin] at hnx
          rw [decide_eq_true hin]
          exact iteF ⟨_, _, _, M', rfl, sm4, hnx, ⟨kv4, hk4, pk4⟩, ⟨gz, hgz4, pgz4⟩, hlv4, hx4⟩
        · rw [if_neg hin] at hnx
          rw [decide_eq_false hin]
          refine iteT ?_
          have hmem : (t', w') ∈ qq gs n a ++ M' := List.mem_append.mpr (.inl (List.mem_of_getElem? hq))
          obtain ⟨wv, hwv, hwn⟩ := dw_some pk4 hnd hmem
          obtain ⟨b2, rfl, hb2⟩ := (htn3.tm (.of s34)).key
          obtain ⟨pw, rfl, hpw⟩ := hwn
          have hwl : w'.length ≤ 240 := Nat.le_trans (qq_w gs n a _ (List.mem_of_getElem? hq)) le2
          refine ⟨_, rfl, _, rfl, d, .ref pw, kv4, _, _, rfl, rfl, .inl hk4, hb2, hwv, _, rfl, by show 1 ≤ sizeLine; decide, fun p hp => ?_⟩
          have s5 := same_new (o := .tup [nI j]) hp
          refine catA_tn (hpw.sm s5) upd_same (by omega) fun v5 H5 s6 hv5 => ?_
          have s45 := s5.trans s6
          have hk5 := s45 _ _ hk4
          have hkl4 : kv4.length = (grow t' w' (gs.take j) 0 (qq gs n (a + i))).length := by rw [Paired.length pk4, ← eM']
          have hsz : kv4.length ≤ 1000000 := by
            have h0 := grow_len t' w' (gs.take j) 0 (qq gs n (a + i))
            have h1 := qq_len_le gs n a i
            have h3 : i ≤ 240 := by
              have := (List.getElem?_eq_some_iff.mp hq).1
              omega
            have h4 : i * gs.length ≤ 240 * 1000 := Nat.mul_le_mul h3 hgl
            rw [List.length_take] at h0
            omega
          refine ⟨_, rfl, _, rfl, d, _, rfl, DPut.t hk5 (s45 _ _ hb1) (by rw [sizeLine_eq]; omega), ?_⟩
          rw [putK_new v5 (dw_none pk4 hin)]
          have t6 : Tm H5 (upd H5 d (.dT (kv4 ++ [(keyN (prod t' g), v5)]))) := Tm.dT hk5
          have hg6 : (upd H5 d (.dT (kv4 ++ [(keyN (prod t' g), v5)]))) lg = some (.lst gz) := by
            rw [upd_ne (ne_of hgz4 hk4 (fun z => nomatch z))]
            exact s45 _ _ hgz4
          have hgzl : gz.length ≤ kv4.length := by
            rw [Paired.length pgz, Paired.length pk4, List.length_map, List.length_append]
            omega
          refine ⟨_, rfl, .inl ⟨rfl, _, SqL.of hg6⟩, _, rfl, lg, _, _, rfl, rfl, hg6, by rw [sizeLine_eq]; omega, ?_⟩
          have t7 := Tm.lst (o := .lst (gz ++ [.ref b1])) hg6
          have tt := (Tm.of s45).trans (t6.trans t7)
          refine ⟨_, _, _, M' ++ [(prod t' g, w' ++ [j])], rfl, ?_, ?_, ⟨kv4 ++ [(keyN (prod t' g), v5)], ?_, ?_⟩, ⟨gz ++ [.ref b1], upd_same, ?_⟩, ?_, TNs.tm tt hx4⟩
          · exact same_mut (same_mut (sm4.trans s45) hd0) hlg0
          · rw [hnx, List.append_assoc]
          · rw [upd_ne hdg, upd_same]
          · rw [← List.append_assoc]
            exact Paired.app (DEs.tm tt pk4) (Paired.one ⟨rfl, hv5.tm (t6.trans t7)⟩)
          · rw [List.map_append]
            exact Paired.app (TNs.tm tt pgz4) (Paired.one (hv.tn.tm tt))
          · rw [upd_ne hlvg, upd_ne (ne_of hlv4 hk4 (fun z => nomatch z))]
            exact s45 _ _ hlv4
      · rintro σ3 H3 ⟨z7, z8, z9, M', rfl, sm3, eM', dw3, lt3, hlv3, hx3⟩
        have e : gs.take mxs.length = gs := by rw [Paired.length hmx, List.take_length]
        rw [e] at eM'
        refine ⟨_, _, _, _, M', rfl, sm3, ?_, ?_, lt3, hlv3, hx3⟩
        · show qq gs n (a + i + 1) = _
          rw [hstep, eM']
        · show DW H3 d (qq gs n (a + i + 1))
          rw [hstep, eM']
          exact dw3
    · rintro σ2 H2 ⟨y6, y7, y8, y9, M, rfl, sm2, eM, dw2, lt2, hlv2, hx2⟩
      have e : a + xs.length = (qq gs n a).length := by omega
      rw [e] at eM dw2
      refine ⟨_, rfl, ⟨⟨lg, _, _, _, _, _, rfl, ?_⟩, sm2, dw2, ?_, by omega⟩⟩
      · rw [eM, List.map_append, List.drop_append_of_le_length (by rw [List.length_map]; exact Nat.le_refl _), List.drop_of_length_le (by rw [List.length_map]; exact Nat.le_refl _), List.nil_append]
        exact lt2
      · rw [eM, List.length_append]
        omega
end
end Lt

set_option Elab.async false
set_option linter.all false
set_option maxRecDepth 100000
set_option maxHeartbeats 2000000
namespace Lt
open PySem PySem.Spec PyProof.Rows L2
/-- a list of turns that are keys -/
def LK (H : Hp) (a : Addr) (ts : List (List Nat)) : Prop := ∃ xs, H a = some (.lst xs) ∧ Paired (TK H) xs ts
theorem TKs.tm {H H' : Hp} (e : Tm H H') {xs : List V} {ts : List (List Nat)} (p : Paired (TK H) xs ts) : Paired (TK H') xs ts := paired_mono (fun _ _ r => TK.tm e r) p
/-- a dict with these turns as keys -/
def DKs (H : Hp) (d : Addr) (ks : List (List Nat)) : Prop := ∃ kvs, H d = some (.dT kvs) ∧ kvs.map (·.1) = ks.map keyN
theorem DW.dks {H : Hp} {d : Addr} {L : List (List Nat × List Nat)} (h : DW H d L) : DKs H d (L.map (·.1)) := by
  obtain ⟨kvs, h1, p⟩ := h
  refine ⟨kvs, h1, ?_⟩
  clear h1
  induction p with
  | nil => rfl
  | cons r _ ih => rw [List.map_cons, List.map_cons, List.map_cons, ih, r.1]
theorem dks_isSome : ∀ {kvs : List (List Key × V)} {ks : List (List Nat)}, kvs.map (·.1) = ks.map keyN → ∀ t, (valV kvs (keyN t)).isSome = decide (t ∈ ks)
  | [], ks, h, t => by
    cases ks with
    | nil => rfl
    | cons k ks => cases h
  | kv :: kvs, ks, h, t => by
    cases ks with
    | nil => cases h
    | cons k ks =>
      injection h with h1 h2
      have ih := dks_isSome h2 t
      have h1 : kv.1 = keyN k := h1
      by_cases hk : k = t
      · subst hk
        rw [valV_pos h1, decide_eq_true (List.mem_cons_self)]
        rfl
      · rw [valV_neg (by rw [h1]; exact fun z => hk (keyN_inj z)), ih]
        exact decide_eq_decide.mpr ⟨fun z => List.mem_cons_of_mem _ z, fun z => (List.mem_cons.mp z).resolve_left (fun y => hk y.symm)⟩
theorem Mk.nil {n : Nat} {t : List Nat} (h : Mk [] n t) : t = List.range n := by
  induction h with
  | still => rfl
  | step _ hg _ => cases hg
section
variable {P : Program} {w : World} {K : PySem.W.Frag} {mg : Str → Option Value} {base : Heap}
def spGroup : Sp := fun vs H Q _ => ∃ (ml : Addr) (ms : List (List Nat)) (n : Nat), vs = [.ref ml, nI n] ∧ LK H ml ms ∧ (∀ g ∈ ms, IsP n g) ∧ 1 ≤ n ∧ n ≤ 9 ∧ Few ms n 63 ∧
  ∀ p fl tv few ts H', Same H H' → H' p = some (.tup [.ref fl, tv]) → H fl = none → LT H' fl few → TT H' tv ts → (∀ g ∈ few, g ∈ ms) → few.length ≤ 63 → (∀ t, Mk few n t ↔ Mk ms n t) → ts.Nodup → (∀ t, t ∈ ts ↔ Mk ms n t) → Asc ts → Q (.ref p) H'
theorem sc_group_of : FnScope ["makers", "size", "few", "turns", "known", "maker"] ["makers", "size"] (defScope s_group_of) := ⟨rfl, rfl, rfl, by decide +kernel, rfl, by decide +kernel, by decide +kernel⟩
theorem has_group_of (T : Top K mg "group_of" s_group_of ["makers", "size"]) (B : Bi mg) (hS : Has P w K mg base CX0 1 "still_of" ["size"] spStill) (hW : Has P w K mg base CX0 2 "words_of" ["makers", "size"] spWordsL) : Has P w K mg base CX0 3 "group_of" ["makers", "size"] spGroup := by
  refine T.ok sc_group_of (fun vs H Q E h => ?_) (fun f cdv A outer s H vs Q E hr h => ?_)
  · obtain ⟨ml, ms, n, rfl, _⟩ := h
    rfl
  · obtain ⟨ml, ms, n, rfl, ⟨mx, hml, pm⟩, hms, hn1, hn9, hf, q⟩ := h
    have hu := hu_of hr
    have hr1 : Room 1 _ := hr.mono (by decide)
    refine ⟨_, pss_cons (ps_set (i := 2) sc_group_of.nd rfl (Or.inl rfl) (pe_lst pa_nil))
      (pss_cons (ps_set (i := 3) sc_group_of.nd rfl (Or.inl rfl) (pe_lst (pa_cons (pe_has hS hr1 (by rfl) (pa_cons (pv 1) pa_nil)) pa_nil)))
      (pss_cons (ps_set (i := 4) sc_group_of.nd rfl (Or.inl rfl) (pe_dispT hu (pe_ix ix_list (pv 3) pe_int (fun _ _ => rfl)) pe_bl))
      (pss_cons (ps_for PassesOwn.never rfl (pi_list (pv 0)) (pg_name (i := 5) sc_group_of.nd rfl (Or.inl rfl))
        (pss_one (ps_if (pt_cmp (pc_dnotin hu (pv 5) (pv 4)))
          (pss_cons (ps_expr (pe_bm PySem.F.plainAttrs_list PySem.F.slot_list_append PySem.F.type_list_append mt_append (pv 2) (pa_cons (pv 5) pa_nil)))
          (pss_cons (ps_set (i := 4) sc_group_of.nd rfl (Or.inl rfl) (pe_has hW hr (by rfl) (pa_cons (pv 2) (pa_cons (pv 1) pa_nil))))
          (pss_one (ps_set (i := 3) sc_group_of.nd rfl (Or.inl rfl) (pe_callB (cr_sortDT (d := n) (B := 9) rfl hn1) (by rfl) B.sorted PyProof.Rows.boot_sorted (pa_cons (pv 4) pa_nil)))))) pss_nil)))
      (pss_one (ps_ret (pe_tup (pa_cons (pv 2) (pa_cons (pe_tupleOf (by rfl) B.tuple (pv 3)) pa_nil)))))))), ?_⟩
    refine ⟨Nat.zero_le _, fun fl hfl => ?_⟩
    have s1 := same_new (o := .lst []) hfl
    refine ⟨_, rfl, n, rfl, by omega, fun sv H1 s2 hsv => ?_⟩
    refine ⟨Nat.le_of_ble_eq_true rfl, fun tl htl => ?_⟩
    have s3 := same_new (o := .lst [sv]) htl
    obtain ⟨b, rfl, hb⟩ := hsv.key
    refine fun d hd => ?_
    have s4 := same_new (o := .dT []) hd
    have fl0 : H fl = none := hfl
    have hml1 := s2 _ _ (s1 _ _ hml)
    have fl1 := s2 _ _ (upd_same (H := H) (a := fl) (o := .lst []))
    have tl0 : H tl = none := (s1.trans s2).free htl
    have d0 : H d = none := ((s1.trans s2).trans s3).free hd
    have htd : tl ≠ d := fun z => by rw [← z, upd_same] at hd; cases hd
    have hfd : fl ≠ d := ne_of_none (s3 _ _ fl1) hd
    refine ⟨_, rfl, tl, [V.ref b], 0, .ref b, rfl, rfl, SqL.of (s4 _ _ upd_same), rfl, b, keyN (List.range n), rfl, upd_same, s4 _ _ (s3 _ _ hb), ?_⟩
    have sD : Same H (upd (upd (upd H1 tl (.lst [V.ref b])) d (.dT [])) d (.dT [(keyN (List.range n), V.bl true)])) := same_mut (((s1.trans s2).trans s3).trans s4) d0
    have tD : Tm H1 (upd (upd (upd H1 tl (.lst [V.ref b])) d (.dT [])) d (.dT [(keyN (List.range n), V.bl true)])) := (Tm.of (s3.trans s4)).trans (Tm.dT upd_same)
    refine ⟨_, rfl, ml, rfl, ⟨_, SqL.of (sD _ _ hml)⟩, for_list (K := K) (a := ml) (xs := mx)
      (fun i σ H' => ∃ x5 dl tl few ks ts, σ = [some (.ref ml), some (nI n), some (.ref fl), some (.ref tl), some (.ref dl), x5] ∧ Same H H' ∧ LT H' fl few ∧ DKs H' dl ks ∧ LT H' tl ts ∧ few.Nodup ∧ (∀ g ∈ few, g ∈ ms) ∧ (∀ g ∈ ms.take i, Mk few n g) ∧ (∀ t, t ∈ ks ↔ Mk few n t) ∧ ts.Nodup ∧ (∀ t, t ∈ ts ↔ Mk few n t) ∧ Asc ts)
      ⟨none, d, tl, [], [List.range n], [List.range n], rfl, sD, ⟨[], ?_, .nil⟩, ⟨[(keyN (List.range n), V.bl true)], upd_same, rfl⟩, ⟨[.ref b], ?_, .cons (TK.tn (TK.tm tD hsv)) .nil⟩, List.nodup_nil, (fun g h => by cases h), (fun g h => by rw [List.take_zero] at h; cases h), fun t => ?_, List.nodup_cons.mpr ⟨List.not_mem_nil, List.nodup_nil⟩, fun t => ?_, List.pairwise_singleton ..⟩
      (fun i σ H' _ ⟨_, _, _, _, _, _, _, st, _⟩ => SqL.of (st _ _ hml)) ?_ ?_⟩
    · rw [upd_ne hfd, upd_ne hfd, s3 _ _ fl1]
    · rw [upd_ne htd, upd_ne htd, upd_same]
    · rw [List.mem_singleton]
      exact ⟨fun z => by rw [z]; exact .still, Mk.nil⟩
    · rw [List.mem_singleton]
      exact ⟨fun z => by rw [z]; exact .still, Mk.nil⟩
    · rintro i x σ H' hi ⟨x5, dl, tl, few, ks, ts, rfl, st, ⟨fx, hfx, pf⟩, ⟨kvs, hk, ek⟩, lts, fnd, fms, ftk, hks, tnd, hts, asc⟩
      obtain ⟨g, hg, hgk⟩ := Paired.getL pm hi
      have gms := List.mem_of_getElem? hg
      have hgk' := TK.tm (.of st) hgk
      obtain ⟨gb, rfl, hgb⟩ := hgk'.key
      refine ⟨_, rfl, _, rfl, dl, _, rfl, DGet.t hk hgb, _, rfl, ?_⟩
      rw [dks_isSome ek]
      have ftake : ∀ (few' : List (List Nat)), (∀ x ∈ few', IsP n x) → (∀ x ∈ few, x ∈ few') → Mk few' n g → ∀ g ∈ ms.take (i + 1), Mk few' n g := fun few' h1 h2 h3 g' hg' => by
        rw [List.take_add_one, hg] at hg'
        rcases List.mem_append.mp hg' with z | z
        · exact (ftk g' z).mono h1 fun y hy => .one h1 (h2 y hy)
        · rw [List.mem_singleton.mp z]
          exact h3
      have fP : ∀ x ∈ few, IsP n x := fun x hx => hms x (fms x hx)
      by_cases hin : g ∈ ks
      · rw [decide_eq_true hin]
        exact iteF ⟨_, _, _, few, ks, ts, rfl, st, ⟨fx, hfx, pf⟩, ⟨kvs, hk, ek⟩, lts, fnd, fms, ftake few fP (fun _ h => h) ((hks g).mp hin), hks, tnd, hts, asc⟩
      · rw [decide_eq_false hin]
        refine iteT ?_
        have flen : few.length ≤ 63 := hf.le fnd fun t h => .one hms (fms t h)
        refine ⟨_, rfl, .inl ⟨rfl, _, SqL.of hfx⟩, _, rfl, fl, fx, .ref gb, rfl, rfl, hfx, by rw [sizeLine_eq, Paired.length pf]; omega, ?_⟩
        have tA := Tm.lst (o := .lst (fx ++ [V.ref gb])) hfx
        have stA : Same H (upd H' fl (.lst (fx ++ [V.ref gb]))) := same_mut st hfl
        have ltA : LT (upd H' fl (.lst (fx ++ [V.ref gb]))) fl (few ++ [g]) := ⟨_, upd_same, Paired.app (TNs.tm tA pf) (Paired.one (TK.tn (TK.tm tA hgk')))⟩
        have fms' : ∀ y ∈ few ++ [g], y ∈ ms := fun y hy => (List.mem_append.mp hy).elim (fms y) fun z => by rw [List.mem_singleton.mp z]; exact gms
        have fP' : ∀ y ∈ few ++ [g], IsP n y := fun y hy => hms y (fms' y hy)
        have sub : ∀ t, Mk (few ++ [g]) n t → Mk ms n t := fun t h => h.mono hms fun y hy => .one hms (fms' y hy)
        refine ⟨_, rfl, _, rfl, fl, few ++ [g], n, rfl, ltA, fP', by omega, by rw [List.length_append]; show few.length + 1 ≤ 1000; omega, fun d2 H2 L s5 hd2 dw hW => ?_⟩
        obtain ⟨aa, eL, eLl, l63⟩ := (hf.sub sub).wd (by omega) hW
        have hP2 := wd_isP fP' hW
        obtain ⟨kv2, hk2, pk2⟩ := dw
        refine ⟨_, rfl, d2, kv2, numL L, rfl, .inl hk2, keysI pk2, by rw [List.length_map]; omega, fun k hk => ?_, fun bs ks' p pmm so pr hp => ?_⟩
        · obtain ⟨y, hy, rfl⟩ := List.mem_map.mp hk
          exact ⟨by rw [List.length_map, (hP2 y hy).len], bd_iN (hP2 y hy) hn9⟩
        · obtain ⟨ts2, rfl⟩ := turns_back (L := L) fun k hk => pmm.mem_iff.mp hk
          have pm2 : ts2.Perm (L.map (·.1)) := perm_iN (by
            rw [List.map_map]
            exact pmm)
          have s6 := same_new (o := .lst (bs.map V.ref)) hp
          have full : ∀ t, t ∈ L.map (·.1) ↔ Mk (few ++ [g]) n t := fun t => by
            rw [eL]
            exact qq_full (Nat.le_of_eq (by rw [← eL]; exact eLl)) t
          have hgn : g ∉ few := fun z => hin ((hks g).mpr (.one fP z))
          exact ⟨_, d2, p, few ++ [g], L.map (·.1), ts2, rfl, (stA.trans s5).trans s6, LT.same (s5.trans s6) ltA, (DW.same ⟨kv2, hk2, pk2⟩ s6).dks, ⟨_, upd_same, TNs.tm (.of s6) (paired_mono (fun _ _ r => TK.tn r) (tns_of pr))⟩, nodup_snoc fnd hgn, fms',
            ftake (few ++ [g]) fP' (fun y hy => List.mem_append.mpr (.inl hy)) (.one fP' (List.mem_append.mpr (.inr List.mem_cons_self))), full, (List.Perm.nodup_iff pm2).mpr (by rw [eL]; exact qq_nd _ n aa), fun t => (pm2.mem_iff).trans (full t), (List.pairwise_map (f := iN) (R := fun x y => TS.code 9 x ≤ TS.code 9 y)).mp so⟩
    · rintro σ H' ⟨x5, dl, tl, few, ks, ts, rfl, st, ltf, _, ⟨tx, htx, ptx⟩, fnd, fms, ftk, hks, tnd, hts, asc⟩
      rw [Paired.length pm, List.take_length] at ftk
      have fP : ∀ x ∈ few, IsP n x := fun x hx => hms x (fms x hx)
      have eq : ∀ t, Mk few n t ↔ Mk ms n t := fun t => ⟨fun h => h.mono hms fun y hy => .one hms (fms y hy), fun h => h.mono fP ftk⟩
      refine ⟨_, rfl, _, rfl, .inl ⟨tl, tx, rfl, SqL.of htx, fun tp htp => ?_⟩⟩
      have s7 := same_new (o := .tup tx) htp
      refine ⟨Nat.le_of_ble_eq_true rfl, fun p hp => ?_⟩
      have s8 := same_new (o := .tup [V.ref fl, V.ref tp]) hp
      exact q p fl (.ref tp) few ts _ ((st.trans s7).trans s8) upd_same fl0 (LT.same (s7.trans s8) ltf) ⟨tp, tx, rfl, s8 _ _ upd_same, TNs.tm (.of (s7.trans s8)) ptx⟩ fms (hf.le fnd fun t h => .one hms (fms t h)) eq tnd (fun t => (hts t).trans (eq t)) asc
end
end Lt

set_option Elab.async false
set_option linter.all false
set_option maxRecDepth 100000
set_option maxHeartbeats 2000000
namespace Lt
open PySem PySem.Spec PyProof.Rows L2
/-- the commutators of the turns ts with the makers ms, in the order of the program -/
def brk (ts ms : List (List Nat)) : List (List Nat) := ts.flatMap fun t => ms.map (cm t)
theorem brk_next {ts ms : List (List Nat)} {i : Nat} {t : List Nat} (h : ts[i]? = some t) : brk (ts.take (i + 1)) ms = brk (ts.take i) ms ++ ms.map (cm t) := by
  unfold brk
  rw [List.take_add_one, h, List.flatMap_append]
  simp
theorem brk_mem {ts ms : List (List Nat)} {b : List Nat} : b ∈ brk ts ms ↔ ∃ t ∈ ts, ∃ g ∈ ms, b = cm t g := by
  unfold brk
  rw [List.mem_flatMap]
  exact ⟨fun ⟨t, h1, h2⟩ => ⟨t, h1, by obtain ⟨g, h3, h4⟩ := List.mem_map.mp h2; exact ⟨g, h3, h4.symm⟩⟩, fun ⟨t, h1, g, h2, e⟩ => ⟨t, h1, List.mem_map.mpr ⟨g, h2, e.symm⟩⟩⟩
theorem brk_len (ts ms : List (List Nat)) : (brk ts ms).length = ts.length * ms.length := by
  induction ts with
  | nil => simp [brk]
  | cons t ts ih =>
    have e : brk (t :: ts) ms = ms.map (cm t) ++ brk ts ms := by unfold brk; rw [List.flatMap_cons]
    rw [e, List.length_append, List.length_map, ih, List.length_cons, Nat.succ_mul, Nat.add_comm]
section
variable {P : Program} {w : World} {K : PySem.W.Frag} {mg : Str → Option Value} {base : Heap}
def spBracketsT : Sp := fun vs H Q _ => ∃ (tv mv : V) (ts ms : List (List Nat)) (n : Nat), vs = [tv, mv] ∧ TT H tv ts ∧ TT H mv ms ∧ (∀ g ∈ ts, IsP n g) ∧ (∀ g ∈ ms, IsP n g) ∧ 1 ≤ ts.length ∧ ts.length ≤ 63 ∧ ms.length ≤ 63 ∧ 1 ≤ n ∧ n ≤ 9 ∧ Few (brk ts ms) n 63 ∧
  ∀ p fl tv few us H', Same H H' → H' p = some (.tup [.ref fl, tv]) → H fl = none → LT H' fl few → TT H' tv us → (∀ g ∈ few, g ∈ brk ts ms) → few.length ≤ 63 → (∀ t, Mk few n t ↔ Mk (brk ts ms) n t) → us.Nodup → (∀ t, t ∈ us ↔ Mk (brk ts ms) n t) → Asc us → Q (.ref p) H'
theorem sc_brackets_made : FnScope ["term", "makers", "brackets", "turn", "maker"] ["term", "makers"] (defScope s_brackets_made) := ⟨rfl, rfl, rfl, by decide +kernel, rfl, by decide +kernel, by decide +kernel⟩
theorem has_brackets_madeT (T : Top K mg "brackets_made" s_brackets_made ["term", "makers"]) (B : Bi mg) (hB : Has P w K mg base CX0 2 "bracket_of" ["one", "other"] spBracket) (hG : Has P w K mg base CX0 3 "group_of" ["makers", "size"] spGroup) : Has P w K mg base CX0 4 "brackets_made" ["term", "makers"] spBracketsT := by
  refine T.ok sc_brackets_made (fun vs H Q E h => ?_) (fun f cdv A outer s H vs Q E hr h => ?_)
  · obtain ⟨tv, mv, ts, ms, n, rfl, _⟩ := h
    rfl
  · obtain ⟨tv, mv, ts, ms, n, rfl, ⟨ta, tx, rfl, hta, pt⟩, ⟨ma, mx, rfl, hma, pm⟩, hts, hms, ht1, ht2, hm2, hn1, hn9, hf, q⟩ := h
    have hr2 : Room 2 _ := hr.mono (by decide)
    refine ⟨_, pss_cons (ps_setLc2 (i := 2) (own := [("turn", 3), ("maker", 4)]) (vs1 := [4]) (wi1 := iTup K (tVar 1)) (g := gName 3) (g1 := gName 4) (te := tCall spBracket [] E0 (tCons (tVar 3) (tCons (tVar 4) tNil))) (by rfl) sc_brackets_made.nd rfl rfl (sw_true rfl rfl rfl (by decide +kernel)) (pi_tup (pv 0))
        (blkOk_by (own := [("turn", 3), ("maker", 4)]) (N := ["term", "makers", "brackets", "turn", "maker"]) (sc := defScope s_brackets_made) (by decide +kernel)) (by decide)
        (fun _ _ _ _ _ => pg_name (i := 3) sc_brackets_made.nd rfl (Or.inl rfl)) (fun _ _ _ _ _ => pts_nil) (fun _ _ _ _ _ => by exact (pi_tup (pv 1))) (fun _ _ _ _ _ => pg_name (i := 4) sc_brackets_made.nd rfl (Or.inl rfl)) (fun _ _ _ _ _ => pts_nil)
        (fun _ _ _ _ _ => pe_has hB hr2 (by rfl) (pa_cons (pv 3) (pa_cons (pv 4) pa_nil))))
      (pss_one (ps_ret (pe_has hG hr (by rfl) (pa_cons (pv 2) (pa_cons (pe_callB call_len_seq (by rfl) B.len PySem.boot_len (pa_cons (pe_ix ix_tup (pv 0) pe_int (fun _ _ => rfl)) pa_nil)) pa_nil))))), ?_⟩
    refine ⟨_, rfl, ta, rfl, ⟨_, SqT.of hta⟩, fun D hD => ?_⟩
    have Dr : H D = none := hD
    let Pv : Nat → Hp → Prop := fun i H' => Same H H' ∧ ∃ zs, H' D = some (.lst zs) ∧ Paired (TK H') zs (brk (ts.take i) ms)
    have htl : tx.length = ts.length := Paired.length pt
    have hml : mx.length = ms.length := Paired.length pm
    refine ⟨fun i m H' => m = tx.length - i ∧ i ≤ tx.length ∧ Pv i H', ⟨tx.length, rfl, Nat.zero_le _, same_new hD, [], upd_same, .nil⟩, ?_⟩
    rintro i m H1 ⟨rfl, hi, st, zs, hz, pz⟩
    by_cases hlt : i < tx.length
    · refine .inr ⟨⟨tx, tx[i], SqT.of (st _ _ hta), by simp [hlt]⟩, Pv (i + 1), fun H' p' => ⟨tx.length - (i + 1), by omega, rfl, hlt, p'⟩, fun x H' y => ?_⟩
      obtain ⟨e, y⟩ := y
      subst e
      have hx := y tx (SqT.of (st _ _ hta))
      obtain ⟨t, ht, htn⟩ := Paired.getL pt hx
      have tP := hts t (List.mem_of_getElem? ht)
      refine ⟨rfl, iteT (B := Pv (i + 1) H') ?_⟩
      let Pw : Nat → Hp → Prop := fun j H' => Same H H' ∧ ∃ zs, H' D = some (.lst zs) ∧ Paired (TK H') zs (brk (ts.take i) ms ++ (ms.take j).map (cm t))
      refine ⟨_, rfl, ma, rfl, ⟨_, SqT.of (st _ _ hma)⟩, fun j k H' => k = mx.length - j ∧ j ≤ mx.length ∧ Pw j H', ⟨mx.length, rfl, Nat.zero_le _, st, zs, hz, by rw [List.take_zero, List.map_nil, List.append_nil]; exact pz⟩, ?_⟩
      rintro j k H2 ⟨rfl, hj, st2, zs2, hz2, pz2⟩
      by_cases hlj : j < mx.length
      · refine .inr ⟨⟨mx, mx[j], SqT.of (st2 _ _ hma), by simp [hlj]⟩, Pw (j + 1), fun H' p' => ⟨mx.length - (j + 1), by omega, rfl, hlj, p'⟩, fun x2 H'' y2 => ?_⟩
        obtain ⟨e, y2⟩ := y2
        subst e
        have hx2 := y2 mx (SqT.of (st2 _ _ hma))
        obtain ⟨g, hg, hgn⟩ := Paired.getL pm hx2
        have gP := hms g (List.mem_of_getElem? hg)
        refine ⟨rfl, iteT (B := Pw (j + 1) H'') ?_⟩
        refine ⟨_, rfl, _, rfl, x, x2, t, g, n, rfl, htn.tm (.of st2), hgn.tm (.of st2), tP, gP, by omega, fun v H3 s3 hv => ?_⟩
        have h3 := s3 _ _ hz2
        have t3 : Tm H3 (upd H3 D (.lst (zs2 ++ [v]))) := Tm.lst h3
        have lz : zs2.length ≤ 8000 := by
          have l1 := Paired.length pz2
          rw [List.length_append, List.length_map, brk_len, List.length_take, List.length_take] at l1
          have l2 : min i ts.length * ms.length ≤ 63 * 63 := Nat.mul_le_mul (by omega) hm2
          omega
        refine ⟨zs2, h3, by rw [sizeLine_eq]; omega, same_mut (st2.trans s3) Dr, zs2 ++ [v], upd_same, ?_⟩
        rw [List.take_add_one, hg, List.map_append, ← List.append_assoc]
        exact Paired.app (TKs.tm ((Tm.of s3).trans t3) pz2) (Paired.one (TK.tm t3 hv))
      · have e : j = mx.length := by omega
        subst e
        rw [hml, List.take_length] at pz2
        refine .inl ⟨⟨mx, SqT.of (st2 _ _ hma), Nat.le_refl _⟩, st2, zs2, hz2, ?_⟩
        rw [brk_next ht]
        exact pz2
    · have e : i = tx.length := by omega
      subst e
      rw [htl, List.take_length] at pz
      obtain ⟨t0, tb, b, ht0, hb0, rfl, hbt⟩ : ∃ t0 tb b, ts[0]? = some t0 ∧ tx[0]? = some tb ∧ tb = .ref b ∧ RT H b (nIs t0) := by
        obtain ⟨tb, h1, h2⟩ := Paired.getR pt (List.getElem?_eq_getElem (by omega : 0 < ts.length))
        obtain ⟨b, rfl, hb⟩ := h2
        exact ⟨_, _, b, List.getElem?_eq_getElem (by omega), h1, rfl, hb⟩
      have t0P := hts t0 (List.mem_of_getElem? ht0)
      refine .inl ⟨⟨tx, SqT.of (st _ _ hta), Nat.le_refl _⟩, ?_⟩
      refine ⟨_, rfl, _, rfl, ta, tx, 0, .ref b, rfl, rfl, SqT.of (st _ _ hta), by exact atI_nat (j := 0) hb0, b, nIs t0, rfl, .inr (hbt.sm st).sq, D, brk ts ms, n, by rw [nIs_len, t0P.len]; rfl, ⟨zs, hz, pz⟩, fun g hg => ?_, hn1, hn9, hf, fun p fl tv few us H' s6 hp hfn => q p fl tv few us H' (st.trans s6) hp (st.free hfn)⟩
      obtain ⟨t, h1, g', h2, rfl⟩ := brk_mem.mp hg
      exact (hts t h1).cm (hms g' h2)
end
end Lt

set_option Elab.async false
set_option linter.all false
set_option maxRecDepth 100000
set_option maxHeartbeats 2000000
namespace Lt
open PySem PySem.Spec PyProof.Rows L2
section
variable {P : Program} {w : World} {K : PySem.W.Frag} {mg : Str → Option Value} {base : Heap}
def spBracketsL : Sp := fun vs H Q _ => ∃ (tv : V) (ma : Addr) (ts ms : List (List Nat)) (n : Nat), vs = [tv, .ref ma] ∧ TT H tv ts ∧ LT H ma ms ∧ (∀ g ∈ ts, IsP n g) ∧ (∀ g ∈ ms, IsP n g) ∧ 1 ≤ ts.length ∧ ts.length ≤ 63 ∧ ms.length ≤ 63 ∧ 1 ≤ n ∧ n ≤ 9 ∧ Few (brk ts ms) n 63 ∧
  ∀ p fl tv few us H', Same H H' → H' p = some (.tup [.ref fl, tv]) → H fl = none → LT H' fl few → TT H' tv us → (∀ g ∈ few, g ∈ brk ts ms) → few.length ≤ 63 → (∀ t, Mk few n t ↔ Mk (brk ts ms) n t) → us.Nodup → (∀ t, t ∈ us ↔ Mk (brk ts ms) n t) → Asc us → Q (.ref p) H'
theorem has_brackets_madeL (T : Top K mg "brackets_made" s_brackets_made ["term", "makers"]) (B : Bi mg) (hB : Has P w K mg base CX0 2 "bracket_of" ["one", "other"] spBracket) (hG : Has P w K mg base CX0 3 "group_of" ["makers", "size"] spGroup) : Has P w K mg base CX0 4 "brackets_made" ["term", "makers"] spBracketsL := by
  refine T.ok sc_brackets_made (fun vs H Q E h => ?_) (fun f cdv A outer s H vs Q E hr h => ?_)
  · obtain ⟨tv, ma, ts, ms, n, rfl, _⟩ := h
    rfl
  · obtain ⟨tv, ma, ts, ms, n, rfl, ⟨ta, tx, rfl, hta, pt⟩, ⟨mx, hma, pm⟩, hts, hms, ht1, ht2, hm2, hn1, hn9, hf, q⟩ := h
    have hr2 : Room 2 _ := hr.mono (by decide)
    refine ⟨_, pss_cons (ps_setLc2 (i := 2) (own := [("turn", 3), ("maker", 4)]) (vs1 := [4]) (wi1 := iList K (tVar 1)) (g := gName 3) (g1 := gName 4) (te := tCall spBracket [] E0 (tCons (tVar 3) (tCons (tVar 4) tNil))) (by rfl) sc_brackets_made.nd rfl rfl (sw_true rfl rfl rfl (by decide +kernel)) (pi_tup (pv 0))
        (blkOk_by (own := [("turn", 3), ("maker", 4)]) (N := ["term", "makers", "brackets", "turn", "maker"]) (sc := defScope s_brackets_made) (by decide +kernel)) (by decide)
        (fun _ _ _ _ _ => pg_name (i := 3) sc_brackets_made.nd rfl (Or.inl rfl)) (fun _ _ _ _ _ => pts_nil) (fun _ _ _ _ _ => by exact (pi_list (pv 1))) (fun _ _ _ _ _ => pg_name (i := 4) sc_brackets_made.nd rfl (Or.inl rfl)) (fun _ _ _ _ _ => pts_nil)
        (fun _ _ _ _ _ => pe_has hB hr2 (by rfl) (pa_cons (pv 3) (pa_cons (pv 4) pa_nil))))
      (pss_one (ps_ret (pe_has hG hr (by rfl) (pa_cons (pv 2) (pa_cons (pe_callB call_len_seq (by rfl) B.len PySem.boot_len (pa_cons (pe_ix ix_tup (pv 0) pe_int (fun _ _ => rfl)) pa_nil)) pa_nil))))), ?_⟩
    refine ⟨_, rfl, ta, rfl, ⟨_, SqT.of hta⟩, fun D hD => ?_⟩
    have Dr : H D = none := hD
    let Pv : Nat → Hp → Prop := fun i H' => Same H H' ∧ ∃ zs, H' D = some (.lst zs) ∧ Paired (TK H') zs (brk (ts.take i) ms)
    have htl : tx.length = ts.length := Paired.length pt
    have hml : mx.length = ms.length := Paired.length pm
    refine ⟨fun i m H' => m = tx.length - i ∧ i ≤ tx.length ∧ Pv i H', ⟨tx.length, rfl, Nat.zero_le _, same_new hD, [], upd_same, .nil⟩, ?_⟩
    rintro i m H1 ⟨rfl, hi, st, zs, hz, pz⟩
    by_cases hlt : i < tx.length
    · refine .inr ⟨⟨tx, tx[i], SqT.of (st _ _ hta), by simp [hlt]⟩, Pv (i + 1), fun H' p' => ⟨tx.length - (i + 1), by omega, rfl, hlt, p'⟩, fun x H' y => ?_⟩
      obtain ⟨e, y⟩ := y
      subst e
      have hx := y tx (SqT.of (st _ _ hta))
      obtain ⟨t, ht, htn⟩ := Paired.getL pt hx
      have tP := hts t (List.mem_of_getElem? ht)
      refine ⟨rfl, iteT (B := Pv (i + 1) H') ?_⟩
      let Pw : Nat → Hp → Prop := fun j H' => Same H H' ∧ ∃ zs, H' D = some (.lst zs) ∧ Paired (TK H') zs (brk (ts.take i) ms ++ (ms.take j).map (cm t))
      refine ⟨_, rfl, ma, rfl, ⟨_, SqL.of (st _ _ hma)⟩, fun j k H' => k = mx.length - j ∧ j ≤ mx.length ∧ Pw j H', ⟨mx.length, rfl, Nat.zero_le _, st, zs, hz, by rw [List.take_zero, List.map_nil, List.append_nil]; exact pz⟩, ?_⟩
      rintro j k H2 ⟨rfl, hj, st2, zs2, hz2, pz2⟩
      by_cases hlj : j < mx.length
      · refine .inr ⟨⟨mx, mx[j], SqL.of (st2 _ _ hma), by simp [hlj]⟩, Pw (j + 1), fun H' p' => ⟨mx.length - (j + 1), by omega, rfl, hlj, p'⟩, fun x2 H'' y2 => ?_⟩
        obtain ⟨e, y2⟩ := y2
        subst e
        have hx2 := y2 mx (SqL.of (st2 _ _ hma))
        obtain ⟨g, hg, hgn⟩ := Paired.getL pm hx2
        have gP := hms g (List.mem_of_getElem? hg)
        refine ⟨rfl, iteT (B := Pw (j + 1) H'') ?_⟩
        refine ⟨_, rfl, _, rfl, x, x2, t, g, n, rfl, htn.tm (.of st2), hgn.tm (.of st2), tP, gP, by omega, fun v H3 s3 hv => ?_⟩
        have h3 := s3 _ _ hz2
        have t3 : Tm H3 (upd H3 D (.lst (zs2 ++ [v]))) := Tm.lst h3
        have lz : zs2.length ≤ 8000 := by
          have l1 := Paired.length pz2
          rw [List.length_append, List.length_map, brk_len, List.length_take, List.length_take] at l1
          have l2 : min i ts.length * ms.length ≤ 63 * 63 := Nat.mul_le_mul (by omega) hm2
          omega
        refine ⟨zs2, h3, by rw [sizeLine_eq]; omega, same_mut (st2.trans s3) Dr, zs2 ++ [v], upd_same, ?_⟩
        rw [List.take_add_one, hg, List.map_append, ← List.append_assoc]
        exact Paired.app (TKs.tm ((Tm.of s3).trans t3) pz2) (Paired.one (TK.tm t3 hv))
      · have e : j = mx.length := by omega
        subst e
        rw [hml, List.take_length] at pz2
        refine .inl ⟨⟨mx, SqL.of (st2 _ _ hma), Nat.le_refl _⟩, st2, zs2, hz2, ?_⟩
        rw [brk_next ht]
        exact pz2
    · have e : i = tx.length := by omega
      subst e
      rw [htl, List.take_length] at pz
      obtain ⟨t0, tb, b, ht0, hb0, rfl, hbt⟩ : ∃ t0 tb b, ts[0]? = some t0 ∧ tx[0]? = some tb ∧ tb = .ref b ∧ RT H b (nIs t0) := by
        obtain ⟨tb, h1, h2⟩ := Paired.getR pt (List.getElem?_eq_getElem (by omega : 0 < ts.length))
        obtain ⟨b, rfl, hb⟩ := h2
        exact ⟨_, _, b, List.getElem?_eq_getElem (by omega), h1, rfl, hb⟩
      have t0P := hts t0 (List.mem_of_getElem? ht0)
      refine .inl ⟨⟨tx, SqT.of (st _ _ hta), Nat.le_refl _⟩, ?_⟩
      refine ⟨_, rfl, _, rfl, ta, tx, 0, .ref b, rfl, rfl, SqT.of (st _ _ hta), by exact atI_nat (j := 0) hb0, b, nIs t0, rfl, .inr (hbt.sm st).sq, D, brk ts ms, n, by rw [nIs_len, t0P.len]; rfl, ⟨zs, hz, pz⟩, fun g hg => ?_, hn1, hn9, hf, fun p fl tv few us H' s6 hp hfn => q p fl tv few us H' (st.trans s6) hp (st.free hfn)⟩
      obtain ⟨t, h1, g', h2, rfl⟩ := brk_mem.mp hg
      exact (hts t h1).cm (hms g' h2)
end
end Lt

set_option Elab.async false
set_option linter.all false
set_option maxRecDepth 100000
set_option maxHeartbeats 2000000
namespace Lt
open PySem PySem.Spec PyProof.Rows L2
/-- the next term: all that the commutators make, ascending -/
structure Nx (ms : List (List Nat)) (n : Nat) (A B : List (List Nat)) : Prop where
  nd : B.Nodup
  asc : Asc B
  mem : ∀ t, t ∈ B ↔ Mk (brk A ms) n t
/-- a series of terms, each the next one, up to the last that is less -/
structure Ser (ms : List (List Nat)) (n : Nat) (T0 : List (List Nat)) (Ts : List (List (List Nat))) : Prop where
  head : Ts[0]? = some T0
  step : ∀ i A B, Ts[i]? = some A → Ts[i + 1]? = some B → Nx ms n A B ∧ B.length ≠ A.length
  stop : ∀ i A, Ts[i]? = some A → Ts[i + 1]? = none → ∃ B, Nx ms n A B ∧ B.length = A.length
/-- a term: closed, and closed under commutators with ms -/
structure Tm1 (ls ms : List (List Nat)) (n : Nat) (A : List (List Nat)) : Prop where
  sub : ∀ t ∈ A, Mk ls n t
  still : List.range n ∈ A
  pr : ∀ a ∈ A, ∀ b ∈ A, prod a b ∈ A
  cm : ∀ t ∈ A, ∀ g ∈ ms, cm t g ∈ A
theorem Tm1.next {ls ms : List (List Nat)} {n : Nat} {A B : List (List Nat)} (hls : ∀ g ∈ ls, IsP n g) (hms : ∀ g ∈ ms, IsP n g) (h : Tm1 ls ms n A) (hx : Nx ms n A B) : Tm1 ls ms n B ∧ ∀ t ∈ B, t ∈ A := by
  have hA : ∀ t ∈ A, IsP n t := fun t ht => (h.sub t ht).isP hls
  have hb : ∀ b ∈ brk A ms, b ∈ A := fun b hb => by
    obtain ⟨t, h1, g, h2, rfl⟩ := brk_mem.mp hb
    exact h.cm t h1 g h2
  have hbP : ∀ b ∈ brk A ms, IsP n b := fun b hb' => hA b (hb b hb')
  have sub : ∀ t, Mk (brk A ms) n t → t ∈ A := fun t ht => by
    induction ht with
    | still => exact h.still
    | step _ hg ih => exact h.pr _ ih _ (hb _ hg)
  refine ⟨⟨fun t ht => h.sub t (sub t ((hx.mem t).mp ht)), (hx.mem _).mpr .still, fun a ha b hb' => (hx.mem _).mpr (((hx.mem a).mp ha).prod hbP ((hx.mem b).mp hb')), fun t ht g hg => ?_⟩, fun t ht => sub t ((hx.mem t).mp ht)⟩
  exact (hx.mem _).mpr (.one hbP (brk_mem.mpr ⟨t, sub t ((hx.mem t).mp ht), g, hg, rfl⟩))
theorem Tm1.whole {ls : List (List Nat)} {n m : Nat} {T0 : List (List Nat)} (hls : ∀ g ∈ ls, IsP n g) (hf : Few ls n m) (hT : ∀ t, t ∈ T0 ↔ Mk ls n t) : Tm1 ls ls n T0 := by
  refine ⟨fun t ht => (hT t).mp ht, (hT _).mpr .still, fun a ha b hb => (hT _).mpr (((hT a).mp ha).prod hls ((hT b).mp hb)), fun t ht g hg => (hT _).mpr ?_⟩
  have h1 := (hT t).mp ht
  have h2 := Mk.one hls hg
  exact (h1.prod hls h2).prod hls ((h2.prod hls h1).inv hls hf)
/-- a tuple, a list of tuples of turns -/
def TTT (H : Hp) (v : V) (Ts : List (List (List Nat))) : Prop := ∃ a xs, v = .ref a ∧ H a = some (.tup xs) ∧ Paired (TT H) xs Ts
theorem TTs.tm {H H' : Hp} (e : Tm H H') {xs : List V} {Ts : List (List (List Nat))} (p : Paired (TT H) xs Ts) : Paired (TT H') xs Ts := paired_mono (fun _ _ r => TT.tm e r) p
section
variable {P : Program} {w : World} {K : PySem.W.Frag} {mg : Str → Option Value} {base : Heap} {CL CM : Addr}
def spLower : Sp := fun vs H Q _ => ∃ (v : V) (ls : List (List Nat)) (n : Nat), vs = [v] ∧ Good H v ls n ∧ ∀ r H' T0 Ts, Same H H' → TTT H' r Ts → T0.Nodup → Asc T0 → (∀ t, t ∈ T0 ↔ Mk ls n t) → Ser ls n T0 Ts → Q r H'
theorem sc_lower : FnScope ["lock", "terms", "_", "term"] ["lock"] (defScope s_lower) := ⟨rfl, rfl, rfl, by decide +kernel, rfl, by decide +kernel, by decide +kernel⟩
theorem has_lower (T : Top K mg "lower" s_lower ["lock"]) (B : Bi mg) (hA : Has P w K mg base (L2.CX P w) 6 "all_turns" ["lock"] (spAll CL CM)) (hM : Has P w K mg base CX0 4 "brackets_made" ["term", "makers"] spBracketsT) : Has P w K mg base CX0 7 "lower" ["lock"] spLower := by
  refine T.ok sc_lower (fun vs H Q E h => ?_) (fun f cdv A outer s H vs Q E hr h => ?_)
  · obtain ⟨v, ls, n, rfl, _⟩ := h
    rfl
  · obtain ⟨v, ls, n, rfl, g, q⟩ := h
    have hr4 : Room 4 _ := hr.mono (by decide)
    have hls := g.gl.2.2.2.2
    have n9 := g.gl.2.2.2.1
    have n2 := g.gl.2.2.1
    have l4 := g.gl.2.1
    refine ⟨_, pss_cons (ps_set (i := 1) sc_lower.nd rfl (Or.inl rfl) (pe_lst (pa_cons (pe_hasL hA hr (by rfl) (pa_cons (pv 0) pa_nil)) pa_nil)))
      (pss_one (ps_while PassesOwn.never (pt_val pe_bl)
        (pss_cons (ps_asg (pe_has hM hr4 (by rfl) (pa_cons (pe_ix ix_list (pv 1) (pe_un un_neg pe_int) (fun _ _ => rfl)) (pa_cons (pv 0) pa_nil))) (pg_tup (by rfl) (pgs_cons (pg_name (i := 2) sc_lower.nd rfl (Or.inl rfl)) (pgs_cons (pg_name (i := 3) sc_lower.nd rfl (Or.inl rfl)) pgs_nil))))
        (pss_cons (ps_if (pt_cmpR op_eq (pe_callB call_len_seq (by rfl) B.len PySem.boot_len (pa_cons (pv 3) pa_nil)) (pe_callB call_len_seq (by rfl) B.len PySem.boot_len (pa_cons (pe_ix ix_list (pv 1) (pe_un un_neg pe_int) (fun _ _ => rfl)) pa_nil)) (nomark _))
          (pss_one (ps_ret (pe_tupleOf (by rfl) B.tuple (pv 1)))) pss_nil)
        (pss_one (ps_expr (pe_bm PySem.F.plainAttrs_list PySem.F.slot_list_append PySem.F.type_list_append mt_append (pv 1) (pa_cons (pv 3) pa_nil)))))))), ?_⟩
    refine ⟨_, rfl, v, rfl, lockIn_good g.tt g.gl g.few (by omega) fun L hL h240 => ⟨?_, fun r0 H1 T0 s1 htt hperm hasc => ?_⟩⟩
    · obtain ⟨_, _, _, z⟩ := g.few.wd (by omega) hL
      omega
    have eL := g.wd hL
    subst eL
    have hnd : T0.Nodup := (List.Perm.nodup_iff hperm).mpr (by rw [LL_eq]; exact qq_nd ls n 300)
    have hmem : ∀ t, t ∈ T0 ↔ Mk ls n t := fun t => (hperm.mem_iff).trans (g.mem t)
    have w0 := Tm1.whole hls g.few hmem
    refine ⟨Nat.le_of_ble_eq_true rfl, fun tl htl => ?_⟩
    have s2 := same_new (o := .lst [r0]) htl
    have tl0 : H tl = none := s1.free htl
    refine ⟨fun m σ H' => ∃ x2 x3 pre A, σ = [some v, some (.ref tl), x2, x3] ∧ Same H H' ∧ (∃ xs a, H' tl = some (.lst (xs ++ [a])) ∧ Paired (TT H') xs pre ∧ TT H' a A) ∧ m = A.length ∧ A.Nodup ∧ Tm1 ls ls n A ∧ (pre ++ [A])[0]? = some T0 ∧ pre.length + A.length ≤ 64 ∧
      (∀ i X Y, (pre ++ [A])[i]? = some X → (pre ++ [A])[i + 1]? = some Y → Nx ls n X Y ∧ Y.length ≠ X.length),
      ⟨T0.length, none, none, [], T0, rfl, s1.trans s2, ⟨[], r0, upd_same, .nil, htt.tm (.of s2)⟩, rfl, hnd, w0, rfl, ?_, fun i X Y h1 h2 => ?_⟩, ?_⟩
    · have := g.few.le hnd fun t h => (hmem t).mp h
      show 0 + T0.length ≤ 64
      omega
    · have := (List.getElem?_eq_some_iff.mp h2).1
      simp at this
    rintro m σ H' ⟨x2, x3, pre, A, rfl, st, ⟨xs, a, htl', pxs, ha⟩, rfl, And, At, hd, hsz, hst⟩
    have hAl : 1 ≤ A.length := List.length_pos_of_mem At.still
    have hA63 : A.length ≤ 63 := g.few.le And At.sub
    have hAP : ∀ t ∈ A, IsP n t := fun t ht => (At.sub t ht).isP hls
    have hbk : ∀ t, Mk (brk A ls) n t → Mk ls n t := fun t ht => ht.mono hls fun b hb => by
      obtain ⟨x, h1, y, h2, rfl⟩ := brk_mem.mp hb
      exact At.sub _ (At.cm x h1 y h2)
    refine ⟨true, rfl, iteT ⟨fun σ2 H2 => ∃ x2 x3 B b, σ2 = [some v, some (.ref tl), x2, x3] ∧ Same H H2 ∧ H2 tl = some (.lst ((xs ++ [a]) ++ [b])) ∧ Paired (TT H2) (xs ++ [a]) (pre ++ [A]) ∧ TT H2 b B ∧ Nx ls n A B ∧ B.length ≠ A.length, fun σ2 H2 ⟨x2, x3, B, b, e1, e2, e3, e4, e5, e6, e7⟩ => ?_, ?_⟩⟩
    · obtain ⟨Bt, Bs⟩ := At.next hls hls e6
      have hBl : B.length ≤ A.length := nodup_len B A e6.nd Bs
      refine ⟨B.length, by omega, x2, x3, pre ++ [A], B, e1, e2, ⟨xs ++ [a], b, e3, e4, e5⟩, rfl, e6.nd, Bt, ?_, by rw [List.length_append]; show pre.length + 1 + B.length ≤ 64; omega, fun i X Y h1 h2 => ?_⟩
      · rw [List.getElem?_append_left (by rw [List.length_append]; show 0 < pre.length + 1; omega)]
        exact hd
      · by_cases hi : i + 1 < (pre ++ [A]).length
        · rw [List.getElem?_append_left hi] at h2
          rw [List.getElem?_append_left (by omega)] at h1
          exact hst i X Y h1 h2
        · have l2 := (List.getElem?_eq_some_iff.mp h2).1
          rw [List.length_append] at l2
          have ei : i + 1 = (pre ++ [A]).length := by
            have : ([B] : List (List (List Nat))).length = 1 := rfl
            omega
          have ei2 : i = pre.length := by
            rw [List.length_append] at ei
            have : ([A] : List (List (List Nat))).length = 1 := rfl
            omega
          rw [ei, List.getElem?_concat_length] at h2
          rw [List.getElem?_append_left (by omega), ei2, List.getElem?_concat_length] at h1
          rw [← Option.some.inj h1, ← Option.some.inj h2]
          exact ⟨e6, e7⟩
    · refine ⟨_, rfl, 1, rfl, tl, xs ++ [a], -1, a, rfl, rfl, SqL.of htl', atI_last xs a, _, rfl, a, v, A, ls, n, rfl, ha, g.tt.tm (.of st), hAP, hls, hAl, hA63, by omega, by omega, n9, g.few.sub hbk, fun p fl tv few us H2 s5 hp _ _ httv _ _ _ und umem uasc => ?_⟩
      refine ⟨p, _, rfl, SqT.of hp, rfl, .ref fl, _, rfl, tv, _, rfl, rfl, ?_⟩
      obtain ⟨ua, ux, rfl, hua, pu⟩ := httv
      obtain ⟨aa, ax, rfl, haa, pax⟩ := ha
      have htl2 := s5 _ _ htl'
      have nxu : Nx ls n A us := ⟨und, uasc, umem⟩
      have ltT : Paired (TT H2) xs pre := TTs.tm (.of s5) pxs
      have aT : TT H2 (.ref aa) A := ⟨aa, ax, rfl, s5 _ _ haa, TNs.tm (.of s5) pax⟩
      refine ⟨_, rfl, ua, ux, rfl, .inr (SqT.of hua), _, rfl, 1, rfl, tl, xs ++ [.ref aa], -1, .ref aa, rfl, rfl, SqL.of htl2, atI_last xs (.ref aa), aa, ax, rfl, .inr (SqT.of (s5 _ _ haa)), rfl, _, rfl, ite2 (fun hq => ?_) (fun hq => ?_)⟩
      · have hq : V.int (ux.length : Int) = V.int (ax.length : Int) := of_decide_eq_true hq
        injection hq with hq
        have hl : us.length = A.length := by rw [← Paired.length pu, ← Paired.length pax]; omega
        refine ⟨_, rfl, .inl ⟨tl, xs ++ [.ref aa], rfl, SqL.of htl2, fun r hr' => ?_⟩⟩
        have s6 := same_new (o := .tup (xs ++ [V.ref aa])) hr'
        refine q (.ref r) _ T0 (pre ++ [A]) ((st.trans s5).trans s6) ⟨r, _, rfl, upd_same, TTs.tm (.of s6) (Paired.app ltT (Paired.one aT))⟩ hnd hasc hmem ⟨hd, hst, fun i X h1 h2 => ?_⟩
        have l1 := (List.getElem?_eq_some_iff.mp h1).1
        have l2 := List.getElem?_eq_none_iff.mp h2
        have e0 : ([A] : List (List (List Nat))).length = 1 := rfl
        rw [List.length_append] at l1 l2
        have ei : i = pre.length := by omega
        rw [ei, List.getElem?_concat_length] at h1
        rw [← Option.some.inj h1]
        exact ⟨us, nxu, hl⟩
      · have hne : us.length ≠ A.length := fun z => hq (decide_eq_true (by rw [Paired.length pu, Paired.length pax, z]))
        refine ⟨_, rfl, .inl ⟨rfl, _, SqL.of htl2⟩, _, rfl, tl, _, .ref ua, rfl, rfl, htl2, ?_, ?_⟩
        · rw [sizeLine_eq, List.length_append, Paired.length pxs]
          show pre.length + 1 < 16777216
          omega
        have t7 := Tm.lst (o := .lst ((xs ++ [V.ref aa]) ++ [V.ref ua])) htl2
        exact ⟨_, _, us, .ref ua, rfl, same_mut (st.trans s5) tl0, upd_same, TTs.tm t7 (Paired.app ltT (Paired.one aT)), TT.tm t7 ⟨ua, ux, rfl, hua, pu⟩, nxu, hne⟩
end
end Lt

set_option Elab.async false
set_option linter.all false
set_option maxRecDepth 100000
set_option maxHeartbeats 2000000
namespace Lt
open PySem PySem.Spec PyProof.Rows L2
structure SerD (n : Nat) (T0 : List (List Nat)) (Ts : List (List (List Nat))) : Prop where
  head : Ts[0]? = some T0
  step : ∀ i A B, Ts[i]? = some A → Ts[i + 1]? = some B → Nx A n A B ∧ B.length ≠ A.length
  stop : ∀ i A, Ts[i]? = some A → Ts[i + 1]? = none → ∃ B, Nx A n A B ∧ B.length = A.length
theorem Tm1.self {ls : List (List Nat)} {n m : Nat} {T0 : List (List Nat)} (h : Tm1 ls ls n T0) (hls : ∀ g ∈ ls, IsP n g) (hf : Few ls n m) (hT : ∀ t, t ∈ T0 ↔ Mk ls n t) : Tm1 ls T0 n T0 :=
  ⟨h.sub, h.still, h.pr, fun t ht g hg => (hT _).mpr ((((hT t).mp ht).prod hls ((hT g).mp hg)).prod hls ((((hT g).mp hg).prod hls ((hT t).mp ht)).inv hls hf))⟩
end Lt

set_option Elab.async false
set_option linter.all false
set_option maxHeartbeats 1000000
namespace Lt
/-- there is one next term -/
theorem Nx.one {ms A B C : List (List Nat)} {n : Nat} (hn : n ≤ 9) (hP : ∀ b ∈ brk A ms, IsP n b) (h1 : Nx ms n A B) (h2 : Nx ms n A C) : B = C :=
  asc_one hn (fun t ht => ((h1.mem t).mp ht).isP hP) ((List.perm_ext_iff_of_nodup h1.nd h2.nd).mpr fun t => (h1.mem t).trans (h2.mem t).symm) h1.asc h2.asc
/-- the given turns or all turns: the same next term -/
theorem brk_whole {ls A T0 : List (List Nat)} {n m : Nat} (hls : ∀ g ∈ ls, IsP n g) (hf : Few ls n m) (hT : ∀ t, t ∈ T0 ↔ Mk ls n t) (At : Tm1 ls ls n A) (t : List Nat) : Mk (brk A ls) n t ↔ Mk (brk A T0) n t := by
  have hA : ∀ t ∈ A, IsP n t := fun t ht => (At.sub t ht).isP hls
  have hT0 : ∀ t ∈ T0, IsP n t := fun t ht => ((hT t).mp ht).isP hls
  have b1 : ∀ b ∈ brk A ls, IsP n b := fun b hb => by
    obtain ⟨x, h1, y, h2, rfl⟩ := brk_mem.mp hb
    exact (hA x h1).cm (hls y h2)
  have b2 : ∀ b ∈ brk A T0, IsP n b := fun b hb => by
    obtain ⟨x, h1, y, h2, rfl⟩ := brk_mem.mp hb
    exact (hA x h1).cm (hT0 y h2)
  have hfb : Few (brk A ls) n m := hf.sub fun t ht => ht.mono hls fun b hb => by
    obtain ⟨x, h1, y, h2, rfl⟩ := brk_mem.mp hb
    exact At.sub _ (At.cm x h1 y h2)
  refine ⟨fun h => h.mono b2 fun b hb => ?_, fun h => h.mono b1 fun b hb => ?_⟩
  · obtain ⟨x, h1, y, h2, rfl⟩ := brk_mem.mp hb
    exact .one b2 (brk_mem.mpr ⟨x, h1, y, (hT y).mpr (.one hls h2), rfl⟩)
  · obtain ⟨x, h1, y, h2, rfl⟩ := brk_mem.mp hb
    exact cm_all (N := fun t => t ∈ A) (gs := ls) (fun t ht => hA t ht) hls b1 hfb (fun t g ht hg => At.cm t ht g hg) (fun t g ht hg => brk_mem.mpr ⟨t, ht, g, hg, rfl⟩) ((hT y).mp h2) x h1
theorem Nx.whole {ls A B T0 : List (List Nat)} {n m : Nat} (hls : ∀ g ∈ ls, IsP n g) (hf : Few ls n m) (hT : ∀ t, t ∈ T0 ↔ Mk ls n t) (At : Tm1 ls ls n A) : Nx ls n A B ↔ Nx T0 n A B :=
  ⟨fun h => ⟨h.nd, h.asc, fun t => (h.mem t).trans (brk_whole hls hf hT At t)⟩, fun h => ⟨h.nd, h.asc, fun t => (h.mem t).trans (brk_whole hls hf hT At t).symm⟩⟩
/-- a next term that is less is at most half -/
theorem Nx.half {ls ms A B : List (List Nat)} {n m : Nat} (hls : ∀ g ∈ ls, IsP n g) (hms : ∀ g ∈ ms, IsP n g) (hf : Few ls n m) (At : Tm1 ls ms n A) (h : Nx ms n A B) (hne : B.length ≠ A.length) (hA : A.Nodup) : 2 * B.length ≤ A.length := by
  obtain ⟨Bt, Bs⟩ := At.next hls hms h
  have hAP : ∀ t ∈ A, IsP n t := fun t ht => (At.sub t ht).isP hls
  have bP : ∀ b ∈ brk A ms, IsP n b := fun b hb => by
    obtain ⟨x, h1, y, h2, rfl⟩ := brk_mem.mp hb
    exact (hAP x h1).cm (hms y h2)
  have hfb : Few (brk A ms) n m := hf.sub fun t ht => Bt.sub t ((h.mem t).mpr ht)
  obtain ⟨t, ht, hn⟩ : ∃ t ∈ A, t ∉ B := Classical.byContradiction fun z => by
    have l1 := nodup_len A B hA fun t ht => Classical.byContradiction fun y => z ⟨t, ht, y⟩
    have l2 := nodup_len B A h.nd Bs
    omega
  exact Lt.half hAP h.nd Bs At.pr (fun a ha b hb => (h.mem _).mpr ((((h.mem a).mp ha).inv bP hfb).prod bP ((h.mem b).mp hb))) ht hn
end Lt

set_option Elab.async false
set_option linter.all false
set_option maxRecDepth 100000
set_option maxHeartbeats 2000000
namespace Lt
open PySem PySem.Spec PyProof.Rows L2
theorem ttt_last {H : Hp} {v : V} {Ts : List (List (List Nat))} {T0 : List (List Nat)} (h : TTT H v Ts) (h0 : Ts[0]? = some T0) : ∃ a xs z A, v = .ref a ∧ H a = some (.tup (xs ++ [z])) ∧ Ts.getLast? = some A ∧ TT H z A := by
  obtain ⟨a, xs, rfl, ha, p⟩ := h
  have hne : xs ≠ [] := fun e => by
    subst e
    cases p
    cases h0
  obtain ⟨ys, z, rfl⟩ : ∃ ys z, xs = ys ++ [z] := ⟨xs.dropLast, xs.getLast hne, (List.dropLast_concat_getLast hne).symm⟩
  obtain ⟨A, hA, hz⟩ := Paired.getL p (i := ys.length) (x := z) List.getElem?_concat_length
  refine ⟨a, ys, z, A, rfl, ha, ?_, hz⟩
  have l := Paired.length p
  rw [List.length_append] at l
  have e1 : ([z] : List V).length = 1 := rfl
  rw [List.getLast?_eq_getElem?, show Ts.length - 1 = ys.length by omega]
  exact hA
section
variable {P : Program} {w : World} {K : PySem.W.Frag} {mg : Str → Option Value} {base : Heap}
def spDying : Sp := fun vs H Q _ => ∃ (v : V) (ls : List (List Nat)) (n : Nat), vs = [v] ∧ Good H v ls n ∧ ∀ H' T0 Ts A, Same H H' → T0.Nodup → Asc T0 → (∀ t, t ∈ T0 ↔ Mk ls n t) → Ser ls n T0 Ts → Ts.getLast? = some A → Q (.bl (decide (A.length = 1))) H'
theorem dec_len (k : Nat) : decide (V.int (k : Int) = V.int 1) = decide (k = 1) := decide_eq_decide.mpr ⟨fun h => by injection h with h; omega, fun h => by rw [h]; rfl⟩
theorem sc_is_dying : FnScope ["lock"] ["lock"] (defScope s_is_dying) := ⟨rfl, rfl, rfl, by decide +kernel, rfl, by decide +kernel, by decide +kernel⟩
theorem has_is_dying (T : Top K mg "is_dying" s_is_dying ["lock"]) (B : Bi mg) (hL : Has P w K mg base CX0 7 "lower" ["lock"] spLower) : Has P w K mg base CX0 8 "is_dying" ["lock"] spDying := by
  refine T.ok sc_is_dying (fun vs H Q E h => ?_) (fun f cdv A outer s H vs Q E hr h => ?_)
  · obtain ⟨v, ls, n, rfl, _⟩ := h
    rfl
  · obtain ⟨v, ls, n, rfl, g, q⟩ := h
    refine ⟨_, pss_one (ps_ret (pe_cmpR op_eq (pe_callB call_len_seq (by rfl) B.len PySem.boot_len (pa_cons (pe_ix ix_tup (pe_has hL hr (by rfl) (pa_cons (pv 0) pa_nil)) (pe_un un_neg pe_int) (fun _ _ => rfl)) pa_nil)) pe_int (nomark _))), ?_⟩
    refine ⟨_, rfl, v, ls, n, rfl, g, fun r H1 T0 Ts s1 hr1 hnd hasc hmem hs => ?_⟩
    obtain ⟨a, xs, z, A, rfl, ha, hl, hz⟩ := ttt_last hr1 hs.head
    obtain ⟨za, zx, rfl, hza, pz⟩ := hz
    refine ⟨1, rfl, a, xs ++ [.ref za], -1, .ref za, rfl, rfl, SqT.of ha, atI_last xs (.ref za), za, zx, rfl, .inr (SqT.of hza), rfl, ?_⟩
    rw [dec_len, Paired.length pz]
    exact q H1 T0 Ts A s1 hnd hasc hmem hs hl
end
end Lt

set_option Elab.async false
set_option linter.all false
set_option maxRecDepth 100000
set_option maxHeartbeats 2000000
namespace Lt
open PySem PySem.Spec PyProof.Rows L2
section
variable {P : Program} {w : World} {K : PySem.W.Frag} {mg : Str → Option Value} {base : Heap} {CL CM : Addr}
theorem sc_led_into : FnScope ["lock", "turns", "aims", "turn", "given"] ["lock", "turns", "aims"] (defScope s_led_into) := ⟨rfl, rfl, rfl, by decide +kernel, rfl, by decide +kernel, by decide +kernel⟩
def retE : Stmt → Expr
  | .Return (some e) _ => e
  | _ => .Constant .none 0 ⟨0, 0, 0, 0⟩
def lcS : Expr → Scope
  | .ListComp _ _ s _ => s
  | _ => { kind := .function, names := [], isGenerator := false, isCoroutine := false, more := [] }
def relS (sc outer : Scope) : Scope := { sc with names := sc.names.map fun (n, k) => if (k == NameKind.free && outer.kind == .function && outer.names.lookup n == some .cell) then (n, NameKind.cell) else (n, k) }
/-- the turns whose commutators with the lock's given ones are all among ks -/
def ledTo (ls ks : List (List Nat)) (ts : List (List Nat)) : List (List Nat) := ts.filter fun t => ls.all fun g => decide (cm t g ∈ ks)
def spLed : Sp := fun vs H Q _ => ∃ (v tv : V) (d : Addr) (ls ts ks : List (List Nat)) (n : Nat), vs = [v, tv, .ref d] ∧ TT H v ls ∧ TT H tv ts ∧ DKs H d ks ∧ (∀ g ∈ ls, IsP n g) ∧ (∀ t ∈ ts, IsP n t) ∧ n ≤ 9 ∧ ls.length ≤ 63 ∧ ts.length ≤ 63 ∧
  ∀ r H', Same H H' → H r = none → LT H' r (ledTo ls ks ts) → Q (.ref r) H'
def spLedR (R : Hp → V → List Nat → Prop) : Sp := fun vs H Q _ => ∃ (v : V) (ta : Addr) (tx : List V) (d : Addr) (ls ts ks : List (List Nat)) (n : Nat), vs = [v, .ref ta, .ref d] ∧ TT H v ls ∧ H ta = some (.tup tx) ∧ Paired (R H) tx ts ∧ DKs H d ks ∧ (∀ g ∈ ls, IsP n g) ∧ (∀ t ∈ ts, IsP n t) ∧ n ≤ 9 ∧ ls.length ≤ 63 ∧ ts.length ≤ 63 ∧
  ∀ r H' rx, Same H H' → H r = none → H' r = some (.lst rx) → Paired (R H') rx (ledTo ls ks ts) → Q (.ref r) H'
theorem has_led_intoR {R : Hp → V → List Nat → Prop} (Rn : ∀ {H v t}, R H v t → TN H v t) (Rm : ∀ {H H' v t}, Tm H H' → R H v t → R H' v t) (T : Top K mg "led_into" s_led_into ["lock", "turns", "aims"]) (B : Bi mg) (hB : Has P w K mg base CX0 2 "bracket_of" ["one", "other"] spBracket) : Has P w K mg base CX0 3 "led_into" ["lock", "turns", "aims"] (spLedR R) := by
  refine T.ok sc_led_into (fun vs H Q E h => ?_) (fun f cdv A outer s H vs Q E hr h => ?_)
  · obtain ⟨v, ta, tx, d, ls, ts, ks, n, rfl, _⟩ := h
    rfl
  · obtain ⟨v, ta, tx, d, ls, ts, ks, n, rfl, hv, hta, pt, hd, hls, hts, hn, hl1, hl2, q⟩ := h
    have hu := hu_of hr
    refine ⟨_, pss_one (ps_ret (pe_lc (own := [("turn", 3)]) (g := gName 3) (te := tVar 3) (tt := tB (tCB (rAll K) (tCons (tLc (iTup K (tVar 0)) (gName 4) tYes (tDIn (tCall spBracket [] E0 (tCons (tVar 3) (tCons (tVar 4) tNil))) (tVar 2)) [4]) tNil))) (by rfl) sc_led_into.nd (pi_tup (pv 1))
      (blkOk_by (own := [("turn", 3)]) (N := ["lock", "turns", "aims", "turn", "given"]) (sc := defScope s_led_into) (by decide +kernel))
      (fun _ _ _ _ _ => pg_name (i := 3) sc_led_into.nd rfl (Or.inr rfl))
      (fun _ _ _ _ _ => pts_one (pt_val (by exact (pe_callB (cr_all (by rfl)) (by rfl) B.all PyProof.Rows.boot_all (pa_cons (by exact (pe_lc (own := [("given", 4)]) (g := gName 4) (te := tDIn (tCall spBracket [] E0 (tCons (tVar 3) (tCons (tVar 4) tNil))) (tVar 2)) (by rfl) sc_led_into.nd (pi_tup (pv 0))
        (blkOk_by (own := [("given", 4)]) (N := ["lock", "turns", "aims", "turn", "given"]) (sc := relS (lcS (retE ((defBody s_led_into).getD 0 (.Pass ⟨0, 0, 0, 0⟩)))) (defScope s_led_into)) (by decide +kernel)) (fun _ _ _ _ _ => pg_name (i := 4) sc_led_into.nd rfl (Or.inl rfl)) (fun _ _ _ _ _ => pts_nil)
        (fun _ _ _ _ _ => pe_cmp (by exact (pc_din hu (pe_has hB hr (by rfl) (pa_cons (pv 3) (pa_cons (pv 4) pa_nil))) (pv 2))) (by rfl)))) pa_nil)))))
      (fun _ _ _ _ _ => pv 3))), ?_⟩
    obtain ⟨va, vx, rfl, hva, pv'⟩ := hv
    obtain ⟨kvs, hk, ek⟩ := hd
    have hvl := Paired.length pv'
    have htl := Paired.length pt
    refine ⟨_, rfl, ta, rfl, ⟨_, SqT.of hta⟩, fun D hD => ?_⟩
    refine lc_tup (K := K) (a := ta) (g := gName 3) (xs := tx) (fun i H' => Same H H' ∧ ∃ zs, H' D = some (.lst zs) ∧ Paired (R H') zs (ledTo ls ks (ts.take i)) ∧ zs.length ≤ i) ⟨same_new hD, [], upd_same, .nil, Nat.le_refl _⟩ (fun i H' _ ⟨st, _⟩ => SqT.of (st _ _ hta)) ?_ ?_
    · rintro i x H' hi ⟨st, zs, hz, pz, lz⟩
      obtain ⟨t, ht, htr⟩ := Paired.getL pt hi
      have htn := Rn htr
      have tP := hts t (List.mem_of_getElem? ht)
      have hil : i < 63 := by
        have := (List.getElem?_eq_some_iff.mp hi).1
        omega
      refine ⟨rfl, ?_⟩
      refine ⟨_, rfl, va, rfl, ⟨_, SqT.of (st _ _ hva)⟩, fun D2 hD2 => lc_tupM (fun _ v b => v = V.bl b) (ls.map fun g => decide (cm t g ∈ ks)) (fun _ _ _ _ _ r => r) (SqT.of (st _ _ hva)) (fun H2 sm => SqT.of (sm _ _ (st _ _ hva))) (by omega) (by rw [List.length_map, hvl]) hD2 (fun x => rfl) (fun j y b hj hb H2 sm Q2 q2 => ?_) (fun H2 zs2 sm hz2 pr => ?_)⟩
      · obtain ⟨g, hg, hgn⟩ := Paired.getL pv' hj
        rw [List.getElem?_map, hg] at hb
        have hb : decide (cm t g ∈ ks) = b := Option.some.inj hb
        have s2 := st.trans sm
        refine ⟨_, rfl, _, rfl, x, y, t, g, n, rfl, htn.tm (.of s2), hgn.tm (.of s2), tP, hls g (List.mem_of_getElem? hg), by omega, fun w2 H3 s3 hw => ?_⟩
        obtain ⟨wb, rfl, hwb⟩ := TK.key hw
        refine ⟨_, rfl, d, _, rfl, DGet.t (s3 _ _ (s2 _ _ hk)) hwb, ?_⟩
        refine q2 _ _ s3 ?_
        rw [← hb]
        exact congrArg V.bl (dks_isSome ek _)
      · refine ⟨D2, ls.map (fun g => decide (cm t g ∈ ks)), rfl, SqL.of (by rw [hz2, bls_of pr]), _, rfl, ?_⟩
        have s2 := st.trans sm
        have hz3 := sm _ _ hz
        have pz3 := paired_mono (fun _ _ r => Rm (.of sm) r) pz
        have en : ledTo ls ks (ts.take (i + 1)) = ledTo ls ks (ts.take i) ++ (if ((ls.map fun g => decide (cm t g ∈ ks)).all id) = true then [t] else []) := by
          unfold ledTo
          rw [List.take_add_one, ht, List.filter_append, List.all_map]
          congr 1
          show List.filter (fun t => ls.all fun g => decide (cm t g ∈ ks)) [t] = if (ls.all fun g => decide (cm t g ∈ ks)) = true then [t] else []
          rw [List.filter_cons]
          rfl
        refine ite2 (fun h => ?_) (fun h => ?_)
        · rw [if_pos h] at en
          have t8 := Tm.lst (o := .lst (zs ++ [x])) hz3
          refine ⟨_, rfl, zs, hz3, by rw [sizeLine_eq]; omega, same_mut s2 hD, zs ++ [x], upd_same, ?_, by rw [List.length_append]; show zs.length + 1 ≤ i + 1; omega⟩
          rw [en]
          exact Paired.app (paired_mono (fun _ _ r => Rm t8 r) pz3) (Paired.one (Rm t8 (Rm (.of s2) htr)))
        · rw [if_neg h, List.append_nil] at en
          exact ⟨s2, zs, hz3, by rw [en]; exact pz3, by omega⟩
    · rintro H' ⟨st, zs, hz, pz, lz⟩
      rw [htl, List.take_length] at pz
      exact q D H' zs st hD hz pz
theorem has_led_into (T : Top K mg "led_into" s_led_into ["lock", "turns", "aims"]) (B : Bi mg) (hB : Has P w K mg base CX0 2 "bracket_of" ["one", "other"] spBracket) : Has P w K mg base CX0 3 "led_into" ["lock", "turns", "aims"] spLed :=
  (has_led_intoR (R := TN) (fun h => h) (fun e h => h.tm e) T B hB).imp fun vs H Q E h => by
    obtain ⟨v, tv, d, ls, ts, ks, n, e, hv, ⟨ta, tx, e2, hta, pt⟩, hd, h1, h2, h3, h4, h5, q⟩ := h
    subst e2
    exact ⟨v, ta, tx, d, ls, ts, ks, n, e, hv, hta, pt, hd, h1, h2, h3, h4, h5, fun r H' rx s hr hx px => q r H' s hr ⟨rx, hx, px⟩⟩
end
end Lt

set_option Elab.async false
set_option linter.all false
set_option maxRecDepth 100000
set_option maxHeartbeats 1000000
namespace Lt
open PySem PySem.Spec PyProof.Rows L2
theorem Paired.perm {α β : Type} {R : α → β → Prop} {ys xs : List α} (p : ys.Perm xs) : ∀ {ts : List β}, Paired R xs ts → ∃ us, Paired R ys us ∧ us.Perm ts := by
  induction p with
  | nil => intro ts h; cases h; exact ⟨[], .nil, List.Perm.refl _⟩
  | cons x _ ih =>
    intro ts h
    cases h with
    | cons r t =>
      obtain ⟨us, h1, h2⟩ := ih t
      exact ⟨_ :: us, .cons r h1, h2.cons _⟩
  | swap x y l =>
    intro ts h
    cases h with
    | cons r t =>
      cases t with
      | cons r2 t => exact ⟨_, .cons r2 (.cons r t), List.Perm.swap _ _ _⟩
  | trans _ _ ih1 ih2 =>
    intro ts h
    obtain ⟨us, h1, h2⟩ := ih2 h
    obtain ⟨ws, h3, h4⟩ := ih1 h1
    exact ⟨ws, h3, h4.trans h2⟩
theorem Paired.pairwise {α β : Type} {R : α → β → Prop} {S : α → α → Prop} {S' : β → β → Prop} (h : ∀ x y s t, R x s → R y t → S x y → S' s t) : ∀ {xs : List α} {ts : List β}, Paired R xs ts → xs.Pairwise S → ts.Pairwise S'
  | _, _, .nil, _ => .nil
  | _, _, .cons r t, .cons a b => .cons (fun s hs => by
      obtain ⟨i, hi, e⟩ := List.getElem_of_mem hs
      obtain ⟨x, hx, rx⟩ := Paired.getR t (show _[i]? = some s by rw [List.getElem?_eq_getElem hi, e])
      exact h _ _ _ _ r rx (a x (List.mem_of_getElem? hx))) (Paired.pairwise h t b)
theorem Paired.memL {α β : Type} {R : α → β → Prop} {xs : List α} {ts : List β} (p : Paired R xs ts) {x : α} (h : x ∈ xs) : ∃ t ∈ ts, R x t := by
  obtain ⟨i, hi, e⟩ := List.getElem_of_mem h
  obtain ⟨t, ht, r⟩ := Paired.getL p (show xs[i]? = some x by rw [List.getElem?_eq_getElem hi, e])
  exact ⟨t, List.mem_of_getElem? ht, r⟩
theorem paired_imp {α β : Type} {R R' : α → β → Prop} (h : ∀ a b, R a b → R' a b) : ∀ {xs : List α} {ts : List β}, Paired R xs ts → Paired R' xs ts := paired_mono h
/-- a list of turns whose objects are known -/
def LF (H : Hp) (a : Addr) (ts : List (List Nat)) : Prop := ∃ xs, H a = some (.lst xs) ∧ Paired (TF H) xs ts
theorem TFs.tm {H H' : Hp} (e : Tm H H') {xs : List V} {ts : List (List Nat)} (p : Paired (TF H) xs ts) : Paired (TF H') xs ts := paired_mono (fun _ _ r => TF.tm e r) p
theorem LF.same {H H' : Hp} {a : Addr} {ts : List (List Nat)} (h : LF H a ts) (e : Same H H') : LF H' a ts := let ⟨xs, h1, h2⟩ := h; ⟨xs, e _ _ h1, TFs.tm (.of e) h2⟩
theorem LF.step {K : PySem.W.Frag} {r sc : Addr} {ns : List Int} {H H' : Hp} {a : Addr} {ts : List (List Nat)} (h : LF H a ts) (ra : RowAt K H r sc ns) (hr : a ≠ r) (e : StepR r H H') : LF H' a ts := let ⟨xs, h1, h2⟩ := h; ⟨xs, e _ _ hr h1, TFs.tm (e.tm ra) h2⟩
theorem LF.lt {H : Hp} {a : Addr} {ts : List (List Nat)} (h : LF H a ts) : LT H a ts := let ⟨xs, h1, h2⟩ := h; ⟨xs, h1, paired_mono (fun _ _ r => TF.tn r) h2⟩
/-- the addresses and numbers -/
theorem ks_of {H : Hp} : ∀ {xs : List V} {ts : List (List Nat)}, Paired (TF H) xs ts → ∃ ks : List (Addr × List Int), xs = ks.map (fun p => V.ref p.1) ∧ ks.map (·.2) = ts.map iN ∧ ∀ p ∈ ks, ∃ t ∈ ts, p.2 = iN t ∧ TF H (.ref p.1) t
  | _, _, .nil => ⟨[], rfl, rfl, fun p h => by cases h⟩
  | _, _, .cons (a := x) (b := t) r s => by
    obtain ⟨ks, h1, h2, h3⟩ := ks_of s
    obtain ⟨a, o, e, ho, hd⟩ := id r
    refine ⟨(a, iN t) :: ks, by rw [e, h1]; rfl, by rw [List.map_cons, h2]; rfl, fun p hp => ?_⟩
    rcases List.mem_cons.mp hp with z | hp
    · rw [z]
      exact ⟨t, List.mem_cons_self, rfl, a, o, rfl, ho, hd⟩
    · obtain ⟨t', ht, z⟩ := h3 p hp
      exact ⟨t', List.mem_cons_of_mem _ ht, z⟩
theorem cut_one (xs : List V) (j : Nat) : cutV xs (some (j : Int)) (some ((j : Int) + 1)) = (xs.drop j).take 1 := by
  unfold cutV
  have e : ((j : Int) + 1) = ((j + 1 : Nat) : Int) := by omega
  rw [e, HT.sIx_nat, HT.sIx_nat]
  by_cases h : j < xs.length
  · rw [Nat.min_eq_left (Nat.le_of_lt h), Nat.min_eq_left h]
    congr 1
    omega
  · rw [Nat.min_eq_right (by omega), Nat.min_eq_right (by omega), List.drop_of_length_le (Nat.le_refl _), List.drop_of_length_le (by omega), List.take_nil, List.take_nil]
/-! ### the mirror -/
structure SpI (gs : List (List Nat)) (n j : Nat) (F : List (List Nat)) : Prop where
  nd : F.Nodup
  made : ∀ t ∈ F, Mk gs n t
  st : List.range n ∈ F
  cl : ∀ (i : Nat) (t : List Nat), i < j → F[i]? = some t → ∀ g ∈ gs, prod t g ∈ F
theorem SpI.skip {gs : List (List Nat)} {n j : Nat} {F : List (List Nat)} (h : SpI gs n j F) (hj : F.length ≤ j) : SpI gs n (j + 1) F :=
  ⟨h.nd, h.made, h.st, fun i t hi e => by
    have := (List.getElem?_eq_some_iff.mp e).1
    exact h.cl i t (by omega) e⟩
theorem SpI.next {gs : List (List Nat)} {n j : Nat} {F M : List (List Nat)} {one : List Nat} (h : SpI gs n j F) (h1 : F[j]? = some one) (hM : M.Nodup) (hM1 : ∀ t ∈ M, ∃ g ∈ gs, t = prod one g) (hM2 : ∀ g ∈ gs, prod one g ∈ M) :
    SpI gs n (j + 1) (F ++ M.filter fun t => decide (t ∉ F)) := by
  have hjl := (List.getElem?_eq_some_iff.mp h1).1
  have hone := h.made one (List.mem_of_getElem? h1)
  refine ⟨List.nodup_append.mpr ⟨h.nd, hM.filter _, fun a ha b hb e => ?_⟩, fun t ht => ?_, List.mem_append.mpr (.inl h.st), fun i t hi e g hg => ?_⟩
  · subst e
    have := (List.mem_filter.mp hb).2
    exact (of_decide_eq_true this) ha
  · rcases List.mem_append.mp ht with z | z
    · exact h.made t z
    · obtain ⟨g, hg, e⟩ := hM1 t (List.mem_filter.mp z).1
      rw [e]
      exact .step hone hg
  · rw [List.getElem?_append_left (by omega)] at e
    by_cases hij : i < j
    · exact List.mem_append.mpr (.inl (h.cl i t hij e g hg))
    · have : i = j := by omega
      subst this
      rw [h1] at e
      have e := Option.some.inj e
      subst e
      by_cases hin : prod one g ∈ F
      · exact List.mem_append.mpr (.inl hin)
      · exact List.mem_append.mpr (.inr (List.mem_filter.mpr ⟨hM2 g hg, decide_eq_true hin⟩))
theorem SpI.all {gs : List (List Nat)} {n j : Nat} {F : List (List Nat)} (h : SpI gs n j F) (hj : F.length ≤ j) : ∀ t, t ∈ F ↔ Mk gs n t := fun t => by
  refine ⟨h.made t, fun m => ?_⟩
  induction m with
  | still => exact h.st
  | @step t g _ hg ih =>
    obtain ⟨i, hi, e⟩ := List.getElem_of_mem ih
    exact h.cl i t (by omega) (by rw [List.getElem?_eq_getElem hi, e]) g hg
/-! ### a tuple or a list of turns -/
def GS (H : Hp) (v : V) (ts : List (List Nat)) : Prop := TT H v ts ∨ ∃ a, v = .ref a ∧ LT H a ts
theorem GS.same {H H' : Hp} {v : V} {ts : List (List Nat)} (h : GS H v ts) (e : Same H H') : GS H' v ts := by
  rcases h with h | ⟨a, rfl, h⟩
  · exact .inl (h.tm (.of e))
  · exact .inr ⟨a, rfl, h.same e⟩
def iSq (K : PySem.W.Frag) (i : Nat) : TI := fun σ H R => iTup K (tVar i) σ H R ∨ iList K (tVar i) σ H R
theorem pi_sq {X : Cx} {tg : Expr} {l : Expr} {i : Nat} (h : PE X l (tVar i)) : PI X tg l (iSq X.K i) :=
  ⟨fun pins s σ H R I q => q.elim ((pi_tup h).run pins s σ H R I) ((pi_list h).run pins s σ H R I)⟩
theorem sq_lc {K : PySem.W.Frag} {te : TE} {vs : List Nat} {σ : L2.St} {H1 : Hp} {β : Type} {i j : Nat} {gv : V} {gs : List (List Nat)} {Q : VK} (R : Hp → V → β → Prop) (ys : List β) (mono : ∀ H H' v b, Tm H H' → R H v b → R H' v b) (hgs : GS H1 gv gs) (hσ : σ[i]? = some (some gv)) (hz : gs.length ≤ 100000) (hy : ys.length = gs.length)
    (hw : ∀ x, wipe ((wipe σ vs).set j (some x)) vs = wipe σ vs)
    (he : ∀ (k : Nat) (x : V) (b : β) (g : List Nat), gs[k]? = some g → ys[k]? = some b → TN H1 x g → ∀ H, Same H1 H → ∀ Q : VK, (∀ v H', Same H H' → R H' v b → Q v H') → te ((wipe σ vs).set j (some x)) H Q)
    (hd : ∀ D H zs, H1 D = none → Same H1 H → H D = some (.lst zs) → Paired (R H) zs ys → Q (.ref D) H) : tLc (iSq K i) (gName j) tYes te vs σ H1 Q := by
  rcases hgs with ⟨a, xs, rfl, ha, p⟩ | ⟨a, rfl, xs, ha, p⟩
  · refine .inl ⟨_, hσ, a, rfl, ⟨_, SqT.of ha⟩, fun D hD => lc_tupM R ys mono (SqT.of ha) (fun H s => SqT.of (s _ _ ha)) (by rw [Paired.length p]; exact hz) (by rw [Paired.length p]; exact hy) hD hw (fun k x b hx hb => ?_) (fun H zs => hd D H zs hD)⟩
    obtain ⟨g, hg, r⟩ := Paired.getL p hx
    exact he k x b g hg hb r
  · refine .inr ⟨_, hσ, a, rfl, ⟨_, SqL.of ha⟩, fun D hD => lc_listM R ys mono (fun H s => SqL.of (s _ _ ha)) (by rw [Paired.length p]; exact hz) (by rw [Paired.length p]; exact hy) hD hw (fun k x b hx hb => ?_) (fun H zs => hd D H zs hD)⟩
    obtain ⟨g, hg, r⟩ := Paired.getL p hx
    exact he k x b g hg hb r
section
variable {P : Program} {w : World} {K : PySem.W.Frag} {mg : Str → Option Value} {base : Heap}
def spSpan : Sp := fun vs H Q _ => ∃ (gv : V) (gs : List (List Nat)) (n : Nat), vs = [nI n, gv] ∧ GS H gv gs ∧ (∀ g ∈ gs, IsP n g) ∧ 1 ≤ n ∧ n ≤ 9 ∧ gs.length ≤ 60 ∧ Few gs n 63 ∧
  ∀ p H' ts, Same H H' → H p = none → LF H' p ts → ts.Nodup → (∀ t, t ∈ ts ↔ Mk gs n t) → Asc ts → Q (.ref p) H'
theorem sc_law_span : FnScope ["places", "given", "found", "turn", "one", "later", "other"] ["places", "given"] (defScope s_law_span) := ⟨rfl, rfl, rfl, by decide +kernel, rfl, by decide +kernel, by decide +kernel⟩
theorem has_law_span (T : Top K mg "_law_span" s_law_span ["places", "given"]) (B : Bi mg) (hP : Has P w K mg base CX0 1 "_law_behind" ["one", "other"] spProdF) : Has P w K mg base CX0 2 "_law_span" ["places", "given"] spSpan := by
  refine T.ok sc_law_span (fun vs H Q E h => ?_) (fun f cdv A outer s H vs Q E hr h => ?_)
  · obtain ⟨gv, gs, n, rfl, _⟩ := h
    rfl
  · obtain ⟨gv, gs, n, rfl, hgv, hg, hn1, hn9, hgl, hf, q⟩ := h
    have hu64 := hr.units
    have hu65 : A.units + 3 + 65 < cLine := by have := hr.un; show A.units + 3 + 65 < cLine; have e : (A.deeper (envOfC "_law_span" (defScope s_law_span) s.heap.objs.size f cdv)).units = A.units + 3 := rfl; omega
    refine ⟨_, pss_cons (ps_set (i := 2) sc_law_span.nd rfl (Or.inr rfl) (pe_lst (pa_cons (pe_tupRgF (by rfl) (by rfl) B.tuple (prg_1 (by rfl) B.range (pv 0))) pa_nil)))
      (pss_cons (ps_for PassesOwn.never rfl (pi_range1 (by rfl) B.range (pa_cons pe_int pa_nil)) (pg_name (i := 3) sc_law_span.nd rfl (Or.inl rfl))
        (pss_one (ps_for PassesOwn.never rfl (pi_list (pe_slice sl_list (pv 2) (po_some (pv 3)) (po_some (pe_op op_add (pv 3) pe_int)))) (pg_name (i := 4) sc_law_span.nd rfl (Or.inr rfl))
          (pss_cons (ps_setLc (i := 5) (own := [("other", 6)]) (g := gName 6) (te := tCall spProdF [] E0 (tCons (tVar 4) (tCons (tVar 6) tNil))) (by rfl) sc_law_span.nd rfl rfl (sw_true rfl rfl rfl (by decide +kernel)) (pi_sq (pv 1)) (blkOk_by (own := [("other", 6)]) (N := ["places", "given", "found", "turn", "one", "later", "other"]) (sc := defScope s_law_span) (by decide +kernel))
            (fun _ _ _ _ _ => pg_name (i := 6) sc_law_span.nd rfl (Or.inl rfl)) (fun _ _ _ _ _ => pts_nil) (fun _ _ _ _ _ => pe_has hP hr (by rfl) (pa_cons (pv 4) (pa_cons (pv 6) pa_nil))))
          (pss_one (ps_set (i := 2) sc_law_span.nd rfl (Or.inr rfl) (pe_op op_cat (pv 2) (pe_lc (own := [("other", 6)]) (g := gName 6) (tt := tTest (tOp (rNotInD K) (tVar 6) (tVar 2))) (te := tVar 6) (by rfl) sc_law_span.nd
            (pi_list (pe_callB (cr_sortedT (by rfl)) (by rfl) B.sorted PyProof.Rows.boot_sorted (pa_cons (pe_callTy (cr_setOfT (by rfl) hu64) (by rfl) B.set PyProof.Rows.boot_set (pa_cons (pv 5) pa_nil)) pa_nil)))
            (blkOk_by (own := [("other", 6)]) (N := ["places", "given", "found", "turn", "one", "later", "other"]) (sc := defScope s_law_span) (by decide +kernel))
            (fun _ _ _ _ _ => pg_name (i := 6) sc_law_span.nd rfl (Or.inl rfl)) (fun _ _ _ _ _ => pts_one (pt_cmpR (op_notInD hu65) (pv 6) (pv 2) (by rfl))) (fun _ _ _ _ _ => pv 6)))))))))
      (pss_one (ps_ret (pe_callB (cr_sortT (d := n) (B := 9) hn1) (by rfl) B.sorted PyProof.Rows.boot_sorted (pa_cons (pv 2) pa_nil))))), ?_⟩
    refine ⟨_, rfl, n, rfl, .of_le (by omega) (by omega) (by omega) (by omega), fun q0 o ho hq0 => ⟨by show 1 ≤ sizeLine; decide, fun fl hfl => ?_⟩⟩
    have s1 := same_new (o := .frz o (.tup (rgV 0 n))) hq0
    have s2 := s1.trans (same_new (o := .lst [.ref q0]) hfl)
    have hq0l : q0 ≠ fl := fun z => by rw [← z, upd_same] at hfl; cases hfl
    refine ⟨300, rfl, by decide, by decide, for_range (lo := 0) (n := 300) (fun j σ H' => ∃ fl F x3 x4 x5 x6, σ = [some (nI n), some gv, some (.ref fl), x3, x4, x5, x6] ∧ Same H H' ∧ LF H' fl F ∧ SpI gs n j F)
      ⟨fl, [List.range n], none, none, none, none, rfl, s2, ⟨[.ref q0], upd_same, .cons ⟨q0, o, rfl, by rw [upd_ne hq0l, upd_same, rgV_nat], ho⟩ .nil⟩, ⟨List.pairwise_singleton _ _, fun t ht => by rw [List.mem_singleton.mp ht]; exact .still, List.mem_singleton.mpr rfl, fun i t hi => absurd hi (Nat.not_lt_zero i)⟩⟩ ?_ ?_⟩
    · rintro j σ H' hj ⟨fl, F, x3, x4, x5, x6, rfl, sm, ⟨xs, hxs, hp⟩, sp⟩
      simp only [Int.zero_add]
      have hFl : F.length ≤ 63 := hf.le sp.nd sp.made
      have hxl : xs.length = F.length := Paired.length hp
      refine ⟨_, rfl, _, rfl, (j : Int), rfl, _, rfl, (j : Int), 1, rfl, rfl, (j : Int) + 1, rfl, fl, xs, rfl, SqL.of hxs, fun sl hsl => ?_⟩
      have ssl := same_new (o := .lst (cutV xs (some (j : Int)) (some ((j : Int) + 1)))) hsl
      refine ⟨sl, rfl, ⟨_, SqL.of upd_same⟩, for_list (K := K) (a := sl) (xs := cutV xs (some (j : Int)) (some ((j : Int) + 1)))
        (fun i σ H2 => ∃ fl' F' x4 x5 x6, σ = [some (nI n), some gv, some (.ref fl'), some (nI j), x4, x5, x6] ∧ Same H' H2 ∧ LF H2 fl' F' ∧ (i = 0 → F' = F) ∧ (1 ≤ i → SpI gs n (j + 1) F') ∧ H2 sl = some (.lst (cutV xs (some (j : Int)) (some ((j : Int) + 1)))))
        ⟨fl, F, x4, x5, x6, rfl, ssl, LF.same ⟨xs, hxs, hp⟩ ssl, fun _ => rfl, fun h => absurd h (by omega), upd_same⟩ (fun i σ H2 _ ⟨_, _, _, _, _, _, _, _, _, _, h⟩ => SqL.of h) ?_ ?_⟩
      · rintro i x σ H2 hi ⟨fl', F', x4, x5, x6, rfl, sm1, ⟨xs2, hxs2, hp2⟩, h0, _, hsl2⟩
        have sm2 := sm.trans sm1
        rw [cut_one] at hi
        have hi0 : i = 0 := by
          have := (List.getElem?_eq_some_iff.mp hi).1
          rw [List.length_take] at this
          omega
        subst hi0
        have eF := h0 rfl
        subst eF
        rw [List.getElem?_take_of_lt (by omega), List.getElem?_drop, Nat.add_zero] at hi
        obtain ⟨one, hone, htf0⟩ := Paired.getL hp hi
        have hi := hone
        have htf : TF H2 x one := htf0.tm (.of sm1)
        have honeP := (sp.made one (List.mem_of_getElem? hone)).isP hg
        -- later
        dsimp only [gName, tSeq, tAsg, List.set]
        refine sq_lc TF (gs.map (prod one)) (fun _ _ _ _ e r => TF.tm e r) (hgv.same sm2) (by rfl) (by omega) (by rw [List.length_map]) (by intro _; rfl) (fun k y b g hgk hb hyg H3 s3 Q' q' => ?_) (fun D H3 zs hD s3 hz pz => ?_)
        · rw [List.getElem?_map, hgk] at hb
          have hb := Option.some.inj hb
          subst hb
          have hgP := hg g (List.mem_of_getElem? hgk)
          exact ⟨_, rfl, _, rfl, x, y, one, g, rfl, htf.tn.tm (.of s3), hyg.tm (.of s3), fun i hi => by rw [hgP.len]; exact honeP.lt i hi, by rw [honeP.len]; omega, q'⟩
        · -- found = found + [..]
          obtain ⟨ks, ek1, ek2, ek3⟩ := ks_of pz
          have hksl : ks.length < 64 := by
            have e := congrArg List.length ek2
            rw [List.length_map, List.length_map, List.length_map] at e
            omega
          have hks : ∀ p ∈ ks, SqT K H3 p.1 (p.2.map V.int) := fun p hp => by
            obtain ⟨t, _, e, a, o, ea, hao, _⟩ := ek3 p hp
            cases ea
            rw [e, show (iN t).map V.int = nIs t from (nIs_int t).symm]
            exact RT.sq (.inr ⟨o, hao⟩)
          have hz' : H3 D = some (.lst (ks.map fun p => V.ref p.1)) := by rw [hz, ek1]
          refine ⟨_, rfl, _, rfl, D, ks, rfl, SqL.of hz', hks, hksl, fun aS L haS hL1 hL2 => ?_⟩
          have s4 := same_new (o := SetTO P w aS L) haS
          have hLP : ∀ p ∈ L, ∃ t ∈ gs.map (prod one), p.2 = iN t ∧ TF H3 (.ref p.1) t := fun p hp => ek3 p (hL1 p hp)
          have hmulP : ∀ t ∈ gs.map (prod one), IsP n t := fun t ht => by
            obtain ⟨g, hgm, e⟩ := List.mem_map.mp ht
            rw [← e]
            exact honeP.prod (hg g hgm)
          refine ⟨aS, L, n, 9, rfl, upd_same, fun p hp => ?_, hn1, fun p hp => ?_, fun L' sp' pm nd h64 pw hsp' => ?_⟩
          · rcases hks p (hL1 p hp) with (z | ⟨o, z⟩) | z
            · exact .inl (.inl (s4 _ _ z))
            · exact .inl (.inr ⟨o, s4 _ _ z⟩)
            · exact .inr z
          · obtain ⟨t, ht, e, _⟩ := hLP p hp
            rw [e]
            exact ⟨by rw [iN_len, (hmulP t ht).len], bd_iN (hmulP t ht) hn9⟩
          have s5 := same_new (o := .lst (L'.map fun q : Addr × List Int => V.ref q.1)) hsp'
          have s45 := s4.trans s5
          refine ⟨sp', rfl, ⟨_, SqL.of upd_same⟩, fun D2 hD2 => ?_⟩
          have hL' : ∀ q ∈ L', q.2 = iN (q.2.map Int.toNat) ∧ q.2.map Int.toNat ∈ gs.map (prod one) ∧ TF H3 (.ref q.1) (q.2.map Int.toNat) := fun q hq => by
            obtain ⟨t, ht, e, tf⟩ := hLP q (pm.mem_iff.mp hq)
            have et : q.2.map Int.toNat = t := by
              rw [e]
              show (t.map Int.ofNat).map Int.toNat = t
              rw [List.map_map]
              exact (List.map_congr_left (g := id) fun _ _ => rfl).trans (List.map_id t)
            rw [et]
            exact ⟨e, ht, tf⟩
          have hM : (L'.map fun q : Addr × List Int => q.2.map Int.toNat).Nodup := by
            have e : (L'.map fun q : Addr × List Int => q.2.map Int.toNat).map iN = L'.map (·.2) := by
              rw [List.map_map]
              exact List.map_congr_left fun q hq => (hL' q hq).1.symm
            rw [← e] at nd
            exact nodup_of_map nd
          have hM1 : ∀ t ∈ (L'.map fun q : Addr × List Int => q.2.map Int.toNat), ∃ g ∈ gs, t = prod one g := fun t ht => by
            obtain ⟨q, hq, e⟩ := List.mem_map.mp ht
            obtain ⟨g, hgm, e2⟩ := List.mem_map.mp (hL' q hq).2.1
            exact ⟨g, hgm, by rw [← e, ← e2]⟩
          have hM2 : ∀ g ∈ gs, prod one g ∈ (L'.map fun q : Addr × List Int => q.2.map Int.toNat) := fun g hgm => by
            have h1 : iN (prod one g) ∈ ks.map (·.2) := by
              rw [ek2]
              exact List.mem_map.mpr ⟨_, List.mem_map.mpr ⟨g, hgm, rfl⟩, rfl⟩
            obtain ⟨p, hp, e⟩ := List.mem_map.mp h1
            obtain ⟨q, hq, e2⟩ := List.mem_map.mp (hL2 p hp)
            have hq' := pm.mem_iff.mpr hq
            refine List.mem_map.mpr ⟨q, hq', iN_inj ?_⟩
            rw [← (hL' q hq').1]
            exact e2.trans e
          have hlfl : L'.length ≤ 64 := Nat.le_of_lt h64
          have sB := s3.trans s45
          have hp2B := TFs.tm (.of sB) hp2
          have hxs2B := sB _ _ hxs2
          refine lc_list (xs := L'.map fun q : Addr × List Int => V.ref q.1) (fun i H4 => Same (upd (upd H3 aS (SetTO P w aS L)) sp' (.lst (L'.map fun q : Addr × List Int => V.ref q.1))) H4 ∧ ∃ zs, H4 D2 = some (.lst zs) ∧ Paired (TF H4) zs (((L'.map fun q : Addr × List Int => q.2.map Int.toNat).take i).filter fun t => decide (t ∉ F')) ∧ zs.length ≤ i)
            ⟨same_new hD2, [], upd_same, .nil, Nat.le_refl 0⟩ (fun i H4 _ h => SqL.of (h.1 _ _ upd_same)) ?_ ?_
          · rintro i x' H4 hi' ⟨sD, zs, hz4, pz4, hzl⟩
            rw [List.getElem?_map] at hi'
            obtain ⟨qe, hqe, rfl⟩ := Option.map_eq_some_iff.mp hi'
            have hqm := List.mem_of_getElem? hqe
            obtain ⟨_, ht1, ht2⟩ := hL' qe hqm
            have hil : i < 64 := by have := (List.getElem?_eq_some_iff.mp hqe).1; omega
            have tf4 : TF H4 (.ref qe.1) (qe.2.map Int.toNat) := ht2.tm (.of (s45.trans sD))
            have etake : (L'.map fun q : Addr × List Int => q.2.map Int.toNat).take (i + 1) = (L'.map fun q : Addr × List Int => q.2.map Int.toNat).take i ++ [qe.2.map Int.toNat] := by
              rw [List.take_add_one, List.getElem?_map, hqe]
              rfl
            refine ⟨rfl, _, rfl, _, rfl, dT (qe.2.map Int.toNat), F'.map dT, tf4.tn.dp, .lst (SqL.of (sD _ _ hxs2B)) (TNs.dp (paired_mono (fun _ _ r => TF.tn r) (TFs.tm (.of sD) hp2B))), sh_T _, sh_LT _, _, rfl, ?_⟩
            rw [any_dT]
            by_cases hin : qe.2.map Int.toNat ∈ F'
            · rw [decide_eq_true hin]
              refine iteF ⟨sD, zs, hz4, ?_, by omega⟩
              rw [etake, List.filter_append, List.filter_cons, if_neg (by simpa using hin), List.filter_nil, List.append_nil]
              exact pz4
            · rw [decide_eq_false hin]
              have t4 := Tm.lst (o := .lst (zs ++ [V.ref qe.1])) hz4
              refine iteT ⟨_, rfl, zs, hz4, by rw [sizeLine_eq]; omega, same_mut sD hD2, zs ++ [V.ref qe.1], upd_same, ?_, by rw [List.length_append]; show zs.length + 1 ≤ i + 1; omega⟩
              rw [etake, List.filter_append, List.filter_cons, if_pos (by simpa using hin), List.filter_nil]
              exact Paired.app (TFs.tm t4 pz4) (Paired.one (tf4.tm t4))
          · rintro H4 ⟨sD, zs, hz4, pz4, hzl⟩
            rw [List.length_map, show L'.length = (L'.map fun q : Addr × List Int => q.2.map Int.toNat).length from (List.length_map ..).symm, List.take_length] at pz4
            rw [List.length_map] at hzl
            have hxs4 := sD _ _ hxs2B
            have hx2l : xs2.length ≤ 63 := by rw [Paired.length hp2]; exact hFl
            refine ⟨fl', D2, xs2, zs, rfl, rfl, hxs4, hz4, by rw [sizeLine_eq]; omega, fun np hnp => ?_⟩
            have s6 := same_new (o := .lst (xs2 ++ zs)) hnp
            have sE := (sB.trans sD).trans s6
            refine ⟨np, _, _, _, _, rfl, sm1.trans sE, ⟨xs2 ++ zs, upd_same, Paired.app (TFs.tm (.of (sD.trans s6)) hp2B) (TFs.tm (.of s6) pz4)⟩, fun h => absurd h (by omega), fun _ => sp.next hi hM hM1 hM2, sE _ _ hsl2⟩
      · rintro σ H2 ⟨fl', F', x4, x5, x6, rfl, sm1, lf2, h0, h1, _⟩
        refine ⟨fl', F', _, _, _, _, rfl, sm.trans sm1, lf2, ?_⟩
        rw [cut_one, List.length_take, List.length_drop] at h0 h1
        by_cases hlt : j < xs.length
        · exact h1 (by omega)
        · rw [h0 (by omega)]
          exact sp.skip (by omega)
    · rintro σ H' ⟨fl, F, x3, x4, x5, x6, rfl, sm, ⟨xs, hxs, hp⟩, sp⟩
      have hFl : F.length ≤ 63 := hf.le sp.nd sp.made
      have hxl : xs.length = F.length := Paired.length hp
      refine ⟨_, rfl, fl, xs, rfl, SqL.of hxs, by omega, fun x hx => ?_, fun ys p pm pw hp2 => ?_⟩
      · obtain ⟨t, ht, a, o, rfl, hao, _⟩ := Paired.memL hp hx
        have htP := (sp.made t ht).isP hg
        exact ⟨iN t, ⟨a, rfl, by rw [show (iN t).map V.int = nIs t from (nIs_int t).symm]; exact RT.sq (.inr ⟨o, hao⟩)⟩, by rw [iN_len, htP.len], bd_iN htP hn9⟩
      · obtain ⟨ts, h1, h2⟩ := Paired.perm pm hp
        have s2 := same_new (o := .lst ys) hp2
        refine q p _ ts (sm.trans s2) (sm.free hp2) ⟨ys, upd_same, TFs.tm (.of s2) h1⟩ (h2.nodup_iff.mpr sp.nd) (fun t => h2.mem_iff.trans (sp.all (by omega) t)) ?_
        refine Paired.pairwise (R := TF H') (fun x y s t rx ry hxy => ?_) h1 pw
        obtain ⟨a, o, rfl, hao, _⟩ := rx
        obtain ⟨a', o', rfl, hao', _⟩ := ry
        exact hxy (iN s) (iN t) ⟨a, rfl, by rw [show (iN s).map V.int = nIs s from (nIs_int s).symm]; exact RT.sq (.inr ⟨o, hao⟩)⟩ ⟨a', rfl, by rw [show (iN t).map V.int = nIs t from (nIs_int t).symm]; exact RT.sq (.inr ⟨o', hao'⟩)⟩
end
end Lt

set_option linter.all false
set_option Elab.async false
set_option maxRecDepth 100000
/-! locks whose places are called otherwise; small locks -/
namespace Lt
def cj (s t : List Nat) : List Nat := prod (prod (inv s) t) s
theorem cj_isP {n : Nat} {s t : List Nat} (hs : IsP n s) (ht : IsP n t) : IsP n (cj s t) := (hs.inv.prod ht).prod hs
theorem cj_still {n : Nat} {s : List Nat} (hs : IsP n s) : cj s (List.range n) = List.range n := by
  unfold cj
  rw [prod_still_r hs.inv.lt, prod_inv_l hs]
theorem bd {n : Nat} {x y : List Nat} (hx : IsP n x) (hy : IsP n y) : ∀ i ∈ x, i < y.length := fun i hi => by rw [hy.len]; exact hx.lt i hi
theorem cj_prod {n : Nat} {s a b : List Nat} (hs : IsP n s) (ha : IsP n a) (hb : IsP n b) : cj s (prod a b) = prod (cj s a) (cj s b) := by
  unfold cj
  have h1 : prod (prod (prod (inv s) a) s) (prod (prod (inv s) b) s) = prod (prod (inv s) a) (prod s (prod (prod (inv s) b) s)) := prod_assoc (bd (hs.inv.prod ha) hs)
  have h2 : prod s (prod (prod (inv s) b) s) = prod b s := by
    rw [← prod_assoc (bd hs (hs.inv.prod hb)), ← prod_assoc (bd hs hs.inv), prod_inv_r hs, prod_still_l hb.len]
  rw [h1, h2, ← prod_assoc (bd hs.inv ha), prod_assoc (bd (hs.inv.prod ha) hb)]
theorem Mk.cj {gs : List (List Nat)} {n : Nat} {s : List Nat} (hg : ∀ g ∈ gs, IsP n g) (hs : IsP n s) {u : List Nat} (h : Mk (gs.map (Lt.cj s)) n u) : ∃ t, Mk gs n t ∧ u = Lt.cj s t := by
  induction h with
  | still => exact ⟨_, .still, (cj_still hs).symm⟩
  | @step a g _ hm ih =>
    obtain ⟨t, ht, e⟩ := ih
    obtain ⟨g', hg', e'⟩ := List.mem_map.mp hm
    exact ⟨_, .step ht hg', by rw [cj_prod hs (ht.isP hg) (hg g' hg'), e, e']⟩
theorem Few.cj {gs : List (List Nat)} {n m : Nat} {s : List Nat} (hg : ∀ g ∈ gs, IsP n g) (hs : IsP n s) (h : Few gs n m) : Few (gs.map (Lt.cj s)) n m := by
  obtain ⟨D, h1, h2⟩ := h
  refine ⟨D.map (Lt.cj s), by rw [List.length_map]; exact h1, fun u hu => ?_⟩
  obtain ⟨t, ht, e⟩ := hu.cj hg hs
  rw [e]
  exact List.mem_map.mpr ⟨t, h2 t ht, rfl⟩
theorem few_of {gs : List (List Nat)} {n k : Nat} (h : (qq gs n k).length ≤ k) : Few gs n k :=
  ⟨(qq gs n k).map (·.1), by rw [List.length_map]; exact h, fun t ht => (qq_full h t).mpr ht⟩
theorem Few.mono {gs : List (List Nat)} {n m m' : Nat} (h : Few gs n m) (l : m ≤ m') : Few gs n m' := let ⟨D, h1, h2⟩ := h; ⟨D, Nat.le_trans h1 l, h2⟩
/-- what is led where -/
theorem cj_at {n : Nat} {s t u : List Nat} (hs : IsP n s) (ht : IsP n t) (hl : u.length = n) (h : ∀ (i si ti : Nat), s[i]? = some si → t[i]? = some ti → u[si]? = s[ti]?) : u = cj s t := by
  apply List.ext_getElem?
  intro p
  by_cases hp : p < n
  · have hm : p ∈ s := hs.mem.mpr hp
    have hj := List.idxOf_lt_length_of_mem hm
    have hjn : s.idxOf p < n := by rw [← hs.len]; exact hj
    have e1 : s[s.idxOf p]? = some p := by rw [List.getElem?_eq_getElem hj, List.getElem_idxOf]
    have e2 : t[s.idxOf p]? = some (t[s.idxOf p]'(by rw [ht.len]; exact hjn)) := List.getElem?_eq_getElem _
    have htl : t[s.idxOf p]'(by rw [ht.len]; exact hjn) < s.length := by rw [hs.len]; exact ht.lt _ (List.getElem_mem _)
    rw [h _ _ _ e1 e2]
    unfold cj prod inv
    rw [List.getElem?_map, List.getElem?_map, List.getElem?_map, hs.len, List.getElem?_range hp]
    simp only [Option.map_some]
    rw [List.getD_eq_getElem?_getD (l := t), e2, Option.getD_some, List.getD_eq_getElem?_getD, List.getElem?_eq_getElem htl, Option.getD_some]
  · rw [List.getElem?_eq_none (by omega), List.getElem?_eq_none (by rw [(cj_isP hs ht).len]; omega)]
/-! ### all permutations of few places -/
def lists (n : Nat) : Nat → List (List Nat)
  | 0 => [[]]
  | k + 1 => (List.range n).flatMap fun a => (lists n k).map (a :: ·)
theorem mem_lists {n : Nat} : ∀ (t : List Nat), (∀ i ∈ t, i < n) → t ∈ lists n t.length
  | [], _ => List.mem_singleton.mpr rfl
  | a :: t, h => List.mem_flatMap.mpr ⟨a, List.mem_range.mpr (h a List.mem_cons_self), List.mem_map.mpr ⟨t, mem_lists t fun i hi => h i (List.mem_cons_of_mem _ hi), rfl⟩⟩
theorem few_all {gs : List (List Nat)} {n m : Nat} (hg : ∀ g ∈ gs, IsP n g) (h : ((lists n n).filter fun t => decide (IsP n t)).length ≤ m) : Few gs n m :=
  ⟨_, h, fun t ht => by
    have hp := ht.isP hg
    have z := mem_lists t hp.lt
    rw [hp.len] at z
    exact List.mem_filter.mpr ⟨z, decide_eq_true hp⟩⟩
theorem all4 : ((lists 4 4).filter fun t => decide (IsP 4 t)).length ≤ 60 := by decide +kernel
theorem all3 : ((lists 3 3).filter fun t => decide (IsP 3 t)).length ≤ 60 := by decide +kernel
theorem all2 : ((lists 2 2).filter fun t => decide (IsP 2 t)).length ≤ 60 := by decide +kernel
/-! ### the known locks -/
def known : List (List (List Nat)) := [[[1, 2, 3, 0]], [[1, 0, 3, 2], [2, 3, 0, 1]], [[1, 2, 3, 0], [3, 2, 1, 0]], [[1, 0, 2, 3, 4, 5], [0, 1, 3, 2, 4, 5], [0, 1, 2, 3, 5, 4]],
  [[1, 2, 3, 4, 5, 6, 7, 0]], [[1, 2, 3, 4, 5, 6, 7, 8, 0]], [[1, 2, 3, 0, 5, 6, 7, 4], [4, 7, 6, 5, 2, 1, 0, 3]], [[1, 2, 0, 3, 4, 5], [0, 1, 2, 4, 5, 3]], [[1, 2, 0], [1, 0, 2]],
  [[1, 2, 0, 3], [1, 0, 3, 2]], [[1, 2, 0, 3, 4], [0, 1, 2, 4, 3]], [[3, 4, 5, 6, 7, 8, 0, 1, 2], [0, 1, 2, 4, 5, 3, 8, 6, 7]], [[1, 2, 3, 4, 0], [1, 2, 0, 3, 4]], [[1, 2, 3, 0], [1, 0, 2, 3]],
  [[1, 2, 3, 4, 0], [0, 4, 3, 2, 1]]]
def fine (gs : List (List Nat)) : Bool := match gs with
  | [] => false
  | g :: _ => decide (gs.length ≤ 4) && decide (2 ≤ g.length) && decide (g.length ≤ 9) && gs.all (fun t => decide (IsP g.length t)) && decide ((qq gs g.length 60).length ≤ 60)
theorem known_fine : known.all fine = true := by decide +kernel
theorem fine_of {gs : List (List Nat)} (h : gs ∈ known) : ∃ n, 1 ≤ gs.length ∧ gs.length ≤ 4 ∧ 2 ≤ n ∧ n ≤ 9 ∧ (∀ g ∈ gs, IsP n g) ∧ Few gs n 60 := by
  have z := List.all_eq_true.mp known_fine gs h
  cases gs with
  | nil => cases z
  | cons g gs =>
    have z : (decide ((g :: gs).length ≤ 4) && decide (2 ≤ g.length) && decide (g.length ≤ 9) && (g :: gs).all (fun t => decide (IsP g.length t)) && decide ((qq (g :: gs) g.length 60).length ≤ 60)) = true := z
    simp only [Bool.and_eq_true, decide_eq_true_eq, List.all_eq_true] at z
    obtain ⟨⟨⟨⟨z1, z2⟩, z3⟩, z4⟩, z5⟩ := z
    exact ⟨g.length, by show 1 ≤ gs.length + 1; omega, z1, z2, z3, z4, few_of z5⟩
end Lt

set_option Elab.async false
set_option linter.all false
set_option maxRecDepth 100000
set_option maxHeartbeats 1000000
namespace Lt
open PySem PySem.Spec PyProof.Rows L2
/-! ### a written table of locks -/
def isInts : List Expr → List Nat → Bool
  | [], [] => true
  | .Constant (.int i) _ _ :: es, n :: t => decide (i = Int.ofNat n) && isInts es t
  | _, _ => false
def isTurns : List Expr → List (List Nat) → Bool
  | [], [] => true
  | .Tuple es _ _ :: r, t :: ts => isInts es t && isTurns r ts
  | _, _ => false
def isTab : List (Option Expr) → List Expr → List (Str × List (List Nat)) → Bool
  | [], [], [] => true
  | some (.Constant (.str x) _ _) :: ks, .Tuple es _ _ :: vs, (y, ts) :: tab => decide (x = y) && isTurns es ts && isTab ks vs tab
  | _, _, _ => false
theorem PA.imp {X : Cx} {es : List Expr} {t t' : TA} (h : PA X es t) (i : ∀ σ H Q, t' σ H Q → t σ H Q) : PA X es t' := ⟨fun pos pins s σ H Q I q => h.run pos pins s σ H Q I (i σ H Q q)⟩
theorem PE.imp {X : Cx} {e : Expr} {t t' : TE} (h : PE X e t) (i : ∀ σ H Q, t' σ H Q → t σ H Q) : PE X e t' := ⟨fun pins s σ H Q I q => h.run pins s σ H Q I (i σ H Q q)⟩
section
variable {X : Cx}
theorem pa_ints : ∀ {es : List Expr} {t : List Nat}, isInts es t = true → PA X es (fun _ H Q => Q (nIs t) H)
  | [], [], _ => pa_nil
  | [], _ :: _, h => by cases h
  | e :: es, [], h => by
    cases e with
    | Constant c j p => cases c <;> cases h
    | _ => cases h
  | e :: es, n :: t, h => by
    cases e with
    | Constant c j p =>
      cases c with
      | int i =>
        have h : (decide (i = Int.ofNat n) && isInts es t) = true := h
        rw [Bool.and_eq_true, decide_eq_true_eq] at h
        obtain ⟨rfl, h2⟩ := h
        exact PA.imp (pa_cons pe_int (pa_ints h2)) fun σ H Q q => q
      | _ => cases h
    | _ => cases h
theorem pe_turn {es : List Expr} {k : Nat} {pos : Pos} {t : List Nat} (h : isInts es t = true) (hl : t.length ≤ 1000) : PE X (.Tuple es k pos) (fun _ H Q => ∀ v H', Same H H' → TK H' v t → Q v H') :=
  PE.imp (pe_tup (pa_ints h)) fun σ H Q q => ⟨by rw [nIs_len, sizeLine_eq]; omega, fun p hp => q _ _ (same_new hp) ⟨p, rfl, upd_same⟩⟩
theorem pa_turns : ∀ {es : List Expr} {ts : List (List Nat)}, isTurns es ts = true → (∀ t ∈ ts, t.length ≤ 1000) → PA X es (fun _ H Q => ∀ vs H', Same H H' → Paired (TN H') vs ts → Q vs H')
  | [], [], _, _ => PA.imp pa_nil fun σ H Q q => q _ _ (Same.refl _) .nil
  | [], _ :: _, h, _ => by cases h
  | e :: es, [], h, _ => by cases e <;> cases h
  | e :: es, t :: ts, h, hl => by
    cases e with
    | Tuple es2 k pos =>
      have h : (isInts es2 t && isTurns es ts) = true := h
      rw [Bool.and_eq_true] at h
      refine PA.imp (pa_cons (pe_turn h.1 (hl t List.mem_cons_self)) (pa_turns h.2 fun x hx => hl x (List.mem_cons_of_mem _ hx))) fun σ H Q q => ?_
      exact fun v H1 s1 hv vs H2 s2 hvs => q _ _ (s1.trans s2) (.cons (hv.tn.tm (.of s2)) hvs)
    | _ => cases h
def Tb (H : Hp) (p : V × V) (x : Str × List (List Nat)) : Prop := p.1 = .str x.1 ∧ TT H p.2 x.2
theorem pps_tab {pos : Pos} : ∀ {ks : List (Option Expr)} {vs : List Expr} {tab : List (Str × List (List Nat))}, isTab ks vs tab = true → (∀ x ∈ tab, x.2.length ≤ 1000 ∧ ∀ t ∈ x.2, t.length ≤ 1000) →
    ∃ trs, PPs X pos ks vs trs ∧ ∀ σ H Q, (∀ ps H', Same H H' → Paired (Tb H') ps tab → Q ps H') → tPairs trs σ H Q
  | [], [], [], _, _ => ⟨[], pps_nil, fun σ H Q q => q _ _ (Same.refl _) .nil⟩
  | [], [], _ :: _, h, _ => by cases h
  | [], _ :: _, _, h, _ => by cases h
  | k :: ks, [], tab, h, _ => by
    cases k with
    | none => cases h
    | some e => cases e with
      | Constant c j p => cases c <;> cases h
      | _ => cases h
  | k :: ks, v :: vs, [], h, _ => by
    cases k with
    | none => cases h
    | some e => cases e with
      | Constant c j p => cases c <;> cases v <;> cases h
      | _ => cases h
  | k :: ks, v :: vs, (y, ts) :: tab, h, hl => by
    cases k with
    | none => cases h
    | some e => cases e with
      | Constant c j p => cases c with
        | str x => cases v with
          | Tuple es k2 pos2 =>
            have h : (decide (x = y) && isTurns es ts && isTab ks vs tab) = true := h
            rw [Bool.and_eq_true, Bool.and_eq_true, decide_eq_true_eq] at h
            obtain ⟨⟨rfl, h1⟩, h2⟩ := h
            obtain ⟨hl1, hl2⟩ := hl (x, ts) List.mem_cons_self
            obtain ⟨trs, p, r⟩ := pps_tab h2 fun z hz => hl z (List.mem_cons_of_mem _ hz)
            refine ⟨_, pps_cons pe_str (pe_tup (pa_turns h1 hl2)) p, fun σ H Q q => ?_⟩
            refine fun us H1 s1 hus => ⟨by rw [Paired.length hus, sizeLine_eq]; exact Nat.le_trans hl1 (by decide), fun pt hpt => ?_⟩
            have s2 := same_new (o := .tup us) hpt
            refine r σ _ _ fun ps H3 s3 hps => q _ _ ((s1.trans s2).trans s3) (.cons ⟨rfl, TT.tm (.of s3) ⟨pt, us, rfl, upd_same, TNs.tm (.of s2) hus⟩⟩ hps)
          | _ => cases h
        | _ => cases h
      | _ => cases h
/-- what a dict of names and locks holds -/
def DB (H : Hp) (kv : Key × V) (x : Str × List (List Nat)) : Prop := kv.1 = Sum.inr x.1 ∧ TT H kv.2 x.2
theorem tb_kvs {H : Hp} : ∀ {ps : List (V × V)} {tab : List (Str × List (List Nat))}, Paired (Tb H) ps tab → ∃ kvs : List (Key × V), ps = kvs.map (fun kv => (kV kv.1, kv.2)) ∧ Paired (DB H) kvs tab
  | _, _, .nil => ⟨[], rfl, .nil⟩
  | p :: _, x :: _, .cons r t => by
    obtain ⟨kvs, h1, h2⟩ := tb_kvs t
    refine ⟨(Sum.inr x.1, p.2) :: kvs, ?_, .cons ⟨rfl, r.2⟩ h2⟩
    rw [h1]
    have e : p = (V.str x.1, p.2) := Prod.ext r.1 rfl
    rw [e]
    rfl
theorem db_val {H : Hp} {x : Str} {ts : List (List Nat)} : ∀ {kvs : List (Key × V)} {tab : List (Str × List (List Nat))}, Paired (DB H) kvs tab → (tab.map (·.1)).Nodup → (x, ts) ∈ tab → ∃ v, valV kvs (Sum.inr x) = some v ∧ TT H v ts
  | _, _, .nil, _, h => by cases h
  | p :: ps, q :: qs, .cons r s, hn, h => by
    rw [List.map_cons] at hn
    obtain ⟨h1, h2⟩ := List.nodup_cons.mp hn
    rcases List.mem_cons.mp h with e | h
    · subst e
      exact ⟨p.2, valV_pos r.1, r.2⟩
    · have hne : ¬ p.1 = Sum.inr x := fun e => h1 (by
        rw [r.1] at e
        injection e with e
        rw [e]
        exact List.mem_map.mpr ⟨_, h, rfl⟩)
      rw [valV_neg hne]
      exact db_val s h2 h
theorem mergeK_nil {H : Hp} : ∀ {kvs : List (Key × V)} {tab : List (Str × List (List Nat))} {acc : List (Key × V)} {at_ : List (Str × List (List Nat))}, Paired (DB H) kvs tab → Paired (DB H) acc at_ → ((at_ ++ tab).map (·.1)).Nodup → mergeK acc kvs = acc ++ kvs
  | _, _, acc, _, .nil, _, _ => by
    show acc = acc ++ []
    rw [List.append_nil]
  | p :: ps, q :: qs, acc, at_, .cons r s, ha, hn => by
    have hnone : valV acc p.1 = none := by
      cases e : valV acc p.1 with
      | none => rfl
      | some v =>
        exfalso
        have m := valV_in e
        obtain ⟨kv, hkv, ekv⟩ := List.mem_map.mp m
        obtain ⟨y, hy, ry⟩ := Paired.memL ha hkv
        have e1 : y.1 = q.1 := by
          have z : (Sum.inr y.1 : Key) = Sum.inr q.1 := ry.1.symm.trans (ekv.trans r.1)
          injection z
        rw [List.map_append, List.map_cons] at hn
        exact (List.nodup_append.mp hn).2.2 y.1 (List.mem_map.mpr ⟨y, hy, rfl⟩) q.1 List.mem_cons_self e1
    show mergeK (putK acc p.1 p.2) ps = acc ++ p :: ps
    rw [putK_new p.2 hnone, mergeK_nil (acc := acc ++ [(p.1, p.2)]) (at_ := at_ ++ [q]) s (Paired.app ha (Paired.one r)) (by rw [List.append_assoc]; exact hn), List.append_assoc]
    rfl
/-- {'a': ((..), ..), ..} -/
def tTab (tab : List (Str × List (List Nat))) : TE := fun _ H Q => ∀ p H' kvs, Same H H' → H p = none → H' p = some (.dK kvs) → Paired (DB H') kvs tab → Q (.ref p) H'
theorem pe_tab {ks : List (Option Expr)} {vs : List Expr} {pos : Pos} {tab : List (Str × List (List Nat))} (h : isTab ks vs tab = true) (hl : ∀ x ∈ tab, x.2.length ≤ 1000 ∧ ∀ t ∈ x.2, t.length ≤ 1000) (hn : (tab.map (·.1)).Nodup) (h15 : tab.length ≤ 15)
    (hall : ks.all (·.isSome) = true) (hlen : ks.length = vs.length) (h0 : ks ≠ []) (hk15 : ks.length ≤ 15) : PE X (.Dict ks vs pos) (tTab tab) := by
  obtain ⟨trs, p, r⟩ := pps_tab (X := X) (pos := pos) h hl
  refine PE.imp (pe_disp p hall hlen h0 hk15) fun σ H Q q => ?_
  refine fun d hd => r σ _ _ fun ps H2 s2 hps => ⟨s2 _ _ upd_same, ?_⟩
  obtain ⟨kvs, e, hb⟩ := tb_kvs hps
  refine ⟨kvs, e, by rw [Paired.length hb]; exact h15, ?_⟩
  have em : mergeK [] kvs = kvs := mergeK_nil (acc := []) (at_ := []) hb .nil hn
  rw [em]
  have hd2 : H2 d = some (.dK []) := s2 _ _ upd_same
  have tm : Tm H2 (upd H2 d (.dK kvs)) := .mut hd2 (fun _ z => nomatch z) fun _ _ z => nomatch z
  have sH : Same H (upd H2 d (.dK kvs)) := same_mut ((same_new hd).trans s2) hd
  exact q d _ kvs sH hd upd_same (paired_mono (fun a b z => ⟨z.1, z.2.tm tm⟩) hb)
end
def names : List Str := ["four", "klein", "square", "cube", "eight", "nine", "quaternions", "threes", "three", "tetra", "six", "heis", "five", "whole", "ten"]
def table : List (Str × List (List Nat)) := names.zip known
theorem table_nd : (table.map (·.1)).Nodup := by decide +kernel
theorem table_len : ∀ x ∈ table, x.2.length ≤ 1000 ∧ ∀ t ∈ x.2, t.length ≤ 1000 := by decide +kernel
theorem table_known {x : Str × List (List Nat)} (h : x ∈ table) : x.2 ∈ known := by
  unfold table at h
  exact (List.of_mem_zip (a := x.1) (b := x.2) h).2
end Lt

set_option Elab.async false
set_option linter.all false
set_option maxRecDepth 100000
set_option maxHeartbeats 1000000
namespace Lt
open PySem PySem.Spec PyProof.Rows L2
theorem names_in : ∀ nm ∈ names, ∃ ts, (nm, ts) ∈ table := fun nm h => by
  have z : (names.all fun nm => table.any fun x => decide (x.1 = nm)) = true := by decide +kernel
  obtain ⟨x, hx, e⟩ := List.any_eq_true.mp (List.all_eq_true.mp z nm h)
  have e := of_decide_eq_true e
  exact ⟨x.2, by rw [← e]; exact hx⟩
theorem three_of {nm : Str} {ts : List (List Nat)} (h : (nm, ts) ∈ table) : ts.length ≤ 3 := by
  have z : (table.all fun x => decide (x.2.length ≤ 3)) = true := by decide +kernel
  exact of_decide_eq_true (List.all_eq_true.mp z _ h)
section
variable {P : Program} {w : World} {K : PySem.W.Frag} {mg : Str → Option Value} {base : Heap}
def spKnown (K : PySem.W.Frag) : Sp := fun vs H Q _ => ∃ (r kl sc : Addr) (ns : List Int) (kn : List Str), vs = [.ref r, .ref kl] ∧ RowAt K H r sc ns ∧ H kl = some (.lst (kn.map V.str)) ∧ kl ≠ r ∧ 1 ≤ kn.length ∧ kn.length ≤ 100 ∧ (∀ x ∈ kn, x ∈ names) ∧
  ∀ v H' ls n, ls.length ≤ 3 → GL ls n → Few ls n 60 → StepR r H H' → RowAt K H' r sc ns → TT H' v ls → Q v H'
theorem sc_law_known : FnScope ["row", "kinds", "locks", "lock", "order", "found", "turn", "named", "place", "comes"] ["row", "kinds"] (defScope s_law_known) := ⟨rfl, rfl, rfl, by decide +kernel, rfl, by decide +kernel, by decide +kernel⟩
theorem has_law_known (T : Top K mg "_law_known" s_law_known ["row", "kinds"]) (B : Bi mg) (hK : Has P w K mg base CX0 2 "_law_pick" ["row", "things"] (spPick K)) (hM : Has P w K mg base CX0 2 "_law_permutation" ["row", "places"] (spLawPerm K)) : Has P w K mg base CX0 3 "_law_known" ["row", "kinds"] (spKnown K) := by
  refine T.ok sc_law_known (fun vs H Q E h => ?_) (fun f cdv A outer s H vs Q E hr h => ?_)
  · obtain ⟨r, kl, sc, ns, kn, rfl, _⟩ := h
    rfl
  · obtain ⟨r, kl, sc, ns, kn, rfl, ra, hkl, hne, hk1, hk2, hkn, q⟩ := h
    have hu := hu_of hr
    refine ⟨_, pss_cons (ps_set (i := 2) sc_law_known.nd rfl (Or.inl rfl) (pe_tab (tab := table) (by decide +kernel) table_len table_nd (by decide) (by rfl) (by rfl) (fun z => by cases z) (by decide)))
      (pss_cons (ps_set (i := 3) sc_law_known.nd rfl (Or.inl rfl) (pe_dget hu (pv 2) (pe_has hK hr (by rfl) (pa_cons (pv 0) (pa_cons (pv 1) pa_nil))) (fun _ _ => rfl)))
      (pss_cons (ps_set (i := 4) sc_law_known.nd rfl (Or.inl rfl) (pe_has hM hr (by rfl) (pa_cons (pv 0) (pa_cons (pe_callB call_len_seq (by rfl) B.len PySem.boot_len (pa_cons (pe_ix ix_tup (pv 3) pe_int (fun _ _ => rfl)) pa_nil)) pa_nil))))
      (pss_cons (ps_set (i := 5) sc_law_known.nd rfl (Or.inl rfl) (pe_lst pa_nil))
      (pss_cons (ps_for PassesOwn.never rfl (pi_tup (pv 3)) (pg_name (i := 6) sc_law_known.nd rfl (Or.inl rfl))
        (pss_cons (ps_set (i := 7) sc_law_known.nd rfl (Or.inl rfl) (pe_op op_rep (pe_lst (pa_cons pe_int pa_nil)) (pe_callB call_len_seq (by rfl) B.len PySem.boot_len (pa_cons (pv 6) pa_nil))))
        (pss_cons (ps_for PassesOwn.never rfl (pi_enumT (by rfl) B.enumerate (pa_cons (pv 6) pa_nil)) (pg_tup rfl (pgs_cons (pg_name (i := 8) sc_law_known.nd rfl (Or.inl rfl)) (pgs_cons (pg_name (i := 9) sc_law_known.nd rfl (Or.inl rfl)) pgs_nil)))
          (pss_one (ps_asg (pe_ix ix_tup (pv 4) (pv 9) (fun _ _ => rfl)) (pg_sub (pv 7) (pe_ix ix_tup (pv 4) (pv 8) (fun _ _ => rfl)) set_list))))
        (pss_one (ps_expr (pe_bm PySem.F.plainAttrs_list PySem.F.slot_list_append PySem.F.type_list_append mt_append (pv 5) (pa_cons (pe_tupleOf (by rfl) B.tuple (pv 7)) pa_nil)))))))
      (pss_one (ps_ret (pe_tupleOf (by rfl) B.tuple (pv 5)))))))), ?_⟩
    refine fun d H1 kvs s1 hd hd1 hDB => ?_
    refine ⟨_, rfl, _, rfl, _, rfl, r, kl, sc, ns, kn.map V.str, rfl, ra.step s1, s1 _ _ hkl, hne, by rw [List.length_map]; exact hk1, by rw [List.length_map]; omega, fun x H2 hx st2 ra2 => ?_⟩
    obtain ⟨nm, hnm, rfl⟩ := List.mem_map.mp hx
    obtain ⟨ts, hts⟩ := names_in nm (hkn nm hnm)
    obtain ⟨n, hf1, hf2, hf3, hf4, hf5, hf6⟩ := fine_of (table_known hts)
    obtain ⟨lv, hlv, htt1⟩ := db_val hDB table_nd hts
    have hdr : d ≠ r := (ra.ne hd).symm
    have hd2 := st2 _ _ hdr hd1
    have htt2 := htt1.tm (st2.tm (ra.step s1))
    refine ⟨d, lv, rfl, by rw [← hlv]; exact DGet.k (k := Sum.inr nm) hd2, ?_⟩
    have gl : GL ts n := ⟨hf1, hf2, hf3, hf4, hf5⟩
    obtain ⟨a, xs, b, rfl, ha, hp, h0, t0, hbt, htl⟩ := htt2.head gl
    refine ⟨_, rfl, _, rfl, a, xs, 0, .ref b, rfl, rfl, SqT.of ha, h0, b, _, rfl, .inr hbt.sq, r, sc, ns, n, by rw [nIs_len, htl]; rfl, ra2, by omega, fun o H3 s hs st3 ra3 ho => ?_⟩
    have ha3 : H3 a = some (.tup xs) := (st3.tm ra2).1 _ _ ha
    have hp3 : Paired (TN H3) xs ts := TNs.tm (st3.tm ra2) hp
    obtain ⟨po, rfl, hpo⟩ := ho
    have st13 : StepR r H H3 := ((StepR.of s1).trans st2).trans st3
    refine ⟨Nat.zero_le _, fun fl hfl => ?_⟩
    have sl := same_new (o := .lst []) hfl
    refine ⟨_, rfl, a, rfl, ⟨_, SqT.of (sl _ _ ha3)⟩, for_tup (K := K) (a := a) (xs := xs) (fun i σ H' => ∃ x6 x7 x8 x9 us, σ = [some (.ref r), some (.ref kl), some (.ref d), some (.ref a), some (.ref po), some (.ref fl), x6, x7, x8, x9] ∧ Same H3 H' ∧ H' fl = some (.lst us) ∧ Paired (TN H') us ((ts.take i).map (cj s)))
      ⟨none, none, none, none, [], rfl, sl, upd_same, .nil⟩ (fun i σ H' _ ⟨_, _, _, _, _, _, s, _⟩ => SqT.of (s _ _ ha3)) ?_ ?_⟩
    · rintro i x σ H' hi ⟨x6, x7, x8, x9, us, rfl, sm, hus, pus⟩
      obtain ⟨t, ht, htn0⟩ := Paired.getL hp3 hi
      have htP := hf5 t (List.mem_of_getElem? ht)
      obtain ⟨pt, rfl, hpt⟩ := htn0.tm (.of sm)
      have hil : i < 4 := Nat.lt_of_lt_of_le (List.getElem?_eq_some_iff.mp ht).1 hf2
      refine ⟨by show 1 ≤ sizeLine; decide, fun l hl => ?_⟩
      have s5 := same_new (o := .lst [V.int 0]) hl
      refine ⟨_, rfl, pt, _, rfl, .inr (hpt.sm s5).sq, l, (t.length : Int), [V.int 0], rfl, by rw [nIs_len], upd_same, by omega, by rw [htP.len]; omega, ?_, fun nm hnm => ?_⟩
      · show 1 * (t.length : Int).toNat ≤ sizeLine
        rw [htP.len, sizeLine_eq]
        omega
      have s6 := s5.trans (same_new (o := .lst (List.replicate (t.length : Int).toNat [V.int 0]).flatten) hnm)
      have hnm0 : H' nm = none := s5.free hnm
      refine ⟨_, rfl, pt, _, rfl, (hpt.sm s6).sq, for_enumT (K := K) (xs := nIs t) (fun k σ2 H2' => ∃ (acc : List Nat) (y z : Option V), σ2 = [some (.ref r), some (.ref kl), some (.ref d), some (.ref a), some (.ref po), some (.ref fl), some (.ref pt), some (.ref nm), y, z] ∧ Same H' H2' ∧ H2' nm = some (.lst (nIs acc)) ∧ acc.length = n ∧ ∀ (i si ti : Nat), i < k → s[i]? = some si → t[i]? = some ti → acc[si]? = s[ti]?)
        ⟨List.replicate n 0, x8, x9, rfl, s6, by rw [upd_same, ← rep_zero, htP.len]; rfl, List.length_replicate .., fun i si ti h => absurd h (Nat.not_lt_zero i)⟩ (fun k σ2 H2' _ ⟨_, _, _, _, s, _⟩ => (hpt.sm s).sq) ?_ ?_⟩
      · rintro k y σ2 H2' T' hk ⟨acc, y8, y9, rfl, sm2, hnm2, hacc, hj⟩ hT'
        rw [nIs_get] at hk
        obtain ⟨m, hm, rfl⟩ := Option.map_eq_some_iff.mp hk
        have hmn : m < n := htP.lt m (List.mem_of_getElem? hm)
        have hkn' : k < n := by have := (List.getElem?_eq_some_iff.mp hm).1; rw [htP.len] at this; exact this
        have sT := same_new (o := .tup [nI k, nI m]) hT'
        have hnT : nm ≠ T' := ne_of_none hnm2 hT'
        have hsk : s[k]? = some (s[k]'(by rw [hs.len]; exact hkn')) := List.getElem?_eq_getElem _
        have hsm : s[m]? = some (s[m]'(by rw [hs.len]; exact hmn)) := List.getElem?_eq_getElem _
        generalize (s[k]'(by rw [hs.len]; exact hkn')) = sk at hsk
        generalize (s[m]'(by rw [hs.len]; exact hmn)) = smv at hsm
        have hskn : sk < n := hs.lt sk (List.mem_of_getElem? hsk)
        have hpo2 : (upd H2' T' (.tup [nI k, nI m])) po = some (.tup (nIs s)) := sT _ _ (sm2 _ _ (sm _ _ hpo))
        refine ⟨T', _, rfl, SqT.of upd_same, rfl, nI k, _, rfl, nI m, _, rfl, rfl, ?_⟩
        refine ⟨_, rfl, _, rfl, po, _, (m : Int), nI smv, rfl, rfl, SqT.of hpo2, atI_nat (by rw [nIs_get, hsm]; rfl), _, rfl, _, rfl, _, rfl, po, _, (k : Int), nI sk, rfl, rfl, SqT.of hpo2, atI_nat (by rw [nIs_get, hsk]; rfl), nm, nIs acc, (sk : Int), sk, rfl, rfl, sT _ _ hnm2, Evl.ixN_nat (by rw [nIs_len, hacc]; exact hskn), ?_⟩
        refine ⟨acc.set sk smv, _, _, rfl, same_mut (sm2.trans sT) hnm0, by rw [upd_same, nIs_set], by rw [List.length_set]; exact hacc, fun i si ti hik hsi hti => ?_⟩
        by_cases e : i = k
        · subst e
          rw [hsk] at hsi
          have hsi := Option.some.inj hsi
          subst hsi
          rw [hm] at hti
          have hti := Option.some.inj hti
          subst hti
          rw [List.getElem?_set_self (by omega), hsm]
        · have hne2 : sk ≠ si := fun z => e (nd_ix hs.nd hsi (z ▸ hsk))
          rw [List.getElem?_set_ne hne2]
          exact hj i si ti (by omega) hsi hti
      · rintro σ2 H2' ⟨acc, y8, y9, rfl, sm2, hnm2, hacc, hj⟩
        have ecj : acc = cj s t := cj_at hs htP hacc fun i si ti hsi hti => hj i si ti (by rw [nIs_len]; exact (List.getElem?_eq_some_iff.mp hti).1) hsi hti
        have hus2 := sm2 _ _ hus
        refine ⟨_, rfl, .inl ⟨rfl, _, SqL.of hus2⟩, _, rfl, .inl ⟨nm, nIs acc, rfl, SqL.of hnm2, fun p hp' => ?_⟩⟩
        have s7 := same_new (o := .tup (nIs acc)) hp'
        have hus3 := s7 _ _ hus2
        have husl : us.length ≤ 4 := by rw [Paired.length pus, List.length_map, List.length_take]; omega
        refine ⟨fl, us, _, rfl, rfl, hus3, by rw [sizeLine_eq]; omega, ?_⟩
        have t8 := Tm.lst (o := .lst (us ++ [V.ref p])) hus3
        refine ⟨_, _, _, _, us ++ [.ref p], rfl, same_mut ((sm.trans sm2).trans s7) hfl, upd_same, ?_⟩
        rw [List.take_add_one, ht, List.map_append]
        exact Paired.app (TNs.tm ((Tm.of (sm2.trans s7)).trans t8) pus) (Paired.one (TK.tn (TK.tm t8 ⟨p, rfl, by rw [upd_same, ecj]⟩)))
    · rintro σ H' ⟨x6, x7, x8, x9, us, rfl, sm, hus, pus⟩
      rw [Paired.length hp3, List.take_length] at pus
      refine ⟨_, rfl, .inl ⟨fl, us, rfl, SqL.of hus, fun p hp' => ?_⟩⟩
      have s7 := same_new (o := .tup us) hp'
      refine q _ _ (ts.map (cj s)) n (by rw [List.length_map]; exact three_of hts) ⟨by rw [List.length_map]; exact hf1, by rw [List.length_map]; exact hf2, hf3, hf4, fun g hg => ?_⟩ ((Few.cj hf5 hs hf6).mono (by omega)) (st13.trans (.of (sm.trans s7))) (ra3.step (sm.trans s7)) ⟨p, us, rfl, upd_same, TNs.tm (.of s7) pus⟩
      obtain ⟨t, ht, e⟩ := List.mem_map.mp hg
      rw [← e]
      exact cj_isP hs (hf5 t ht)
/-! ### _law_lock -/
def spLock (K : PySem.W.Frag) : Sp := fun vs H Q _ => ∃ (r kl sc : Addr) (ns : List Int) (kn : List Str), vs = [.ref r, .ref kl] ∧ RowAt K H r sc ns ∧ H kl = some (.lst (kn.map V.str)) ∧ kl ≠ r ∧ 1 ≤ kn.length ∧ kn.length ≤ 100 ∧ (∀ x ∈ kn, x ∈ names) ∧
  ∀ v H' ls n, ls.length ≤ 3 → GL ls n → Few ls n 60 → StepR r H H' → RowAt K H' r sc ns → TT H' v ls → Q v H'
theorem sc_law_lock : FnScope ["row", "kinds", "places", "turn"] ["row", "kinds"] (defScope s_law_lock) := ⟨rfl, rfl, rfl, by decide +kernel, rfl, by decide +kernel, by decide +kernel⟩
theorem few4 {ls : List (List Nat)} {n : Nat} (h1 : 2 ≤ n) (h2 : n ≤ 4) (hg : ∀ g ∈ ls, IsP n g) : Few ls n 60 := by
  have : n = 2 ∨ n = 3 ∨ n = 4 := by omega
  rcases this with e | e | e
  · subst e; exact (few_all hg all2).mono (by omega)
  · subst e; exact (few_all hg all3).mono (by omega)
  · subst e; exact (few_all hg all4).mono (by omega)
theorem has_law_lock (T : Top K mg "_law_lock" s_law_lock ["row", "kinds"]) (B : Bi mg) (hT : Has P w K mg base CX0 1 "_law_taken" ["row", "many"] (spTaken K)) (hK : Has P w K mg base CX0 3 "_law_known" ["row", "kinds"] (spKnown K)) (hM : Has P w K mg base CX0 2 "_law_permutation" ["row", "places"] (spLawPerm K)) :
    Has P w K mg base CX0 4 "_law_lock" ["row", "kinds"] (spLock K) := by
  refine T.ok sc_law_lock (fun vs H Q E h => ?_) (fun f cdv A outer s H vs Q E hr h => ?_)
  · obtain ⟨r, kl, sc, ns, kn, rfl, _⟩ := h
    rfl
  · obtain ⟨r, kl, sc, ns, kn, rfl, ra, hkl, hne, hk1, hk2, hkn, q⟩ := h
    have hr1 : Room 1 _ := hr.mono (by decide)
    have hr2 : Room 2 _ := hr.mono (by decide)
    refine ⟨_, pss_cons (ps_if (pt_cmpR op_gt (pe_has hT hr1 (by rfl) (pa_cons (pv 0) (pa_cons pe_int pa_nil))) pe_int (nomark _))
        (pss_one (ps_ret (pe_has hK hr (by rfl) (pa_cons (pv 0) (pa_cons (pv 1) pa_nil))))) pss_nil)
      (pss_cons (ps_set (i := 2) sc_law_lock.nd rfl (Or.inr rfl) (pe_op op_add pe_int (pe_has hT hr1 (by rfl) (pa_cons (pv 0) (pa_cons pe_int pa_nil)))))
      (pss_one (ps_ret (pe_tupleOf (by rfl) B.tuple (pe_lc (own := [("turn", 3)]) (g := gName 3) (te := tCall (spLawPerm K) [] E0 (tCons (tVar 0) (tCons (tVar 2) tNil))) (by rfl) sc_law_lock.nd
        (pi_range1 (by rfl) B.range (pa_cons (pe_op op_add pe_int (pe_has hT hr1 (by rfl) (pa_cons (pv 0) (pa_cons pe_int pa_nil)))) pa_nil)) (blkOk_by (own := [("turn", 3)]) (N := ["row", "kinds", "places", "turn"]) (sc := defScope s_law_lock) (by decide +kernel))
        (fun _ _ _ _ _ => pg_name (i := 3) sc_law_lock.nd rfl (Or.inl rfl)) (fun _ _ _ _ _ => pts_nil) (fun _ _ _ _ _ => pe_has hM hr2 (by rfl) (pa_cons (pv 0) (pa_cons (pv 2) pa_nil)))))))), ?_⟩
    refine ⟨_, rfl, r, sc, ns, 3, rfl, ra, by omega, by omega, fun x H1 hx st1 ra1 => ?_⟩
    refine ⟨(x : Int), 0, rfl, rfl, _, rfl, ite2 (fun h => ?_) (fun h => ?_)⟩
    · exact ⟨_, rfl, _, rfl, r, kl, sc, ns, kn, rfl, ra1, st1 _ _ hne hkl, hne, hk1, hk2, hkn, fun v H2 ls n l3 gl fw st2 ra2 tt => q v H2 ls n l3 gl fw (st1.trans st2) ra2 tt⟩
    · refine ⟨_, rfl, r, sc, ns, 3, rfl, ra1, by omega, by omega, fun y H2 hy st2 ra2 => ?_⟩
      refine ⟨2, (y : Int), rfl, rfl, ?_⟩
      refine ⟨_, rfl, r, sc, ns, 2, rfl, ra2, by omega, by omega, fun z H3 hz st3 ra3 => ?_⟩
      have st03 := (st1.trans st2).trans st3
      refine ⟨1, (z : Int), rfl, rfl, (1 : Int) + (z : Int), rfl, by omega, by omega, fun D hD => ?_⟩
      have hDr : D ≠ r := (ra3.ne hD).symm
      refine lc_range (lo := 0) (n := ((1 : Int) + (z : Int)).toNat) (fun i H' => StepR r H3 H' ∧ RowAt K H' r sc ns ∧ ∃ us ls, H' D = some (.lst us) ∧ Paired (TN H') us ls ∧ ls.length = i ∧ ∀ g ∈ ls, IsP (2 + y) g)
        ⟨.of (same_new hD), ra3.step (same_new hD), [], [], upd_same, .nil, rfl, fun g h => by cases h⟩ ?_ ?_
      · rintro i H' hi ⟨st4, ra4, us, ls, hus, pus, hll, hP⟩
        refine ⟨rfl, iteT (B := StepR r H3 H' ∧ RowAt K H' r sc ns ∧ ∃ us ls, H' D = some (.lst us) ∧ Paired (TN H') us ls ∧ ls.length = i ∧ ∀ g ∈ ls, IsP (2 + y) g) ⟨_, rfl, _, rfl, r, sc, ns, 2 + y, ?_, ra4, by omega, fun v H5 t ht st5 ra5 hv => ?_⟩⟩
        · show [V.ref r, V.int ((2 : Int) + (y : Int))] = [V.ref r, V.int ((2 + y : Nat) : Int)]
          rw [show ((2 + y : Nat) : Int) = (2 : Int) + (y : Int) by omega]
        · have hus5 := st5 _ _ hDr hus
          have t6 := Tm.lst (o := .lst (us ++ [v])) hus5
          refine ⟨us, hus5, by rw [Paired.length pus, hll, sizeLine_eq]; omega, (st4.trans st5).mut hD, RowAt.mut ra3 hD ra5, us ++ [v], ls ++ [t], upd_same, Paired.app (TNs.tm ((st5.tm ra4).trans t6) pus) (Paired.one (TK.tn (TK.tm t6 hv))), by rw [List.length_append, hll]; rfl, fun g hg => ?_⟩
          rcases List.mem_append.mp hg with z | z
          · exact hP g z
          · rw [List.mem_singleton.mp z]
            exact ht
      · rintro H' ⟨st4, ra4, us, ls, hus, pus, hll, hP⟩
        refine .inl ⟨D, us, rfl, SqL.of hus, fun p hp => ?_⟩
        have s7 := same_new (o := .tup us) hp
        exact q _ _ ls (2 + y) (by omega) ⟨by omega, by omega, by omega, by omega, hP⟩ (few4 (by omega) (by omega) hP) ((st03.trans st4).trans (.of s7)) (ra4.step s7) ⟨p, us, rfl, upd_same, TNs.tm (.of s7) pus⟩
end
end Lt

set_option Elab.async false
set_option linter.all false
set_option maxRecDepth 100000
set_option maxHeartbeats 4000000
/-! set(xs) of a long list of tuples of ints, of which few are unlike -/
namespace L2
open PySem PySem.Spec PyProof.Rows
/-- few unlike ones among the items -/
def FewOf (ks : List (Addr × List Int)) : Prop := ∀ L : List (Addr × List Int), (L.map (·.2)).Nodup → (∀ p ∈ L, p ∈ ks) → L.length ≤ 62
/-- what is held when the first i items have been added -/
def Held (ks : List (Addr × List Int)) (i : Nat) (L : List (Addr × List Int)) : Prop := (∀ p ∈ L, p ∈ ks) ∧ ∀ j p, j < i → ks[j]? = some p → p.2 ∈ L.map (·.2)
theorem Held.zero (ks : List (Addr × List Int)) : Held ks 0 [] := ⟨fun p z => (nomatch z), fun j p z => absurd z (Nat.not_lt_zero j)⟩
theorem Held.add {ks L L' : List (Addr × List Int)} {i : Nat} {p : Addr × List Int} (g : Held ks i L) (h : ks[i]? = some p) (h1 : p.2 ∈ L.map (·.2) → L' = L) (h2 : p.2 ∉ L.map (·.2) → L'.Perm (p :: L)) : Held ks (i + 1) L' := by
  by_cases c : p.2 ∈ L.map (·.2)
  · rw [h1 c]
    refine ⟨g.1, fun j q hj e => ?_⟩
    by_cases ej : j = i
    · subst ej
      rw [h] at e
      rw [← Option.some.inj e]
      exact c
    · exact g.2 j q (by omega) e
  · have pm := h2 c
    refine ⟨fun q hq => ?_, fun j q hj e => ?_⟩
    · rcases List.mem_cons.mp (pm.mem_iff.mp hq) with z | z
      · rw [z]
        exact List.mem_of_getElem? h
      · exact g.1 q z
    · rw [(pm.map (·.2)).mem_iff, List.map_cons]
      by_cases ej : j = i
      · subst ej
        rw [h] at e
        rw [← Option.some.inj e]
        exact List.mem_cons_self
      · exact List.mem_cons_of_mem _ (g.2 j q (by omega) e)
section
variable {P : Program} {w : World} {A : Around} {E : Value → Shared → Prop} {s : Shared}
/-- a void set, just made -/
abbrev voidSet (w : World) : Obj := { cls := .type "set", dict := none, data := .set #[] 0 (.fresh 0 0 (!w.params.followText "set-order")) }
/-- the machine's loop that adds what is walked -/
theorem adds {I S : Addr} {fp wr : List Addr} {G : Array GenState → Array GenState → Prop} {n : Nat} {Pv : Nat → Value → Prop} {St : Nat → Shared → Prop} {R : Result → Shared → Prop} {ks : List (Addr × List Int)} {h0 : Heap}
    (W : WalksS P w A.in1 I fp wr G n Pv St) (out : S ∉ fp) (size : n = ks.length) (few : FewOf ks) (items : ∀ i v, Pv i v → ∃ p, ks[i]? = some p ∧ v = .ref p.1)
    (tups : ∀ p ∈ ks, IsT P w h0 p.2 p.1) (newS : h0.get? S = none) (newW : ∀ b ∈ wr, h0.get? b = none) (room : A.in1.units < cLine)
    (end_ : ∀ (s' : Shared) L es ep t, Moved (S :: wr) G s s' → SetTR P w s'.heap S L es ep t → Held ks n L → (∀ b o, h0.get? b = some o → s'.heap.get? b = some o) → R (.ok (.ret .none)) s') :
    ∀ (left i : Nat) (s1 : Shared), i + left = n → St i s1 → (∀ b o, h0.get? b = some o → s1.heap.get? b = some o) → Moved (S :: wr) G s s1 → (∃ L es ep t, SetTR P w s1.heap S L es ep t ∧ Held ks i L) →
      codeAny (model P w) A (.builtin "set.update.loop" ⟨[.ref S, .ref I], []⟩) R s1 := by
  have Sw : S ∉ wr := fun m => out (W.sub _ m)
  have wider : ∀ {s2 s3 : Shared}, Moved wr G s2 s3 → Moved (S :: wr) G s2 s3 := fun m => m.mono fun b hb => List.mem_cons_of_mem _ hb
  intro left
  induction left with
  | zero =>
    intro i s1 hi hst old mv ⟨L, es, ep, t, hS, g⟩
    obtain rfl : i = n := by omega
    refine codeAny_builtin F.entry_set_update_loop ?_
    rw [Around.under_plainId F.plain_set_update_loop _]
    show wpAny _ A.in1 (pyNext (.ref I) >>= _) _ _ s1
    refine wpAny_bind (W.done s1 _ _ hst fun s2 m => ?_)
    have old2 : ∀ b o, h0.get? b = some o → s2.heap.get? b = some o := fun b o e => m.heap b o (fun z => nomatch (newW b z).symm.trans e) (old b o e)
    show wpAny _ A.in1 (ret Value.none) _ _ s2
    exact wpAny_pure (end_ s2 L es ep t (Moved.trans W.gtrans mv (wider m)) (hS.keep (fun o e => m.heap S o Sw e) fun p hp => isT_keep (tups p (g.1 p hp)) old2) g old2)
  | succ left ih =>
    intro i s1 hi hst old mv ⟨L, es, ep, t, hS, g⟩
    refine codeAny_builtin F.entry_set_update_loop ?_
    rw [Around.under_plainId F.plain_set_update_loop _]
    show wpAny _ A.in1 (pyNext (.ref I) >>= _) _ _ s1
    refine wpAny_bind (W.item i s1 _ _ (by omega) hst fun v s2 hv hst2 m => ?_)
    obtain ⟨p, hp, rfl⟩ := items i v hv
    have old2 : ∀ b o, h0.get? b = some o → s2.heap.get? b = some o := fun b o e => m.heap b o (fun z => nomatch (newW b z).symm.trans e) (old b o e)
    have hS2 : SetTR P w s2.heap S L es ep t := hS.keep (fun o e => m.heap S o Sw e) fun q hq => isT_keep (tups q (g.1 q hq)) old2
    have hx : IsT P w s2.heap p.2 p.1 := isT_keep (tups p (List.mem_of_getElem? hp)) old2
    have short : L.length ≤ 62 := few L hS.nd g.1
    show wpAny _ A.in1 (holding [Value.ref p.1] (setAdd S (.ref p.1)) >>= _) _ _ s2
    refine wpAny_bind (wpAny_holding ?_)
    unfold setAdd
    refine wpAny_holding (wpAny_bind (wpAny_pyHash_tuple room hx ?_))
    refine add_at (s := { s2 with toks := s2.toks + (p.2.length + 1) }) hS2 hx room (by omega) fun b h3 L3 es3 ep3 t3 same hS3 c1 c2 => ?_
    have old3 : ∀ b o, h0.get? b = some o → h3.get? b = some o := fun b o e => (same.2 b (fun z => by subst z; exact nomatch newS.symm.trans e)).trans (old2 b o e)
    refine wpAny_pure ⟨plainId_quiet F.plain_set_update_loop _, ih (i + 1) _ (by omega) (W.frame _ s2 _ _ hst2 (Nat.le_add_right _ _) fun b hb o e => ?_) old3 (Moved.trans W.gtrans mv ((wider m).then_heap (Nat.le_add_right _ _) fun b o hb e => ?_)) ⟨L3, es3, ep3, t3, hS3, g.add hp c1 c2⟩⟩
    · exact (same.2 b (fun z => out (z ▸ hb))).trans e
    · exact (same.2 b (fun z => hb (z ▸ List.mem_cons_self))).trans e

set_option maxHeartbeats 3200000 in
/-- set(xs), xs a list of tuples of ints of which few are unlike -/
theorem made_set {l : Addr} {items : Array Value} {ks : List (Addr × List Int)} {Q : Value → Shared → Prop} (hh : A.handled = none) (hl : s.heap.IsList l items) (hit : items.toList = ks.map fun p => Value.ref p.1)
    (tups : ∀ p ∈ ks, IsT P w s.heap p.2 p.1) (few : FewOf ks) (room : A.units + 3 < cLine)
    (q : ∀ (h1 : Heap) (tk : Nat) L es ep t, SetTR P w h1 s.heap.objs.size L es ep t → Held ks ks.length L → (∀ b o, s.heap.get? b = some o → h1.get? b = some o) → Q (.ref s.heap.objs.size) { s with heap := h1, toks := tk }) :
    wpAny (model P w) A (call (.type "set") [.ref l]) Q E s := by
  have count : items.size = ks.length := by
    rw [← Array.length_toList, hit, List.length_map]
  have old : ∀ {b : Addr}, s.heap.objs.size ≤ b → s.heap.get? b = none := fun {b} hb => by
    cases e : s.heap.get? b with
    | none => rfl
    | some o => exact absurd (Nat.lt_of_lt_of_le (Heap.lt_size e) hb) (Nat.lt_irrefl _)
  obtain ⟨c, tl, hmro⟩ := F.called_set.mro
  have m1 := F.called_set.made
  have m2 := F.called_set.sub
  have m3 := F.called_set.notType
  have m4 := F.called_set.canCreate
  have m5 := F.typeCall_set_1 (.ref l)
  refine wpAny_call (codeAny_of_tree (show wpAny _ _ (callAny (.type "set") _) _ _ _ from wpAny_pure ⟨Code.quiet_builtin _ (by decide +kernel), codeAny_builtin F.entry_type_call ?_⟩))
  rw [Around.under_plain (weight_type_call_type "set" [.ref l] []) rfl]
  repeat any_goals first | assumption | wp_step
  refine codeAny_mono (code_set_led1 (.ref l) (E := E) (Q₁ := fun u s1 => u = .ref s.heap.objs.size ∧ s1 = { s with heap := s.heap.push (voidSet w) }) ⟨rfl, rfl⟩) fun r s1 hr => ?_
  cases r with
  | error e => exact hr
  | ok fl =>
  cases fl with
  | ret u =>
    obtain ⟨rfl, rfl⟩ := hr
    have hS : (s.heap.push (voidSet w)).get? s.heap.objs.size = some (voidSet w) := Heap.get?_push_size _ rfl
    have hT : Shared.TypeIs { s with heap := s.heap.push (voidSet w) } (.ref s.heap.objs.size) "set" := ⟨_, hS, rfl⟩
    have m6 := F.called_set.init.lookup
    have m7 := F.called_set.init.bind (.ref s.heap.objs.size)
    repeat any_goals first | assumption | wp_step
    refine codeAny_mono (codeAny_call_builtin (R := wants (fun r s2 => r = .none ∧ ∃ h1 tk L es ep t, s2 = { s with heap := h1, toks := tk } ∧ SetTR P w h1 s.heap.objs.size L es ep t ∧ Held ks ks.length L ∧ ∀ b o, s.heap.get? b = some o → h1.get? b = some o) E)
      F.called_set.init.plain F.entry_set_init (check_set_init_1 hT ?_)) fun r2 s2 hr2 => ?_
    · have hl1 : (s.heap.push (voidSet w)).IsList l items := hl.push _
      obtain ⟨⟨c1, d1, t1, z1⟩, g1, rfl, n1, rfl⟩ := id hl1
      have k1 := F.sub_list_set
      have k2 := F.sub_list_frozenset
      have k3 : (Value.type "list" == Value.type "dict") = false := by decide
      unfold Builtin.«set.__init__» noKeywords Builtin.Frozenset.updateFrom
      generalize eIt : pyIter = It
      wp_walk
      subst eIt
      refine wpAny_pyIter_list hl1 (wpAny_bind (wpAny_runValue ?_))
      have lS : l ≠ s.heap.objs.size := fun z => by
        obtain ⟨o, ho, _⟩ := hl
        exact absurd (z ▸ Heap.lt_size ho) (Nat.lt_irrefl _)
      have sz : (s.heap.push (voidSet w)).objs.size = s.heap.objs.size + 1 := Heap.size_push ..
      have lI : l ≠ (s.heap.push (voidSet w)).objs.size := fun z => by
        obtain ⟨o, ho, _⟩ := hl
        rw [sz] at z
        exact absurd (Nat.lt_succ_of_lt (z ▸ Heap.lt_size ho)) (Nat.lt_irrefl _)
      refine adds (S := s.heap.objs.size) (h0 := s.heap) ((Walks.list (by simp [hh]) _ l lI items).toS) (fun m => ?_) count few (fun i v hv => ?_) tups (old (Nat.le_refl _)) (fun b hb => old ?_) room (fun s3 L es ep t mv hS3 g keep => ?_) items.size 0 _ (Nat.zero_add _)
        ⟨⟨_, Heap.get?_push_size _ rfl, rfl, rfl⟩, hl1.push _⟩ (fun b o e => Heap.get?_push_of_some _ (Heap.get?_push_of_some _ e)) (Moved.refl fun _ => rfl) ⟨[], #[], 0, _, setTR_fresh (Heap.get?_push_of_some _ hS), Held.zero ks⟩
      · rw [sz] at m
        rcases List.mem_cons.mp m with z | m
        · exact absurd z (Nat.ne_of_lt (Nat.lt_succ_self _))
        · exact lS (List.mem_singleton.mp m).symm
      · have z : items.toList[i]? = some v := by rw [Array.getElem?_toList]; exact hv
        rw [hit, List.getElem?_map] at z
        obtain ⟨p, hp, e⟩ := Option.map_eq_some_iff.mp z
        exact ⟨p, hp, e.symm⟩
      · rw [List.mem_singleton.mp hb, sz]
        exact Nat.le_succ _
      · obtain ⟨h3, g3, d3, k3', o3⟩ := s3
        obtain rfl : g3 = s.gens := mv.gens
        obtain rfl : d3 = s.drawn := mv.drawn
        obtain rfl : o3 = s.os := mv.os
        show wpAny _ _ _ _ _ _
        refine wpAny_pure (show wpAny _ _ (ret Value.none) _ _ _ from wpAny_pure ⟨rfl, h3, k3', L, es, ep, t, rfl, hS3, ?_, keep⟩)
        rw [← count]
        exact g
    · cases r2 with
      | error e => exact hr2
      | ok fl2 =>
      cases fl2 with
      | ret u =>
        obtain ⟨rfl, h1, tk, L, es, ep, t, rfl, hS1, g, keep⟩ := hr2
        repeat any_goals first | assumption | wp_step
        exact q _ _ _ _ _ _ hS1 g keep
      | _ => exact hr2.elim
  | _ => exact hr.elim
end
section
variable {X : Cx}
/-- set(xs), xs a list of tuples of ints, of which few are unlike -/
def rSetFew (K : PySem.W.Frag) (P : Program) (w : World) : List V → Hp → VK → Prop := fun xs H Q => ∃ (l : Addr) (ks : List (Addr × List Int)), xs = [V.ref l] ∧ SqL K H l (ks.map fun p => V.ref p.1) ∧ (∀ p ∈ ks, SqT K H p.1 (p.2.map V.int)) ∧ FewOf ks ∧
  ∀ a L, H a = none → (∀ p ∈ L, p ∈ ks) → (∀ p ∈ ks, p.2 ∈ L.map (·.2)) → Q (.ref a) (upd H a (SetTO P w a L))
theorem cr_setFew (hc : X.calm = true) (hu : X.A.units + 64 < cLine) : CallR X (.type "set") (rSetFew X.K X.prog X.w) := by
  intro pins s σ H xs us Q I r h
  obtain ⟨l, ks, rfl, hl, hk, hf, q⟩ := h
  rw [Vals.ref1 r]
  obtain ⟨its, rv, pl, hz⟩ := I.list hl
  have hn : H s.heap.objs.size = none := I.hok.fresh (Nat.le_refl _)
  refine made_set (P := X.prog) (w := X.w) (ks := ks) (I.ok.hd hc) pl.isList (by simpa using refs_of_vals rv) (fun p hp => I.isT (hk p hp)) hf (by omega) fun h1 tk L es ep t R g k => ⟨.ref s.heap.objs.size, upd H s.heap.objs.size (SetTO X.prog X.w s.heap.objs.size L), ?_, rfl, ?_⟩
  · exact I.laid (t' := tk) k (Nat.le_refl _) (setTO_new R.t0)
  · refine q _ L hn g.1 fun p hp => ?_
    obtain ⟨j, hj, e⟩ := List.getElem_of_mem hp
    exact g.2 j p hj (by rw [List.getElem?_eq_getElem hj, e])
end
end L2

set_option Elab.async false
set_option linter.all false
set_option maxRecDepth 100000
set_option maxHeartbeats 4000000
namespace Lt
open PySem PySem.Spec PyProof.Rows L2
/-- a series of terms, the next one by commutators with M of the last -/
structure SerM (M : List (List Nat) → List (List Nat)) (n : Nat) (T0 : List (List Nat)) (Ts : List (List (List Nat))) : Prop where
  head : Ts[0]? = some T0
  step : ∀ i A B, Ts[i]? = some A → Ts[i + 1]? = some B → Nx (M A) n A B ∧ B.length ≠ A.length
  stop : ∀ i A, Ts[i]? = some A → Ts[i + 1]? = none → ∃ B, Nx (M A) n A B ∧ B.length = A.length
/-- what the terms are built with: all turns, or the term's -/
def Mb (b : Bool) (T0 A : List (List Nat)) : List (List Nat) := if b = true then T0 else A
/-- known turns in a list, known by name -/
def LV (H : Hp) (v : V) (ts : List (List Nat)) : Prop := ∃ a, v = .ref a ∧ LF H a ts
theorem LV.same {H H' : Hp} {v : V} {ts : List (List Nat)} (e : Same H H') (h : LV H v ts) : LV H' v ts := let ⟨a, e1, h1⟩ := h; ⟨a, e1, h1.same e⟩
theorem LVs.same {H H' : Hp} (e : Same H H') {xs : List V} {ts : List (List (List Nat))} (p : Paired (LV H) xs ts) : Paired (LV H') xs ts := paired_mono (fun _ _ r => r.same e) p
theorem tks_of {H : Hp} : ∀ {xs : List V} {ts : List (List Nat)}, Paired (TK H) xs ts → ∃ ks : List (Addr × List Int), xs = ks.map (fun p => V.ref p.1) ∧ ks.map (·.2) = ts.map iN ∧ ∀ p ∈ ks, ∃ t ∈ ts, p.2 = iN t ∧ TK H (.ref p.1) t
  | _, _, .nil => ⟨[], rfl, rfl, fun p h => by cases h⟩
  | _, _, .cons (a := x) (b := t) r s => by
    obtain ⟨ks, h1, h2, h3⟩ := tks_of s
    obtain ⟨a, e, ha⟩ := id r
    refine ⟨(a, iN t) :: ks, by rw [e, h1]; rfl, by rw [List.map_cons, h2]; rfl, fun p hp => ?_⟩
    rcases List.mem_cons.mp hp with z | hp
    · rw [z]
      exact ⟨t, List.mem_cons_self, rfl, a, rfl, ha⟩
    · obtain ⟨t', ht, z⟩ := h3 p hp
      exact ⟨t', List.mem_cons_of_mem _ ht, z⟩
theorem toN_iN (t : List Nat) : (iN t).map Int.toNat = t := by
  show (t.map Int.ofNat).map Int.toNat = t
  rw [List.map_map]
  exact (List.map_congr_left (g := id) fun _ _ => rfl).trans (List.map_id t)
/-- sorted(set(list of turns)) -/
theorem srt_set {P : Program} {w : World} {K : PySem.W.Frag} {H : Hp} {g n : Nat} {ga : Addr} {σ : L2.St} {xs : List V} {ts : List (List Nat)} {Q : List V → Hp → Prop} (hσ : σ[g]? = some (some (.ref ga))) (hga : H ga = some (.lst xs)) (p : Paired (TK H) xs ts) (hts : ∀ t ∈ ts, IsP n t) (h1 : 1 ≤ n) (h9 : n ≤ 9)
    (few : ∀ us : List (List Nat), us.Nodup → (∀ u ∈ us, u ∈ ts) → us.length ≤ 60) (q : ∀ sp H' us, Same H H' → LT H' sp us → us.Nodup → (∀ t, t ∈ us ↔ t ∈ ts) → us.length ≤ 60 → Q [.ref sp] H') :
    tCons (tCB (rSortedT K P w) (tCons (tCB (rSetFew K P w) (tCons (tVar g) tNil)) tNil)) tNil σ H Q := by
  obtain ⟨ks, e1, e2, e3⟩ := tks_of p
  have sq : ∀ p ∈ ks, SqT K H p.1 (p.2.map V.int) := fun p hp => by
    obtain ⟨t, _, e, a, ea, ha⟩ := e3 p hp
    cases ea
    rw [e, show (iN t).map V.int = nIs t from (nIs_int t).symm]
    exact SqT.of ha
  have hmk : ∀ p ∈ ks, p.2 = iN (p.2.map Int.toNat) ∧ p.2.map Int.toNat ∈ ts := fun p hp => by
    obtain ⟨t, ht, e, _⟩ := e3 p hp
    rw [e, toN_iN]
    exact ⟨rfl, ht⟩
  have ndm : ∀ L : List (Addr × List Int), (L.map (·.2)).Nodup → (∀ p ∈ L, p ∈ ks) → (L.map fun q => q.2.map Int.toNat).Nodup := fun L nd hL => by
    have e : (L.map fun q : Addr × List Int => q.2.map Int.toNat).map iN = L.map (·.2) := by
      rw [List.map_map]
      exact List.map_congr_left fun q hq => (hmk q (hL q hq)).1.symm
    rw [← e] at nd
    exact nodup_of_map nd
  refine ⟨_, hσ, ga, ks, rfl, SqL.of (by rw [hga, e1]), sq, fun L nd hL => ?_, fun a L ha hL1 hL2 => ?_⟩
  · have z := few _ (ndm L nd hL) fun u hu => by
      obtain ⟨q, hq, rfl⟩ := List.mem_map.mp hu
      exact (hmk q (hL q hq)).2
    rw [List.length_map] at z
    omega
  have s1 := same_new (o := SetTO P w a L) ha
  refine ⟨a, L, n, 9, rfl, upd_same, fun p hp => ?_, h1, fun p hp => ?_, fun L' sp pm nd h64 pw hsp => ?_⟩
  · rcases sq p (hL1 p hp) with (z | ⟨o, z⟩) | z
    · exact .inl (.inl (s1 _ _ z))
    · exact .inl (.inr ⟨o, s1 _ _ z⟩)
    · exact .inr z
  · obtain ⟨t, ht, e, _⟩ := e3 p (hL1 p hp)
    rw [e]
    exact ⟨by rw [iN_len, (hts t ht).len], bd_iN (hts t ht) h9⟩
  have s2 := same_new (o := .lst (L'.map fun q : Addr × List Int => V.ref q.1)) hsp
  have hL' : ∀ q ∈ L', q ∈ ks := fun q hq => hL1 q (pm.mem_iff.mp hq)
  refine q sp _ (L'.map fun q => q.2.map Int.toNat) (s1.trans s2) ⟨_, upd_same, ?_⟩ (ndm L' nd hL') (fun t => ⟨fun h => ?_, fun h => ?_⟩) ?_
  · refine paired_of_map fun q hq => ?_
    obtain ⟨t, _, e, z⟩ := e3 q (hL' q hq)
    rw [e, toN_iN]
    exact (z.tm (.of (s1.trans s2))).tn
  · obtain ⟨q, hq, rfl⟩ := List.mem_map.mp h
    exact (hmk q (hL' q hq)).2
  · have h1 : iN t ∈ ks.map (·.2) := by
      rw [e2]
      exact List.mem_map.mpr ⟨t, h, rfl⟩
    obtain ⟨p, hp, e⟩ := List.mem_map.mp h1
    obtain ⟨q, hq, e4⟩ := List.mem_map.mp (hL2 p hp)
    refine List.mem_map.mpr ⟨q, pm.mem_iff.mpr hq, ?_⟩
    rw [e4, e, toN_iN]
  · exact few _ (ndm L' nd hL') fun u hu => by
      obtain ⟨q, hq, rfl⟩ := List.mem_map.mp hu
      exact (hmk q (hL' q hq)).2
theorem cm_eq {n : Nat} {x y : List Nat} (hx : IsP n x) (hy : IsP n y) : prod (prod x y) (prod (inv x) (inv y)) = cm x y := by
  unfold cm
  rw [inv_prod hy hx]
end Lt

set_option Elab.async false
set_option linter.all false
set_option maxHeartbeats 1000000
/-! the number of turns of a lock divides that of all permutations; one series -/
namespace Lt
/-- all orders of the first k of l -/
def perms : Nat → List Nat → List (List Nat)
  | 0, _ => [[]]
  | k + 1, l => l.flatMap fun a => (perms k (l.erase a)).map (a :: ·)
def fac : Nat → Nat
  | 0 => 1
  | k + 1 => (k + 1) * fac k
theorem flat_len {α β : Type} {f : α → List β} {m : Nat} : ∀ (l : List α), (∀ a ∈ l, (f a).length = m) → (l.flatMap f).length = l.length * m
  | [], _ => by simp
  | a :: l, h => by
    rw [List.flatMap_cons, List.length_append, h a List.mem_cons_self, flat_len l fun b hb => h b (List.mem_cons_of_mem _ hb), List.length_cons, Nat.succ_mul, Nat.add_comm]
theorem perms_len : ∀ (k : Nat) (l : List Nat), l.length = k → (perms k l).length = fac k
  | 0, _, _ => rfl
  | k + 1, l, h => by
    show (l.flatMap _).length = _
    rw [flat_len (m := fac k) l fun a ha => by rw [List.length_map, perms_len k _ (by rw [List.length_erase_of_mem ha, h]; rfl)], h]
    rfl
theorem perms_mem : ∀ (k : Nat) (l t : List Nat), l.length = k → (t ∈ perms k l ↔ t.Perm l)
  | 0, l, t, h => by
    have e : l = [] := List.length_eq_zero_iff.mp h
    subst e
    show t ∈ [[]] ↔ _
    rw [List.mem_singleton]
    exact List.perm_nil.symm
  | k + 1, l, t, h => by
    show t ∈ l.flatMap _ ↔ _
    rw [List.mem_flatMap]
    constructor
    · rintro ⟨a, ha, ht⟩
      obtain ⟨u, hu, rfl⟩ := List.mem_map.mp ht
      have hu := (perms_mem k (l.erase a) u (by rw [List.length_erase_of_mem ha, h]; rfl)).mp hu
      exact (hu.cons a).trans (List.perm_cons_erase ha).symm
    · intro p
      cases t with
      | nil =>
        have z := p.length_eq
        rw [h] at z
        cases z
      | cons a u =>
        obtain ⟨ha, hu⟩ := List.cons_perm_iff_perm_erase.mp p
        exact ⟨a, ha, List.mem_map.mpr ⟨u, (perms_mem k (l.erase a) u (by rw [List.length_erase_of_mem ha, h]; rfl)).mpr hu, rfl⟩⟩
theorem perms_nd : ∀ (k : Nat) (l : List Nat), l.Nodup → (perms k l).Nodup
  | 0, _, _ => List.pairwise_singleton _ _
  | k + 1, l, h => by
    refine List.pairwise_flatMap.mpr ⟨fun a _ => List.pairwise_map.mpr ((perms_nd k _ (h.erase a)).imp fun hne e => hne (by injection e)), h.imp fun {a b} hne x hx y hy e => ?_⟩
    obtain ⟨u, _, rfl⟩ := List.mem_map.mp hx
    obtain ⟨v, _, rfl⟩ := List.mem_map.mp hy
    injection e with e1 e2
    exact hne e1
/-- a closed part divides what it acts on -/
theorem lag {n : Nat} {H : List (List Nat)} (nd : H.Nodup) (hP : ∀ h ∈ H, IsP n h) (hi : ∀ a ∈ H, ∀ b ∈ H, prod (inv a) b ∈ H) (hs : List.range n ∈ H) (hpr : ∀ a ∈ H, ∀ b ∈ H, prod a b ∈ H) :
    ∀ (m : Nat) (U : List (List Nat)), U.length = m → U.Nodup → (∀ u ∈ U, IsP n u) → (∀ h ∈ H, ∀ u ∈ U, prod h u ∈ U) → H.length ∣ U.length := by
  intro m
  induction m using Nat.strongRecOn with
  | _ m ih =>
    intro U hm ndU uP cl
    cases U with
    | nil => exact Nat.dvd_zero _
    | cons u V =>
      have hu : u ∈ u :: V := List.mem_cons_self
      have iu := uP u hu
      -- the coset
      have ndC : (H.map fun h => prod h u).Nodup := List.pairwise_map.mpr (List.Pairwise.imp_of_mem (fun {a b} ha hb hne e => hne (by
        have e2 : prod (prod a u) (inv u) = prod (prod b u) (inv u) := congrArg (fun x => prod x (inv u)) e
        rw [pas _ (hP a ha) iu, pas _ (hP b hb) iu, prod_inv_r iu, prod_still_r (hP a ha).lt, prod_still_r (hP b hb).lt] at e2
        exact e2)) nd)
      have subC : ∀ x ∈ H.map fun h => prod h u, x ∈ u :: V := fun x hx => by
        obtain ⟨h, hh, rfl⟩ := List.mem_map.mp hx
        exact cl h hh u hu
      generalize hC : (H.map fun h => prod h u) = C at ndC subC
      have lC : C.length = H.length := by rw [← hC, List.length_map]
      have pm : (u :: V).Perm (C ++ (u :: V).filter fun x => decide (x ∉ C)) := by
        refine (List.perm_ext_iff_of_nodup ndU (List.nodup_append.mpr ⟨ndC, ndU.filter _, fun a ha b hb e => ?_⟩)).mpr fun x => ⟨fun hx => ?_, fun hx => ?_⟩
        · subst e
          exact of_decide_eq_true (List.mem_filter.mp hb).2 ha
        · by_cases c : x ∈ C
          · exact List.mem_append.mpr (.inl c)
          · exact List.mem_append.mpr (.inr (List.mem_filter.mpr ⟨hx, decide_eq_true c⟩))
        · rcases List.mem_append.mp hx with z | z
          · exact subC x z
          · exact (List.mem_filter.mp z).1
      have pl := pm.length_eq
      rw [List.length_append, lC] at pl
      have h1 : 1 ≤ H.length := List.length_pos_of_mem hs
      have z := ih ((u :: V).filter fun x => decide (x ∉ C)).length (by omega) _ rfl (ndU.filter _) (fun x hx => uP x (List.mem_filter.mp hx).1) (fun h hh x hx => by
        obtain ⟨h3, h4⟩ := List.mem_filter.mp hx
        refine List.mem_filter.mpr ⟨cl h hh x h3, decide_eq_true fun hc => of_decide_eq_true h4 ?_⟩
        rw [← hC] at hc ⊢
        obtain ⟨g, hg, e⟩ := List.mem_map.mp hc
        refine List.mem_map.mpr ⟨prod (inv h) g, hi h hh g hg, ?_⟩
        have e : prod g u = prod h x := e
        show prod (prod (inv h) g) u = x
        rw [pas _ (hP h hh).inv (hP g hg), e, pc1 (hP h hh) (uP x h3)])
      rw [pl]
      exact Nat.dvd_add (Nat.dvd_refl _) z
theorem order_dvd {ls : List (List Nat)} {n m : Nat} {T0 : List (List Nat)} (hls : ∀ g ∈ ls, IsP n g) (hf : Few ls n m) (nd : T0.Nodup) (hT : ∀ t, t ∈ T0 ↔ Mk ls n t) : T0.length ∣ fac n := by
  have hl : (List.range n).length = n := List.length_range
  have z := lag (n := n) nd (fun h hh => ((hT h).mp hh).isP hls) (fun a ha b hb => (hT _).mpr ((((hT a).mp ha).inv hls hf).prod hls ((hT b).mp hb))) ((hT _).mpr .still) (fun a ha b hb => (hT _).mpr (((hT a).mp ha).prod hls ((hT b).mp hb)))
    _ (perms n (List.range n)) rfl (perms_nd n _ List.nodup_range) (fun u hu => (perms_mem n _ u hl).mp hu) (fun h hh u hu => (perms_mem n _ _ hl).mpr ((((hT h).mp hh).isP hls).prod ((perms_mem n _ u hl).mp hu)))
  rw [perms_len n _ hl] at z
  exact z
theorem fac_dvd {n : Nat} (h : n ≤ 9) : fac n ∣ 362880 := by
  have : n = 0 ∨ n = 1 ∨ n = 2 ∨ n = 3 ∨ n = 4 ∨ n = 5 ∨ n = 6 ∨ n = 7 ∨ n = 8 ∨ n = 9 := by omega
  rcases this with e | e | e | e | e | e | e | e | e | e <;> subst e <;> decide +kernel
/-! ### there is one series -/
theorem ser_one {M : List (List Nat) → List (List Nat)} {n : Nat} (hn : n ≤ 9) {T0 : List (List Nat)} {I : List (List Nat) → Prop} (hI : ∀ A, I A → ∀ b ∈ brk A (M A), IsP n b) (h0 : I T0) (hs : ∀ A B, I A → Nx (M A) n A B → I B) {Ts Us : List (List (List Nat))}
    (a : SerM M n T0 Ts) (b : SerM M n T0 Us) : Ts = Us := by
  have key : ∀ i : Nat, Ts[i]? = Us[i]? ∧ ∀ A, Ts[i]? = some A → I A := fun i => by
    induction i with
    | zero =>
      refine ⟨a.head.trans b.head.symm, fun A e => ?_⟩
      rw [a.head] at e
      rw [← Option.some.inj e]
      exact h0
    | succ i ih =>
      obtain ⟨e, hi⟩ := ih
      cases e1 : Ts[i]? with
      | none =>
        have n1 := List.getElem?_eq_none_iff.mp e1
        rw [e1] at e
        have n2 := List.getElem?_eq_none_iff.mp e.symm
        rw [List.getElem?_eq_none (by omega), List.getElem?_eq_none (by omega)]
        exact ⟨rfl, fun A e => by cases e⟩
      | some A =>
        have e2 : Us[i]? = some A := by rw [← e, e1]
        have iA := hi A e1
        have one : ∀ {B C}, Nx (M A) n A B → Nx (M A) n A C → B = C := fun h1 h2 => h1.one hn (hI A iA) h2
        cases t1 : Ts[i + 1]? with
        | none =>
          obtain ⟨B, nB, lB⟩ := a.stop i A e1 t1
          cases t2 : Us[i + 1]? with
          | none => exact ⟨rfl, fun A e => by cases e⟩
          | some C =>
            obtain ⟨nC, lC⟩ := b.step i A C e2 t2
            rw [one nB nC] at lB
            exact absurd lB lC
        | some B =>
          obtain ⟨nB, lB⟩ := a.step i A B e1 t1
          cases t2 : Us[i + 1]? with
          | none =>
            obtain ⟨C, nC, lC⟩ := b.stop i A e2 t2
            rw [one nB nC] at lB
            exact absurd lC lB
          | some C =>
            obtain ⟨nC, lC⟩ := b.step i A C e2 t2
            rw [one nB nC]
            refine ⟨rfl, fun A' e => ?_⟩
            rw [← Option.some.inj e]
            exact hs A C iA nC
  exact List.ext_getElem? fun i => (key i).1
section
variable {ls T0 : List (List Nat)} {n m : Nat} (hls : ∀ g ∈ ls, IsP n g) (hf : Few ls n m) (hT : ∀ t, t ∈ T0 ↔ Mk ls n t)
include hls hf hT
theorem mbP {b : Bool} {A : List (List Nat)} (At : Tm1 ls (Mb b T0 A) n A) : ∀ g ∈ Mb b T0 A, IsP n g := by
  cases b
  · exact fun t ht => (At.sub t ht).isP hls
  · exact fun t ht => ((hT t).mp ht).isP hls
theorem tm_next {b : Bool} {A B : List (List Nat)} (At : Tm1 ls (Mb b T0 A) n A) (h : Nx (Mb b T0 A) n A B) : Tm1 ls (Mb b T0 B) n B := by
  obtain ⟨Bt, Bs⟩ := At.next hls (mbP hls hf hT At) h
  refine ⟨Bt.sub, Bt.still, Bt.pr, fun t ht g hg => Bt.cm t ht g ?_⟩
  cases b
  · exact Bs g hg
  · exact hg
theorem tm_first (b : Bool) : Tm1 ls (Mb b T0 T0) n T0 := by
  cases b
  · exact (Tm1.whole hls hf hT).self hls hf hT
  · exact (Tm1.whole hls hf hT).self hls hf hT
theorem serM_one (hn : n ≤ 9) {b : Bool} {Ts Us : List (List (List Nat))} (h1 : SerM (Mb b T0) n T0 Ts) (h2 : SerM (Mb b T0) n T0 Us) : Ts = Us :=
  ser_one hn (I := fun A => Tm1 ls (Mb b T0 A) n A) (fun A At b hb => by
    obtain ⟨x, hx, y, hy, rfl⟩ := brk_mem.mp hb
    exact ((At.sub x hx).isP hls).cm (mbP hls hf hT At y hy)) (tm_first hls hf hT b) (fun A B At h => tm_next hls hf hT At h) h1 h2
theorem serM_lower {Ts : List (List (List Nat))} (h : Ser ls n T0 Ts) : SerM (Mb true T0) n T0 Ts := by
  have inv : ∀ (i : Nat) A, Ts[i]? = some A → Tm1 ls ls n A := fun i => by
    induction i with
    | zero =>
      intro A e
      rw [h.head] at e
      rw [← Option.some.inj e]
      exact Tm1.whole hls hf hT
    | succ i ih =>
      intro B e
      have l := (List.getElem?_eq_some_iff.mp e).1
      have e1 : Ts[i]? = some (Ts[i]'(by omega)) := List.getElem?_eq_getElem _
      exact ((ih _ e1).next hls hls (h.step i _ B e1 e).1).1
  exact ⟨h.head, fun i A B h1 h2 => ⟨(Nx.whole hls hf hT (inv i A h1)).mp (h.step i A B h1 h2).1, (h.step i A B h1 h2).2⟩, fun i A h1 h2 => let ⟨B, x, y⟩ := h.stop i A h1 h2; ⟨B, (Nx.whole hls hf hT (inv i A h1)).mp x, y⟩⟩
end
theorem serM_derived {n : Nat} {T0 : List (List Nat)} {Ts : List (List (List Nat))} (h : SerD n T0 Ts) : SerM (Mb false T0) n T0 Ts := ⟨h.head, h.step, h.stop⟩
/-- a commutator is still where both orders are alike -/
theorem cm_still_iff {n : Nat} {x y : List Nat} (hx : IsP n x) (hy : IsP n y) : cm x y = List.range n ↔ prod x y = prod y x := by
  unfold cm
  constructor
  · intro e
    have e2 : prod (prod (prod x y) (inv (prod y x))) (prod y x) = prod (List.range n) (prod y x) := congrArg (fun z => prod z (prod y x)) e
    rw [pas _ (hx.prod hy) (hy.prod hx).inv, prod_inv_l (hy.prod hx), prod_still_r (hx.prod hy).lt, prod_still_l (hy.prod hx).len] at e2
    exact e2
  · intro e
    rw [e]
    exact prod_inv_r (hy.prod hx)
end Lt

set_option Elab.async false
set_option linter.all false
set_option maxHeartbeats 1000000
/-! the upper central series; what fades, and what lasts -/
namespace Lt
section
variable {n : Nat}
theorem cm_prod_l {a b g : List Nat} (ha : IsP n a) (hb : IsP n b) (hg : IsP n g) : cm (prod a b) g = prod (prod (prod a (cm b g)) (inv a)) (cm a g) := by
  have A : ∀ x y z, IsP n x → IsP n y → prod (prod x y) z = prod x (prod y z) := fun x y z a b => pas z a b
  have I : ∀ x y, IsP n x → IsP n y → inv (prod x y) = prod (inv y) (inv x) := fun x y a b => inv_prod a b
  have C1 : ∀ x z, IsP n x → IsP n z → prod (inv x) (prod x z) = z := fun x z a b => pc1 a b
  have C2 : ∀ x z, IsP n x → IsP n z → prod x (prod (inv x) z) = z := fun x z a b => pc2 a b
  have Pr : ∀ x y, IsP n x → IsP n y → IsP n (prod x y) := fun x y a b => a.prod b
  have V : ∀ x, IsP n x → IsP n (inv x) := fun x a => a.inv
  unfold cm
  simp (maxDischargeDepth := 30) only [A, I, C1, C2, Pr, V, ha, hb, hg]
theorem cm_inv_l {a g : List Nat} (ha : IsP n a) (hg : IsP n g) : cm (inv a) g = prod (prod (inv a) (inv (cm a g))) a := by
  have A : ∀ x y z, IsP n x → IsP n y → prod (prod x y) z = prod x (prod y z) := fun x y z a b => pas z a b
  have I : ∀ x y, IsP n x → IsP n y → inv (prod x y) = prod (inv y) (inv x) := fun x y a b => inv_prod a b
  have I2 : ∀ x, IsP n x → inv (inv x) = x := fun x a => inv_inv a
  have C1 : ∀ x z, IsP n x → IsP n z → prod (inv x) (prod x z) = z := fun x z a b => pc1 a b
  have C2 : ∀ x z, IsP n x → IsP n z → prod x (prod (inv x) z) = z := fun x z a b => pc2 a b
  have C3 : ∀ x, IsP n x → prod (inv x) x = List.range n := fun x a => prod_inv_l a
  have S : ∀ x, IsP n x → prod x (List.range n) = x := fun x a => prod_still_r a.lt
  have Pr : ∀ x y, IsP n x → IsP n y → IsP n (prod x y) := fun x y a b => a.prod b
  have V : ∀ x, IsP n x → IsP n (inv x) := fun x a => a.inv
  unfold cm
  simp (maxDischargeDepth := 30) only [A, I, I2, C1, C2, C3, S, Pr, V, ha, hg]
theorem cm_still_l {g : List Nat} (hg : IsP n g) : cm (List.range n) g = List.range n := by
  unfold cm
  rw [prod_still_l hg.len, prod_still_r hg.lt, prod_inv_r hg]
end
/-- the terms of the upper central series -/
def Zk (ls T0 : List (List Nat)) (n : Nat) : Nat → List (List Nat)
  | 0 => [List.range n]
  | k + 1 => ledTo ls (Zk ls T0 n k) T0
theorem led_mem {ls ks ts : List (List Nat)} {t : List Nat} : t ∈ ledTo ls ks ts ↔ t ∈ ts ∧ ∀ g ∈ ls, cm t g ∈ ks := by
  unfold ledTo
  rw [List.mem_filter, List.all_eq_true]
  exact and_congr_right fun _ => ⟨fun h g hg => of_decide_eq_true (h g hg), fun h g hg => decide_eq_true (h g hg)⟩
section
variable {ls T0 : List (List Nat)} {n m : Nat} (hls : ∀ g ∈ ls, IsP n g) (hf : Few ls n m) (hT : ∀ t, t ∈ T0 ↔ Mk ls n t)
include hls hT
theorem zk_sub : ∀ k, ∀ t ∈ Zk ls T0 n k, t ∈ T0
  | 0, t, h => by
    rw [List.mem_singleton.mp h]
    exact (hT _).mpr .still
  | k + 1, t, h => (led_mem.mp h).1
theorem zk_up : ∀ k, ∀ t ∈ Zk ls T0 n k, t ∈ Zk ls T0 n (k + 1)
  | 0, t, h => by
    rw [List.mem_singleton.mp h]
    refine led_mem.mpr ⟨(hT _).mpr .still, fun g hg => ?_⟩
    rw [cm_still_l (hls g hg)]
    exact List.mem_singleton.mpr rfl
  | k + 1, t, h => by
    obtain ⟨h1, h2⟩ := led_mem.mp h
    exact led_mem.mpr ⟨h1, fun g hg => zk_up k _ (h2 g hg)⟩
theorem zk_nd (nd : T0.Nodup) : ∀ k, (Zk ls T0 n k).Nodup
  | 0 => List.pairwise_singleton _ _
  | k + 1 => nd.filter _
include hf
/-- each of them is closed, and kept by all turns -/
theorem zk_closed : ∀ k, (∀ a ∈ Zk ls T0 n k, ∀ b ∈ Zk ls T0 n k, prod a b ∈ Zk ls T0 n k) ∧ (∀ a ∈ Zk ls T0 n k, inv a ∈ Zk ls T0 n k) ∧ (∀ a ∈ Zk ls T0 n k, ∀ y, Mk ls n y → prod (prod y a) (inv y) ∈ Zk ls T0 n k)
  | 0 => by
    have s : List.range n ∈ Zk ls T0 n 0 := List.mem_singleton.mpr rfl
    refine ⟨fun a ha b hb => ?_, fun a ha => ?_, fun a ha y hy => ?_⟩
    · rw [List.mem_singleton.mp ha, List.mem_singleton.mp hb, prod_still_l List.length_range]
      exact s
    · rw [List.mem_singleton.mp ha, ← inv_unique (IsP.still n) (IsP.still n) (prod_still_l List.length_range)]
      exact s
    · have hP := hy.isP hls
      rw [List.mem_singleton.mp ha, prod_still_r hP.lt, prod_inv_r hP]
      exact s
  | k + 1 => by
    obtain ⟨c1, c2, c3⟩ := zk_closed k
    have P : ∀ t ∈ T0, IsP n t := fun t ht => ((hT t).mp ht).isP hls
    have zP : ∀ t ∈ Zk ls T0 n k, IsP n t := fun t ht => P t (zk_sub hls hT k t ht)
    -- any turn
    have any : ∀ a ∈ Zk ls T0 n (k + 1), ∀ y, Mk ls n y → cm a y ∈ Zk ls T0 n k := fun a ha y hy => by
      obtain ⟨h1, h2⟩ := led_mem.mp ha
      induction hy with
      | still =>
        rw [cm_still (P a h1)]
        have : ∀ j, List.range n ∈ Zk ls T0 n j := fun j => by
          induction j with
          | zero => exact List.mem_singleton.mpr rfl
          | succ j ih => exact zk_up hls hT j _ ih
        exact this k
      | @step y g hy hg ih =>
        rw [cm_step (P a h1) (hy.isP hls) (hls g hg)]
        exact c1 _ ih _ (c3 _ (h2 g hg) y hy)
    have pr : ∀ a ∈ Zk ls T0 n (k + 1), ∀ b ∈ Zk ls T0 n (k + 1), prod a b ∈ Zk ls T0 n (k + 1) := fun a ha b hb => by
      obtain ⟨h1, h2⟩ := led_mem.mp ha
      obtain ⟨h3, h4⟩ := led_mem.mp hb
      have ma := (hT a).mp h1
      refine led_mem.mpr ⟨(hT _).mpr (ma.prod hls ((hT b).mp h3)), fun g hg => ?_⟩
      rw [cm_prod_l (P a h1) (P b h3) (hls g hg)]
      exact c1 _ (c3 _ (h4 g hg) a ma) _ (h2 g hg)
    refine ⟨pr, fun a ha => ?_, fun a ha y hy => ?_⟩
    · obtain ⟨h1, h2⟩ := led_mem.mp ha
      have ma := (hT a).mp h1
      refine led_mem.mpr ⟨(hT _).mpr (ma.inv hls hf), fun g hg => ?_⟩
      rw [cm_inv_l (P a h1) (hls g hg)]
      have z := c3 _ (c2 _ (h2 g hg)) (inv a) (ma.inv hls hf)
      rw [inv_inv (P a h1)] at z
      exact z
    · have h1 := (led_mem.mp ha).1
      rw [cm_flip (P a h1) (hy.isP hls)]
      exact pr _ (zk_up hls hT k _ (c2 _ (any a ha y hy))) _ ha
/-- if all fade, the lower series dies -/
theorem dies_of {Ts : List (List (List Nat))} {A : List (List Nat)} (hser : Ser ls n T0 Ts) (hA : Ts.getLast? = some A) {k : Nat} (hk : ∀ t ∈ T0, t ∈ Zk ls T0 n k) : A.length = 1 := by
  have hM := serM_lower hls hf hT hser
  have hne : Ts ≠ [] := fun e => by
    subst e
    cases hA
  have hlast : Ts[Ts.length - 1]? = some A := by rw [← List.getLast?_eq_getElem?]; exact hA
  have hp : 0 < Ts.length := List.length_pos_iff.mpr hne
  obtain ⟨B, nB, lB⟩ := hM.stop (Ts.length - 1) A hlast (List.getElem?_eq_none (by omega))
  obtain ⟨B2, nB2, lB2⟩ := hser.stop (Ts.length - 1) A hlast (List.getElem?_eq_none (by omega))
  -- the terms
  have inv : ∀ (i : Nat) A, Ts[i]? = some A → Tm1 ls ls n A ∧ (1 ≤ i → A.Nodup) := fun i => by
    induction i with
    | zero =>
      intro A e
      rw [hser.head] at e
      rw [← Option.some.inj e]
      exact ⟨Tm1.whole hls hf hT, fun h => absurd h (by omega)⟩
    | succ i ih =>
      intro B e
      have l := (List.getElem?_eq_some_iff.mp e).1
      have e1 : Ts[i]? = some (Ts[i]'(by omega)) := List.getElem?_eq_getElem _
      have nx := (hser.step i _ B e1 e).1
      exact ⟨((ih _ e1).1.next hls hls nx).1, fun _ => nx.nd⟩
  have At := (inv _ A hlast).1
  have bP : ∀ b ∈ brk A ls, IsP n b := fun b hb => by
    obtain ⟨x, h1, y, h2, rfl⟩ := brk_mem.mp hb
    exact ((At.sub x h1).isP hls).cm (hls y h2)
  obtain ⟨Bt, Bs⟩ := At.next hls hls nB2
  -- down
  have down : ∀ j, (∀ t ∈ B2, t ∈ Zk ls T0 n (k - j)) := fun j => by
    induction j with
    | zero => exact fun t ht => hk t ((hT t).mpr (At.sub t (Bs t ht)))
    | succ j ih =>
      by_cases hj : k - j = 0
      · rw [show k - (j + 1) = k - j by omega]
        exact ih
      · obtain ⟨i, hi⟩ : ∃ i, k - j = i + 1 := ⟨k - j - 1, by omega⟩
        rw [show k - (j + 1) = i by omega]
        rw [hi] at ih
        obtain ⟨c1, _, _⟩ := zk_closed hls hf hT i
        -- A's turns stand in B2: as many
        have AB : ∀ t ∈ A, t ∈ Zk ls T0 n (i + 1) := fun t ht => by
          refine ih t (Classical.byContradiction fun hn => ?_)
          have l := nodup_len (t :: B2) A (List.nodup_cons.mpr ⟨hn, nB2.nd⟩) fun x hx => by
            rcases List.mem_cons.mp hx with y | y
            · rw [y]
              exact ht
            · exact Bs x y
          have e1 : (t :: B2).length = B2.length + 1 := rfl
          omega
        intro t ht
        have m := (nB2.mem t).mp ht
        induction m with
        | still =>
          have : ∀ j, List.range n ∈ Zk ls T0 n j := fun j => by
            induction j with
            | zero => exact List.mem_singleton.mpr rfl
            | succ j ih => exact zk_up hls hT j _ ih
          exact this i
        | @step a b ma hb ih2 =>
          refine c1 _ (ih2 ((nB2.mem a).mpr ma)) _ ?_
          obtain ⟨x, h1, y, h2, rfl⟩ := brk_mem.mp hb
          exact (led_mem.mp (AB x h1)).2 y h2
  have h0 := down k
  rw [Nat.sub_self] at h0
  have l1 := nodup_len B2 [List.range n] nB2.nd h0
  have l2 : 1 ≤ A.length := List.length_pos_of_mem At.still
  have : ([List.range n] : List (List Nat)).length = 1 := rfl
  omega
omit hf in
/-- if the lower series dies, all fade -/
theorem fades_of {Ts : List (List (List Nat))} {A F : List (List Nat)} (hser : Ser ls n T0 Ts) (hA : Ts.getLast? = some A) (h1 : A.length = 1) (hs : List.range n ∈ A) (hF0 : List.range n ∈ F) (hF : ∀ t, Mk ls n t → (∀ g ∈ ls, cm t g ∈ F) → t ∈ F) (sub : ∀ (i : Nat) B, Ts[i]? = some B → ∀ t ∈ B, Mk ls n t) : ∀ t ∈ T0, t ∈ F := by
  have hne : Ts ≠ [] := fun e => by
    subst e
    cases hA
  have hp : 0 < Ts.length := List.length_pos_iff.mpr hne
  have hlast : Ts[Ts.length - 1]? = some A := by rw [← List.getLast?_eq_getElem?]; exact hA
  have up : ∀ (j i : Nat) B, i + j = Ts.length - 1 → Ts[i]? = some B → ∀ t ∈ B, t ∈ F := fun j => by
    induction j with
    | zero =>
      intro i B hi hB t ht
      rw [show i = Ts.length - 1 by omega, hlast] at hB
      have e := Option.some.inj hB
      subst e
      match A, h1 with
      | [x], _ =>
        rw [List.mem_singleton.mp ht, ← List.mem_singleton.mp hs]
        exact hF0
    | succ j ih =>
      intro i B hi hB t ht
      have hC : Ts[i + 1]? = some (Ts[i + 1]'(by omega)) := List.getElem?_eq_getElem _
      have nx := (hser.step i B _ hB hC).1
      have bP : ∀ b ∈ brk B ls, IsP n b := fun b hb => by
        obtain ⟨x, h1, y, h2, rfl⟩ := brk_mem.mp hb
        exact ((sub i B hB x h1).isP hls).cm (hls y h2)
      refine hF t (sub i B hB t ht) fun g hg => ih (i + 1) _ (by omega) hC _ ((nx.mem _).mpr (.one bP (brk_mem.mpr ⟨t, ht, g, hg, rfl⟩)))
  exact fun t ht => up (Ts.length - 1) 0 T0 (by omega) hser.head t ht
end
end Lt

set_option Elab.async false
set_option linter.all false
set_option maxRecDepth 100000
set_option maxHeartbeats 4000000
/-! a dict by a comprehension, its keys tuples -/
namespace L2
open PySem PySem.Spec PyProof.Rows
section
variable {X : Cx} {pins : List (Addr × Obj)} {σ : St} {H : Hp} {s : Shared}
theorem put_tup {E : Value → Shared → Prop} {D b : Addr} {m : List (List Key × V)} {k : List Key} {v : V} {r : Value} {Q : Unit → Shared → Prop} (room : X.A.units + 1 < cLine) (I : Inv X pins σ H s) (hD : H D = some (.dT m)) (short : m.length < sizeLine) (hb : H b = some (.tup (k.map kV))) (rv : RelV v r)
    (q : ∀ s1, Inv X pins σ (upd H D (.dT (putK m k v))) s1 → Q () s1) : wpAny (model X.prog X.w) X.A (dictSet D (.ref b) r) Q E s := by
  obtain ⟨z, own, xs, rel, dd⟩ := dt_of I.hok hD
  have lx : xs.length = m.length := (Paired.length rel).symm
  have lp := length_putK m k v
  refine wpAny_dictSet_heap (hsz := by omega) (show X.A.units < cLine by omega) (key_of I.hok hb) dd fun h1 ⟨ob, es, ep, o1, o2, o3, o4, _, o5⟩ same => q _ ?_
  refine d_write I (by rw [hD]; exact True.intro) same ⟨ob, o1⟩ ⟨by omega, own, _, (rel.put k hb rv).keeps fun c ys e => ?_, ob, es, ep, o1, o2, o3, o4, o5⟩
  exact (upd_ne (ne_of e hD fun z => nomatch z)).trans e
end
section
variable {X : Cx}
abbrev voidDict : Obj := { cls := .type "dict", data := .dict #[] }
abbrev AtBlk (Pr : Shared → Hp → Addr → List (Str × Addr) → List Addr → Prop) : Prop := ∀ s H C cl fp, Pr s H C cl fp
/-- {k: v for target in iter if ..}, each k a tuple: D the new dict -/
def tDcT (wi : TI) (g : TG) (tt : TT) (tk tv : TE) (vs : List Nat) : TE := fun σ H Q => wi σ H fun J H1 => ∀ D, H1 D = none → ∃ W : Nat → Nat → Hp → Prop, (∃ m, W 0 m (upd H1 D (.dT []))) ∧ ∀ i m H2, W i m H2 →
  (J.stop i H2 ∧ Q (.ref D) H2) ∨ (J.go i H2 ∧ ∃ Nx : Hp → Prop, (∀ H3, Nx H3 → ∃ m1, m1 < m ∧ W (i + 1) m1 H3) ∧ ∀ x H3, J.yld i H2 x H3 → g x (wipe σ vs) H3 fun σ4 H4 => wipe σ4 vs = wipe σ vs ∧ tt σ4 H4 fun c H5 =>
    if c = true then tk σ4 H5 fun y H6 => tv σ4 H6 fun z H7 => ∃ kvs k b, y = .ref b ∧ H7 b = some (.tup (k.map kV)) ∧ H7 D = some (.dT kvs) ∧ kvs.length < sizeLine ∧ Nx (upd H7 D (.dT (putK kvs k z))) else Nx H5)
theorem dcT_core {pins : List (Addr × Obj)} {s : Shared} {σ : St} {H : Hp} {Q : VK} {ke ve tg it : Expr} {ifs : List Expr} {sc : Scope} {own : List (Str × Nat)} {p1 p2 : Pos} {wi : TI} {g : TG} {tt : TT} {tk tv : TE} {use : Option (Value → Sem Unit)} {R : Value → Shared → Prop}
    (room : X.A.units + 1 < cLine) (hc : X.calm = true) (hN : X.N.Nodup) (I : Inv X pins σ H s) (walk : PI X tg it wi) (ok : BlkOk X.N X.env.scope sc own)
    (hg : AtBlk fun s H C cl fp => PG (X.blk s H sc (compEnvC sc cl C X.env) fp) tg g) (ht : AtBlk fun s H C cl fp => PTs (X.blk s H sc (compEnvC sc cl C X.env) fp) ifs tt)
    (hk : AtBlk fun s H C cl fp => PE (X.blk s H sc (compEnvC sc cl C X.env) fp) ke tk) (hv : AtBlk fun s H C cl fp => PE (X.blk s H sc (compEnvC sc cl C X.env) fp) ve tv) (plain : ∀ x, foldedSetIterable it X.env x = pure x) (h : tDcT wi g tt tk tv (own.map (·.2)) σ H Q)
    (after : ∀ D C s1 m H1, Inv X pins σ H1 s1 → Q (.ref D) H1 → s1.heap.Ns C m → FpOk X pins H1 C → compPost (model X.prog X.w) X.A X.xe use R (.ref D) C (.ok .next) s1) :
    wpAny (model X.prog X.w) X.A (comprehension (.DictComp ke ve [⟨tg, it, ifs, 0⟩] sc p1) sc X.env p2 newDict false (eval it X.env) use) R X.xe s := by
  refine wpAny_comprehension_free (use := use) rfl plain (closure_ok fun y hy e => (ok.free y hy e).elim (fun z => I.ok.has _ (.inl z)) fun z => I.ok.has _ (.inr z)) ok.kind (fun y hy e => by rw [ok.uniq y hy, e])
    (thn (walk.run pins s σ H _ I h) fun _ s1 k1 => thn k1 fun _ s2 k2 => ?_)
  obtain ⟨a, fp, tn, J, H2, rfl, I2, T, at2, fine2, q⟩ := k2
  refine wpAny_newObj_type (newEnv_comp ?_)
  generalize eD : s2.heap.objs.size = D
  obtain ⟨W, ⟨m0, start⟩, turn⟩ := q D (I2.hok.fresh (Nat.le_of_eq eD))
  -- behind the new dict
  have below : ∀ b ∈ fp, b < s2.heap.objs.size := fun b hb => let ⟨_, e, _⟩ := T.obj _ _ at2 b hb; Heap.lt_size e
  generalize e3 : ({ s2 with heap := s2.heap.push voidDict } : Shared) = s3
  have heap3 : s3.heap = s2.heap.push voidDict := by rw [← e3]
  have I3 : Inv X pins σ (upd H2 D (.dT [])) s3 := by
    subst e3 eD
    exact I2.laid (t' := s2.toks) (fun _ _ e => Heap.get?_push_of_some _ e) (Nat.le_refl _) (dt_empty s2.heap I2.big)
  have at3 : tn 0 s3.heap := T.keep _ _ _ at2 fun _ _ _ e => by rw [heap3]; exact Heap.get?_push_of_some _ e
  have fine3 : ∀ b ∈ fp, FpOk X pins (upd H2 D (.dT [])) b ∧ b < s3.heap.objs.size := fun b hb => by
    have lt := below b hb
    refine ⟨⟨(upd_ne (eD ▸ Nat.ne_of_lt lt)).trans (fine2 b hb).1, (fine2 b hb).2⟩, ?_⟩
    rw [heap3, Heap.size_push]
    exact Nat.lt_succ_of_lt lt
  have I4 := block_start I3 ok hN fine3
  have pg : PG (X.blk s3 (upd H2 D (.dT [])) sc (compEnvC sc (cellsFrom (s3.heap.objs.size + 1) sc.names (cloFrom X.env.cells sc.names [])) s3.heap.objs.size X.env) fp) tg g := hg _ _ _ _ _
  have pt : PTs (X.blk s3 (upd H2 D (.dT [])) sc (compEnvC sc (cellsFrom (s3.heap.objs.size + 1) sc.names (cloFrom X.env.cells sc.names [])) s3.heap.objs.size X.env) fp) ifs tt := ht _ _ _ _ _
  have pk : PE (X.blk s3 (upd H2 D (.dT [])) sc (compEnvC sc (cellsFrom (s3.heap.objs.size + 1) sc.names (cloFrom X.env.cells sc.names [])) s3.heap.objs.size X.env) fp) ke tk := hk _ _ _ _ _
  have pv : PE (X.blk s3 (upd H2 D (.dT [])) sc (compEnvC sc (cellsFrom (s3.heap.objs.size + 1) sc.names (cloFrom X.env.cells sc.names [])) s3.heap.objs.size X.env) fp) ve tv := hv _ _ _ _ _
  show codeAny _ _ (.compStart _ 0 (.ref a) (.ref D) (compEnvC sc (cellsFrom (s3.heap.objs.size + 1) sc.names (cloFrom X.env.cells sc.names [])) s3.heap.objs.size X.env)) (compPost (model X.prog X.w) X.A X.xe use R (.ref D) s3.heap.objs.size) { s3 with heap := pushCells (s3.heap.push voidDict) sc.names }
  have clear3 : ∀ b ∈ fp, (upd H2 D (.dT [])) b = none := fun b hb => (fine3 b hb).1.1
  generalize eE : compEnvC sc (cellsFrom (s3.heap.objs.size + 1) sc.names (cloFrom X.env.cells sc.names [])) s3.heap.objs.size X.env = en at I4 pg pt pk pv ⊢
  have eL : en.locals = s3.heap.objs.size := by subst eE; rfl
  generalize upd H2 D (.dT []) = H3 at *
  generalize e4 : ({ s3 with heap := pushCells (s3.heap.push voidDict) sc.names } : Shared) = s4 at I4 ⊢
  have at4 : tn 0 s4.heap := T.keep _ _ _ at3 fun _ _ _ e => by rw [← e4]; exact pushCells_keeps _ _ _ _ (Heap.get?_push_of_some _ e)
  have still : ∀ {σ1 : St} {H1 : Hp} {s1 : Shared}, Inv (X.blk s3 H3 sc en fp) [] σ1 H1 s1 → (∀ b ∈ fp, H1 b = none) → ∀ b ∈ fp, FpOk (X.blk s3 H3 sc en fp) [] H1 b :=
    fun {_ _ _} J1 none1 b hb => ⟨none1 b hb, (J1.ok.exf b hb).1, J1.ok.exfs b hb, .inl hb, fun y c e => (J1.ok.exf b hb).2 y c e, fun p hp => absurd (show p ∈ ([] : List (Addr × Obj)) ++ [] from hp) (by simp)⟩
  let Go : Nat → Shared → Prop := fun n s1 => ∃ i H1, Inv (X.blk s3 H3 sc en fp) [] (wipe σ (own.map (·.2))) H1 s1 ∧ tn i s1.heap ∧ (∀ b ∈ fp, H1 b = none) ∧ W i n H1
  have loop : codeAny (model X.prog X.w) X.A (.compLoop (.DictComp ke ve [⟨tg, it, ifs, 0⟩] sc p1) 0 (.ref a) (.ref D) en) (compPost (model X.prog X.w) X.A X.xe use R (.ref D) s3.heap.objs.size) s4 := by
    refine compLoop_anyD Go ?_ m0 ⟨0, H3, I4, at4, clear3, start⟩
    rintro n s5 ⟨i, H5, I5, at5, clear5, w5⟩
    rcases turn i n H5 w5 with ⟨stop, done⟩ | ⟨go, Nx, less, step⟩
    · refine thnF (T.done (X.blk s3 H3 sc en fp) rfl rfl rfl hc i [] s5 _ H5 (fun _ _ => False) I5 (still I5 clear5) at5 stop) fun r s6 ⟨er, I6⟩ => ?_
      subst er
      obtain ⟨m, hn, _⟩ := I6.loc
      have free : H5 en.locals = none := I6.free
      have names : s6.heap.Ns en.locals m := hn
      rw [eL] at free names
      exact after D s3.heap.objs.size s6 m H5 (I3.call' (ch := fp) I6.os I6.base I6.hok I6.bare fun b hb => let f := (fine3 b hb).1.2.2; ⟨f.2.1, (fine3 b hb).1.2.1, f.2.2.1, f.2.2.2⟩) done names (I3.fpOk (Nat.le_refl _) free)
    · refine thnF (T.item (X.blk s3 H3 sc en fp) rfl rfl rfl hc i [] s5 _ H5 (fun _ _ => False) I5 (still I5 clear5) at5 go) fun r s6 ⟨u, er, k6⟩ => ?_
      subst er
      refine thnF k6 fun _ s7 ⟨x, H7, I7, rx, got, at7, clear7⟩ => ?_
      refine thnF (pg.run _ s7 _ H7 x u _ (I7.pinned (still I7 clear7) (T.obj _ _ at7)) rx (step x H7 got)) fun _ s8 ⟨σ8, H8, I8, same8, q8⟩ => thnF (pt.run _ s8 σ8 H8 _ I8 q8) fun c s9 ⟨H9, I9, q9⟩ => ?_
      have next : ∀ {s1 : Shared} {H1 : Hp}, Inv (X.blk s3 H3 sc en fp) ([] ++ pinsAt fp s7.heap) σ8 H1 s1 → Nx H1 → ∃ m, m < n ∧ Go m s1 := fun {s1 H1} J1 nx => by
        obtain ⟨m, lt, w⟩ := less H1 nx
        have kept : ∀ b ∈ fp, ∀ o, s7.heap.get? b = some o → s1.heap.get? b = some o ∧ H1 b = none := fun b hb o e => let z := J1.pin (b, o) (List.mem_append_right _ (List.mem_append_right _ (mem_pinsAt hb e))); ⟨z.1, z.2.1⟩
        refine ⟨m, lt, i + 1, H1, (J1.unpinned (pins := [])).weak (by rw [← same8, wipe_length]) (fun j v e => (wipe_some (same8 ▸ e)).1), T.keep _ _ _ at7 fun b hb o e => (kept b hb o e).1, fun b hb => ?_, w⟩
        obtain ⟨o, e, _⟩ := T.obj _ _ at7 b hb
        exact (kept b hb o e).2
      cases c
      · rw [if_neg Bool.false_ne_true] at q9
        rw [if_neg Bool.false_ne_true]
        exact next I9 q9
      · rw [if_pos rfl] at q9
        rw [if_pos rfl]
        refine thnF (pk.run _ s9 σ8 H9 _ I9 q9) fun _ s10 ⟨y, H10, I10, ry, q10⟩ => thnF (pv.run _ s10 σ8 H10 _ I10 q10) fun w2 s11 ⟨z, H11, I11, rz, m, k, b, ey, hb, hD, short, nx⟩ => ?_
        subst ey
        cases ry
        exact put_tup (X := X.blk s3 H3 sc en fp) room I11 hD short hb rz fun s12 I12 => next I12 nx
  exact codeAny_compStart_dict loop (T.self X.A 0 _ _ _ at4 loop)
/-- name = {..} on one line, the name a local -/
theorem ps_setDcT {i : Nat} {y : Str} {py : Pos} {ke ve tg it : Expr} {ifs : List Expr} {sc : Scope} {own : List (Str × Nat)} {p1 spos : Pos} {wi : TI} {g : TG} {tt : TT} {tk tv : TE} (room : X.A.units + 1 < cLine) (hc : X.calm = true) (hN : X.N.Nodup) (hy : X.N[i]? = some y) (loc : X.env.scope.names.lookup y = some .local)
    (sw : swapsWith (.DictComp ke ve [⟨tg, it, ifs, 0⟩] sc p1) (some (.Name y py)) spos.line X.env = pure true) (walk : PI X tg it wi) (ok : BlkOk X.N X.env.scope sc own)
    (hg : AtBlk fun s H C cl fp => PG (X.blk s H sc (compEnvC sc cl C X.env) fp) tg g) (ht : AtBlk fun s H C cl fp => PTs (X.blk s H sc (compEnvC sc cl C X.env) fp) ifs tt)
    (hk : AtBlk fun s H C cl fp => PE (X.blk s H sc (compEnvC sc cl C X.env) fp) ke tk) (hv : AtBlk fun s H C cl fp => PE (X.blk s H sc (compEnvC sc cl C X.env) fp) ve tv) (plain : ∀ x, foldedSetIterable it X.env x = pure x := by intro _; rfl) :
    PS X (.Assign [.Name y py] (.DictComp ke ve [⟨tg, it, ifs, 0⟩] sc p1) spos) (tAsg (tDcT wi g tt tk tv (own.map (·.2))) (gName i)) := by
  refine ⟨fun pins s σ H D I h => ?_⟩
  rw [exec_Assign_Name_used _ _ _ _ sw]
  refine wpAny_bind (wpAny_standAt (wpAny_bind ?_))
  show wpAny _ X.A (do let _ ← comprehension (.DictComp ke ve [⟨tg, it, ifs, 0⟩] sc p1) sc X.env (firstIterPos [⟨tg, it, ifs, 0⟩] p1) newDict false (eval it X.env) (some (assign (.Name y py) X.env))) _ _ s
  have h : tDcT wi g tt tk tv (own.map (·.2)) σ H (fun x H1 => gName i x σ H1 D.nx) := h
  refine wpAny_bind (thn (dcT_core (R := fun _ s1 => SP X pins D .next s1) room hc hN I walk ok hg ht hk hv plain h fun L C s1 m H1 I1 q names f => ?_) fun _ s1 z => wpAny_pure (wpAny_pure z))
  show wpAny _ _ (assign (.Name y py) X.env (.ref L)) _ _ _
  refine wpAny_assign_Name (store_ok2 (v := V.ref L) I1 hN hy (.inl loc) rfl (fun s2 I2 ⟨c, same, hcase⟩ => ?_) (.inr loc))
  obtain ⟨f0, f1, f2, f3, f4, f5⟩ := f
  have ne : C ≠ c := hcase.elim (fun z => z ▸ f1) fun z e => f4 y c z e.symm
  exact ⟨m, names.sameBut same ne, fun h3 same3 => ⟨_, H1, I2.turned (t' := s2.toks) (fun b o hb e => (same3.2 b hb).trans e) f0 f1 f3 f4 f5, q⟩⟩
theorem swD_true {ke ve : Expr} {gs : List Comprehension} {sc : Scope} {pos py : Pos} {y : Str} {l : Nat} {env : Env} (kind : env.scope.kind = .function) (loc : env.scope.names.lookup y = some .local) (line : (py.line == pos.line) = true)
    (other : (sc.names.any fun (n, k) => n == y && (k == .local || k == .cell)) = false) : swapsWith (.DictComp ke ve gs sc pos) (some (.Name y py)) l env = pure true := by
  have k1 : env.kindOf y = some .local := loc
  have k2 : env.blockKind = .function := by unfold Env.blockKind; rw [kind]; rfl
  unfold swapsWith
  simp only [k1, k2, other, Expr.pos, line]
  rfl
/-- over a list that the block leaves as it is -/
theorem dcT_list {K : PySem.W.Frag} {a : Addr} {xs : List V} {g : TG} {tt : TT} {tk tv : TE} {vs : List Nat} {σ : St} {H1 : Hp} {D : Addr} {Qd : Hp → Prop} (Pv : Nat → Hp → Prop) (h0 : Pv 0 (upd H1 D (.dT []))) (hl : ∀ i H, i ≤ xs.length → Pv i H → SqL K H a xs)
    (hs : ∀ i x H, xs[i]? = some x → Pv i H → g x (wipe σ vs) H fun σ2 H2 => wipe σ2 vs = wipe σ vs ∧ tt σ2 H2 fun c H3 =>
      if c = true then tk σ2 H3 fun y H4 => tv σ2 H4 fun z H5 => ∃ kvs k b, y = .ref b ∧ H5 b = some (.tup (k.map kV)) ∧ H5 D = some (.dT kvs) ∧ kvs.length < sizeLine ∧ Pv (i + 1) (upd H5 D (.dT (putK kvs k z))) else Pv (i + 1) H3) (hd : ∀ H, Pv xs.length H → Qd H) :
    ∃ W : Nat → Nat → Hp → Prop, (∃ m, W 0 m (upd H1 D (.dT []))) ∧ ∀ i m H2, W i m H2 →
      ((Itl K a).stop i H2 ∧ Qd H2) ∨ ((Itl K a).go i H2 ∧ ∃ Nx : Hp → Prop, (∀ H3, Nx H3 → ∃ m1, m1 < m ∧ W (i + 1) m1 H3) ∧ ∀ x H3, (Itl K a).yld i H2 x H3 → g x (wipe σ vs) H3 fun σ4 H4 => wipe σ4 vs = wipe σ vs ∧ tt σ4 H4 fun c H5 =>
        if c = true then tk σ4 H5 fun y H6 => tv σ4 H6 fun z H7 => ∃ kvs k b, y = .ref b ∧ H7 b = some (.tup (k.map kV)) ∧ H7 D = some (.dT kvs) ∧ kvs.length < sizeLine ∧ Nx (upd H7 D (.dT (putK kvs k z))) else Nx H5) := by
  refine ⟨fun i m H2 => i + m = xs.length ∧ Pv i H2, ⟨_, Nat.zero_add _, h0⟩, ?_⟩
  rintro i m H2 ⟨sum, p⟩
  have q := hl i H2 (by omega) p
  cases m with
  | zero =>
    obtain rfl : i = xs.length := by omega
    exact .inl ⟨⟨xs, q, Nat.le_refl _⟩, hd H2 p⟩
  | succ m =>
    have lt : i < xs.length := by omega
    refine .inr ⟨⟨xs, xs[i], q, List.getElem?_eq_getElem lt⟩, Pv (i + 1), fun H3 p3 => ⟨m, Nat.lt_succ_self m, by omega, p3⟩, ?_⟩
    rintro x _ ⟨rfl, got⟩
    exact hs i x _ (got xs q) p
end
end L2

set_option Elab.async false
set_option linter.all false
set_option maxRecDepth 100000
set_option maxHeartbeats 4000000
namespace Lt
open PySem PySem.Spec PyProof.Rows L2
section
variable {P : Program} {w : World} {K : PySem.W.Frag} {mg : Str → Option Value} {base : Heap}
theorem DKs.same {H H' : Hp} {d : Addr} {ks : List (List Nat)} (h : DKs H d ks) (e : Same H H') : DKs H' d ks := let ⟨kvs, h1, h2⟩ := h; ⟨kvs, e _ _ h1, h2⟩
def spFading : Sp := fun vs H Q _ => ∃ (v tv : V) (ls T0 : List (List Nat)) (n : Nat), vs = [v, tv] ∧ Good H v ls n ∧ TTK H tv T0 ∧ T0.Nodup ∧ (∀ t, t ∈ T0 ↔ Mk ls n t) ∧
  ∀ d H' k, Same H H' → DKs H' d (Zk ls T0 n k) → (∀ t, t ∈ Zk ls T0 n (k + 1) → t ∈ Zk ls T0 n k) → Q (.ref d) H'
theorem sc_fading_turns : FnScope ["lock", "turns", "fading", "more", "turn"] ["lock", "turns"] (defScope s_fading_turns) := ⟨rfl, rfl, rfl, by decide +kernel, rfl, by decide +kernel, by decide +kernel⟩
theorem has_fading_turns (T : Top K mg "fading_turns" s_fading_turns ["lock", "turns"]) (B : Bi mg) (hS : Has P w K mg base CX0 1 "still_of" ["size"] spStill) (hL : Has P w K mg base CX0 3 "led_into" ["lock", "turns", "aims"] (spLedR TK)) : Has P w K mg base CX0 4 "fading_turns" ["lock", "turns"] spFading := by
  refine T.ok sc_fading_turns (fun vs H Q E h => ?_) (fun f cdv A outer s H vs Q E hr h => ?_)
  · obtain ⟨v, tv, ls, T0, n, rfl, _⟩ := h
    rfl
  · obtain ⟨v, tv, ls, T0, n, rfl, g, htt, hnd, hmem, q⟩ := h
    have hu := hu_of hr
    have hr1 : Room 1 _ := hr.mono (by decide)
    refine ⟨_, pss_cons (ps_set (i := 2) sc_fading_turns.nd rfl (Or.inl rfl) (pe_dispT hu (pe_has hS hr1 (by rfl) (pa_cons (pe_callB call_len_seq (by rfl) B.len PySem.boot_len (pa_cons (pe_ix ix_tup (pv 0) pe_int (fun _ _ => rfl)) pa_nil)) pa_nil)) pe_bl))
      (pss_one (ps_while PassesOwn.never (pt_val pe_bl)
        (pss_cons (ps_setDcT (i := 3) (own := [("turn", 4)]) (g := gName 4) (tk := tVar 4) (tv := tC (.bl true)) hu (by rfl) sc_fading_turns.nd rfl rfl (swD_true rfl rfl rfl (by decide +kernel)) (pi_list (pe_has hL hr (by rfl) (pa_cons (pv 0) (pa_cons (pv 1) (pa_cons (pv 2) pa_nil)))))
            (blkOk_by (own := [("turn", 4)]) (N := ["lock", "turns", "fading", "more", "turn"]) (sc := defScope s_fading_turns) (by decide +kernel)) (fun _ _ _ _ _ => pg_name (i := 4) sc_fading_turns.nd rfl (Or.inl rfl)) (fun _ _ _ _ _ => pts_nil) (fun _ _ _ _ _ => pv 4) (fun _ _ _ _ _ => pe_bl))
        (pss_cons (ps_if (pt_cmpR op_eq (pe_callB call_len_dT (by rfl) B.len PySem.boot_len (pa_cons (pv 3) pa_nil)) (pe_callB call_len_dT (by rfl) B.len PySem.boot_len (pa_cons (pv 2) pa_nil)) (nomark _)) (pss_one (ps_ret (pv 2))) pss_nil)
        (pss_one (ps_set (i := 2) sc_fading_turns.nd rfl (Or.inl rfl) (pv 3))))))), ?_⟩
    obtain ⟨g1, g2, g3, g4, g5⟩ := g.gl
    have hT0P : ∀ t ∈ T0, IsP n t := fun t ht => g.isP ((hmem t).mp ht)
    have h63 : T0.length ≤ 63 := g.few.le hnd fun t h => (hmem t).mp h
    obtain ⟨ta, tx, rfl, hta, ptx⟩ := htt
    obtain ⟨a, xs, b, rfl, ha, hp0, h0, t0, hbt, htl⟩ := g.tt.head g.gl
    refine fun d hd => ?_
    have s2 := same_new (o := .dT []) hd
    refine ⟨_, rfl, a, xs, 0, .ref b, rfl, rfl, SqT.of (s2 _ _ ha), h0, b, nIs t0, rfl, .inr (hbt.sm s2).sq, n, by rw [nIs_len, htl]; rfl, by omega, fun sv H3 s3 hsv => ?_⟩
    obtain ⟨sb, rfl, hsb⟩ := hsv.key
    have hd3 := s3 _ _ (upd_same (H := H) (a := d) (o := .dT []))
    refine ⟨sb, keyN (List.range n), rfl, hd3, hsb, ?_⟩
    have s4 : Same H (upd H3 d (.dT [(keyN (List.range n), V.bl true)])) := same_mut (s2.trans s3) hd
    refine ⟨fun m σ H' => ∃ d k x3 x4, σ = [some (.ref a), some (.ref ta), some (.ref d), x3, x4] ∧ Same H H' ∧ DKs H' d (Zk ls T0 n k) ∧ m + (Zk ls T0 n k).length = T0.length,
      ⟨T0.length - 1, d, 0, none, none, rfl, s4, ⟨_, upd_same, rfl⟩, ?_⟩, ?_⟩
    · have : 1 ≤ T0.length := List.length_pos_of_mem ((hmem _).mpr .still)
      show T0.length - 1 + 1 = T0.length
      omega
    rintro m σ H1 ⟨d, k, x3, x4, rfl, s1, dk, hm⟩
    refine ⟨true, rfl, iteT ⟨fun σ2 H2 => ∃ m', m' < m ∧ ∃ d k x3 x4, σ2 = [some (.ref a), some (.ref ta), some (.ref d), x3, x4] ∧ Same H H2 ∧ DKs H2 d (Zk ls T0 n k) ∧ m' + (Zk ls T0 n k).length = T0.length, fun σ2 H2 h => h, ?_⟩⟩
    refine ⟨_, rfl, _, rfl, _, rfl, .ref a, ta, tx, d, ls, T0, Zk ls T0 n k, n, rfl, g.tt.tm (.of s1), s1 _ _ hta, paired_mono (fun _ _ r => TK.tm (.of s1) r) ptx, dk, g5, hT0P, g4, by omega, h63, fun r H2 rx s2' hr0 hrx prx => ?_⟩
    have prx : Paired (TK H2) rx (Zk ls T0 n (k + 1)) := prx
    have nd1 := zk_nd (n := n) g5 hmem hnd (k + 1)
    have sub1 := zk_sub g5 hmem (k + 1)
    have l63 : (Zk ls T0 n (k + 1)).length ≤ 63 := Nat.le_trans (nodup_len _ _ nd1 sub1) h63
    have hup := zk_up g5 hmem k
    have nd0 := zk_nd (n := n) g5 hmem hnd k
    have hle := nodup_len _ _ nd0 hup
    refine ⟨r, rfl, ⟨_, SqL.of hrx⟩, fun D hD => ?_⟩
    refine dcT_list (K := K) (a := r) (xs := rx) (fun i H3 => Same H2 H3 ∧ ∃ kvs, H3 D = some (.dT kvs) ∧ kvs.map (·.1) = ((Zk ls T0 n (k + 1)).take i).map keyN ∧ kvs.length ≤ i) ⟨same_new hD, [], upd_same, rfl, Nat.le_refl _⟩ (fun i H3 _ h => SqL.of (h.1 _ _ hrx)) ?_ ?_
    · rintro i x H3 hi ⟨sm, kvs, hk, ek, lk⟩
      obtain ⟨t, ht, htk⟩ := Paired.getL prx hi
      obtain ⟨xb, rfl, hxb⟩ := TK.key (TK.tm (.of sm) htk)
      have hil : i < 63 := by
        have := (List.getElem?_eq_some_iff.mp ht).1
        omega
      refine ⟨rfl, iteT (B := Same H2 H3 ∧ ∃ kvs, H3 D = some (.dT kvs) ∧ kvs.map (·.1) = ((Zk ls T0 n (k + 1)).take (i + 1)).map keyN ∧ kvs.length ≤ i + 1) ⟨_, rfl, kvs, keyN t, xb, rfl, hxb, hk, by rw [sizeLine_eq]; omega, same_mut sm hD, _, upd_same, ?_, ?_⟩⟩
      · have hno : t ∉ (Zk ls T0 n (k + 1)).take i := fun z => by
          obtain ⟨j, hj, e⟩ := List.getElem_of_mem z
          rw [List.length_take] at hj
          have e2 : (Zk ls T0 n (k + 1))[j]? = some t := by
            rw [← e, List.getElem_take, ← List.getElem?_eq_getElem]
          have := nd_ix nd1 e2 ht
          omega
        have hv : valV kvs (keyN t) = none := by
          have z := dks_isSome ek t
          rw [decide_eq_false hno] at z
          exact Option.not_isSome_iff_eq_none.mp (by rw [z]; exact Bool.false_ne_true)
        rw [putK_new _ hv, List.map_append, ek, List.take_add_one, ht, List.map_append]
        rfl
      · have := length_putK kvs (keyN t) (V.bl true)
        omega
    · rintro H3 ⟨sm, kvs, hk, ek, lk⟩
      rw [Paired.length prx, List.take_length] at ek
      obtain ⟨kv0, hk0, ek0⟩ := dk.same (s2'.trans sm)
      have l1 : kvs.length = (Zk ls T0 n (k + 1)).length := by
        have := congrArg List.length ek
        rw [List.length_map, List.length_map] at this
        exact this
      have l0 : kv0.length = (Zk ls T0 n k).length := by
        have := congrArg List.length ek0
        rw [List.length_map, List.length_map] at this
        exact this
      have sE := (s1.trans s2').trans sm
      refine ⟨_, rfl, D, kvs, rfl, hk, _, rfl, d, kv0, rfl, hk0, rfl, _, rfl, ite2 (fun e => ?_) (fun e => ?_)⟩
      · have e := of_decide_eq_true e
        injection e with e
        refine ⟨_, rfl, q d H3 k sE ⟨kv0, hk0, ek0⟩ fun t ht => Classical.byContradiction fun hn => ?_⟩
        have := nodup_len (t :: Zk ls T0 n k) (Zk ls T0 n (k + 1)) (List.nodup_cons.mpr ⟨hn, nd0⟩) fun y hy => by
          rcases List.mem_cons.mp hy with z | z
          · rw [z]
            exact ht
          · exact hup y z
        have e1 : (t :: Zk ls T0 n k).length = (Zk ls T0 n k).length + 1 := rfl
        omega
      · have hne : (Zk ls T0 n (k + 1)).length ≠ (Zk ls T0 n k).length := fun z => e (decide_eq_true (by rw [l1, l0, z]))
        have hle2 := nodup_len _ _ nd1 sub1
        exact ⟨_, rfl, T0.length - (Zk ls T0 n (k + 1)).length, by omega, D, k + 1, _, _, rfl, sE, ⟨kvs, hk, ek⟩, by omega⟩
end
end Lt

set_option Elab.async false
set_option linter.all false
namespace Lt
open PySem PySem.Spec PyProof.Rows L2
/-- a tuple of turns whose objects are known -/
def TTF (H : Hp) (v : V) (ts : List (List Nat)) : Prop := ∃ a xs, v = .ref a ∧ H a = some (.tup xs) ∧ Paired (TF H) xs ts
theorem TTF.tt {H : Hp} {v : V} {ts : List (List Nat)} (h : TTF H v ts) : TT H v ts := let ⟨a, xs, e, ha, p⟩ := h; ⟨a, xs, e, ha, paired_mono (fun _ _ r => TF.tn r) p⟩
theorem TTF.tm {H H' : Hp} {v : V} {ts : List (List Nat)} (e : Tm H H') (h : TTF H v ts) : TTF H' v ts := let ⟨a, xs, e1, ha, p⟩ := h; ⟨a, xs, e1, e.1 _ _ ha, TFs.tm e p⟩
end Lt

set_option Elab.async false
set_option linter.all false
set_option maxRecDepth 100000
set_option maxHeartbeats 4000000
namespace Lt
open PySem PySem.Spec PyProof.Rows L2
def RingAt (H : Hp) (r : V) (t : List Nat) (us : List (List Nat)) : Prop := ∃ p vt vu, r = .ref p ∧ H p = some (.tup [vt, vu]) ∧ TF H vt t ∧ TTF H vu us
structure IsRing (ls : List (List Nat)) (n : Nat) (t : List Nat) (us : List (List Nat)) : Prop where
  made : Mk ls n t
  ne : t ≠ List.range n
  some_ : us ≠ []
  sub : ∀ u ∈ us, u ∈ ls
  back : us.foldl cm t = t
  len : us.length ≤ 63
def Fix (ls T0 : List (List Nat)) (n k : Nat) : Prop := ∀ t, t ∈ Zk ls T0 n (k + 1) → t ∈ Zk ls T0 n k
theorem at_0 (x : V) (xs : List V) : atI (x :: xs) 0 = some x := by
  show atI (x :: xs) ((0 : Nat) : Int) = some x
  exact atI_nat rfl
theorem cut_from (xs : List V) {j : Nat} (h : j ≤ xs.length) : cutV xs (some (j : Int)) none = xs.drop j := by
  unfold cutV
  rw [HT.sIx_nat, Nat.min_eq_left h]
  exact List.take_of_length_le (by rw [List.length_drop]; exact Nat.le_refl _)
section
variable {P : Program} {w : World} {K : PySem.W.Frag} {mg : Str → Option Value} {base : Heap} {CL CM : Addr}
def spRing : Sp := fun vs H Q _ => ∃ (v : V) (ls : List (List Nat)) (n : Nat), vs = [v] ∧ Good H v ls n ∧ TTF H v ls ∧ (∀ H' T0 k, Same H H' → T0.Nodup → Asc T0 → (∀ t, t ∈ T0 ↔ Mk ls n t) → Fix ls T0 n k → (∀ t ∈ T0, t ∈ Zk ls T0 n k) → Q .non H') ∧
  ∀ r H' T0 k t us, Same H H' → T0.Nodup → Asc T0 → (∀ t, t ∈ T0 ↔ Mk ls n t) → Fix ls T0 n k → (∃ t ∈ T0, t ∉ Zk ls T0 n k) → RingAt H' r t us → IsRing ls n t us → Q r H'
theorem sc_ring : FnScope ["lock", "turns", "fading", "lasting", "turn", "passed", "others", "other", "given"] ["lock"] (defScope s_ring) := ⟨rfl, rfl, rfl, by decide +kernel, rfl, by decide +kernel, by decide +kernel⟩
theorem has_ring (T : Top K mg "ring" s_ring ["lock"]) (B : Bi mg) (hA : Has P w K mg base (L2.CX P w) 6 "all_turns" ["lock"] (spAllK CL CM)) (hF : Has P w K mg base CX0 4 "fading_turns" ["lock", "turns"] spFading)
    (hB : Has P w K mg base CX0 2 "bracket_of" ["one", "other"] spBracket) (hBF : Has P w K mg base CX0 2 "bracket_of" ["one", "other"] spBracketF) : Has P w K mg base CX0 7 "ring" ["lock"] spRing := by
  refine T.ok sc_ring (fun vs H Q E h => ?_) (fun f cdv A outer s H vs Q E hr h => ?_)
  · obtain ⟨v, ls, n, rfl, _⟩ := h
    rfl
  · obtain ⟨v, ls, n, rfl, g, htf, qn, q⟩ := h
    have hu := hu_of hr
    have hu64 := hr.units
    have hu65 : A.units + 3 + 65 < cLine := by have := hr.un; show A.units + 3 + 65 < cLine; have e : (A.deeper (envOfC "ring" (defScope s_ring) s.heap.objs.size f cdv)).units = A.units + 3 := rfl; omega
    have hr2 : Room 2 _ := hr.mono (by decide)
    have hr4 : Room 4 _ := hr.mono (by decide)
    refine ⟨_, pss_cons (ps_set (i := 1) sc_ring.nd rfl (Or.inl rfl) (pe_hasL hA hr (by rfl) (pa_cons (pv 0) pa_nil)))
      (pss_cons (ps_set (i := 2) sc_ring.nd rfl (Or.inr rfl) (pe_has hF hr4 (by rfl) (pa_cons (pv 0) (pa_cons (pv 1) pa_nil))))
      (pss_cons (ps_setLc (i := 3) (own := [("turn", 4)]) (g := gName 4) (te := tVar 4) (tt := tB (tDNotInR (tVar 4) (tVar 2))) (by rfl) sc_ring.nd rfl rfl (sw_true rfl rfl rfl (by decide +kernel)) (pi_tup (pv 1)) (blkOk_by (own := [("turn", 4)]) (N := ["lock", "turns", "fading", "lasting", "turn", "passed", "others", "other", "given"]) (sc := defScope s_ring) (by decide +kernel))
        (fun _ _ _ _ _ => pg_name (i := 4) sc_ring.nd rfl (Or.inl rfl)) (fun _ _ _ _ _ => pts_one (pt_cmp (by exact (pc_dnotinR hu (pv 4) (pv 2))) (by rfl))) (fun _ _ _ _ _ => pv 4))
      (pss_cons (ps_if (pt_not (pt_truth (pv 3) (by intro _; rfl))) (pss_one (ps_ret pe_non)) pss_nil)
      (pss_cons (ps_set (i := 4) sc_ring.nd rfl (Or.inr rfl) (pe_ix ix_list (pv 3) pe_int (fun _ _ => rfl)))
      (pss_cons (ps_set (i := 5) sc_ring.nd rfl (Or.inl rfl) (pe_lst pa_nil))
      (pss_cons (ps_set (i := 6) sc_ring.nd rfl (Or.inl rfl) (pe_lst pa_nil))
      (pss_cons (ps_while PassesOwn.never (pt_cmpR (op_notInD hu65) (pv 4) (pv 5) (by rfl))
        (pss_cons (ps_set (i := 7) sc_ring.nd rfl (Or.inl rfl) (pe_ix ix_list (pe_lc (own := [("given", 8)]) (g := gName 8) (te := tVar 8) (tt := tB (tDNotInR (tCall spBracket [] E0 (tCons (tVar 4) (tCons (tVar 8) tNil))) (tVar 2))) (by rfl) sc_ring.nd (pi_tup (pv 0)) (blkOk_by (own := [("given", 8)]) (N := ["lock", "turns", "fading", "lasting", "turn", "passed", "others", "other", "given"]) (sc := defScope s_ring) (by decide +kernel))
            (fun _ _ _ _ _ => pg_name (i := 8) sc_ring.nd rfl (Or.inl rfl)) (fun _ _ _ _ _ => pts_one (pt_cmp (by exact (pc_dnotinR hu (pe_has hB hr2 (by rfl) (pa_cons (pv 4) (pa_cons (pv 8) pa_nil))) (pv 2))) (by rfl))) (fun _ _ _ _ _ => pv 8)) pe_int (fun _ _ => rfl)))
        (pss_cons (ps_expr (pe_bm PySem.F.plainAttrs_list PySem.F.slot_list_append PySem.F.type_list_append mt_append (pv 5) (pa_cons (pv 4) pa_nil)))
        (pss_cons (ps_expr (pe_bm PySem.F.plainAttrs_list PySem.F.slot_list_append PySem.F.type_list_append mt_append (pv 6) (pa_cons (pv 7) pa_nil)))
        (pss_one (ps_set (i := 4) sc_ring.nd rfl (Or.inr rfl) (pe_has hBF hr2 (by rfl) (pa_cons (pv 4) (pa_cons (pv 7) pa_nil)))))))))
      (pss_one (ps_ret (pe_tup (pa_cons (pv 4) (pa_cons (pe_tupleOf (by rfl) B.tuple (pe_slice sl_list (pv 6) (po_some (pe_bm PySem.F.plainAttrs_list PySem.F.slot_list_index PySem.F.type_list_index (mt_indexD hu65) (pv 5) (pa_cons (pv 4) pa_nil))) po_none)) pa_nil)))))))))))), ?_⟩
    obtain ⟨g1, g2, g3, g4, g5⟩ := g.gl
    refine ⟨_, rfl, v, rfl, lockIn_good g.tt g.gl g.few (by omega) fun L hL h240 => ⟨?_, fun r0 H1 T0 s1 httk hperm hasc => ?_⟩⟩
    · obtain ⟨_, _, _, z⟩ := g.few.wd (by omega) hL
      omega
    have eL := g.wd hL
    subst eL
    have hnd : T0.Nodup := (List.Perm.nodup_iff hperm).mpr (by rw [LL_eq]; exact qq_nd ls n 300)
    have hmem : ∀ t, t ∈ T0 ↔ Mk ls n t := fun t => (hperm.mem_iff).trans (g.mem t)
    have h63 : T0.length ≤ 63 := g.few.le hnd fun t h => (hmem t).mp h
    have hT0P : ∀ t ∈ T0, IsP n t := fun t ht => g.isP ((hmem t).mp ht)
    refine ⟨_, rfl, _, rfl, v, r0, ls, T0, n, rfl, g.same s1, httk, hnd, hmem, fun d H2 k s2 dk hfix => ?_⟩
    obtain ⟨ta, tx, rfl, hta, ptx⟩ := httk
    obtain ⟨va, vx, rfl, hva, pvx⟩ := htf
    have s12 := s1.trans s2
    obtain ⟨kvs, hk, ek⟩ := dk
    have hta2 := s2 _ _ hta
    have hva2 := s12 _ _ hva
    have ptx2 : Paired (TK H2) tx T0 := paired_mono (fun _ _ r => TK.tm (.of s2) r) ptx
    have pvx2 : Paired (TF H2) vx ls := TFs.tm (.of s12) pvx
    have ltx := Paired.length ptx
    have lvx := Paired.length pvx
    have mFix : ∀ t ∈ T0, (∀ x ∈ ls, cm t x ∈ Zk ls T0 n k) → t ∈ Zk ls T0 n k := fun t ht h => hfix t (led_mem.mpr ⟨ht, h⟩)
    have hst : List.range n ∈ Zk ls T0 n k := by
      have : ∀ j, List.range n ∈ Zk ls T0 n j := fun j => by
        induction j with
        | zero => exact List.mem_singleton.mpr rfl
        | succ j ih => exact zk_up g5 hmem j _ ih
      exact this k
    generalize hF : Zk ls T0 n k = F at ek mFix hst
    -- lasting
    refine ⟨_, rfl, ta, rfl, ⟨_, SqT.of hta2⟩, fun D hD => ?_⟩
    refine lc_tup (K := K) (a := ta) (g := gName 4) (xs := tx) (fun i H3 => Same H2 H3 ∧ ∃ zs, H3 D = some (.lst zs) ∧ Paired (TK H3) zs ((T0.take i).filter fun t => decide (t ∉ F)) ∧ zs.length ≤ i) ⟨same_new hD, [], upd_same, .nil, Nat.le_refl _⟩ (fun i H3 _ h => SqT.of (h.1 _ _ hta2)) ?_ ?_
    · rintro i x H3 hi ⟨sm, zs, hz, pz, lz⟩
      obtain ⟨t, ht, htk⟩ := Paired.getL ptx2 hi
      have htk3 : TK H3 x t := TK.tm (.of sm) htk
      obtain ⟨xb, rfl, hxb⟩ := TK.key htk3
      have hil : i < 63 := by
        have := (List.getElem?_eq_some_iff.mp ht).1
        omega
      have en : (T0.take (i + 1)).filter (fun t => decide (t ∉ F)) = (T0.take i).filter (fun t => decide (t ∉ F)) ++ if t ∈ F then [] else [t] := by
        rw [List.take_add_one, ht, List.filter_append]
        congr 1
        show List.filter (fun t => decide (t ∉ F)) [t] = _
        by_cases c : t ∈ F
        · rw [List.filter_cons, if_neg (by simpa using c), if_pos c, List.filter_nil]
        · rw [List.filter_cons, if_pos (by simpa using c), if_neg c, List.filter_nil]
      refine ⟨rfl, _, rfl, _, rfl, d, kvs, keyN t, xb, rfl, rfl, .inl (sm _ _ hk), .inl hxb, !(valV kvs (keyN t)).isSome, rfl, ?_⟩
      rw [dks_isSome ek t]
      by_cases c : t ∈ F
      · rw [decide_eq_true c]
        rw [if_pos c, List.append_nil] at en
        exact iteF ⟨sm, zs, hz, by rw [en]; exact pz, by omega⟩
      · rw [decide_eq_false c]
        rw [if_neg c] at en
        have t8 := Tm.lst (o := .lst (zs ++ [V.ref xb])) hz
        refine iteT ⟨_, rfl, zs, hz, by rw [sizeLine_eq]; omega, same_mut sm hD, zs ++ [.ref xb], upd_same, ?_, by rw [List.length_append]; show zs.length + 1 ≤ i + 1; omega⟩
        rw [en]
        exact Paired.app (paired_mono (fun _ _ r => TK.tm t8 r) pz) (Paired.one (TK.tm t8 htk3))
    · rintro H3 ⟨s3, zs, hz, pz, lz⟩
      rw [ltx, List.take_length] at pz
      have s13 := s12.trans s3
      refine ⟨_, rfl, !zs.isEmpty, .inl ⟨zs, SqL.of hz, rfl⟩, ?_⟩
      cases hzs : zs with
      | nil =>
        subst hzs
        cases hfl : T0.filter fun t => decide (t ∉ F) with
        | cons y ys => rw [hfl] at pz; cases pz
        | nil =>
          refine iteT (qn H3 T0 k s13 hnd hasc hmem hfix fun t ht => Classical.byContradiction fun hn => ?_)
          rw [hF] at hn
          have : t ∈ T0.filter fun t => decide (t ∉ F) := List.mem_filter.mpr ⟨ht, decide_eq_true hn⟩
          rw [hfl] at this
          cases this
      | cons z0 zr =>
        subst hzs
        obtain ⟨t0, ht0, htk0⟩ := Paired.getL pz (i := 0) (x := z0) rfl
        have hm0 := List.mem_filter.mp (List.mem_of_getElem? ht0)
        have hn0 : t0 ∉ F := of_decide_eq_true hm0.2
        have qr' : ∀ r H' t us, Same H3 H' → RingAt H' r t us → IsRing ls n t us → Q r H' := fun r H' t us s' ra ir => q r H' T0 k t us (s13.trans s') hnd hasc hmem hfix ⟨t0, hm0.1, by rw [hF]; exact hn0⟩ ra ir
        refine iteF ⟨_, rfl, D, z0 :: zr, 0, z0, rfl, rfl, SqL.of hz, at_0 _ _, ?_⟩
        refine ⟨Nat.zero_le _, fun pa hpa => ?_⟩
        have s4 := same_new (o := .lst []) hpa
        refine ⟨Nat.zero_le _, fun oa hoa => ?_⟩
        have s5 := same_new (o := .lst []) hoa
        have pao : pa ≠ oa := fun z => by rw [← z, upd_same] at hoa; cases hoa
        have hoa3 : H3 oa = none := s4.free hoa
        have hk3 := s3 _ _ hk
        have hva3 := s3 _ _ hva2
        have pvx3 : Paired (TF H3) vx ls := TFs.tm (.of s3) pvx2
        refine ⟨fun m σ H4 => ∃ vt t px ps ox os x7 x8, σ = [some (.ref va), some (.ref ta), some (.ref d), some (.ref D), some vt, some (.ref pa), some (.ref oa), x7, x8] ∧ Same H3 H4 ∧ TN H4 vt t ∧ (ps = [] ∨ TF H4 vt t) ∧ t ∈ T0 ∧ t ∉ F ∧ H4 pa = some (.lst px) ∧ Paired (TN H4) px ps ∧ H4 oa = some (.lst ox) ∧ Paired (TF H4) ox os ∧
            ps.Nodup ∧ (∀ p ∈ ps, p ∈ T0) ∧ os.length = ps.length ∧ (∀ o ∈ os, o ∈ ls) ∧ (∀ (j : Nat) p, ps[j]? = some p → (os.drop j).foldl cm p = t) ∧ m + ps.length = T0.length,
          ⟨T0.length, z0, t0, [], [], [], [], none, none, rfl, s4.trans s5, (htk0.tn).tm (.of (s4.trans s5)), .inl rfl, hm0.1, hn0, by rw [upd_ne pao]; exact upd_same, .nil, upd_same, .nil, List.nodup_nil, (fun p hp => nomatch hp), rfl, (fun o ho => nomatch ho), (fun j p hp => by simp at hp), Nat.add_zero _⟩, ?_⟩
        rintro m σ H4 ⟨vt, t, px, ps, ox, os, x7, x8, rfl, sm, htn, htf', htT, htF, hpa4, ppx, hoa4, pox, psnd, psT, lops, osl, chain, hm⟩
        have htP := hT0P t htT
        have lps : ps.length ≤ 63 := Nat.le_trans (nodup_len ps T0 psnd psT) h63
        have lpx := Paired.length ppx
        have lox := Paired.length pox
        refine ⟨_, rfl, _, rfl, dT t, ps.map dT, htn.dp, .lst (SqL.of hpa4) (TNs.dp ppx), sh_T _, sh_LT _, _, rfl, ?_⟩
        rw [any_dT]
        by_cases hin : t ∈ ps
        · rw [decide_eq_true hin]
          -- the end
          have hne : ps ≠ [] := fun e => by rw [e] at hin; cases hin
          have htf4 : TF H4 vt t := htf'.resolve_left hne
          have hj := List.idxOf_lt_length_of_mem hin
          have hjat : ps[ps.idxOf t]? = some t := by rw [List.getElem?_eq_getElem hj, List.getElem_idxOf]
          have hback := chain _ t hjat
          generalize hjj : ps.idxOf t = j at hj hjat hback
          refine iteF ⟨_, rfl, _, rfl, _, rfl, .inl ⟨rfl, _, SqL.of hpa4⟩, _, rfl, pa, vt, dT t, ps.map dT, j, dT t, rfl, rfl, .lst (SqL.of hpa4) (TNs.dp ppx), htn.dp, sh_LT _, sh_T _, by rw [List.getElem?_map, hjat]; rfl, by rw [eqv_dT, decide_eq_true rfl], fun m z hm2 hz2 => ?_, ?_⟩
          · rw [List.getElem?_map] at hz2
            obtain ⟨p, hp, rfl⟩ := Option.map_eq_some_iff.mp hz2
            rw [eqv_dT, decide_eq_false fun e => ?_]
            have := nd_ix psnd (e ▸ hp) hjat
            omega
          have lj : j ≤ ox.length := by rw [lox, lops]; omega
          refine ⟨(j : Int), rfl, oa, ox, rfl, SqL.of hoa4, fun sl hsl => ?_⟩
          have s6 := same_new (o := .lst (cutV ox (some (j : Int)) none)) hsl
          rw [cut_from ox lj] at s6 ⊢
          refine .inl ⟨sl, ox.drop j, rfl, SqL.of upd_same, fun tp htp => ?_⟩
          have s7 := same_new (o := .tup (ox.drop j)) htp
          refine ⟨Nat.le_of_ble_eq_true rfl, fun rp hrp => ?_⟩
          have s8 := same_new (o := .tup [vt, .ref tp]) hrp
          have s68 := (s6.trans s7).trans s8
          refine qr' (.ref rp) _ t (os.drop j) (sm.trans s68) ⟨rp, vt, .ref tp, rfl, upd_same, TF.tm (.of s68) htf4, tp, ox.drop j, rfl, s8 _ _ upd_same, Paired.dr j (TFs.tm (.of s68) pox)⟩ ⟨(hmem t).mp htT, fun e => htF (e ▸ hst), fun e => ?_, fun u hu => osl u (List.mem_of_mem_drop hu), hback, by rw [List.length_drop]; omega⟩
          have := congrArg List.length e
          rw [List.length_drop] at this
          have : ([] : List (List Nat)).length = 0 := rfl
          omega
        · rw [decide_eq_false hin]
          refine iteT ⟨fun σ5 H5 => ∃ m', m' < m ∧ ∃ vt t px ps ox os x7 x8, σ5 = [some (.ref va), some (.ref ta), some (.ref d), some (.ref D), some vt, some (.ref pa), some (.ref oa), x7, x8] ∧ Same H3 H5 ∧ TN H5 vt t ∧ (ps = [] ∨ TF H5 vt t) ∧ t ∈ T0 ∧ t ∉ F ∧ H5 pa = some (.lst px) ∧ Paired (TN H5) px ps ∧ H5 oa = some (.lst ox) ∧ Paired (TF H5) ox os ∧
            ps.Nodup ∧ (∀ p ∈ ps, p ∈ T0) ∧ os.length = ps.length ∧ (∀ o ∈ os, o ∈ ls) ∧ (∀ (j : Nat) p, ps[j]? = some p → (os.drop j).foldl cm p = t) ∧ m' + ps.length = T0.length, fun σ5 H5 h => h, ?_⟩
          have hTn : ∃ x ∈ ls, cm t x ∉ F := Classical.byContradiction fun z => htF (mFix t htT fun x hx => Classical.byContradiction fun y => z ⟨x, hx, y⟩)
          refine ⟨_, rfl, va, rfl, ⟨_, SqT.of (sm _ _ hva3)⟩, fun D2 hD2 => ?_⟩
          have pvx4 : Paired (TF H4) vx ls := TFs.tm (.of sm) pvx3
          refine lc_tup (K := K) (a := va) (g := gName 8) (xs := vx) (fun i H5 => Same H4 H5 ∧ ∃ zs, H5 D2 = some (.lst zs) ∧ Paired (TF H5) zs ((ls.take i).filter fun x => decide (cm t x ∉ F)) ∧ zs.length ≤ i) ⟨same_new hD2, [], upd_same, .nil, Nat.le_refl _⟩ (fun i H5 _ h => SqT.of (h.1 _ _ (sm _ _ hva3))) ?_ ?_
          · rintro i y H5 hi ⟨s5', zs, hz5, pz5, lz5⟩
            obtain ⟨x, hx, hxf⟩ := Paired.getL pvx4 hi
            have hxP := g5 x (List.mem_of_getElem? hx)
            have hil : i < 4 := by
              have := (List.getElem?_eq_some_iff.mp hx).1
              omega
            have en : (ls.take (i + 1)).filter (fun x => decide (cm t x ∉ F)) = (ls.take i).filter (fun x => decide (cm t x ∉ F)) ++ if cm t x ∈ F then [] else [x] := by
              rw [List.take_add_one, hx, List.filter_append]
              congr 1
              show List.filter (fun x => decide (cm t x ∉ F)) [x] = _
              by_cases c : cm t x ∈ F
              · rw [List.filter_cons, if_neg (by simpa using c), if_pos c, List.filter_nil]
              · rw [List.filter_cons, if_pos (by simpa using c), if_neg c, List.filter_nil]
            refine ⟨rfl, ?_⟩
            refine ⟨_, rfl, _, rfl, vt, y, t, x, n, rfl, htn.tm (.of s5'), (hxf.tn).tm (.of s5'), htP, hxP, by omega, fun w2 H6 s6 hw => ?_⟩
            have hw : TK H6 w2 (cm t x) := hw
            obtain ⟨wb, rfl, hwb⟩ := TK.key hw
            have s56 := s5'.trans s6
            refine ⟨_, rfl, d, kvs, keyN (cm t x), wb, rfl, rfl, .inl (s56 _ _ (sm _ _ hk3)), .inl hwb, !(valV kvs (keyN (cm t x))).isSome, rfl, ?_⟩
            rw [dks_isSome ek (cm t x)]
            have hz6 := s6 _ _ hz5
            have pz6 := TFs.tm (.of s6) pz5
            by_cases c : cm t x ∈ F
            · rw [decide_eq_true c]
              rw [if_pos c, List.append_nil] at en
              exact iteF ⟨s56, zs, hz6, by rw [en]; exact pz6, by omega⟩
            · rw [decide_eq_false c]
              rw [if_neg c] at en
              have t8 := Tm.lst (o := .lst (zs ++ [y])) hz6
              refine iteT ⟨_, rfl, zs, hz6, by rw [sizeLine_eq]; omega, same_mut s56 hD2, zs ++ [y], upd_same, ?_, by rw [List.length_append]; show zs.length + 1 ≤ i + 1; omega⟩
              rw [en]
              exact Paired.app (TFs.tm t8 pz6) (Paired.one (TF.tm t8 (TF.tm (.of s56) hxf)))
          · rintro H5 ⟨s5', zs, hz5, pz5, lz5⟩
            rw [lvx, List.take_length] at pz5
            obtain ⟨x0, hx0, hx0F⟩ := hTn
            cases zs with
            | nil =>
              have hx1 : x0 ∈ ls.filter fun x => decide (cm t x ∉ F) := List.mem_filter.mpr ⟨hx0, decide_eq_true hx0F⟩
              cases hfl : ls.filter (fun x => decide (cm t x ∉ F)) with
              | nil => rw [hfl] at hx1; cases hx1
              | cons y ys => rw [hfl] at pz5; cases pz5
            | cons y0 yr =>
              obtain ⟨o, ho, hof⟩ := Paired.getL pz5 (i := 0) (x := y0) rfl
              obtain ⟨hols, hoF⟩ := List.mem_filter.mp (List.mem_of_getElem? ho)
              have hoF : cm t o ∉ F := of_decide_eq_true hoF
              have hoP := g5 o hols
              have hpa5 := s5' _ _ hpa4
              have hoa5 := s5' _ _ hoa4
              refine ⟨D2, y0 :: yr, 0, y0, rfl, rfl, SqL.of hz5, at_0 _ _, ?_⟩
              refine ⟨_, rfl, .inl ⟨rfl, _, SqL.of hpa5⟩, _, rfl, pa, px, vt, rfl, rfl, hpa5, by rw [sizeLine_eq]; omega, ?_⟩
              have t6 := Tm.lst (o := .lst (px ++ [vt])) hpa5
              have hoa6 : (upd H5 pa (.lst (px ++ [vt]))) oa = some (.lst ox) := by rw [upd_ne pao.symm]; exact hoa5
              refine ⟨_, rfl, .inl ⟨rfl, _, SqL.of hoa6⟩, _, rfl, oa, ox, y0, rfl, rfl, hoa6, by rw [sizeLine_eq]; omega, ?_⟩
              have t7 := Tm.lst (o := .lst (ox ++ [y0])) hoa6
              have tm0 : Tm H4 (upd (upd H5 pa (.lst (px ++ [vt]))) oa (.lst (ox ++ [y0]))) := ((Tm.of s5').trans t6).trans t7
              have hpa7 : (upd (upd H5 pa (.lst (px ++ [vt]))) oa (.lst (ox ++ [y0]))) pa = some (.lst (px ++ [vt])) := by rw [upd_ne pao]; exact upd_same
              have hoa7 : (upd (upd H5 pa (.lst (px ++ [vt]))) oa (.lst (ox ++ [y0]))) oa = some (.lst (ox ++ [y0])) := upd_same
              have hyf : TF (upd (upd H5 pa (.lst (px ++ [vt]))) oa (.lst (ox ++ [y0]))) y0 o := TF.tm (t6.trans t7) hof
              have sm7 : Same H3 (upd (upd H5 pa (.lst (px ++ [vt]))) oa (.lst (ox ++ [y0]))) := same_mut (same_mut (sm.trans s5') hpa) hoa3
              generalize upd (upd H5 pa (.lst (px ++ [vt]))) oa (.lst (ox ++ [y0])) = H7 at *
              refine ⟨_, rfl, _, rfl, vt, y0, t, o, n, rfl, htn.tm tm0, hyf.tn, htP, hoP, by omega, fun w2 H8 s8 hw => ?_⟩
              have tm8 := tm0.trans (.of s8)
              have hco : cm t o ∈ T0 := (hmem _).mpr (((((hmem t).mp htT).prod g5 (.one g5 hols))).prod g5 (((Mk.one g5 hols).prod g5 ((hmem t).mp htT)).inv g5 g.few))
              have lT : ps.length + 1 ≤ T0.length := nodup_len (t :: ps) T0 (List.nodup_cons.mpr ⟨hin, psnd⟩) fun x hx => by
                rcases List.mem_cons.mp hx with z | z
                · rw [z]
                  exact htT
                · exact psT x z
              refine ⟨m - 1, by omega, w2, cm t o, px ++ [vt], ps ++ [t], ox ++ [y0], os ++ [o], _, _, rfl, sm7.trans s8, hw.tn, .inr hw, hco, hoF, s8 _ _ hpa7, Paired.app (TNs.tm tm8 ppx) (Paired.one (htn.tm tm8)), s8 _ _ hoa7, Paired.app (TFs.tm tm8 pox) (Paired.one (TF.tm (.of s8) hyf)), nodup_snoc psnd hin, ?_, ?_, ?_, ?_, ?_⟩
              · intro p hp
                rcases List.mem_append.mp hp with z | z
                · exact psT p z
                · rw [List.mem_singleton.mp z]
                  exact htT
              · rw [List.length_append, List.length_append, lops]
                rfl
              · intro p hp
                rcases List.mem_append.mp hp with z | z
                · exact osl p z
                · rw [List.mem_singleton.mp z]
                  exact hols
              · intro j p hp
                by_cases hj : j < ps.length
                · rw [List.getElem?_append_left hj] at hp
                  rw [List.drop_append_of_le_length (by omega), List.foldl_append, chain j p hp]
                  rfl
                · have l := (List.getElem?_eq_some_iff.mp hp).1
                  rw [List.length_append] at l
                  have e1 : ([t] : List (List Nat)).length = 1 := rfl
                  have ej : j = ps.length := by omega
                  subst ej
                  rw [List.getElem?_concat_length] at hp
                  rw [← Option.some.inj hp, ← lops, List.drop_append_of_le_length (Nat.le_refl _), List.drop_length]
                  rfl
              · rw [List.length_append]
                show m - 1 + (ps.length + 1) = T0.length
                omega
end
end Lt

set_option Elab.async false
set_option linter.all false
set_option maxRecDepth 100000
set_option maxHeartbeats 4000000
namespace Lt
open PySem PySem.Spec PyProof.Rows L2
section
variable {P : Program} {w : World} {K : PySem.W.Frag} {mg : Str → Option Value} {base : Heap} {CL CM CT : Addr}
def spIsTurn : Sp := fun vs H Q _ => ∃ (m : Addr) (L : List (List Nat × List Nat)) (v : V) (d : PyData), vs = [.ref m, v] ∧ DW H m L ∧ Rp H v d ∧ (∀ ds, d = .tuple ds → ds.length ≤ 1000) ∧ ∀ H', Same H H' → Q (.bl (isTurnD L d)) H'
theorem sc_is_turn : FnScope ["made", "value"] ["made", "value"] (defScope s_is_turn) := ⟨rfl, rfl, rfl, by decide +kernel, rfl, by decide +kernel, by decide +kernel⟩
theorem has_is_turn (T : Top K mg "is_turn" s_is_turn ["made", "value"]) (hN : Has P w K mg base CX0 2 "are_numbers" ["value"] spNums) : Has P w K mg base CX0 3 "is_turn" ["made", "value"] spIsTurn := by
  refine T.ok sc_is_turn (fun vs H Q E h => ?_) (fun f cdv A outer s H vs Q E hr h => ?_)
  · obtain ⟨m, L, v, d, rfl, _⟩ := h
    rfl
  · obtain ⟨m, L, v, d, rfl, hw, hd, hl, q⟩ := h
    have hu := hu_of hr
    refine ⟨_, pss_one (ps_ret (pe_and (pe_has hN hr (by rfl) (pa_cons (pv 1) pa_nil)) (pe_one (pe_cmp (pc_dinR hu (pv 1) (pv 0)) (by rfl))))), ?_⟩
    refine ⟨_, rfl, v, d, rfl, hd, hl, fun H1 s1 => ⟨isNums d, rfl, ite2 (fun h => ?_) (fun h => ?_)⟩⟩
    · cases hd with
      | @tup a xs ds ha hx =>
        have h : ds.all isNum = true := h
        have ha1 := ha.sm s1
        rw [nums_vals hx h] at ha1
        have ha2 : RT H1 a ((keyI (ds.map numOf)).map kV) := by unfold keyI; rw [kV_ints]; exact ha1
        obtain ⟨kvs, hk, pk⟩ := hw.same s1
        refine ⟨_, rfl, _, rfl, m, kvs, _, a, rfl, rfl, .inl hk, ha2, ?_⟩
        rw [dw_isSomeK pk]
        have e : decide (ds.map numOf ∈ numL L) = isTurnD L (.tuple ds) := by
          unfold isTurnD
          rw [show isNums (.tuple ds) = true from h, Bool.true_and]
          rfl
        rw [e]
        exact q _ s1
      | non => cases h
      | bl => cases h
      | int => cases h
      | str => cases h
      | lst => cases h
    · have e : false = isTurnD L d := by
        unfold isTurnD
        have z : isNums d = false := by simpa using h
        rw [z]
        rfl
      show Q (.bl false) H1
      rw [e]
      exact q _ s1
def spAreTurns : Sp := fun vs H Q _ => ∃ (m : Addr) (L : List (List Nat × List Nat)) (v : V) (d : PyData), vs = [.ref m, v] ∧ DW H m L ∧ Rp H v d ∧ Sml d ∧ ∀ H', Same H H' → Q (.bl (areTurnsD L d)) H'
theorem sc_are_turns : FnScope ["made", "value", "turn"] ["made", "value"] (defScope s_are_turns) := ⟨rfl, rfl, rfl, by decide +kernel, rfl, by decide +kernel, by decide +kernel⟩
theorem has_are_turns (T : Top K mg "are_turns" s_are_turns ["made", "value"]) (B : Bi mg) (hT : Has P w K mg base CX0 3 "is_turn" ["made", "value"] spIsTurn) : Has P w K mg base CX0 4 "are_turns" ["made", "value"] spAreTurns := by
  refine T.ok sc_are_turns (fun vs H Q E h => ?_) (fun f cdv A outer s H vs Q E hr h => ?_)
  · obtain ⟨m, L, v, d, rfl, _⟩ := h
    rfl
  · obtain ⟨m, L, v, d, rfl, hw, hd, hs, q⟩ := h
    refine ⟨_, pss_one (ps_ret (pe_and (pe_callB call_isi (by rfl) B.isinstance PyProof.Rows.boot_isinstance (pa_cons (pv 1) (pa_cons (pe_bltn (by rfl) B.tuple PyProof.Rows.boot_tuple (rr_ty "tuple")) pa_nil)))
      (pe_one (pe_callB (cr_all (by rfl)) (by rfl) B.all PyProof.Rows.boot_all (pa_cons (pe_lc (own := [("turn", 2)]) (g := gName 2) (te := tCall spIsTurn [] E0 (tCons (tVar 0) (tCons (tVar 2) tNil))) (by rfl) sc_are_turns.nd (pi_tup (pv 1)) (blkOk_by (own := [("turn", 2)]) (N := ["made", "value", "turn"]) (sc := defScope s_are_turns) (by decide +kernel))
        (fun _ _ _ _ _ => pg_name (i := 2) sc_are_turns.nd rfl (Or.inl rfl)) (fun _ _ _ _ _ => pts_nil) (fun _ _ _ _ _ => pe_has hT hr (by rfl) (pa_cons (pv 0) (pa_cons (pv 2) pa_nil)))) pa_nil))))), ?_⟩
    refine ⟨_, rfl, v, .ty "tuple", _, _, isTup d, rfl, .ty _, rp_ty hd, kit_ty (kit_tup d), isTup d, rfl, ite2 (fun h => ?_) (fun h => ?_)⟩
    · cases hd with
      | @tup a xs ds ha hx =>
        obtain ⟨hl, hl2⟩ := hs ds rfl
        have hxl := hx.len
        refine ⟨_, rfl, a, rfl, ⟨_, ha.sq⟩, fun D hD => lc_tupM (fun _ v b => v = V.bl b) (ds.map (isTurnD L)) (fun _ _ _ _ _ r => r) ha.sq (fun H' sm => (ha.sm sm).sq) (by omega) (by rw [List.length_map, hxl]) hD (fun x => rfl) (fun i v n hi hn H' sm Q' q' => ?_) (fun H' zs sm hz pr => ?_)⟩
        · obtain ⟨d, e1, e2⟩ := hx.get hi
          rw [List.getElem?_map, e1] at hn
          have hn : isTurnD L d = n := Option.some.inj hn
          refine ⟨_, rfl, _, rfl, m, L, v, d, rfl, hw.same sm, Rp.same sm d _ e2, fun es e => ?_, fun H2 s2 => q' _ _ s2 (by rw [hn])⟩
          have := hl2 d (List.mem_of_getElem? e1) es e
          omega
        · refine ⟨D, ds.map (isTurnD L), rfl, SqL.of (by rw [hz, bls_of pr]), ?_⟩
          have e : (ds.map (isTurnD L)).all id = areTurnsD L (.tuple ds) := by rw [List.all_map]; rfl
          rw [e]
          exact q _ sm
      | non => cases h
      | bl => cases h
      | int => cases h
      | str => cases h
      | lst => cases h
    · have e : false = areTurnsD L d := by cases d <;> first | rfl | exact absurd rfl h
      show Q (.bl false) H
      rw [e]
      exact q _ (Same.refl _)
end
end Lt

set_option Elab.async false
set_option linter.all false
set_option maxRecDepth 100000
set_option maxHeartbeats 4000000
namespace Lt
open PySem PySem.Spec PyProof.Rows L2
theorem nums_ints : ∀ {ds : List PyData}, ds.all isNum = true → ds = (ds.map numOf).map PyData.int
  | [], _ => rfl
  | d :: ds, h => by
    rw [List.all_cons, Bool.and_eq_true] at h
    rw [List.map_cons, List.map_cons, ← nums_ints h.2]
    congr 1
    cases d with
    | int i => rfl
    | _ => cases h.1
theorem isTurn_dT {L : List (List Nat × List Nat)} {d : PyData} (h : isTurnD L d = true) : ∃ t, d = dT t ∧ t ∈ L.map (·.1) := by
  unfold isTurnD at h
  rw [Bool.and_eq_true, decide_eq_true_eq] at h
  obtain ⟨h1, h2⟩ := h
  cases d with
  | tuple ds =>
    have h1 : ds.all isNum = true := h1
    obtain ⟨x, hx, e⟩ := List.mem_map.mp h2
    have e : iN x.1 = ds.map numOf := e
    refine ⟨x.1, ?_, List.mem_map.mpr ⟨x, hx, rfl⟩⟩
    rw [nums_ints h1, ← e]
    show PyData.tuple ((x.1.map Int.ofNat).map PyData.int) = .tuple (x.1.map dN)
    rw [List.map_map]
    rfl
  | _ => cases h1
theorem areTurns_dT {L : List (List Nat × List Nat)} {d : PyData} (h : areTurnsD L d = true) : ∃ ts : List (List Nat), d = .tuple (ts.map dT) ∧ ∀ t ∈ ts, t ∈ L.map (·.1) := by
  cases d with
  | tuple ds =>
    have h : ds.all (isTurnD L) = true := h
    have : ∀ ds : List PyData, ds.all (isTurnD L) = true → ∃ ts : List (List Nat), ds = ts.map dT ∧ ∀ t ∈ ts, t ∈ L.map (·.1) := fun ds => by
      induction ds with
      | nil => exact fun _ => ⟨[], rfl, fun t ht => nomatch ht⟩
      | cons d ds ih =>
        intro h
        rw [List.all_cons, Bool.and_eq_true] at h
        obtain ⟨t, e, ht⟩ := isTurn_dT h.1
        obtain ⟨ts, e2, h2⟩ := ih h.2
        refine ⟨t :: ts, by rw [e, e2]; rfl, fun x hx => ?_⟩
        rcases List.mem_cons.mp hx with z | z
        · rw [z]
          exact ht
        · exact h2 x z
    obtain ⟨ts, e, h2⟩ := this ds h
    exact ⟨ts, by rw [e], h2⟩
  | _ => cases h
theorem numOf_dN (t : List Nat) : (t.map dN).map numOf = t.map Int.ofNat := by
  rw [List.map_map]
  rfl
theorem Rp.tn {H : Hp} {v : V} {t : List Nat} (h : Rp H v (dT t)) : TN H v t := by
  cases h with
  | @tup a xs ds ha hx =>
    refine ⟨a, rfl, ?_⟩
    have e := nums_vals hx (by rw [List.all_map]; exact List.all_eq_true.mpr fun _ _ => rfl)
    rw [numOf_dN, ← nIs_int] at e
    rw [← e]
    exact ha
theorem RpAll.tns {H : Hp} : ∀ {xs : List V} {ts : List (List Nat)}, RpAll H xs (ts.map dT) → Paired (TN H) xs ts
  | _, [], .nil => .nil
  | _, _ :: _, .cons r t => .cons r.tn (RpAll.tns t)
def unT : PyData → List Nat
  | .tuple ds => ds.map fun d => (numOf d).toNat
  | _ => []
theorem unT_dT (t : List Nat) : unT (dT t) = t := by
  show (t.map dN).map (fun d => (numOf d).toNat) = t
  rw [List.map_map]
  exact (List.map_congr_left (g := id) fun _ _ => rfl).trans (List.map_id t)
theorem unT_dTs (ts : List (List Nat)) : (ts.map dT).map unT = ts := by
  rw [List.map_map]
  exact (List.map_congr_left (g := id) fun t _ => unT_dT t).trans (List.map_id ts)
def chainD (n : Nat) (t : List Nat) (us : List (List Nat)) : Bool := !decide (t = List.range n) && (!us.isEmpty && decide (us.foldl cm t = t))
/-- what shows_ring tells -/
def showsD (L : List (List Nat × List Nat)) (n : Nat) : PyData → Bool
  | .tuple [a, .tuple bs] => isTurnD L a && (bs.all (isTurnD L) && chainD n (unT a) (bs.map unT))
  | _ => false
theorem fold_cm {n : Nat} : ∀ {us : List (List Nat)} {t : List Nat}, IsP n t → (∀ u ∈ us, IsP n u) → IsP n (us.foldl cm t)
  | [], _, h, _ => h
  | u :: us, t, h, hu => fold_cm (us := us) (t := cm t u) (h.cm (hu u List.mem_cons_self)) fun x hx => hu x (List.mem_cons_of_mem _ hx)
theorem cmfold_next {ts : List (List Nat)} {i : Nat} {t a : List Nat} (h : ts[i]? = some t) : (ts.take (i + 1)).foldl cm a = cm ((ts.take i).foldl cm a) t := by
  rw [List.take_add_one, h, List.foldl_append]
  rfl
section
variable {P : Program} {w : World} {K : PySem.W.Frag} {mg : Str → Option Value} {base : Heap} {CL CM : Addr}
def spShows : Sp := fun vs H Q _ => ∃ (v u : V) (ls : List (List Nat)) (n : Nat) (d : PyData), vs = [v, u] ∧ Good H v ls n ∧ Rp H u d ∧ (∀ a b, d = .tuple [a, b] → Sml b ∧ ∀ es, a = .tuple es → es.length ≤ 1000) ∧ ∀ H', Same H H' → Q (.bl (showsD (LL ls n) n d)) H'
theorem sc_shows_ring : FnScope ["lock", "value", "made", "turn", "others", "reached", "other"] ["lock", "value"] (defScope s_shows_ring) := ⟨rfl, rfl, rfl, by decide +kernel, rfl, by decide +kernel, by decide +kernel⟩
theorem has_shows_ring (T : Top K mg "shows_ring" s_shows_ring ["lock", "value"]) (B : Bi mg) (hM : Has P w K mg base (L2.CX P w) 5 "made_words" ["lock"] (spMade CL CM)) (hT : Has P w K mg base CX0 3 "is_turn" ["made", "value"] spIsTurn) (hA : Has P w K mg base CX0 4 "are_turns" ["made", "value"] spAreTurns)
    (hS : Has P w K mg base CX0 1 "still_of" ["size"] spStill) (hB : Has P w K mg base CX0 2 "bracket_of" ["one", "other"] spBracket) : Has P w K mg base CX0 6 "shows_ring" ["lock", "value"] spShows := by
  refine T.ok sc_shows_ring (fun vs H Q E h => ?_) (fun f cdv A outer s H vs Q E hr h => ?_)
  · obtain ⟨v, u, ls, n, d, rfl, _⟩ := h
    rfl
  · obtain ⟨v, u, ls, n, d, rfl, g, hd, hsml, q⟩ := h
    have hu64 := hr.units
    have hr1 : Room 1 _ := hr.mono (by decide)
    have hr2 : Room 2 _ := hr.mono (by decide)
    have hr3 : Room 3 _ := hr.mono (by decide)
    have hr4 : Room 4 _ := hr.mono (by decide)
    refine ⟨_, pss_cons (ps_set (i := 2) sc_shows_ring.nd rfl (Or.inl rfl) (pe_hasL hM hr (by rfl) (pa_cons (pv 0) pa_nil)))
      (pss_cons (ps_if (PW.pt (pw_or (pt_not (pt_val (pe_callB call_isi (by rfl) B.isinstance PyProof.Rows.boot_isinstance (pa_cons (pv 1) (pa_cons (pe_bltn (by rfl) B.tuple PyProof.Rows.boot_tuple (rr_ty "tuple")) pa_nil)))))
          (pw_or1 (pt_cmpR op_ne (pe_callB call_len_seq (by rfl) B.len PySem.boot_len (pa_cons (pv 1) pa_nil)) pe_int (nomark _))))) (pss_one (ps_ret pe_bl)) pss_nil)
      (pss_cons (ps_asg (pv 1) (pg_tup (by rfl) (pgs_cons (pg_name (i := 3) sc_shows_ring.nd rfl (Or.inl rfl)) (pgs_cons (pg_name (i := 4) sc_shows_ring.nd rfl (Or.inl rfl)) pgs_nil))))
      (pss_cons (ps_if (PW.pt (pw_or (pt_not (pt_val (pe_has hT hr3 (by rfl) (pa_cons (pv 2) (pa_cons (pv 3) pa_nil)))))
          (pw_or1 (pt_not (pt_val (pe_has hA hr4 (by rfl) (pa_cons (pv 2) (pa_cons (pv 4) pa_nil)))))))) (pss_one (ps_ret pe_bl)) pss_nil)
      (pss_cons (ps_if (PW.pt (pw_or (pt_cmpR (op_eqD hu64) (pv 3) (pe_has hS hr1 (by rfl) (pa_cons (pe_callB call_len_seq (by rfl) B.len PySem.boot_len (pa_cons (pe_ix ix_tup (pv 0) pe_int (fun _ _ => rfl)) pa_nil)) pa_nil)) (nomark _))
          (pw_or1 (pt_cmpR op_eq (pe_callB call_len_seq (by rfl) B.len PySem.boot_len (pa_cons (pv 4) pa_nil)) pe_int (nomark _))))) (pss_one (ps_ret pe_bl)) pss_nil)
      (pss_cons (ps_set (i := 5) sc_shows_ring.nd rfl (Or.inl rfl) (pv 3))
      (pss_cons (ps_for PassesOwn.never rfl (pi_tup (pv 4)) (pg_name (i := 6) sc_shows_ring.nd rfl (Or.inl rfl))
        (pss_one (ps_set (i := 5) sc_shows_ring.nd rfl (Or.inl rfl) (pe_has hB hr2 (by rfl) (pa_cons (pv 5) (pa_cons (pv 6) pa_nil))))))
      (pss_one (ps_ret (pe_cmpR (op_eqD hu64) (pv 5) (pv 3) (nomark _)))))))))), ?_⟩
    have hno : ∀ {H'}, Same H H' → showsD (LL ls n) n d = false → Q (.bl false) H' := fun s' e => by
      have z := q _ s'
      rw [e] at z
      exact z
    refine ⟨_, rfl, v, rfl, lockIn_good g.tt g.gl g.few (by omega) fun m H1 L s1 hm hw hL _ => ?_⟩
    have hL := g.wd hL
    subst hL
    have hd1 := Rp.same s1 _ _ hd
    have g1 := g.same s1
    refine ⟨_, rfl, u, .ty "tuple", _, _, isTup d, rfl, .ty _, rp_ty hd1, kit_ty (kit_tup d), isTup d, rfl, ?_⟩
    cases hb : isTup d with
    | false => exact iteT (iteT (hno s1 (by cases d <;> first | rfl | cases hb)))
    | true =>
      cases hd1 with
      | @tup ua ux ds hua hux =>
        have hul := hux.len
        refine iteF ⟨_, rfl, ua, ux, rfl, .inr hua.sq, rfl, _, rfl, ?_⟩
        by_cases hl2 : ds.length = 2
        · obtain ⟨da, db, rfl⟩ : ∃ da db, ds = [da, db] := by
            match ds, hl2 with
            | [da, db], _ => exact ⟨da, db, rfl⟩
          cases hux with
          | @cons vt _ _ _ hda hux =>
          cases hux with
          | @cons vu _ _ _ hdb hux =>
          cases hux
          obtain ⟨sm1, sm2⟩ := hsml da db rfl
          refine iteNS (by rfl) ?_
          refine ⟨_, rfl, ua, [vt, vu], rfl, hua.sq, rfl, vt, _, rfl, vu, _, rfl, rfl, ?_⟩
          refine ⟨_, rfl, _, rfl, m, LL ls n, vt, da, rfl, hw, hda, sm2, fun H2 s2 => ⟨isTurnD (LL ls n) da, rfl, ?_⟩⟩
          have s12 := s1.trans s2
          cases hbt : isTurnD (LL ls n) da with
          | false =>
            refine iteT (iteT (hno s12 ?_))
            cases db <;> first | rfl | (show (isTurnD (LL ls n) da && _) = false; rw [hbt]; rfl)
          | true =>
            refine iteF ⟨_, rfl, _, rfl, m, LL ls n, vu, db, rfl, hw.same s2, Rp.same s2 _ _ hdb, sm1, fun H3 s3 => ⟨areTurnsD (LL ls n) db, rfl, ?_⟩⟩
            have s13 := s12.trans s3
            cases hbu : areTurnsD (LL ls n) db with
            | false =>
              refine iteT (hno s13 ?_)
              cases db with
              | tuple bs =>
                show (isTurnD (LL ls n) da && (bs.all (isTurnD (LL ls n)) && _)) = false
                rw [show bs.all (isTurnD (LL ls n)) = false from hbu, Bool.false_and, Bool.and_false]
              | _ => rfl
            | true =>
              obtain ⟨t, rfl, htm⟩ := isTurn_dT hbt
              obtain ⟨us, rfl, hus⟩ := areTurns_dT hbu
              have mk : Mk ls n t := (g.mem t).mp htm
              have mku : ∀ x ∈ us, Mk ls n x := fun x hx => (g.mem x).mp (hus x hx)
              have tP := g.isP mk
              have uP : ∀ x ∈ us, IsP n x := fun x hx => g.isP (mku x hx)
              have n9 := g.gl.2.2.2.1
              have ev : showsD (LL ls n) n (.tuple [dT t, .tuple (us.map dT)]) = chainD n t us := by
                show (isTurnD (LL ls n) (dT t) && ((us.map dT).all (isTurnD (LL ls n)) && chainD n (unT (dT t)) ((us.map dT).map unT))) = _
                rw [hbt, show (us.map dT).all (isTurnD (LL ls n)) = true from hbu, unT_dT, unT_dTs, Bool.true_and, Bool.true_and]
              have lus : us.length ≤ 1000 := by
                have := (sm1 _ rfl).1
                rw [List.length_map] at this
                exact this
              rw [ev] at hno q
              have htn : TN H1 vt t := hda.tn
              cases hdb with
              | @tup ub ubx _ hub hubx =>
              have pub : Paired (TN H1) ubx us := hubx.tns
              have lub := Paired.length pub
              refine iteF ?_
              have g3 := g.same s13
              obtain ⟨a0, xs0, b0, rfl, ha0, hp0, h00, t00, hbt0, htl0⟩ := g3.tt.head g3.gl
              have s23 := s2.trans s3
              refine ⟨_, rfl, _, rfl, a0, xs0, 0, .ref b0, rfl, rfl, SqT.of ha0, h00, b0, _, rfl, .inr hbt0.sq, n, by rw [nIs_len, htl0]; rfl, by omega, fun sv H4 s4 hsv => ?_⟩
              have s234 := s23.trans s4
              refine ⟨dT t, dT (List.range n), (htn.tm (.of s234)).dp, hsv.tn.dp, sh_T _, sh_T _, decide (t = List.range n), by rw [eqv_dT], ?_⟩
              by_cases hst : t = List.range n
              · rw [decide_eq_true hst]
                refine iteT (iteT (hno (s13.trans s4) ?_))
                unfold chainD
                rw [decide_eq_true hst]
                rfl
              · rw [decide_eq_false hst]
                refine iteF ⟨_, rfl, ub, ubx, rfl, .inr ((hub.sm s234).sq), rfl, _, rfl, ?_⟩
                by_cases hnil : us = []
                · subst hnil
                  cases pub
                  refine iteT (hno (s13.trans s4) ?_)
                  unfold chainD
                  simp
                · have hpos : us.length ≠ 0 := fun z => hnil (List.length_eq_zero_iff.mp z)
                  have hemp : us.isEmpty = false := by cases us <;> first | exact absurd rfl hnil | rfl
                  refine ite2 (fun e => ?_) (fun _ => ?_)
                  · have e := of_decide_eq_true e
                    injection e with e
                    omega
                  have sB := s13.trans s4
                  refine ⟨_, rfl, _, rfl, ub, rfl, ⟨_, (hub.sm s234).sq⟩, for_tup (K := K) (a := ub) (xs := ubx) (fun i σ H5 => ∃ vr y, σ = [some (.ref a0), some (.ref ua), some (.ref m), some vt, some (.ref ub), some vr, y] ∧ Same H4 H5 ∧ TN H5 vr ((us.take i).foldl cm t))
                    ⟨vt, none, rfl, .refl _, htn.tm (.of s234)⟩ (fun i σ H5 _ ⟨_, _, _, s5, _⟩ => (hub.sm (s234.trans s5)).sq) ?_ ?_⟩
                  · rintro i x σ H5 hi ⟨vr, y, rfl, s5, hvr⟩
                    obtain ⟨o, ho, hon⟩ := Paired.getL pub hi
                    have hcP : IsP n ((us.take i).foldl cm t) := fold_cm tP fun x hx => uP x (List.mem_of_mem_take hx)
                    refine ⟨_, rfl, _, rfl, vr, x, _, o, n, rfl, hvr, hon.tm (.of (s234.trans s5)), hcP, uP o (List.mem_of_getElem? ho), by omega, fun w2 H6 s6 hw2 => ?_⟩
                    exact ⟨w2, _, rfl, s5.trans s6, by rw [cmfold_next ho]; exact TK.tn hw2⟩
                  · rintro σ H5 ⟨vr, y, rfl, s5, hvr⟩
                    rw [lub, List.take_length] at hvr
                    refine ⟨_, rfl, _, rfl, dT (us.foldl cm t), dT t, hvr.dp, (htn.tm (.of (s234.trans s5))).dp, sh_T _, sh_T _, ?_⟩
                    rw [eqv_dT]
                    have z := q H5 (sB.trans s5)
                    unfold chainD at z
                    rw [decide_eq_false hst, hemp] at z
                    exact z
        · refine ite2 (fun _ => hno s1 ?_) (fun h => absurd (show V.int ((ux.length : Nat) : Int) = V.int 2 by simpa using h) fun e => ?_)
          rotate_left
          · injection e with e
            omega
          match ds, hl2 with
          | [], _ => rfl
          | [_], _ => rfl
          | [_, _], h => exact absurd rfl h
          | _ :: b :: _ :: _, _ => cases b <;> rfl
      | non => cases hb
      | bl => cases hb
      | int => cases hb
      | str => cases hb
      | lst => cases hb
end
end Lt

set_option Elab.async false
set_option linter.all false
set_option maxRecDepth 100000
set_option maxHeartbeats 1000000
namespace Lt
open PySem PySem.Spec PyProof.Rows L2
section
variable {P : Program} {w : World} {K : PySem.W.Frag} {mg : Str → Option Value} {base : Heap}
def spLawPermF (K : PySem.W.Frag) : Sp := fun vs H Q _ => ∃ (r sc : Addr) (ns : List Int) (n : Nat), vs = [.ref r, nI n] ∧ RowAt K H r sc ns ∧ n ≤ 1000 ∧ ∀ v H' t, IsP n t → StepR r H H' → RowAt K H' r sc ns → TF H' v t → Q v H'
theorem has_law_permutationF (T : Top K mg "_law_permutation" s_law_permutation ["row", "places"]) (B : Bi mg) (hT : Has P w K mg base CX0 1 "_law_taken" ["row", "many"] (spTaken K)) : Has P w K mg base CX0 2 "_law_permutation" ["row", "places"] (spLawPermF K) := by
  refine T.ok sc_law_permutation (fun vs H Q E h => ?_) (fun f cdv A outer s H vs Q E hr h => ?_)
  · obtain ⟨r, sc, ns, n, rfl, _⟩ := h
    rfl
  · obtain ⟨r, sc, ns, n, rfl, ra, hn, q⟩ := h
    refine ⟨_, pss_cons (ps_par (i := 2) (j := 3) (by rfl) sc_law_permutation.nd rfl rfl (by decide) rfl rfl (pa_cons (pe_listRg (by rfl) (by rfl) B.list (prg_1 (by rfl) B.range (pv 1))) (pa_cons (pe_lst pa_nil) pa_nil)) (by rfl))
      (pss_cons (ps_for PassesOwn.never rfl (pi_range1 (by rfl) B.range (pa_cons (pv 1) pa_nil)) (pg_name (i := 4) sc_law_permutation.nd rfl (Or.inl rfl))
        (pss_one (ps_expr (pe_bm PySem.F.plainAttrs_list PySem.F.slot_list_append PySem.F.type_list_append mt_append (pv 3) (pa_cons
          (pe_bm PySem.F.plainAttrs_list PySem.F.slot_list_pop PySem.F.type_list_pop mt_popAt (pv 2) (pa_cons (pe_has hT hr (by rfl) (pa_cons (pv 0) (pa_cons (pe_callB call_len_seq (by rfl) B.len PySem.boot_len (pa_cons (pv 2) pa_nil)) pa_nil))) pa_nil)) pa_nil)))))
      (pss_one (ps_ret (pe_tupleOfF (by rfl) B.tuple (pv 3))))), ?_⟩
    refine ⟨_, rfl, n, rfl, .of_le (by omega) (by omega) (by omega) (by omega), fun lf hlf => ?_⟩
    have s1 := same_new (o := .lst (rgV 0 n)) hlf
    refine ⟨Nat.zero_le _, fun fd hfd => ⟨_, _, rfl, ?_⟩⟩
    have s2 := s1.trans (same_new (o := .lst []) hfd)
    have hfd0 : H fd = none := s1.free hfd
    have hlfd : lf ≠ fd := fun z => by rw [← z, upd_same] at hfd; cases hfd
    refine ⟨_, rfl, (n : Int), rfl, by omega, by omega, for_range (lo := 0) (n := (n : Int).toNat) (fun i σ H' => ∃ (l f : List Nat) (y : Option V), σ = [some (.ref r), some (nI n), some (.ref lf), some (.ref fd), y] ∧ StepR r H H' ∧ RowAt K H' r sc ns ∧ H' lf = some (.lst (nIs l)) ∧ H' fd = some (.lst (nIs f)) ∧ (f ++ l).Perm (List.range n) ∧ f.length = i)
      ⟨List.range n, [], none, rfl, .of s2, ra.step s2, by rw [upd_ne hlfd, upd_same, rgV_nat], by rw [upd_same]; rfl, List.Perm.refl _, rfl⟩ ?_ ?_⟩
    · rintro i σ H' hi ⟨l, f, y, rfl, st, ra', hl, hf, pm, hfl⟩
      have hlen := pm.length_eq
      rw [List.length_append, List.length_range] at hlen
      have hl1 : 1 ≤ l.length := by omega
      refine ⟨_, rfl, .inl ⟨rfl, _, SqL.of hf⟩, _, rfl, .inl ⟨rfl, _, SqL.of hl⟩, _, rfl, _, rfl, lf, nIs l, rfl, .inl (SqL.of hl), r, sc, ns, l.length, by rw [nIs_len]; rfl, ra', hl1, by omega, fun x H2 hx st2 ra2 => ?_⟩
      have hlr : lf ≠ r := (ra.ne hlf).symm
      have hfr : fd ≠ r := (ra.ne hfd0).symm
      have hl2 := st2 _ _ hlr hl
      have hf2 := st2 _ _ hfr hf
      refine ⟨lf, nIs l, (x : Int), x, nI l[x], rfl, rfl, hl2, by omega, by omega, (ixN_seq (Evl.ixN_nat (by rw [nIs_len]; exact hx))).1, by rw [nIs_get, List.getElem?_eq_getElem hx]; rfl, ?_⟩
      have hf3 : (upd H2 lf (.lst ((nIs l).eraseIdx x))) fd = some (.lst (nIs f)) := by rw [upd_ne hlfd.symm]; exact hf2
      refine ⟨fd, nIs f, nI l[x], rfl, rfl, hf3, by rw [nIs_len, sizeLine_eq]; omega, ?_⟩
      refine ⟨l.eraseIdx x, f ++ [l[x]], _, rfl, ((st.trans st2).mut hlf).mut hfd0, RowAt.mut ra hfd0 (RowAt.mut ra hlf ra2), ?_, ?_, ?_, by rw [List.length_append, hfl]; rfl⟩
      · rw [upd_ne hlfd, upd_same, nIs_erase]
      · rw [upd_same]
        unfold nIs
        rw [List.map_append]
        rfl
      · rw [List.append_assoc]
        refine List.Perm.trans (List.Perm.append_left f ?_) pm
        exact erase_perm l x hx
    · rintro σ H' ⟨l, f, y, rfl, st, ra', hl, hf, pm, hfl⟩
      have hlen := pm.length_eq
      rw [List.length_append, List.length_range] at hlen
      have hl0 : l = [] := by
        cases l with
        | nil => rfl
        | cons a l => rw [List.length_cons] at hlen; omega
      subst hl0
      rw [List.append_nil] at pm
      refine ⟨_, rfl, fd, nIs f, rfl, SqL.of hf, fun p o ho hp => ?_⟩
      have sp := same_new (o := .frz o (.tup (nIs f))) hp
      exact q _ _ f pm (st.trans (.of sp)) (ra'.step sp) ⟨p, o, rfl, upd_same, ho⟩
def spKnownF (K : PySem.W.Frag) : Sp := fun vs H Q _ => ∃ (r kl sc : Addr) (ns : List Int) (kn : List Str), vs = [.ref r, .ref kl] ∧ RowAt K H r sc ns ∧ H kl = some (.lst (kn.map V.str)) ∧ kl ≠ r ∧ 1 ≤ kn.length ∧ kn.length ≤ 100 ∧ (∀ x ∈ kn, x ∈ names) ∧
  ∀ v H' ls n, ls.length ≤ 3 → GL ls n → Few ls n 60 → StepR r H H' → RowAt K H' r sc ns → TTF H' v ls → Q v H'
theorem has_law_knownF (T : Top K mg "_law_known" s_law_known ["row", "kinds"]) (B : Bi mg) (hK : Has P w K mg base CX0 2 "_law_pick" ["row", "things"] (spPick K)) (hM : Has P w K mg base CX0 2 "_law_permutation" ["row", "places"] (spLawPerm K)) : Has P w K mg base CX0 3 "_law_known" ["row", "kinds"] (spKnownF K) := by
  refine T.ok sc_law_known (fun vs H Q E h => ?_) (fun f cdv A outer s H vs Q E hr h => ?_)
  · obtain ⟨r, kl, sc, ns, kn, rfl, _⟩ := h
    rfl
  · obtain ⟨r, kl, sc, ns, kn, rfl, ra, hkl, hne, hk1, hk2, hkn, q⟩ := h
    have hu := hu_of hr
    refine ⟨_, pss_cons (ps_set (i := 2) sc_law_known.nd rfl (Or.inl rfl) (pe_tab (tab := table) (by decide +kernel) table_len table_nd (by decide) (by rfl) (by rfl) (fun z => by cases z) (by decide)))
      (pss_cons (ps_set (i := 3) sc_law_known.nd rfl (Or.inl rfl) (pe_dget hu (pv 2) (pe_has hK hr (by rfl) (pa_cons (pv 0) (pa_cons (pv 1) pa_nil))) (fun _ _ => rfl)))
      (pss_cons (ps_set (i := 4) sc_law_known.nd rfl (Or.inl rfl) (pe_has hM hr (by rfl) (pa_cons (pv 0) (pa_cons (pe_callB call_len_seq (by rfl) B.len PySem.boot_len (pa_cons (pe_ix ix_tup (pv 3) pe_int (fun _ _ => rfl)) pa_nil)) pa_nil))))
      (pss_cons (ps_set (i := 5) sc_law_known.nd rfl (Or.inl rfl) (pe_lst pa_nil))
      (pss_cons (ps_for PassesOwn.never rfl (pi_tup (pv 3)) (pg_name (i := 6) sc_law_known.nd rfl (Or.inl rfl))
        (pss_cons (ps_set (i := 7) sc_law_known.nd rfl (Or.inl rfl) (pe_op op_rep (pe_lst (pa_cons pe_int pa_nil)) (pe_callB call_len_seq (by rfl) B.len PySem.boot_len (pa_cons (pv 6) pa_nil))))
        (pss_cons (ps_for PassesOwn.never rfl (pi_enumT (by rfl) B.enumerate (pa_cons (pv 6) pa_nil)) (pg_tup rfl (pgs_cons (pg_name (i := 8) sc_law_known.nd rfl (Or.inl rfl)) (pgs_cons (pg_name (i := 9) sc_law_known.nd rfl (Or.inl rfl)) pgs_nil)))
          (pss_one (ps_asg (pe_ix ix_tup (pv 4) (pv 9) (fun _ _ => rfl)) (pg_sub (pv 7) (pe_ix ix_tup (pv 4) (pv 8) (fun _ _ => rfl)) set_list))))
        (pss_one (ps_expr (pe_bm PySem.F.plainAttrs_list PySem.F.slot_list_append PySem.F.type_list_append mt_append (pv 5) (pa_cons (pe_tupleOfF (by rfl) B.tuple (pv 7)) pa_nil)))))))
      (pss_one (ps_ret (pe_tupleOf (by rfl) B.tuple (pv 5)))))))), ?_⟩
    refine fun d H1 kvs s1 hd hd1 hDB => ?_
    refine ⟨_, rfl, _, rfl, _, rfl, r, kl, sc, ns, kn.map V.str, rfl, ra.step s1, s1 _ _ hkl, hne, by rw [List.length_map]; exact hk1, by rw [List.length_map]; omega, fun x H2 hx st2 ra2 => ?_⟩
    obtain ⟨nm, hnm, rfl⟩ := List.mem_map.mp hx
    obtain ⟨ts, hts⟩ := names_in nm (hkn nm hnm)
    obtain ⟨n, hf1, hf2, hf3, hf4, hf5, hf6⟩ := fine_of (table_known hts)
    obtain ⟨lv, hlv, htt1⟩ := db_val hDB table_nd hts
    have hdr : d ≠ r := (ra.ne hd).symm
    have hd2 := st2 _ _ hdr hd1
    have htt2 := htt1.tm (st2.tm (ra.step s1))
    refine ⟨d, lv, rfl, by rw [← hlv]; exact DGet.k (k := Sum.inr nm) hd2, ?_⟩
    have gl : GL ts n := ⟨hf1, hf2, hf3, hf4, hf5⟩
    obtain ⟨a, xs, b, rfl, ha, hp, h0, t0, hbt, htl⟩ := htt2.head gl
    refine ⟨_, rfl, _, rfl, a, xs, 0, .ref b, rfl, rfl, SqT.of ha, h0, b, _, rfl, .inr hbt.sq, r, sc, ns, n, by rw [nIs_len, htl]; rfl, ra2, by omega, fun o H3 s hs st3 ra3 ho => ?_⟩
    have ha3 : H3 a = some (.tup xs) := (st3.tm ra2).1 _ _ ha
    have hp3 : Paired (TN H3) xs ts := TNs.tm (st3.tm ra2) hp
    obtain ⟨po, rfl, hpo⟩ := ho
    have st13 : StepR r H H3 := ((StepR.of s1).trans st2).trans st3
    refine ⟨Nat.zero_le _, fun fl hfl => ?_⟩
    have sl := same_new (o := .lst []) hfl
    refine ⟨_, rfl, a, rfl, ⟨_, SqT.of (sl _ _ ha3)⟩, for_tup (K := K) (a := a) (xs := xs) (fun i σ H' => ∃ x6 x7 x8 x9 us, σ = [some (.ref r), some (.ref kl), some (.ref d), some (.ref a), some (.ref po), some (.ref fl), x6, x7, x8, x9] ∧ Same H3 H' ∧ H' fl = some (.lst us) ∧ Paired (TF H') us ((ts.take i).map (cj s)))
      ⟨none, none, none, none, [], rfl, sl, upd_same, .nil⟩ (fun i σ H' _ ⟨_, _, _, _, _, _, s, _⟩ => SqT.of (s _ _ ha3)) ?_ ?_⟩
    · rintro i x σ H' hi ⟨x6, x7, x8, x9, us, rfl, sm, hus, pus⟩
      obtain ⟨t, ht, htn0⟩ := Paired.getL hp3 hi
      have htP := hf5 t (List.mem_of_getElem? ht)
      obtain ⟨pt, rfl, hpt⟩ := htn0.tm (.of sm)
      have hil : i < 4 := Nat.lt_of_lt_of_le (List.getElem?_eq_some_iff.mp ht).1 hf2
      refine ⟨by show 1 ≤ sizeLine; decide, fun l hl => ?_⟩
      have s5 := same_new (o := .lst [V.int 0]) hl
      refine ⟨_, rfl, pt, _, rfl, .inr (hpt.sm s5).sq, l, (t.length : Int), [V.int 0], rfl, by rw [nIs_len], upd_same, by omega, by rw [htP.len]; omega, ?_, fun nm hnm => ?_⟩
      · show 1 * (t.length : Int).toNat ≤ sizeLine
        rw [htP.len, sizeLine_eq]
        omega
      have s6 := s5.trans (same_new (o := .lst (List.replicate (t.length : Int).toNat [V.int 0]).flatten) hnm)
      have hnm0 : H' nm = none := s5.free hnm
      refine ⟨_, rfl, pt, _, rfl, (hpt.sm s6).sq, for_enumT (K := K) (xs := nIs t) (fun k σ2 H2' => ∃ (acc : List Nat) (y z : Option V), σ2 = [some (.ref r), some (.ref kl), some (.ref d), some (.ref a), some (.ref po), some (.ref fl), some (.ref pt), some (.ref nm), y, z] ∧ Same H' H2' ∧ H2' nm = some (.lst (nIs acc)) ∧ acc.length = n ∧ ∀ (i si ti : Nat), i < k → s[i]? = some si → t[i]? = some ti → acc[si]? = s[ti]?)
        ⟨List.replicate n 0, x8, x9, rfl, s6, by rw [upd_same, ← rep_zero, htP.len]; rfl, List.length_replicate .., fun i si ti h => absurd h (Nat.not_lt_zero i)⟩ (fun k σ2 H2' _ ⟨_, _, _, _, s, _⟩ => (hpt.sm s).sq) ?_ ?_⟩
      · rintro k y σ2 H2' T' hk ⟨acc, y8, y9, rfl, sm2, hnm2, hacc, hj⟩ hT'
        rw [nIs_get] at hk
        obtain ⟨m, hm, rfl⟩ := Option.map_eq_some_iff.mp hk
        have hmn : m < n := htP.lt m (List.mem_of_getElem? hm)
        have hkn' : k < n := by have := (List.getElem?_eq_some_iff.mp hm).1; rw [htP.len] at this; exact this
        have sT := same_new (o := .tup [nI k, nI m]) hT'
        have hnT : nm ≠ T' := ne_of_none hnm2 hT'
        have hsk : s[k]? = some (s[k]'(by rw [hs.len]; exact hkn')) := List.getElem?_eq_getElem _
        have hsm : s[m]? = some (s[m]'(by rw [hs.len]; exact hmn)) := List.getElem?_eq_getElem _
        generalize (s[k]'(by rw [hs.len]; exact hkn')) = sk at hsk
        generalize (s[m]'(by rw [hs.len]; exact hmn)) = smv at hsm
        have hskn : sk < n := hs.lt sk (List.mem_of_getElem? hsk)
        have hpo2 : (upd H2' T' (.tup [nI k, nI m])) po = some (.tup (nIs s)) := sT _ _ (sm2 _ _ (sm _ _ hpo))
        refine ⟨T', _, rfl, SqT.of upd_same, rfl, nI k, _, rfl, nI m, _, rfl, rfl, ?_⟩
        refine ⟨_, rfl, _, rfl, po, _, (m : Int), nI smv, rfl, rfl, SqT.of hpo2, atI_nat (by rw [nIs_get, hsm]; rfl), _, rfl, _, rfl, _, rfl, po, _, (k : Int), nI sk, rfl, rfl, SqT.of hpo2, atI_nat (by rw [nIs_get, hsk]; rfl), nm, nIs acc, (sk : Int), sk, rfl, rfl, sT _ _ hnm2, Evl.ixN_nat (by rw [nIs_len, hacc]; exact hskn), ?_⟩
        refine ⟨acc.set sk smv, _, _, rfl, same_mut (sm2.trans sT) hnm0, by rw [upd_same, nIs_set], by rw [List.length_set]; exact hacc, fun i si ti hik hsi hti => ?_⟩
        by_cases e : i = k
        · subst e
          rw [hsk] at hsi
          have hsi := Option.some.inj hsi
          subst hsi
          rw [hm] at hti
          have hti := Option.some.inj hti
          subst hti
          rw [List.getElem?_set_self (by omega), hsm]
        · have hne2 : sk ≠ si := fun z => e (nd_ix hs.nd hsi (z ▸ hsk))
          rw [List.getElem?_set_ne hne2]
          exact hj i si ti (by omega) hsi hti
      · rintro σ2 H2' ⟨acc, y8, y9, rfl, sm2, hnm2, hacc, hj⟩
        have ecj : acc = cj s t := cj_at hs htP hacc fun i si ti hsi hti => hj i si ti (by rw [nIs_len]; exact (List.getElem?_eq_some_iff.mp hti).1) hsi hti
        have hus2 := sm2 _ _ hus
        refine ⟨_, rfl, .inl ⟨rfl, _, SqL.of hus2⟩, _, rfl, nm, nIs acc, rfl, SqL.of hnm2, fun p o hod hp' => ?_⟩
        have s7 := same_new (o := .frz o (.tup (nIs acc))) hp'
        have hus3 := s7 _ _ hus2
        have husl : us.length ≤ 4 := by rw [Paired.length pus, List.length_map, List.length_take]; omega
        refine ⟨fl, us, _, rfl, rfl, hus3, by rw [sizeLine_eq]; omega, ?_⟩
        have t8 := Tm.lst (o := .lst (us ++ [V.ref p])) hus3
        refine ⟨_, _, _, _, us ++ [.ref p], rfl, same_mut ((sm.trans sm2).trans s7) hfl, upd_same, ?_⟩
        rw [List.take_add_one, ht, List.map_append]
        exact Paired.app (TFs.tm ((Tm.of (sm2.trans s7)).trans t8) pus) (Paired.one (TF.tm t8 ⟨p, o, rfl, by rw [upd_same, ecj], hod⟩))
    · rintro σ H' ⟨x6, x7, x8, x9, us, rfl, sm, hus, pus⟩
      rw [Paired.length hp3, List.take_length] at pus
      refine ⟨_, rfl, .inl ⟨fl, us, rfl, SqL.of hus, fun p hp' => ?_⟩⟩
      have s7 := same_new (o := .tup us) hp'
      refine q _ _ (ts.map (cj s)) n (by rw [List.length_map]; exact three_of hts) ⟨by rw [List.length_map]; exact hf1, by rw [List.length_map]; exact hf2, hf3, hf4, fun g hg => ?_⟩ ((Few.cj hf5 hs hf6).mono (by omega)) (st13.trans (.of (sm.trans s7))) (ra3.step (sm.trans s7)) ⟨p, us, rfl, upd_same, TFs.tm (.of s7) pus⟩
      obtain ⟨t, ht, e⟩ := List.mem_map.mp hg
      rw [← e]
      exact cj_isP hs (hf5 t ht)
/-! ### _law_lock -/
def spLockF (K : PySem.W.Frag) : Sp := fun vs H Q _ => ∃ (r kl sc : Addr) (ns : List Int) (kn : List Str), vs = [.ref r, .ref kl] ∧ RowAt K H r sc ns ∧ H kl = some (.lst (kn.map V.str)) ∧ kl ≠ r ∧ 1 ≤ kn.length ∧ kn.length ≤ 100 ∧ (∀ x ∈ kn, x ∈ names) ∧
  ∀ v H' ls n, ls.length ≤ 3 → GL ls n → Few ls n 60 → StepR r H H' → RowAt K H' r sc ns → TTF H' v ls → Q v H'
theorem has_law_lockF (T : Top K mg "_law_lock" s_law_lock ["row", "kinds"]) (B : Bi mg) (hT : Has P w K mg base CX0 1 "_law_taken" ["row", "many"] (spTaken K)) (hK : Has P w K mg base CX0 3 "_law_known" ["row", "kinds"] (spKnownF K)) (hM : Has P w K mg base CX0 2 "_law_permutation" ["row", "places"] (spLawPermF K)) :
    Has P w K mg base CX0 4 "_law_lock" ["row", "kinds"] (spLockF K) := by
  refine T.ok sc_law_lock (fun vs H Q E h => ?_) (fun f cdv A outer s H vs Q E hr h => ?_)
  · obtain ⟨r, kl, sc, ns, kn, rfl, _⟩ := h
    rfl
  · obtain ⟨r, kl, sc, ns, kn, rfl, ra, hkl, hne, hk1, hk2, hkn, q⟩ := h
    have hr1 : Room 1 _ := hr.mono (by decide)
    have hr2 : Room 2 _ := hr.mono (by decide)
    refine ⟨_, pss_cons (ps_if (pt_cmpR op_gt (pe_has hT hr1 (by rfl) (pa_cons (pv 0) (pa_cons pe_int pa_nil))) pe_int (nomark _))
        (pss_one (ps_ret (pe_has hK hr (by rfl) (pa_cons (pv 0) (pa_cons (pv 1) pa_nil))))) pss_nil)
      (pss_cons (ps_set (i := 2) sc_law_lock.nd rfl (Or.inr rfl) (pe_op op_add pe_int (pe_has hT hr1 (by rfl) (pa_cons (pv 0) (pa_cons pe_int pa_nil)))))
      (pss_one (ps_ret (pe_tupleOf (by rfl) B.tuple (pe_lc (own := [("turn", 3)]) (g := gName 3) (te := tCall (spLawPermF K) [] E0 (tCons (tVar 0) (tCons (tVar 2) tNil))) (by rfl) sc_law_lock.nd
        (pi_range1 (by rfl) B.range (pa_cons (pe_op op_add pe_int (pe_has hT hr1 (by rfl) (pa_cons (pv 0) (pa_cons pe_int pa_nil)))) pa_nil)) (blkOk_by (own := [("turn", 3)]) (N := ["row", "kinds", "places", "turn"]) (sc := defScope s_law_lock) (by decide +kernel))
        (fun _ _ _ _ _ => pg_name (i := 3) sc_law_lock.nd rfl (Or.inl rfl)) (fun _ _ _ _ _ => pts_nil) (fun _ _ _ _ _ => pe_has hM hr2 (by rfl) (pa_cons (pv 0) (pa_cons (pv 2) pa_nil)))))))), ?_⟩
    refine ⟨_, rfl, r, sc, ns, 3, rfl, ra, by omega, by omega, fun x H1 hx st1 ra1 => ?_⟩
    refine ⟨(x : Int), 0, rfl, rfl, _, rfl, ite2 (fun h => ?_) (fun h => ?_)⟩
    · exact ⟨_, rfl, _, rfl, r, kl, sc, ns, kn, rfl, ra1, st1 _ _ hne hkl, hne, hk1, hk2, hkn, fun v H2 ls n l3 gl fw st2 ra2 tt => q v H2 ls n l3 gl fw (st1.trans st2) ra2 tt⟩
    · refine ⟨_, rfl, r, sc, ns, 3, rfl, ra1, by omega, by omega, fun y H2 hy st2 ra2 => ?_⟩
      refine ⟨2, (y : Int), rfl, rfl, ?_⟩
      refine ⟨_, rfl, r, sc, ns, 2, rfl, ra2, by omega, by omega, fun z H3 hz st3 ra3 => ?_⟩
      have st03 := (st1.trans st2).trans st3
      refine ⟨1, (z : Int), rfl, rfl, (1 : Int) + (z : Int), rfl, by omega, by omega, fun D hD => ?_⟩
      have hDr : D ≠ r := (ra3.ne hD).symm
      refine lc_range (lo := 0) (n := ((1 : Int) + (z : Int)).toNat) (fun i H' => StepR r H3 H' ∧ RowAt K H' r sc ns ∧ ∃ us ls, H' D = some (.lst us) ∧ Paired (TF H') us ls ∧ ls.length = i ∧ ∀ g ∈ ls, IsP (2 + y) g)
        ⟨.of (same_new hD), ra3.step (same_new hD), [], [], upd_same, .nil, rfl, fun g h => by cases h⟩ ?_ ?_
      · rintro i H' hi ⟨st4, ra4, us, ls, hus, pus, hll, hP⟩
        refine ⟨rfl, iteT (B := StepR r H3 H' ∧ RowAt K H' r sc ns ∧ ∃ us ls, H' D = some (.lst us) ∧ Paired (TF H') us ls ∧ ls.length = i ∧ ∀ g ∈ ls, IsP (2 + y) g) ⟨_, rfl, _, rfl, r, sc, ns, 2 + y, ?_, ra4, by omega, fun v H5 t ht st5 ra5 hv => ?_⟩⟩
        · show [V.ref r, V.int ((2 : Int) + (y : Int))] = [V.ref r, V.int ((2 + y : Nat) : Int)]
          rw [show ((2 + y : Nat) : Int) = (2 : Int) + (y : Int) by omega]
        · have hus5 := st5 _ _ hDr hus
          have t6 := Tm.lst (o := .lst (us ++ [v])) hus5
          refine ⟨us, hus5, by rw [Paired.length pus, hll, sizeLine_eq]; omega, (st4.trans st5).mut hD, RowAt.mut ra3 hD ra5, us ++ [v], ls ++ [t], upd_same, Paired.app (TFs.tm ((st5.tm ra4).trans t6) pus) (Paired.one (TF.tm t6 hv)), by rw [List.length_append, hll]; rfl, fun g hg => ?_⟩
          rcases List.mem_append.mp hg with z | z
          · exact hP g z
          · rw [List.mem_singleton.mp z]
            exact ht
      · rintro H' ⟨st4, ra4, us, ls, hus, pus, hll, hP⟩
        refine .inl ⟨D, us, rfl, SqL.of hus, fun p hp => ?_⟩
        have s7 := same_new (o := .tup us) hp
        exact q _ _ ls (2 + y) (by omega) ⟨by omega, by omega, by omega, by omega, hP⟩ (few4 (by omega) (by omega) hP) ((st03.trans st4).trans (.of s7)) (ra4.step s7) ⟨p, us, rfl, upd_same, TFs.tm (.of s7) pus⟩
end
end Lt

set_option Elab.async false
set_option linter.all false
set_option maxRecDepth 100000
set_option maxHeartbeats 4000000
namespace Lt
open PySem PySem.Spec PyProof.Rows L2
/-- all that stands where turns should are turns -/
def okD (L : List (List Nat × List Nat)) : PyData → Bool
  | .tuple [a, .tuple bs] => isTurnD L a && bs.all (isTurnD L)
  | _ => false
/-- what is looked at: no longer than such values are -/
def Low (d : PyData) : Prop := ∀ a bs, d = .tuple [a, .tuple bs] → bs.length ≤ 100 ∧ SeqAt.shaped (.tuple bs) = true ∧ ∀ e ∈ a :: bs, SeqAt.shaped e = true ∧ ∀ es, e = .tuple es → es.length ≤ 1000
theorem sh_bools : ∀ {ds : List PyData}, (∀ d ∈ ds, isBl d = true) → PyData.canLayAll0 ds = true ∧ PyData.depthAll ds = 0
  | [], _ => ⟨rfl, rfl⟩
  | d :: ds, h => by
    obtain ⟨h1, h2⟩ := sh_bools (ds := ds) fun x hx => h x (List.mem_cons_of_mem _ hx)
    have hd := h d List.mem_cons_self
    cases d with
    | bool b =>
      refine ⟨?_, ?_⟩
      · show (PyData.canLay0 (.bool b) && PyData.canLayAll0 ds) = true
        rw [h1]
        rfl
      · show max (PyData.depth (.bool b)) (PyData.depthAll ds) = 0
        rw [h2]
        rfl
    | _ => cases hd
theorem sh_bl {ds : List PyData} (h : ∀ d ∈ ds, isBl d = true) : SeqAt.shaped (.list ds) = true := by
  obtain ⟨h1, h2⟩ := sh_bools h
  show (PyData.canLayAll0 ds && decide (PyData.depthAll ds + 1 ≤ 64)) = true
  rw [h1, h2]
  rfl
theorem eqv_nil (ds : List PyData) : PyData.eqv (.list ds) (.list []) = ds.isEmpty := by
  cases ds <;> rfl
theorem eqv_nilT (ds : List PyData) : PyData.eqv (.tuple ds) (.tuple []) = ds.isEmpty := by
  cases ds <;> rfl
/-- equal data without truths are the same numbers -/
theorem dT_of_eqv : ∀ {t : List Nat} {es : List PyData}, PyData.eqvAll (t.map dN) es = true → (es.any isBl) = false → es = t.map dN
  | [], [], _, _ => rfl
  | [], _ :: _, h, _ => by simp [PyData.eqvAll] at h
  | _ :: _, [], h, _ => by simp [PyData.eqvAll] at h
  | n :: t, e :: es, h, hb => by
    rw [List.map_cons, PyData.eqvAll, Bool.and_eq_true] at h
    rw [List.any_cons, Bool.or_eq_false_iff] at hb
    rw [List.map_cons, dT_of_eqv h.2 hb.2]
    congr 1
    cases e with
    | int i =>
      have z : ((n : Int) == i) = true := h.1
      rw [← beq_iff_eq.mp z]
      rfl
    | bool b => cases hb.1
    | _ => cases h.1
theorem any_turn {T0 : List (List Nat)} {e : PyData} (h : ((T0.map dT).any fun z => PyData.eqv z e) = true) {es : List PyData} (he : e = .tuple es) (hb : es.any isBl = false) : ∃ t ∈ T0, e = dT t := by
  obtain ⟨z, hz, hv⟩ := List.any_eq_true.mp h
  obtain ⟨t, ht, rfl⟩ := List.mem_map.mp hz
  subst he
  exact ⟨t, ht, by rw [dT_of_eqv hv hb]; rfl⟩
theorem dT_noBl (t : List Nat) : (t.map dN).any isBl = false := by
  rw [List.any_map]
  exact List.any_eq_false.mpr fun x _ => Bool.false_ne_true
theorem at_1 (x y : V) (xs : List V) : atI (x :: y :: xs) 1 = some y := by
  show atI (x :: y :: xs) ((1 : Nat) : Int) = some y
  exact atI_nat rfl
theorem RpAll.app {H : Hp} : ∀ {xs ys : List V} {ds es : List PyData}, RpAll H xs ds → RpAll H ys es → RpAll H (xs ++ ys) (ds ++ es)
  | _, _, _, _, .nil, h => h
  | _, _, _, _, .cons r t, h => .cons r (RpAll.app t h)
theorem RpAll.bools {H H' : Hp} : ∀ {xs : List V} {ds : List PyData}, RpAll H xs ds → (∀ d ∈ ds, isBl d = true) → RpAll H' xs ds
  | _, _, .nil, _ => .nil
  | _, _, .cons (d := d) r t, h => .cons (by
      have hd := h d List.mem_cons_self
      cases r with
      | bl b => exact .bl b
      | _ => cases hd) (RpAll.bools t fun x hx => h x (List.mem_cons_of_mem _ hx))
theorem RT.one {H : Hp} {a : Addr} {xs ys : List V} (h : RT H a xs) (g : RT H a ys) : xs = ys := by
  rcases h with h | ⟨o, h⟩ <;> rcases g with g | ⟨o', g⟩ <;> rw [h] at g
  · injection g with g
    injection g
  · cases g
  · cases g
  · injection g with g
    injection g with _ g
    injection g
theorem showsD_no {L : List (List Nat × List Nat)} {n : Nat} {a : PyData} {bs : List PyData} (h : ∃ e ∈ a :: bs, isTurnD L e = false) : showsD L n (.tuple [a, .tuple bs]) = false := by
  show (isTurnD L a && (bs.all (isTurnD L) && _)) = false
  obtain ⟨e, he, hf⟩ := h
  rcases List.mem_cons.mp he with z | z
  · rw [← z, hf, Bool.false_and]
  · rw [show bs.all (isTurnD L) = false from List.all_eq_false.mpr ⟨e, z, by rw [hf]; exact Bool.false_ne_true⟩, Bool.false_and, Bool.and_false]
section
variable {P : Program} {w : World} {K : PySem.W.Frag} {mg : Str → Option Value} {base : Heap}
def spLawSwapF : Sp := fun vs H Q _ => ∃ (a b : V) (x y : List Nat) (n : Nat), vs = [a, b] ∧ TF H a x ∧ TF H b y ∧ IsP n x ∧ IsP n y ∧ n ≤ 1000 ∧ ∀ v H', Same H H' → TF H' v (cm x y) → Q v H'
theorem has_law_swapF (T : Top K mg "_law_swap" s_law_swap ["one", "other"]) (hP : Has P w K mg base CX0 1 "_law_behind" ["one", "other"] spProd) (hF : Has P w K mg base CX0 1 "_law_behind" ["one", "other"] spProdF) (hB : Has P w K mg base CX0 1 "_law_back" ["turn"] spLawBack) : Has P w K mg base CX0 2 "_law_swap" ["one", "other"] spLawSwapF := by
  refine T.ok sc_law_swap (fun vs H Q E h => ?_) (fun f cdv A outer s H vs Q E hr h => ?_)
  · obtain ⟨a, b, x, y, n, rfl, _⟩ := h
    rfl
  · obtain ⟨a, b, x, y, n, rfl, ha, hb, hx, hy, hn, q⟩ := h
    refine ⟨_, pss_one (ps_ret (pe_has hF hr (by rfl) (pa_cons (pe_has hP hr (by rfl) (pa_cons (pv 0) (pa_cons (pv 1) pa_nil))) (pa_cons (pe_has hP hr (by rfl) (pa_cons (pe_has hB hr (by rfl) (pa_cons (pv 0) pa_nil)) (pa_cons (pe_has hB hr (by rfl) (pa_cons (pv 1) pa_nil)) pa_nil))) pa_nil)))), ?_⟩
    refine ⟨_, rfl, _, rfl, pr_call ha.tn hb.tn hx hy hn fun u1 H1 s1 h1 => ?_⟩
    refine ⟨_, rfl, a, x, n, rfl, ha.tm (.of s1), hx, hn, fun u2 H2 s2 h2 => ?_⟩
    refine ⟨_, rfl, b, y, n, rfl, hb.tm (.of (s1.trans s2)), hy, hn, fun u3 H3 s3 h3 => ?_⟩
    refine pr_call (h2.tm (.of s3)).tn h3.tn hx.inv hy.inv hn fun u4 H4 s4 h4 => ?_
    refine ⟨u1, u4, _, _, rfl, (h1.tm (.of ((s2.trans s3).trans s4))).tn, h4.tn, fun i hi => by rw [(hx.inv.prod hy.inv).len]; exact (hx.prod hy).lt i hi, by rw [(hx.prod hy).len]; exact hn, fun u5 H5 s5 h5 => ?_⟩
    rw [cm_eq hx hy] at h5
    exact q u5 H5 ((((s1.trans s2).trans s3).trans s4).trans s5) h5
def spShown : Sp := fun vs H Q _ => ∃ (v u : V) (wa : Addr) (T0 ls : List (List Nat)) (n : Nat) (d : PyData), vs = [v, .ref wa, u] ∧ LF H wa T0 ∧ (∀ t, t ∈ T0 ↔ Mk ls n t) ∧ T0.length ≤ 63 ∧ n ≤ 9 ∧ (∀ g ∈ ls, IsP n g) ∧ (∀ t, t ∈ (LL ls n).map (·.1) ↔ Mk ls n t) ∧ Rp H u d ∧ Low d ∧
  (okD (LL ls n) d = true → ∃ p vt ub ubx t us, u = .ref p ∧ RT H p [vt, .ref ub] ∧ TF H vt t ∧ RT H ub ubx ∧ Paired (TF H) ubx us ∧ d = .tuple [dT t, .tuple (us.map dT)]) ∧ ∀ H', Same H H' → Q (.bl (showsD (LL ls n) n d)) H'
theorem sc_law_shown : FnScope ["lock", "whole", "value", "turn", "now", "deed", "place"] ["lock", "whole", "value"] (defScope s_law_shown) := ⟨rfl, rfl, rfl, by decide +kernel, rfl, by decide +kernel, by decide +kernel⟩
theorem has_law_shown (T : Top K mg "_law_shown" s_law_shown ["lock", "whole", "value"]) (B : Bi mg) (hW : Has P w K mg base CX0 2 "_law_swap" ["one", "other"] spLawSwapF) : Has P w K mg base CX0 3 "_law_shown" ["lock", "whole", "value"] spShown := by
  refine T.ok sc_law_shown (fun vs H Q E h => ?_) (fun f cdv A outer s H vs Q E hr h => ?_)
  · obtain ⟨v, u, wa, T0, ls, n, d, rfl, _⟩ := h
    rfl
  · obtain ⟨v, u, wa, T0, ls, n, d, rfl, hwa, hmem, h63, n9, hls, hLL, hd, hlow, hok, q⟩ := h
    have hu64 := hr.units
    have hu65 : A.units + 3 + 65 < cLine := by have := hr.un; show A.units + 3 + 65 < cLine; have e : (A.deeper (envOfC "_law_shown" (defScope s_law_shown) s.heap.objs.size f cdv)).units = A.units + 3 := rfl; omega
    refine ⟨_, pss_cons (ps_if (PW.pt (pw_or (pt_not (pt_val (pe_callB call_isi (by rfl) B.isinstance PyProof.Rows.boot_isinstance (pa_cons (pv 2) (pa_cons (pe_bltn (by rfl) B.tuple PyProof.Rows.boot_tuple (rr_ty "tuple")) pa_nil)))))
          (pw_or (pt_cmpR op_ne (pe_callB call_len_seq (by rfl) B.len PySem.boot_len (pa_cons (pv 2) pa_nil)) pe_int (nomark _))
          (pw_or (pt_not (pt_val (pe_callB call_isi (by rfl) B.isinstance PyProof.Rows.boot_isinstance (pa_cons (pe_ix ix_tup (pv 2) pe_int (fun _ _ => rfl)) (pa_cons (pe_bltn (by rfl) B.tuple PyProof.Rows.boot_tuple (rr_ty "tuple")) pa_nil)))))
          (pw_or1 (pt_cmpR (op_eqD hu64) (pe_ix ix_tup (pv 2) pe_int (fun _ _ => rfl)) (pe_tup pa_nil) (nomark _))))))) (pss_one (ps_ret pe_bl)) pss_nil)
      (pss_cons (ps_for PassesOwn.never rfl (pi_tup (pe_op op_catT (pe_tup (pa_cons (pe_ix ix_tup (pv 2) pe_int (fun _ _ => rfl)) pa_nil)) (pe_ix ix_tup (pv 2) pe_int (fun _ _ => rfl)))) (pg_name (i := 3) sc_law_shown.nd rfl (Or.inl rfl))
        (pss_cons (ps_if (PW.pt (pw_or (pt_not (pt_val (pe_callB call_isi (by rfl) B.isinstance PyProof.Rows.boot_isinstance (pa_cons (pv 3) (pa_cons (pe_bltn (by rfl) B.tuple PyProof.Rows.boot_tuple (rr_ty "tuple")) pa_nil)))))
            (pw_or1 (pt_cmpR (op_notInD hu65) (pv 3) (pv 1) (by rfl))))) (pss_one (ps_ret pe_bl)) pss_nil)
        (pss_one (ps_if (pt_cmpR (op_neD hu64) (pe_lc (own := [("place", 6)]) (g := gName 6) (te := tVar 6) (tt := tB (tCB (rIsi K) (tCons (tVar 6) (tCons (tC (.ty "bool")) tNil)))) (by rfl) sc_law_shown.nd (pi_tup (pv 3)) (blkOk_by (own := [("place", 6)]) (N := ["lock", "whole", "value", "turn", "now", "deed", "place"]) (sc := defScope s_law_shown) (by decide +kernel))
            (fun _ _ _ _ _ => pg_name (i := 6) sc_law_shown.nd rfl (Or.inl rfl)) (fun _ _ _ _ _ => pts_one (pt_val (by exact (pe_callB call_isi (by rfl) B.isinstance PyProof.Rows.boot_isinstance (pa_cons (pv 6) (pa_cons (pe_bltn (by rfl) B.bool PyProof.Rows.boot_bool (rr_ty "bool")) pa_nil)))))) (fun _ _ _ _ _ => pv 6)) (pe_lst pa_nil) (nomark _)) (pss_one (ps_ret pe_bl)) pss_nil))))
      (pss_cons (ps_set (i := 4) sc_law_shown.nd rfl (Or.inl rfl) (pe_ix ix_tup (pv 2) pe_int (fun _ _ => rfl)))
      (pss_cons (ps_for PassesOwn.never rfl (pi_tup (pe_ix ix_tup (pv 2) pe_int (fun _ _ => rfl))) (pg_name (i := 5) sc_law_shown.nd rfl (Or.inl rfl))
        (pss_one (ps_set (i := 4) sc_law_shown.nd rfl (Or.inl rfl) (pe_has hW hr (by rfl) (pa_cons (pv 4) (pa_cons (pv 5) pa_nil))))))
      (pss_one (ps_ret (pe_and (pe_cmpR (op_eqD hu64) (pv 4) (pe_ix ix_tup (pv 2) pe_int (fun _ _ => rfl)) (nomark _))
        (pe_one (pe_cmpR (op_neD hu64) (pv 4) (pe_tupRg (by rfl) (by rfl) B.tuple (prg_1 (by rfl) B.range (pe_callB call_len_seq (by rfl) B.len PySem.boot_len (pa_cons (pv 4) pa_nil)))) (nomark _))))))))), ?_⟩
    have hno : ∀ {H'}, Same H H' → showsD (LL ls n) n d = false → Q (.bl false) H' := fun s' e => by
      have z := q _ s'
      rw [e] at z
      exact z
    refine ⟨_, rfl, u, .ty "tuple", _, _, isTup d, rfl, .ty _, rp_ty hd, kit_ty (kit_tup d), isTup d, rfl, ?_⟩
    cases hb : isTup d with
    | false => exact iteT (iteT (hno (.refl _) (by cases d <;> first | rfl | cases hb)))
    | true =>
      cases hd with
      | @tup ua ux ds hua hux =>
        have hul := hux.len
        refine iteF ⟨_, rfl, ua, ux, rfl, .inr hua.sq, rfl, _, rfl, ?_⟩
        by_cases hl2 : ds.length = 2
        · obtain ⟨da, db, rfl⟩ : ∃ da db, ds = [da, db] := by
            match ds, hl2 with
            | [da, db], _ => exact ⟨da, db, rfl⟩
          have hux0 := hux
          cases hux with
          | @cons vt _ _ _ hda hux =>
          cases hux with
          | @cons vu _ _ _ hdb hux =>
          cases hux
          refine iteNS (by rfl) ?_
          refine ⟨_, rfl, ua, [vt, vu], 1, vu, rfl, rfl, hua.sq, at_1 _ _ _, vu, .ty "tuple", _, _, isTup db, rfl, .ty _, rp_ty hdb, kit_ty (kit_tup db), isTup db, rfl, ?_⟩
          cases hb2 : isTup db with
          | false => exact iteT (iteT (hno (.refl _) (by cases db <;> first | rfl | cases hb2)))
          | true =>
            cases hdb with
            | non => cases hb2
            | bl => cases hb2
            | int => cases hb2
            | str => cases hb2
            | lst => cases hb2
            | @tup ub ubx bs hub hubx =>
            have lub := hubx.len
            obtain ⟨l100, hshb, hsm⟩ := hlow da bs rfl
            refine iteF ⟨_, rfl, ua, [vt, .ref ub], 1, .ref ub, rfl, rfl, hua.sq, at_1 _ _ _, Nat.zero_le _, fun pe hpe => ?_⟩
            have se := same_new (o := .tup []) hpe
            refine ⟨.tuple bs, .tuple [], (Rp.dp _ _ (Rp.same se _ _ (.tup hub hubx))), .tup (SqT.of upd_same) .nil, hshb, rfl, bs.isEmpty, by rw [eqv_nilT], ?_⟩
            cases hbs : bs with
            | nil =>
              subst hbs
              refine iteT (hno se ?_)
              show (isTurnD (LL ls n) da && (true && chainD n (unT da) [])) = false
              unfold chainD
              simp
            | cons b0 br =>
              rw [← hbs]
              have hbne : bs.isEmpty = false := by rw [hbs]; rfl
              have hyn : ubx ≠ [] := fun z => by
                rw [z, hbs] at lub
                cases lub
              rw [hbne]
              refine iteF ?_
              have hua0 := hua.sm se
              have hub0 := hub.sm se
              refine ⟨_, rfl, ua, [vt, .ref ub], 0, vt, rfl, rfl, hua0.sq, at_0 _ _, Nat.le_of_ble_eq_true rfl, fun p1 hp1 => ?_⟩
              have s1 := same_new (o := .tup [vt]) hp1
              refine ⟨_, rfl, ua, [vt, .ref ub], 1, .ref ub, rfl, rfl, (hua0.sm s1).sq, at_1 _ _ _, p1, ub, [vt], ubx, rfl, rfl, SqT.of upd_same, (hub0.sm s1).sq, List.cons_ne_nil _ _, by rw [sizeLine_eq]; show 1 + ubx.length ≤ 16777216; omega, fun z => absurd z hyn, fun _ cp hcp => ?_⟩
              have s2 := same_new (o := .tup ([vt] ++ ubx)) hcp
              have s02 := (se.trans s1).trans s2
              have kcp : (upd (upd (upd H pe (.tup [])) p1 (.tup [vt])) cp (.tup ([vt] ++ ubx))) cp = some (.tup (vt :: ubx)) := upd_same
              generalize upd (upd (upd H pe (.tup [])) p1 (.tup [vt])) cp (.tup ([vt] ++ ubx)) = H0 at *
              have rall : RpAll H0 (vt :: ubx) (da :: bs) := RpAll.same s02 _ _ (.cons hda hubx)
              have lall : (vt :: ubx).length = (da :: bs).length := rall.len
              refine ⟨cp, rfl, ⟨_, SqT.of kcp⟩, for_tup (K := K) (a := cp) (xs := vt :: ubx) (fun i σ H1 => ∃ y3 y6, σ = [some v, some (.ref wa), some (.ref ua), y3, none, none, y6] ∧ Same H0 H1 ∧ ∀ e ∈ (da :: bs).take i, isTurnD (LL ls n) e = true)
                ⟨none, none, rfl, .refl _, fun e he => by cases he⟩ (fun i σ H1 _ ⟨_, _, _, s, _⟩ => SqT.of (s _ _ kcp)) ?_ ?_⟩
              · rintro i x σ H1 hi ⟨y3, y6, rfl, sm, hgood⟩
                obtain ⟨e, he, hxe0⟩ := RpAll.get rall hi
                have hxe := Rp.same sm _ _ hxe0
                have hem := List.mem_of_getElem? he
                obtain ⟨hshe, hle⟩ := hsm e hem
                have sH1 := s02.trans sm
                have bad : isTurnD (LL ls n) e = false → ∀ {H'}, Same H1 H' → Q (.bl false) H' := fun z {H'} s' => hno (sH1.trans s') (showsD_no ⟨e, hem, z⟩)
                refine ⟨_, rfl, x, .ty "tuple", _, _, isTup e, rfl, .ty _, rp_ty hxe, kit_ty (kit_tup e), isTup e, rfl, ?_⟩
                cases hbe : isTup e with
                | false => exact iteT (iteT (bad (by cases e <;> first | rfl | cases hbe) (.refl _)))
                | true =>
                  cases hxe with
                  | non => cases hbe
                  | bl => cases hbe
                  | int => cases hbe
                  | str => cases hbe
                  | lst => cases hbe
                  | @tup xa xx es hxa hxx =>
                  have lxx := hxx.len
                  have les := hle es rfl
                  obtain ⟨wx, hwx, pwx⟩ := hwa.same sH1
                  refine iteF ⟨_, rfl, _, rfl, .tuple es, T0.map dT, Rp.dp _ _ (.tup hxa hxx), .lst (SqL.of hwx) (TNs.dp (paired_mono (fun _ _ r => TF.tn r) pwx)), hshe, sh_LT _, _, rfl, ?_⟩
                  cases hany : (T0.map dT).any fun z => PyData.eqv z (.tuple es) with
                  | false =>
                    refine iteT (bad (Bool.eq_false_iff.mpr fun z => ?_) (.refl _))
                    obtain ⟨t, et, ht⟩ := isTurn_dT z
                    rw [et, any_dT, decide_eq_false_iff_not] at hany
                    exact hany ((hmem t).mpr ((hLL t).mp ht))
                  | true =>
                    refine iteF ⟨_, rfl, xa, rfl, ⟨_, hxa.sq⟩, fun D hD => ?_⟩
                    refine lc_tup (K := K) (a := xa) (g := gName 6) (xs := xx) (fun j H2 => Same H1 H2 ∧ ∃ zs, H2 D = some (.lst zs) ∧ RpAll H2 zs ((es.take j).filter isBl) ∧ zs.length ≤ j) ⟨same_new hD, [], upd_same, .nil, Nat.le_refl _⟩ (fun j H2 _ h => (hxa.sm h.1).sq) ?_ ?_
                    · rintro j y H2 hj ⟨s2', zs, hz, rz, lz⟩
                      obtain ⟨f', hf, hyf0⟩ := hxx.get hj
                      have hyf := Rp.same s2' _ _ hyf0
                      have hjl : j < 1000 := by
                        have := (List.getElem?_eq_some_iff.mp hf).1
                        omega
                      have en : (es.take (j + 1)).filter isBl = (es.take j).filter isBl ++ if isBl f' = true then [f'] else [] := by
                        rw [List.take_add_one, hf, List.filter_append]
                        congr 1
                        show List.filter isBl [f'] = _
                        rw [List.filter_cons, List.filter_nil]
                      refine ⟨rfl, _, rfl, y, .ty "bool", _, _, isBl f', rfl, .ty _, rp_ty hyf, kit_ty (kit_bool f'), isBl f', rfl, ?_⟩
                      cases hbf : isBl f' with
                      | false =>
                        rw [hbf, if_neg Bool.false_ne_true, List.append_nil] at en
                        exact iteF ⟨s2', zs, hz, by rw [en]; exact rz, by omega⟩
                      | true =>
                        rw [hbf, if_pos rfl] at en
                        have hyb : ∀ H, Rp H y f' := fun H => by
                          cases hyf with
                          | bl b => exact .bl b
                          | _ => cases hbf
                        refine iteT ⟨_, rfl, zs, hz, by rw [sizeLine_eq]; omega, same_mut s2' hD, zs ++ [y], upd_same, ?_, by rw [List.length_append]; show zs.length + 1 ≤ j + 1; omega⟩
                        rw [en]
                        exact RpAll.app (RpAll.bools rz fun d hd => (List.mem_filter.mp hd).2) (.cons (hyb _) .nil)
                    · rintro H2 ⟨s2', zs, hz, rz, lz⟩
                      rw [lxx, List.take_length] at rz
                      refine ⟨Nat.zero_le _, fun p4 hp4 => ?_⟩
                      have s4 := same_new (o := .lst []) hp4
                      refine ⟨.list (es.filter isBl), .list [], .lst (SqL.of (s4 _ _ hz)) (RpAll.dp _ _ (RpAll.same s4 _ _ rz)), .lst (SqL.of upd_same) .nil, sh_bl fun d hd => (List.mem_filter.mp hd).2, rfl, !(es.filter isBl).isEmpty, by rw [eqv_nil], ?_⟩
                      have sE := s2'.trans s4
                      cases hfb : es.any isBl with
                      | true =>
                        obtain ⟨f', hf1, hf2⟩ := List.any_eq_true.mp hfb
                        have hne : (es.filter isBl).isEmpty = false := by
                          have := List.mem_filter.mpr ⟨hf1, hf2⟩
                          cases hx : es.filter isBl with
                          | nil => rw [hx] at this; cases this
                          | cons => rfl
                        rw [hne]
                        refine iteT (bad (Bool.eq_false_iff.mpr fun z => ?_) sE)
                        obtain ⟨t, et, ht⟩ := isTurn_dT z
                        injection et with et
                        rw [et, dT_noBl] at hfb
                        cases hfb
                      | false =>
                        have hem2 : es.filter isBl = [] := List.filter_eq_nil_iff.mpr fun x hx hb => by
                          have := List.any_eq_true.mpr ⟨x, hx, hb⟩
                          rw [hfb] at this
                          cases this
                        rw [hem2]
                        refine iteF ⟨_, _, rfl, sm.trans sE, fun e' he' => ?_⟩
                        rw [List.take_add_one, he] at he'
                        rcases List.mem_append.mp he' with z | z
                        · exact hgood e' z
                        · rw [List.mem_singleton.mp z]
                          obtain ⟨t, ht, et⟩ := any_turn hany rfl hfb
                          rw [et, isTurnD_dT]
                          exact decide_eq_true ((hLL t).mpr ((hmem t).mp ht))
              · rintro σ H1 ⟨y3, y6, rfl, sm, hgood⟩
                rw [lall, List.take_length] at hgood
                have ok : okD (LL ls n) (.tuple [da, .tuple bs]) = true := by
                  show (isTurnD (LL ls n) da && bs.all (isTurnD (LL ls n))) = true
                  rw [hgood da List.mem_cons_self, Bool.true_and]
                  exact List.all_eq_true.mpr fun e he => hgood e (List.mem_cons_of_mem _ he)
                obtain ⟨p, vt', ub', ubx', t, us, e1, hp, htf, hub2, pus, ed⟩ := hok ok
                injection e1 with e1
                subst e1
                have e2 := RT.one hua hp
                injection e2 with e2 e3
                subst e2
                injection e3 with e3 _
                injection e3 with e3
                subst e3
                have e4 := RT.one hub hub2
                subst e4
                injection ed with ed
                injection ed with ed1 ed2
                injection ed2 with ed2 _
                injection ed2 with ed2
                subst ed1
                subst ed2
                have sH1 := s02.trans sm
                have mk : ∀ x, isTurnD (LL ls n) (dT x) = true → Mk ls n x := fun x hx => by
                  rw [isTurnD_dT, decide_eq_true_eq] at hx
                  exact (hLL x).mp hx
                have tP : IsP n t := (mk t (hgood _ List.mem_cons_self)).isP hls
                have uP : ∀ x ∈ us, IsP n x := fun x hx => (mk x (hgood _ (List.mem_cons_of_mem _ (List.mem_map.mpr ⟨x, hx, rfl⟩)))).isP hls
                have lus := Paired.length pus
                have ev : showsD (LL ls n) n (.tuple [dT t, .tuple (us.map dT)]) = chainD n t us := by
                  show (isTurnD (LL ls n) (dT t) && ((us.map dT).all (isTurnD (LL ls n)) && chainD n (unT (dT t)) ((us.map dT).map unT))) = _
                  rw [hgood (dT t) List.mem_cons_self, show (us.map dT).all (isTurnD (LL ls n)) = true from List.all_eq_true.mpr fun e he => hgood e (List.mem_cons_of_mem _ he), unT_dT, unT_dTs, Bool.true_and, Bool.true_and]
                rw [ev] at q
                have hue : us.isEmpty = false := by
                  cases us with
                  | nil => cases hbs
                  | cons => rfl
                refine ⟨_, rfl, ua, [vt, .ref ub], 0, vt, rfl, rfl, (hua.sm sH1).sq, at_0 _ _, ?_⟩
                refine ⟨_, rfl, ua, [vt, .ref ub], 1, .ref ub, rfl, rfl, (hua.sm sH1).sq, at_1 _ _ _, ub, rfl, ⟨_, (hub.sm sH1).sq⟩, for_tup (K := K) (a := ub) (xs := ubx) (fun i σ H2 => ∃ vr y3 y5 y6, σ = [some v, some (.ref wa), some (.ref ua), y3, some vr, y5, y6] ∧ Same H1 H2 ∧ TF H2 vr ((us.take i).foldl cm t))
                  ⟨vt, _, _, _, rfl, .refl _, htf.tm (.of sH1)⟩ (fun i σ H2 _ ⟨_, _, _, _, _, s5, _⟩ => (hub.sm (sH1.trans s5)).sq) ?_ ?_⟩
                · rintro i x σ H2 hi ⟨vr, y3, y5, y6, rfl, s5, hvr⟩
                  obtain ⟨o, ho, hof⟩ := Paired.getL pus hi
                  have hcP : IsP n ((us.take i).foldl cm t) := fold_cm tP fun x hx => uP x (List.mem_of_mem_take hx)
                  refine ⟨_, rfl, _, rfl, vr, x, _, o, n, rfl, hvr, hof.tm (.of (sH1.trans s5)), hcP, uP o (List.mem_of_getElem? ho), by omega, fun w2 H6 s6 hw2 => ?_⟩
                  exact ⟨w2, _, _, _, rfl, s5.trans s6, by rw [cmfold_next ho]; exact hw2⟩
                · rintro σ H2 ⟨vr, y3, y5, y6, rfl, s5, hvr⟩
                  rw [lus, List.take_length] at hvr
                  have sH2 := sH1.trans s5
                  have fP := fold_cm tP uP
                  obtain ⟨ra, ro, rfl, hra, hrd⟩ := id hvr
                  refine ⟨_, rfl, _, rfl, ua, [vt, .ref ub], 0, vt, rfl, rfl, (hua.sm sH2).sq, at_0 _ _, dT (us.foldl cm t), dT t, hvr.tn.dp, (htf.tn.tm (.of sH2)).dp, sh_T _, sh_T _, decide (us.foldl cm t = t), by rw [eqv_dT], ?_⟩
                  by_cases hft : us.foldl cm t = t
                  · rw [decide_eq_true hft]
                    refine iteT ⟨_, rfl, _, rfl, ra, nIs (us.foldl cm t), rfl, .inr (RT.sq (.inr ⟨ro, hra⟩)), ((nIs (us.foldl cm t)).length : Int), rfl, .of_le (by first | omega | (rw [nIs_len, fP.len]; omega)) (by first | omega | (rw [nIs_len, fP.len]; omega)) (by first | omega | (rw [nIs_len, fP.len]; omega)) (by first | omega | (rw [nIs_len, fP.len]; omega)), fun pd hpd => ?_⟩
                    have s7 := same_new (o := .tup (rgV 0 ((nIs (us.foldl cm t)).length : Int))) hpd
                    have hpn : TN (upd H2 pd (.tup (rgV 0 ((nIs (us.foldl cm t)).length : Int)))) (.ref pd) (List.range n) := ⟨pd, rfl, .inl (by rw [upd_same, nIs_len, fP.len, rgV_nat])⟩
                    refine ⟨dT (us.foldl cm t), dT (List.range n), (hvr.tn.tm (.of s7)).dp, hpn.dp, sh_T _, sh_T _, ?_⟩
                    rw [eqv_dT]
                    have z := q _ (sH2.trans s7)
                    unfold chainD at z
                    rw [decide_eq_true hft, hue] at z
                    have e : decide (us.foldl cm t = List.range n) = decide (t = List.range n) := by rw [hft]
                    rw [e]
                    simp only [Bool.not_false, Bool.true_and, Bool.and_true] at z
                    exact z
                  · rw [decide_eq_false hft]
                    have z := q H2 sH2
                    unfold chainD at z
                    rw [decide_eq_false hft, hue] at z
                    simp at z
                    exact iteF z
        · refine ite2 (fun _ => iteT (hno (.refl _) ?_)) (fun h => absurd (show V.int ((ux.length : Nat) : Int) = V.int 2 by simpa using h) fun e => ?_)
          rotate_left
          · injection e with e
            omega
          match ds, hl2 with
          | [], _ => rfl
          | [_], _ => rfl
          | [_, _], h => exact absurd rfl h
          | _ :: b :: _ :: _, _ => cases b <;> rfl
      | non => cases hb
      | bl => cases hb
      | int => cases hb
      | str => cases hb
      | lst => cases hb
end
end Lt

set_option Elab.async false
set_option linter.all false
set_option maxRecDepth 100000
set_option maxHeartbeats 4000000
namespace Lt
open PySem PySem.Spec PyProof.Rows L2
/-- the terms so far: A the last, as far as the series has come -/
structure Sf (b : Bool) (ls : List (List Nat)) (n : Nat) (T0 : List (List Nat)) (j : Nat) (pre : List (List (List Nat))) (A : List (List Nat)) : Prop where
  len : pre.length = j
  nd : A.Nodup
  asc : Asc A
  tm : Tm1 ls (Mb b T0 A) n A
  few : A.length * 2 ^ j ≤ 60
  head : (pre ++ [A])[0]? = some T0
  step : ∀ i X Y, (pre ++ [A])[i]? = some X → (pre ++ [A])[i + 1]? = some Y → Nx (Mb b T0 X) n X Y ∧ Y.length ≠ X.length
theorem mb_sub {b : Bool} {T0 A B : List (List Nat)} (h : ∀ t ∈ B, t ∈ A) : ∀ t ∈ Mb b T0 B, t ∈ Mb b T0 A := by
  cases b
  · exact h
  · exact fun t ht => ht
theorem Sf.next {b : Bool} {ls T0 A B : List (List Nat)} {n j m : Nat} {pre : List (List (List Nat))} (h : Sf b ls n T0 j pre A) (hls : ∀ g ∈ ls, IsP n g) (hms : ∀ g ∈ Mb b T0 A, IsP n g) (hf : Few ls n m) (hx : Nx (Mb b T0 A) n A B) (hne : B.length ≠ A.length) : Sf b ls n T0 (j + 1) (pre ++ [A]) B := by
  obtain ⟨Bt, Bs⟩ := h.tm.next hls hms hx
  have hh := hx.half hls hms hf h.tm hne h.nd
  refine ⟨by rw [List.length_append, h.len]; rfl, hx.nd, hx.asc, ⟨Bt.sub, Bt.still, Bt.pr, fun t ht g hg => Bt.cm t ht g (mb_sub Bs g hg)⟩, ?_, ?_, fun i X Y h1 h2 => ?_⟩
  · have e : B.length * 2 ^ (j + 1) = (2 * B.length) * 2 ^ j := by rw [Nat.pow_succ, Nat.mul_comm 2, Nat.mul_assoc, Nat.mul_comm 2]
    rw [e]
    exact Nat.le_trans (Nat.mul_le_mul_right _ hh) h.few
  · rw [List.getElem?_append_left (by rw [List.length_append]; show 0 < pre.length + 1; omega)]
    exact h.head
  · by_cases hi : i + 1 < (pre ++ [A]).length
    · rw [List.getElem?_append_left hi] at h2
      rw [List.getElem?_append_left (by omega)] at h1
      exact h.step i X Y h1 h2
    · have l2 := (List.getElem?_eq_some_iff.mp h2).1
      rw [List.length_append] at l2
      have e0 : ([B] : List (List (List Nat))).length = 1 := rfl
      have e1 : ([A] : List (List (List Nat))).length = 1 := rfl
      have ei : i + 1 = (pre ++ [A]).length := by omega
      have ei2 : i = pre.length := by
        rw [List.length_append] at ei
        omega
      rw [ei, List.getElem?_concat_length] at h2
      rw [List.getElem?_append_left (by omega), ei2, List.getElem?_concat_length] at h1
      rw [← Option.some.inj h1, ← Option.some.inj h2]
      exact ⟨hx, hne⟩
theorem Sf.done {b : Bool} {ls T0 A : List (List Nat)} {n j : Nat} {pre : List (List (List Nat))} (h : Sf b ls n T0 j pre A) (hx : ∃ B, Nx (Mb b T0 A) n A B ∧ B.length = A.length) : SerM (Mb b T0) n T0 (pre ++ [A]) := by
  refine ⟨h.head, h.step, fun i X h1 h2 => ?_⟩
  have l1 := (List.getElem?_eq_some_iff.mp h1).1
  have l2 := List.getElem?_eq_none_iff.mp h2
  have e0 : ([A] : List (List (List Nat))).length = 1 := rfl
  rw [List.length_append] at l1 l2
  have ei : i = pre.length := by omega
  rw [ei, List.getElem?_concat_length] at h1
  rw [← Option.some.inj h1]
  exact hx
theorem LF.dp {K : PySem.W.Frag} {H : Hp} {a : Addr} {ts : List (List Nat)} (h : LF H a ts) : Dp K H (.ref a) (.list (ts.map dT)) := h.lt.dp
/-- a list apart from another one -/
def LVn (fl : Addr) (H : Hp) (v : V) (ts : List (List Nat)) : Prop := ∃ a, v = .ref a ∧ a ≠ fl ∧ LF H a ts
theorem LVn.same {fl : Addr} {H H' : Hp} {v : V} {ts : List (List Nat)} (e : Same H H') (h : LVn fl H v ts) : LVn fl H' v ts := let ⟨a, e1, hn, h1⟩ := h; ⟨a, e1, hn, h1.same e⟩
theorem LVns.same {fl : Addr} {H H' : Hp} (e : Same H H') {xs : List V} {ts : List (List (List Nat))} (p : Paired (LVn fl H) xs ts) : Paired (LVn fl H') xs ts := paired_mono (fun _ _ r => r.same e) p
theorem LF.upd {fl a : Addr} {H : Hp} {ys : List V} {o : HO} {ts : List (List Nat)} (h : LF H a ts) (hn : a ≠ fl) (hf : H fl = some (.lst ys)) : LF (upd H fl o) a ts := let ⟨xs, h1, h2⟩ := h; ⟨xs, (upd_ne hn).trans h1, TFs.tm (.lst hf) h2⟩
theorem LVns.upd {fl : Addr} {H : Hp} {ys : List V} {o : HO} (hf : H fl = some (.lst ys)) {xs : List V} {ts : List (List (List Nat))} (p : Paired (LVn fl H) xs ts) : Paired (LVn fl (upd H fl o)) xs ts := paired_mono (fun _ _ r => let ⟨a, e1, hn, h1⟩ := r; ⟨a, e1, hn, h1.upd hn hf⟩) p
theorem LVns.out {fl : Addr} {H : Hp} {xs : List V} {ts : List (List (List Nat))} (p : Paired (LVn fl H) xs ts) : Paired (LV H) xs ts := paired_mono (fun _ _ r => let ⟨a, e1, _, h1⟩ := r; ⟨a, e1, h1⟩) p
theorem iList_if {K : PySem.W.Frag} {ta tb : TE} {i : Nat} {σ : L2.St} {H : Hp} {R : It → Hp → Prop} {b : Bool} {ma : Addr} {mx : List V} (hσ : σ[i]? = some (some (.bl b))) (hm : H ma = some (.lst mx)) (hA : b = true → ∀ Q : VK, Q (.ref ma) H → ta σ H Q) (hB : b = false → ∀ Q : VK, Q (.ref ma) H → tb σ H Q)
    (hR : R (Itl K ma) H) : iList K (tIf (tB (tVar i)) ta tb) σ H R := by
  refine ⟨_, hσ, b, rfl, ?_⟩
  cases b
  · exact iteF (hB rfl _ ⟨ma, rfl, ⟨_, SqL.of hm⟩, hR⟩)
  · exact iteT (hA rfl _ ⟨ma, rfl, ⟨_, SqL.of hm⟩, hR⟩)
section
variable {P : Program} {w : World} {K : PySem.W.Frag} {mg : Str → Option Value} {base : Heap}
def spTerms : Sp := fun vs H Q _ => ∃ (v : V) (b : Bool) (ls : List (List Nat)) (n : Nat), vs = [v, .bl b] ∧ TT H v ls ∧ GL ls n ∧ Few ls n 60 ∧
  ∀ p H' xs Ts T0, Same H H' → H p = none → H' p = some (.lst xs) → Paired (LV H') xs Ts → T0.Nodup → Asc T0 → (∀ t, t ∈ T0 ↔ Mk ls n t) → SerM (Mb b T0) n T0 Ts → Q (.ref p) H'
theorem sc_law_terms : FnScope ["lock", "by_all", "places", "whole", "found", "turn", "given", "one", "later", "other"] ["lock", "by_all"] (defScope s_law_terms) := ⟨rfl, rfl, rfl, by decide +kernel, rfl, by decide +kernel, by decide +kernel⟩
theorem has_law_terms (T : Top K mg "_law_terms" s_law_terms ["lock", "by_all"]) (B : Bi mg) (hS : Has P w K mg base CX0 2 "_law_span" ["places", "given"] spSpan) (hW : Has P w K mg base CX0 2 "_law_swap" ["one", "other"] spLawSwap) : Has P w K mg base CX0 3 "_law_terms" ["lock", "by_all"] spTerms := by
  refine T.ok sc_law_terms (fun vs H Q E h => ?_) (fun f cdv A outer s H vs Q E hr h => ?_)
  · obtain ⟨v, b, ls, n, rfl, _⟩ := h
    rfl
  · obtain ⟨v, b, ls, n, rfl, htt, hgl, hf, q⟩ := h
    have hu := hr.units
    obtain ⟨l1, l4, n2, n9, hls⟩ := id hgl
    refine ⟨_, pss_cons (ps_set (i := 2) sc_law_terms.nd rfl (Or.inl rfl) (pe_callB call_len_seq (by rfl) B.len PySem.boot_len (pa_cons (pe_ix ix_tup (pv 0) pe_int (fun _ _ => rfl)) pa_nil)))
      (pss_cons (ps_set (i := 3) sc_law_terms.nd rfl (Or.inl rfl) (pe_has hS hr (by rfl) (pa_cons (pv 2) (pa_cons (pv 0) pa_nil))))
      (pss_cons (ps_set (i := 4) sc_law_terms.nd rfl (Or.inl rfl) (pe_lst (pa_cons (pv 3) pa_nil)))
      (pss_cons (ps_for PassesOwn.never rfl (pi_range1 (by rfl) B.range (pa_cons pe_int pa_nil)) (pg_name (i := 5) sc_law_terms.nd rfl (Or.inl rfl))
        (pss_cons (ps_set (i := 6) sc_law_terms.nd rfl (Or.inl rfl) (pe_lst pa_nil))
        (pss_cons (ps_for PassesOwn.never rfl (pi_list (pe_ix ix_list (pv 4) (pe_un un_neg pe_int) (fun _ _ => rfl))) (pg_name (i := 7) sc_law_terms.nd rfl (Or.inr rfl))
          (pss_one (ps_set (i := 6) sc_law_terms.nd rfl (Or.inl rfl) (pe_op op_cat (pv 6) (pe_lc (own := [("other", 9)]) (g := gName 9) (te := tCall spLawSwap [] E0 (tCons (tVar 7) (tCons (tVar 9) tNil))) (by rfl) sc_law_terms.nd
            (pi_list (pe_ifExp (pt_val (pv 1)) (pv 3) (pe_ix ix_list (pv 4) (pe_un un_neg pe_int) (fun _ _ => rfl))))
            (blkOk_by (own := [("other", 9)]) (N := ["lock", "by_all", "places", "whole", "found", "turn", "given", "one", "later", "other"]) (sc := defScope s_law_terms) (by decide +kernel))
            (fun _ _ _ _ _ => pg_name (i := 9) sc_law_terms.nd rfl (Or.inl rfl)) (fun _ _ _ _ _ => pts_nil) (fun _ _ _ _ _ => pe_has hW hr (by rfl) (pa_cons (pv 7) (pa_cons (pv 9) pa_nil))))))))
        (pss_cons (ps_set (i := 8) sc_law_terms.nd rfl (Or.inl rfl) (pe_has hS hr (by rfl) (pa_cons (pv 2) (pa_cons
            (pe_callB (cr_sortedT (by rfl)) (by rfl) B.sorted PyProof.Rows.boot_sorted (pa_cons (pe_callTy (cr_setFew (by rfl) hu) (by rfl) B.set PyProof.Rows.boot_set (pa_cons (pv 6) pa_nil)) pa_nil)) pa_nil))))
        (pss_cons (ps_if (pt_cmpR (op_eqD hu) (pv 8) (pe_ix ix_list (pv 4) (pe_un un_neg pe_int) (fun _ _ => rfl)) (nomark _)) (pss_one (ps_ret (pv 4))) pss_nil)
        (pss_one (ps_expr (pe_bm PySem.F.plainAttrs_list PySem.F.slot_list_append PySem.F.type_list_append mt_append (pv 4) (pa_cons (pv 8) pa_nil)))))))))
      (pss_one (ps_ret (pv 4)))))), ?_⟩
    obtain ⟨a0, xs0, b0, rfl, ha0, hp0, h00, t00, hbt0, htl0⟩ := htt.head hgl
    refine ⟨_, rfl, a0, xs0, 0, .ref b0, rfl, rfl, SqT.of ha0, h00, b0, _, rfl, .inr hbt0.sq, ?_⟩
    rw [nIs_len, htl0]
    refine ⟨_, rfl, _, rfl, .ref a0, ls, n, rfl, .inl ⟨a0, xs0, rfl, ha0, hp0⟩, hls, by omega, n9, by omega, hf.mono (by omega), fun wa H1 T0 s1 hwa hlf0 hnd hmem hasc => ?_⟩
    have h60 : T0.length ≤ 60 := hf.le hnd fun t h => (hmem t).mp h
    have hT0P : ∀ t ∈ T0, IsP n t := fun t ht => ((hmem t).mp ht).isP hls
    refine ⟨_, rfl, Nat.le_of_ble_eq_true rfl, fun fl hfl => ?_⟩
    have s2 := same_new (o := .lst [V.ref wa]) hfl
    have fl0 : H fl = none := s1.free hfl
    have wafl : wa ≠ fl := fun z => by
      obtain ⟨wx, hwx, _⟩ := hlf0
      rw [z, hfl] at hwx
      cases hwx
    have hw0 := (Tm1.whole hls hf hmem)
    refine ⟨9, rfl, by decide, by decide, for_range (lo := 0) (n := 9) (fun j σ H' => ∃ x5 x6 x7 x8 x9 xs za pre A, σ = [some (.ref a0), some (.bl b), some (nI n), some (.ref wa), some (.ref fl), x5, x6, x7, x8, x9] ∧ Same H1 H' ∧ H' fl = some (.lst (xs ++ [.ref za])) ∧ Paired (LVn fl H') xs pre ∧ za ≠ fl ∧ LF H' za A ∧ Sf b ls n T0 j pre A)
      ⟨none, none, none, none, none, [], wa, [], T0, rfl, s2, upd_same, .nil, wafl, hlf0.same s2, ⟨rfl, hnd, hasc, ?_, by simpa using h60, rfl, fun i X Y h1 h2 => ?_⟩⟩ ?_ ?_⟩
    · cases b
      · exact hw0.self hls hf hmem
      · exact hw0.self hls hf hmem
    · have := (List.getElem?_eq_some_iff.mp h2).1
      simp at this
    · rintro j σ H' hj ⟨x5, x6, x7, x8, x9, xs, za, pre, A, rfl, st, hfl', pxs, zafl, hza, sf⟩
      have hAP : ∀ t ∈ A, IsP n t := fun t ht => (sf.tm.sub t ht).isP hls
      have hA60 : A.length ≤ 60 := hf.le sf.nd sf.tm.sub
      have hMP : ∀ t ∈ Mb b T0 A, IsP n t := by
        cases b
        · exact hAP
        · exact hT0P
      have hM60 : (Mb b T0 A).length ≤ 60 := by
        cases b
        · exact hA60
        · exact h60
      have hwa' : LF H' wa T0 := hlf0.same st
      refine ⟨Nat.zero_le _, fun g0 hg0 => ?_⟩
      have s3 := same_new (o := .lst []) hg0
      obtain ⟨zx, hzx, pzx⟩ := hza
      refine ⟨_, rfl, 1, rfl, fl, xs ++ [.ref za], -1, .ref za, rfl, rfl, SqL.of (s3 _ _ hfl'), atI_last xs (.ref za), za, rfl, ⟨_, SqL.of (s3 _ _ hzx)⟩, for_list (K := K) (a := za) (xs := zx)
        (fun i σ H2 => ∃ ga gxs x7 x8 x9, σ = [some (.ref a0), some (.bl b), some (nI n), some (.ref wa), some (.ref fl), some (nI j), some (.ref ga), x7, x8, x9] ∧ Same H' H2 ∧ H2 ga = some (.lst gxs) ∧ Paired (TK H2) gxs (brk (A.take i) (Mb b T0 A)))
        ⟨g0, [], x7, x8, x9, by rw [Int.zero_add]; rfl, s3, upd_same, .nil⟩ (fun i σ H2 _ ⟨_, _, _, _, _, _, sm, _⟩ => SqL.of (sm _ _ hzx)) ?_ ?_⟩
      · rintro i x σ H2 hi ⟨ga, gxs, y7, y8, y9, rfl, sm, hga, pgx⟩
        obtain ⟨t, ht, htf0⟩ := Paired.getL pzx hi
        have htP := hAP t (List.mem_of_getElem? ht)
        have htf : TF H2 x t := htf0.tm (.of sm)
        have hil : i < 60 := by
          have := (List.getElem?_eq_some_iff.mp ht).1
          omega
        have gl : gxs.length ≤ 3600 := by
          rw [Paired.length pgx, brk_len]
          have e1 : (A.take i).length ≤ 60 := by rw [List.length_take]; omega
          exact Nat.mul_le_mul e1 hM60
        have hfl2 := sm _ _ hfl'
        obtain ⟨ma, mx, hma, pmx, mA, mB⟩ : ∃ ma mx, H2 ma = some (.lst mx) ∧ Paired (TF H2) mx (Mb b T0 A) ∧ (b = true → ma = wa) ∧ (b = false → ma = za) := by
          cases b
          · exact ⟨za, zx, sm _ _ hzx, TFs.tm (.of sm) pzx, ⟨(fun h => nomatch h), fun _ => rfl⟩⟩
          · obtain ⟨wx, hwx, pwx⟩ := hwa'
            exact ⟨wa, wx, sm _ _ hwx, TFs.tm (.of sm) pwx, ⟨fun _ => rfl, (fun h => nomatch h)⟩⟩
        refine ⟨_, rfl, iList_if (b := b) (ma := ma) (mx := mx) rfl hma (fun hb Q hQ => ?_) (fun hb Q hQ => ?_) (fun D hD => ?_)⟩
        · rw [mA hb] at hQ
          exact ⟨_, rfl, hQ⟩
        · rw [mB hb] at hQ
          exact ⟨_, rfl, 1, rfl, fl, xs ++ [.ref za], -1, .ref za, rfl, rfl, SqL.of hfl2, atI_last xs (.ref za), hQ⟩
        refine lc_listM (K := K) TK ((Mb b T0 A).map (cm t)) (fun _ _ _ _ e r => TK.tm e r) (fun H3 s3 => SqL.of (s3 _ _ hma)) (by rw [Paired.length pmx]; omega) (by rw [List.length_map, Paired.length pmx]) hD (fun _ => rfl) (fun k y b2 hy hb H3 s3 Q' q' => ?_) (fun H3 zs s3 hz pz => ?_)
        · obtain ⟨g, hgk, hyg⟩ := Paired.getL pmx hy
          rw [List.getElem?_map, hgk] at hb
          have hb := Option.some.inj hb
          subst hb
          have hgP := hMP g (List.mem_of_getElem? hgk)
          refine ⟨_, rfl, _, rfl, x, y, t, g, n, rfl, htf.tm (.of s3), hyg.tm (.of s3), htP, hgP, by omega, fun v H' s4 tk => q' v H' s4 ?_⟩
          rw [cm_eq htP hgP] at tk
          exact tk
        · have hga3 := s3 _ _ hga
          have zl : zs.length ≤ 60 := by
            rw [Paired.length pz, List.length_map]
            exact hM60
          refine ⟨ga, D, gxs, zs, rfl, rfl, hga3, hz, by rw [sizeLine_eq]; omega, fun np hnp => ?_⟩
          have s4 := same_new (o := .lst (gxs ++ zs)) hnp
          refine ⟨np, _, _, _, _, rfl, sm.trans (s3.trans s4), upd_same, ?_⟩
          rw [brk_next ht]
          exact Paired.app (TKs.tm (.of (s3.trans s4)) pgx) (TKs.tm (.of s4) pz)
      · rintro σ H2 ⟨ga, gxs, y7, y8, y9, rfl, sm, hga, pgx⟩
        rw [Paired.length pzx, List.take_length] at pgx
        have hbP : ∀ t ∈ brk A (Mb b T0 A), IsP n t := fun t ht => by
          obtain ⟨x, h1, y, h2, rfl⟩ := brk_mem.mp ht
          exact (hAP x h1).cm (hMP y h2)
        have hbL : ∀ t ∈ brk A (Mb b T0 A), Mk ls n t := fun t ht => by
          obtain ⟨x, h1, y, h2, rfl⟩ := brk_mem.mp ht
          exact sf.tm.sub _ (sf.tm.cm x h1 y h2)
        refine ⟨_, rfl, srt_set (n := n) (g := 6) rfl hga pgx hbP (by omega) n9 (fun us und hus => hf.le und fun u hu => hbL u (hus u hu)) fun sp H3 us s3 hlt und umem ul => ?_⟩
        have usP : ∀ t ∈ us, IsP n t := fun t ht => hbP t ((umem t).mp ht)
        have hmk : ∀ t, Mk us n t ↔ Mk (brk A (Mb b T0 A)) n t := fun t => ⟨fun h => h.mono hbP fun g hg => .one hbP ((umem g).mp hg), fun h => h.mono usP fun g hg => .one usP ((umem g).mpr hg)⟩
        refine ⟨.ref sp, us, n, rfl, .inr ⟨sp, rfl, hlt⟩, usP, by omega, n9, ul, (hf.mono (by omega)).sub fun t h => h.mono hls fun g hg => hbL g ((umem g).mp hg), fun p H4 B s4 hp hlf bnd bmem basc => ?_⟩
        have nx : Nx (Mb b T0 A) n A B := ⟨bnd, basc, fun t => (bmem t).trans (hmk t)⟩
        have s24 := (sm.trans s3).trans s4
        have hfl4 := s24 _ _ hfl'
        have hza4 : LF H4 za A := LF.same ⟨zx, hzx, pzx⟩ s24
        refine ⟨_, rfl, _, rfl, 1, rfl, fl, xs ++ [.ref za], -1, .ref za, rfl, rfl, SqL.of hfl4, atI_last xs (.ref za), .list (B.map dT), .list (A.map dT), hlf.dp, hza4.dp, sh_LT _, sh_LT _, decide (B = A), congrArg V.bl (eqv_dTT B A), ite2 (fun e => ?_) (fun e => ?_)⟩
        · have e : B = A := of_decide_eq_true e
          refine ⟨_, rfl, ?_⟩
          have sH := (s1.trans st).trans s24
          exact q fl H4 (xs ++ [.ref za]) (pre ++ [A]) T0 sH fl0 hfl4 (Paired.app (LVs.same s24 (LVns.out pxs)) (Paired.one ⟨za, rfl, hza4⟩)) hnd hasc hmem (sf.done ⟨B, nx, by rw [e]⟩)
        · have e : ¬ B = A := fun z => e (decide_eq_true z)
          obtain ⟨_, Bs⟩ := sf.tm.next hls hMP nx
          have hne : B.length ≠ A.length := fun z => e (asc_one n9 (fun t ht => hAP t (Bs t ht)) ((List.perm_ext_iff_of_nodup bnd sf.nd).mpr fun t => ⟨Bs t, fun ht => Classical.byContradiction fun hn => by
            have l := nodup_len (t :: B) A (List.nodup_cons.mpr ⟨hn, bnd⟩) fun x hx => by
              rcases List.mem_cons.mp hx with y | y
              · rw [y]
                exact ht
              · exact Bs x y
            have e1 : (t :: B).length = B.length + 1 := rfl
            omega⟩) basc sf.asc)
          have pl : pre.length ≤ 9 := by rw [sf.len]; omega
          refine ⟨_, rfl, .inl ⟨rfl, _, SqL.of hfl4⟩, _, rfl, fl, _, .ref p, rfl, rfl, hfl4, by rw [sizeLine_eq, List.length_append, Paired.length pxs]; show pre.length + 1 < 16777216; omega, ?_⟩
          have pfl : p ≠ fl := fun z => by
            have y := s3 _ _ (sm _ _ hfl')
            rw [← z, hp] at y
            cases y
          have t7 := Tm.lst (o := .lst ((xs ++ [V.ref za]) ++ [V.ref p])) hfl4
          refine ⟨_, _, _, _, _, xs ++ [.ref za], p, pre ++ [A], B, rfl, same_mut (st.trans s24) hfl, upd_same, LVns.upd hfl4 (Paired.app (LVns.same s24 pxs) (Paired.one ⟨za, rfl, zafl, hza4⟩)), pfl, hlf.upd pfl hfl4, sf.next hls hMP hf nx hne⟩
    · rintro σ H' ⟨x5, x6, x7, x8, x9, xs, za, pre, A, rfl, st, hfl', pxs, zafl, hza, sf⟩
      have := sf.few
      have : 1 ≤ A.length := List.length_pos_of_mem sf.tm.still
      omega
end
end Lt

set_option Elab.async false
set_option linter.all false
set_option maxRecDepth 100000
set_option maxHeartbeats 4000000
namespace Lt
open PySem PySem.Spec PyProof.Rows L2
abbrev lawN : List Str := ["script", "row", "lock", "whole", "told", "fine", "one", "nought", "odd", "value", "turn"]
theorem sc_law : FnScope lawN ["script"] (defScope s_law) := ⟨rfl, rfl, rfl, by decide +kernel, rfl, by decide +kernel, by decide +kernel⟩
structure LawHas3 (P : Program) (w : World) (K : PySem.W.Frag) (mg : Str → Option Value) (base : Heap) : Prop where
  bi : Bi mg
  taken : Has P w K mg base CX0 1 "_law_taken" ["row", "many"] (spTaken K)
  pick : Has P w K mg base CX0 2 "_law_pick" ["row", "things"] (spPick K)
  is_ : Has P w K mg base CX0 1 "_law_is" ["found", "due"] spIs
  span : Has P w K mg base CX0 2 "_law_span" ["places", "given"] spSpan
  lock : Has P w K mg base CX0 4 "_law_lock" ["row", "kinds"] (spLockF K)
  terms : Has P w K mg base CX0 3 "_law_terms" ["lock", "by_all"] spTerms
  shown : Has P w K mg base CX0 3 "_law_shown" ["lock", "whole", "value"] spShown
  dying : Has P w K mg base CX0 8 "is_dying" ["lock"] spDying
  ring : Has P w K mg base CX0 7 "ring" ["lock"] spRing
  shows : Has P w K mg base CX0 6 "shows_ring" ["lock", "value"] spShows
theorem smlO {ds : List PyData} (h1 : ds.length ≤ 1000) (h2 : ∀ e ∈ ds, ∀ es, e = .tuple es → es.length < 64) : Sml (.tuple ds) := fun es z => by
  injection z with z
  subst z
  exact ⟨h1, h2⟩
theorem cut_last (xs : List V) (h : xs ≠ []) : cutV xs none (some (-1)) = xs.dropLast ∧ ¬ (HT.sIx xs.length 0 none = 0 ∧ HT.sIx xs.length xs.length (some (-1)) = xs.length) := by
  have hp : 0 < xs.length := List.length_pos_iff.mpr h
  have e : HT.sIx xs.length xs.length (some (-1)) = xs.length - 1 := by
    show (if (-1 : Int) < 0 then ((-1 : Int) + (xs.length : Int)).toNat else min (-1 : Int).toNat xs.length) = xs.length - 1
    rw [if_pos (by decide)]
    omega
  refine ⟨?_, fun z => ?_⟩
  · unfold cutV
    rw [e, HT.sIx_none, List.drop_zero, Nat.sub_zero, List.dropLast_eq_take]
  · rw [e] at z
    omega
/-- a value that may be asked of -/
structure OkV (L : List (List Nat × List Nat)) (H : Hp) (u : V) (d : PyData) : Prop where
  rp : Rp H u d
  low : Low d
  sml : ∀ a b, d = .tuple [a, b] → Sml b ∧ ∀ es, a = .tuple es → es.length ≤ 1000
  tf : okD L d = true → ∃ p vt ub ubx t us, u = .ref p ∧ RT H p [vt, .ref ub] ∧ TF H vt t ∧ RT H ub ubx ∧ Paired (TF H) ubx us ∧ d = .tuple [dT t, .tuple (us.map dT)]
theorem OkV.same {L : List (List Nat × List Nat)} {H H' : Hp} {u : V} {d : PyData} (h : OkV L H u d) (s : Same H H') : OkV L H' u d :=
  ⟨Rp.same s _ _ h.rp, h.low, h.sml, fun e => let ⟨p, vt, ub, ubx, t, us, e1, e2, e3, e4, e5, e6⟩ := h.tf e; ⟨p, vt, ub, ubx, t, us, e1, e2.sm s, TF.tm (.of s) e3, e4.sm s, TFs.tm (.of s) e5, e6⟩⟩
/-- a pair of a turn and turns -/
theorem okv_pair {L : List (List Nat × List Nat)} {H : Hp} {p ub : Addr} {vt : V} {ubx : List V} {t : List Nat} {us : List (List Nat)} (hp : RT H p [vt, .ref ub]) (ht : TF H vt t) (hu : RT H ub ubx) (pu : Paired (TF H) ubx us) (lt : t.length ≤ 9) (lu : us.length ≤ 63) (lus : ∀ u ∈ us, u.length ≤ 9) : OkV L H (.ref p) (.tuple [dT t, .tuple (us.map dT)]) := by
  have hus : Rp H (.ref ub) (.tuple (us.map dT)) := .tup hu (TNs.rp (paired_mono (fun _ _ r => TF.tn r) pu))
  refine ⟨.tup hp (.cons ht.tn.rp (.cons hus .nil)), fun a bs e => ?_, fun a b e => ?_, fun _ => ⟨p, vt, ub, ubx, t, us, rfl, hp, ht, hu, pu, rfl⟩⟩
  · injection e with e
    injection e with e1 e2
    injection e2 with e2 _
    injection e2 with e2
    subst e1 e2
    refine ⟨by rw [List.length_map]; omega, sh_TT us, fun x hx => ?_⟩
    have : ∃ y, x = dT y ∧ y.length ≤ 9 := by
      rcases List.mem_cons.mp hx with z | z
      · exact ⟨t, z, lt⟩
      · obtain ⟨y, hy, e⟩ := List.mem_map.mp z
        exact ⟨y, e.symm, lus y hy⟩
    obtain ⟨y, rfl, ly⟩ := this
    refine ⟨sh_T y, fun es e => ?_⟩
    injection e with e
    rw [← e, List.length_map]
    omega
  · injection e with e
    injection e with e1 e2
    injection e2 with e2 _
    subst e1 e2
    refine ⟨smlO (by rw [List.length_map]; omega) fun x hx es z => ?_, fun es e => ?_⟩
    · obtain ⟨y, hy, rfl⟩ := List.mem_map.mp hx
      injection z with z
      have := lus y hy
      rw [← z, List.length_map]
      omega
    · injection e with e
      rw [← e, List.length_map]
      omega
/-- what is no pair of a turn and a tuple -/
theorem okv_odd {L : List (List Nat × List Nat)} {H : Hp} {u : V} {d : PyData} (h : Rp H u d) (hd : ∀ a bs, d ≠ .tuple [a, .tuple bs]) (sml : ∀ a b, d = .tuple [a, b] → Sml b ∧ ∀ es, a = .tuple es → es.length ≤ 1000) : OkV L H u d :=
  ⟨h, fun a bs e => absurd e (hd a bs), sml, fun z => by
    unfold okD at z
    split at z
    · exact absurd rfl (hd _ _)
    · cases z⟩
theorem nats_rp {H : Hp} : ∀ t : List Nat, RpAll H (nIs t) (t.map dN)
  | [] => .nil
  | n :: t => .cons (.int _) (nats_rp t)
theorem sh_numB (t : List Nat) : PyData.canLayAll0 (t.map dN ++ [PyData.bool true]) = true ∧ PyData.depthAll (t.map dN ++ [PyData.bool true]) = 0 := by
  induction t with
  | nil => exact ⟨rfl, rfl⟩
  | cons n t ih =>
    refine ⟨?_, ?_⟩
    · show (PyData.canLay0 (dN n) && PyData.canLayAll0 (t.map dN ++ [PyData.bool true])) = true
      rw [ih.1]
      rfl
    · show max (PyData.depth (dN n)) (PyData.depthAll (t.map dN ++ [PyData.bool true])) = 0
      rw [ih.2]
      rfl
/-- the twelve values -/
theorem okv_all {H : Hp} {L : List (List Nat × List Nat)} {n : Nat} {va po p1 a1 a2 a3 a4 a5 a6 a7 a9 a10 a11 a12 a15 a16 : Addr} {vn x : V} {ux : List V} {w0 : List Nat} {us : List (List Nat)} (n2 : 2 ≤ n) (hL : ∀ t ∈ L.map (·.1), IsP n t) (n9 : n ≤ 9) (w0P : IsP n w0) (uP : ∀ u ∈ us, IsP n u) (lus : us.length ≤ 2)
    (hpo : RT H po [.ref va, .ref p1]) (hvt : TF H (.ref va) w0) (hp1 : RT H p1 ux) (pux : Paired (TF H) ux us) (hvn : TF H vn (List.range n))
    (k1 : H a1 = some (.tup [])) (k2 : H a2 = some (.tup [])) (k3 : H a3 = some (.tup [.ref va, .ref a2])) (k4 : H a4 = some (.lst ux)) (k5 : H a5 = some (.tup [.ref va, .ref a4])) (k6 : H a6 = some (.tup [vn, .ref p1])) (k7 : H a7 = some (.tup [.int 1, .int 2]))
    (k9 : H a9 = some (.tup [.ref va])) (k10 : H a10 = some (.tup [.int 0])) (k11 : H a11 = some (.tup [.ref a10])) (k12 : H a12 = some (.tup [.ref va, .ref a11])) (k15 : H a15 = some (.tup ((nIs w0).dropLast ++ [.bl true]))) (k16 : H a16 = some (.tup [.ref a15, .ref p1]))
    (hx : x ∈ [V.non, .ref a1, .ref po, .ref po, .ref po, .ref a3, .ref a5, .ref a6, .ref a7] ++ [V.ref a9, .ref a12, .ref a16]) : ∃ d, OkV L H x d := by
  have lw : w0.length ≤ 9 := by rw [w0P.len]; exact n9
  have lu9 : ∀ u ∈ us, u.length ≤ 9 := fun u hu => by rw [(uP u hu).len]; exact n9
  have hus : Rp H (.ref p1) (.tuple (us.map dT)) := .tup hp1 (TNs.rp (paired_mono (fun _ _ r => TF.tn r) pux))
  have lT : ∀ es, dT w0 = .tuple es → es.length ≤ 1000 := fun es e => by
    injection e with e
    rw [← e, List.length_map]
    omega
  simp only [List.mem_append, List.mem_cons, List.not_mem_nil, or_false] at hx
  have one : ∃ d, OkV L H (.ref po) d := ⟨_, okv_pair hpo hvt hp1 pux lw (by omega) lu9⟩
  rcases hx with (rfl | rfl | rfl | rfl | rfl | rfl | rfl | rfl | rfl) | rfl | rfl | rfl
  · exact ⟨.none, okv_odd .non (fun _ _ e => (nomatch e)) fun _ _ e => (nomatch e)⟩
  · exact ⟨.tuple [], okv_odd (.tup (.inl k1) .nil) (fun _ _ e => (nomatch e)) fun _ _ e => (nomatch e)⟩
  · exact one
  · exact one
  · exact one
  · exact ⟨_, okv_pair (us := []) (.inl k3) hvt (.inl k2) .nil lw (Nat.zero_le _) fun u hu => (nomatch hu)⟩
  · refine ⟨.tuple [dT w0, .list (us.map dT)], okv_odd (.tup (.inl k5) (.cons hvt.tn.rp (.cons (.lst k4 (TNs.rp (paired_mono (fun _ _ r => TF.tn r) pux))) .nil))) (fun _ _ e => ?_) fun a b e => ?_⟩
    · injection e with e
      injection e with _ e
      injection e with e _
      cases e
    · injection e with e
      injection e with e1 e2
      injection e2 with e2 _
      subst e1 e2
      exact ⟨fun ds z => (nomatch z), lT⟩
  · exact ⟨_, okv_pair (.inl k6) hvn hp1 pux (by rw [List.length_range]; exact n9) (by omega) lu9⟩
  · refine ⟨.tuple [.int 1, .int 2], okv_odd (.tup (.inl k7) (.cons (.int 1) (.cons (.int 2) .nil))) (fun _ _ e => ?_) fun a b e => ?_⟩
    · injection e with e
      injection e with _ e
      injection e with e _
      cases e
    · injection e with e
      injection e with e1 e2
      injection e2 with e2 _
      subst e1 e2
      exact ⟨fun ds z => (nomatch z), fun es z => (nomatch z)⟩
  · refine ⟨.tuple [dT w0], okv_odd (.tup (.inl k9) (.cons hvt.tn.rp .nil)) (fun _ _ e => ?_) fun a b e => ?_⟩
    · injection e with e
      injection e with _ e
      cases e
    · injection e with e
      injection e with _ e
      cases e
  · -- (one[0], ((0,),))
    have r0 : Rp H (.ref a10) (dT [0]) := .tup (.inl k10) (.cons (.int 0) .nil)
    refine ⟨.tuple [dT w0, .tuple [dT [0]]], ⟨.tup (.inl k12) (.cons hvt.tn.rp (.cons (.tup (.inl k11) (.cons r0 .nil)) .nil)), fun a bs e => ?_, fun a b e => ?_, fun z => ?_⟩⟩
    · injection e with e
      injection e with e1 e2
      injection e2 with e2 _
      injection e2 with e2
      subst e1 e2
      refine ⟨by show 1 ≤ 100; omega, sh_TT [[0]], fun y hy => ?_⟩
      rcases List.mem_cons.mp hy with z | z
      · subst z
        exact ⟨sh_T w0, lT⟩
      · rw [List.mem_singleton.mp z]
        exact ⟨sh_T [0], fun es e => by injection e with e; rw [← e]; show 1 ≤ 1000; omega⟩
    · injection e with e
      injection e with e1 e2
      injection e2 with e2 _
      subst e1 e2
      refine ⟨smlO (by show 1 ≤ 1000; omega) fun y hy es z => ?_, lT⟩
      rw [List.mem_singleton.mp hy] at z
      injection z with z
      rw [← z]
      show 1 < 64
      omega
    · exfalso
      have z : (isTurnD L (dT w0) && (isTurnD L (dT [0]) && true)) = true := z
      rw [Bool.and_eq_true, Bool.and_eq_true] at z
      have y := z.2.1
      rw [isTurnD_dT, decide_eq_true_eq] at y
      have := (hL _ y).len
      have : ([0] : List Nat).length = 1 := rfl
      omega
  · -- (one[0][:-1] + (True,), one[1])
    have rb : Rp H (.ref a15) (.tuple (w0.dropLast.map dN ++ [.bool true])) := by
      refine .tup (.inl k15) (RpAll.app ?_ (.cons (.bl true) .nil))
      rw [show (nIs w0).dropLast = nIs w0.dropLast from by unfold nIs; rw [List.map_dropLast]]
      exact nats_rp _
    have lbs : (w0.dropLast.map dN ++ [PyData.bool true]).length ≤ 1000 := by
      rw [List.length_append, List.length_map, List.length_dropLast]
      show w0.length - 1 + 1 ≤ 1000
      omega
    refine ⟨.tuple [.tuple (w0.dropLast.map dN ++ [.bool true]), .tuple (us.map dT)], ⟨.tup (.inl k16) (.cons rb (.cons hus .nil)), fun a bs e => ?_, fun a b e => ?_, fun z => ?_⟩⟩
    · injection e with e
      injection e with e1 e2
      injection e2 with e2 _
      injection e2 with e2
      subst e1 e2
      refine ⟨by rw [List.length_map]; omega, sh_TT us, fun y hy => ?_⟩
      rcases List.mem_cons.mp hy with z | z
      · subst z
        refine ⟨?_, fun es e => by injection e with e; rw [← e]; exact lbs⟩
        show (PyData.canLayAll0 _ && decide (PyData.depthAll _ + 1 ≤ 64)) = true
        obtain ⟨c1, c2⟩ := sh_numB w0.dropLast
        rw [c1, c2]
        rfl
      · obtain ⟨u, hu, rfl⟩ := List.mem_map.mp z
        exact ⟨sh_T u, fun es e => by injection e with e; rw [← e, List.length_map]; have := lu9 u hu; omega⟩
    · injection e with e
      injection e with e1 e2
      injection e2 with e2 _
      subst e1 e2
      refine ⟨smlO (by rw [List.length_map]; omega) fun y hy es z => ?_, fun es e => by injection e with e; rw [← e]; exact lbs⟩
      obtain ⟨u, hu, rfl⟩ := List.mem_map.mp hy
      injection z with z
      have := lu9 u hu
      rw [← z, List.length_map]
      omega
    · exfalso
      have z : (isTurnD L (.tuple (w0.dropLast.map dN ++ [.bool true])) && (us.map dT).all (isTurnD L)) = true := z
      rw [Bool.and_eq_true] at z
      obtain ⟨t, e, _⟩ := isTurn_dT z.1
      injection e with e
      have m : PyData.bool true ∈ t.map dN := by
        rw [← e]
        exact List.mem_append.mpr (.inr (List.mem_singleton.mpr rfl))
      obtain ⟨_, _, z⟩ := List.mem_map.mp m
      cases z
section
variable {P : Program} {w : World} {K : PySem.W.Frag} {mg : Str → Option Value} {base : Heap}
abbrev L3X (P : Program) (w : World) (K : PySem.W.Frag) (mg : Str → Option Value) (base : Heap) (f : Addr) (cd : Value) (A : Around) (outer : List Env) (s : Shared) (H : Hp) (E : XK) : Cx := (cxOf CX0 P w K mg base lawN "law" (defScope s_law) f cd A outer s H E).nox
theorem law_end {f : Addr} {cdv : Value} {A : Around} {outer : List Env} {s0 : Shared} {H0 : Hp} {E0' : XK} (hr : Room 8 (L3X P w K mg base f cdv A outer s0 H0 E0').A) (L : LawHas3 P w K mg base) :
    ∃ t, PSs (L3X P w K mg base f cdv A outer s0 H0 E0') ((defBody s_law).drop 8) t ∧ ∀ (D : Ends) (H : Hp) (x0 x4 x5 x8 x9 x10 : Option V) (r wa po p1 : Addr) (sc : Addr) (ns : List Int) (v vt vn : V) (ux : List V) (ls T0 us : List (List Nat)) (n : Nat) (w0 : List Nat),
      RowAt K H r sc ns → Good H v ls n → LF H wa T0 → wa ≠ r → T0.Nodup → (∀ t, t ∈ T0 ↔ Mk ls n t) → RT H po [vt, .ref p1] → TF H vt w0 → Mk ls n w0 → RT H p1 ux → Paired (TF H) ux us → (∀ u ∈ us, Mk ls n u) → us.length ≤ 2 → TF H vn (List.range n) → (∀ H', D.rt (.bl true) H') →
      t D [x0, some (.ref r), some v, some (.ref wa), x4, x5, some (.ref po), some vn, x8, x9, x10] H := by
  have B := L.bi
  have hr1 : Room 1 _ := hr.mono (by decide)
  have hr2 : Room 2 _ := hr.mono (by decide)
  have hr3 : Room 3 _ := hr.mono (by decide)
  have hr6 : Room 6 _ := hr.mono (by decide)
  refine ⟨_, pss_cons (ps_set (i := 8) sc_law.nd rfl (Or.inl rfl) (pe_lst (pa_cons pe_non (pa_cons (pe_tup pa_nil) (pa_cons (pv 6) (pa_cons (pv 6) (pa_cons (pv 6) (pa_cons (pe_tup (pa_cons (pe_ix ix_tup (pv 6) pe_int (fun _ _ => rfl)) (pa_cons (pe_tup pa_nil) pa_nil)))
        (pa_cons (pe_tup (pa_cons (pe_ix ix_tup (pv 6) pe_int (fun _ _ => rfl)) (pa_cons (pe_callTy call_list_of (by rfl) B.list PyProof.Rows.boot_list (pa_cons (pe_ix ix_tup (pv 6) pe_int (fun _ _ => rfl)) pa_nil)) pa_nil))) (pa_cons (pe_tup (pa_cons (pv 7) (pa_cons (pe_ix ix_tup (pv 6) pe_int (fun _ _ => rfl)) pa_nil))) (pa_cons (pe_tup (pa_cons pe_int (pa_cons pe_int pa_nil))) pa_nil)))))))))))
    (pss_cons (ps_set (i := 9) sc_law.nd rfl (Or.inl rfl) (pe_has L.pick hr2 (by rfl) (pa_cons (pv 1) (pa_cons (pe_op op_cat (pv 8) (pe_lst (pa_cons (pe_tup (pa_cons (pe_ix ix_tup (pv 6) pe_int (fun _ _ => rfl)) pa_nil)) (pa_cons (pe_tup (pa_cons (pe_ix ix_tup (pv 6) pe_int (fun _ _ => rfl)) (pa_cons (pe_tup (pa_cons (pe_tup (pa_cons pe_int pa_nil)) pa_nil)) pa_nil)))
        (pa_cons (pe_tup (pa_cons (pe_op op_catT (pe_slice sl_tup (pe_ix ix_tup (pv 6) pe_int (fun _ _ => rfl)) po_none (po_some (pe_un un_neg pe_int))) (pe_tup (pa_cons pe_bl pa_nil))) (pa_cons (pe_ix ix_tup (pv 6) pe_int (fun _ _ => rfl)) pa_nil))) pa_nil))))) pa_nil))))
    (pss_one (ps_ret (pe_has L.is_ hr1 (by rfl) (pa_cons (pe_has L.shows hr6 (by rfl) (pa_cons (pv 2) (pa_cons (pv 9) pa_nil))) (pa_cons (pe_has L.shown hr3 (by rfl) (pa_cons (pv 2) (pa_cons (pv 3) (pa_cons (pv 9) pa_nil)))) pa_nil)))))), ?_⟩
  intro D H x0 x4 x5 x8 x9 x10 r wa po p1 sc ns v vt vn ux ls T0 us n w0 ra hg hwa hwr hnd hmem hpo hvt mk0 hp1 pux mku lus hvn q
  have n9 := hg.gl.2.2.2.1
  have n2 := hg.gl.2.2.1
  have hls := hg.gl.2.2.2.2
  have w0P := hg.isP mk0
  have h63 : T0.length ≤ 63 := hg.few.le hnd fun t h => (hmem t).mp h
  refine ⟨Nat.zero_le _, fun a1 h1 => ?_⟩
  have s1 := same_new (o := .tup []) h1
  refine ⟨_, rfl, _, rfl, _, rfl, ?_⟩
  refine ⟨_, rfl, po, _, 0, vt, rfl, rfl, (hpo.sm s1).sq, at_0 _ _, Nat.zero_le _, fun a2 h2 => ?_⟩
  have s2 := same_new (o := .tup []) h2
  refine ⟨Nat.le_of_ble_eq_true rfl, fun a3 h3 => ?_⟩
  have s3 := same_new (o := .tup [vt, .ref a2]) h3
  have s13 := (s1.trans s2).trans s3
  -- (one[0], list(one[1]))
  refine ⟨_, rfl, po, _, 0, vt, rfl, rfl, (hpo.sm s13).sq, at_0 _ _, _, rfl, po, _, 1, .ref p1, rfl, rfl, (hpo.sm s13).sq, at_1 _ _ _, p1, ux, rfl, .inr (hp1.sm s13).sq, fun a4 h4 => ?_⟩
  have s4 := same_new (o := .lst ux) h4
  refine ⟨Nat.le_of_ble_eq_true rfl, fun a5 h5 => ?_⟩
  have s5 := same_new (o := .tup [vt, .ref a4]) h5
  have s15 := (s13.trans s4).trans s5
  refine ⟨_, rfl, _, rfl, po, _, 1, .ref p1, rfl, rfl, (hpo.sm s15).sq, at_1 _ _ _, Nat.le_of_ble_eq_true rfl, fun a6 h6 => ?_⟩
  have s6 := same_new (o := .tup [vn, .ref p1]) h6
  refine ⟨Nat.le_of_ble_eq_true rfl, fun a7 h7 => ?_⟩
  have s7 := same_new (o := .tup [V.int 1, V.int 2]) h7
  refine ⟨Nat.le_of_ble_eq_true rfl, fun a8 h8 => ?_⟩
  have s8 := same_new (o := .lst [.non, .ref a1, .ref po, .ref po, .ref po, .ref a3, .ref a5, .ref a6, .ref a7]) h8
  have s18 := ((s15.trans s6).trans s7).trans s8
  refine ⟨_, rfl, _, rfl, _, rfl, po, _, 0, vt, rfl, rfl, (hpo.sm s18).sq, at_0 _ _, Nat.le_of_ble_eq_true rfl, fun a9 h9 => ?_⟩
  have s9 := same_new (o := .tup [vt]) h9
  have s19 := s18.trans s9
  refine ⟨_, rfl, po, _, 0, vt, rfl, rfl, (hpo.sm s19).sq, at_0 _ _, Nat.le_of_ble_eq_true rfl, fun a10 h10 => ?_⟩
  have s10 := same_new (o := .tup [V.int 0]) h10
  refine ⟨Nat.le_of_ble_eq_true rfl, fun a11 h11 => ?_⟩
  have s11 := same_new (o := .tup [V.ref a10]) h11
  refine ⟨Nat.le_of_ble_eq_true rfl, fun a12 h12 => ?_⟩
  have s12 := same_new (o := .tup [vt, V.ref a11]) h12
  have s112 := ((s19.trans s10).trans s11).trans s12
  obtain ⟨va, vo, rfl, hva, hvd⟩ := id hvt
  have hva1 : RT H va (nIs w0) := .inr ⟨vo, hva⟩
  have hw0n : nIs w0 ≠ [] := fun z => by
    have := congrArg List.length z
    rw [nIs_len, w0P.len] at this
    have : ([] : List V).length = 0 := rfl
    omega
  obtain ⟨c1, c2⟩ := cut_last (nIs w0) hw0n
  refine ⟨_, rfl, po, _, 0, .ref va, rfl, rfl, (hpo.sm s112).sq, at_0 _ _, 1, rfl, -1, rfl, va, nIs w0, rfl, (hva1.sm s112).sq, c2, fun a13 h13 => ?_⟩
  rw [c1]
  have s13' := same_new (o := .tup (nIs w0).dropLast) h13
  refine ⟨Nat.le_of_ble_eq_true rfl, fun a14 h14 => ?_⟩
  have s14 := same_new (o := .tup [V.bl true]) h14
  have hdl : (nIs w0).dropLast ≠ [] := fun z => by
    have := congrArg List.length z
    rw [List.length_dropLast, nIs_len, w0P.len] at this
    have : ([] : List V).length = 0 := rfl
    omega
  refine ⟨a13, a14, (nIs w0).dropLast, [.bl true], rfl, rfl, SqT.of (s14 _ _ upd_same), SqT.of upd_same, hdl, by rw [sizeLine_eq, List.length_dropLast, nIs_len, w0P.len]; show n - 1 + 1 ≤ 16777216; omega, fun z => (nomatch z), fun _ a15 h15 => ?_⟩
  have s15' := same_new (o := .tup ((nIs w0).dropLast ++ [V.bl true])) h15
  have s115 := ((s112.trans s13').trans s14).trans s15'
  refine ⟨_, rfl, po, _, 1, .ref p1, rfl, rfl, (hpo.sm s115).sq, at_1 _ _ _, Nat.le_of_ble_eq_true rfl, fun a16 h16 => ?_⟩
  have s16 := same_new (o := .tup [V.ref a15, .ref p1]) h16
  refine ⟨Nat.le_of_ble_eq_true rfl, fun a17 h17 => ?_⟩
  have s17 := same_new (o := .lst [V.ref a9, .ref a12, .ref a16]) h17
  -- what stands where, at last
  have e17 := s17
  have e16 := s16.trans e17
  have e15 := s15'.trans e16
  have e14 := s14.trans e15
  have e13 := s13'.trans e14
  have e12 := s12.trans e13
  have e11 := s11.trans e12
  have e10 := s10.trans e11
  have e9 := s9.trans e10
  have e8 := s8.trans e9
  have e7 := s7.trans e8
  have e6 := s6.trans e7
  have e5 := s5.trans e6
  have e4 := s4.trans e5
  have e3 := s3.trans e4
  have e2 := s2.trans e3
  have e1 := s1.trans e2
  refine ⟨a8, a17, _, _, rfl, rfl, e9 _ _ upd_same, upd_same, Nat.le_of_ble_eq_true rfl, fun a18 h18 => ?_⟩
  have s18' := same_new (o := .lst ([V.non, .ref a1, .ref po, .ref po, .ref po, .ref a3, .ref a5, .ref a6, .ref a7] ++ [V.ref a9, .ref a12, .ref a16])) h18
  have k1 := s18' _ _ (e2 _ _ upd_same)
  have k2 := s18' _ _ (e3 _ _ upd_same)
  have k3 := s18' _ _ (e4 _ _ upd_same)
  have k4 := s18' _ _ (e5 _ _ upd_same)
  have k5 := s18' _ _ (e6 _ _ upd_same)
  have k6 := s18' _ _ (e7 _ _ upd_same)
  have k7 := s18' _ _ (e8 _ _ upd_same)
  have k9 := s18' _ _ (e10 _ _ upd_same)
  have k10 := s18' _ _ (e11 _ _ upd_same)
  have k11 := s18' _ _ (e12 _ _ upd_same)
  have k12 := s18' _ _ (e13 _ _ upd_same)
  have k15 := s18' _ _ (e16 _ _ upd_same)
  have k16 := s18' _ _ (e17 _ _ upd_same)
  have sF := e1.trans s18'
  have h18r : a18 ≠ r := ((ra.step e1).ne h18).symm
  have h4r : a4 ≠ r := ((ra.step s13).ne h4).symm
  refine ⟨r, a18, sc, ns, _, rfl, ra.step sF, upd_same, h18r, Nat.le_of_ble_eq_true rfl, Nat.le_of_ble_eq_true rfl, fun x H2 hx st2 ra2 => ?_⟩
  have tm2 := st2.tm (ra.step sF)
  have tmA : Tm H H2 := (Tm.of sF).trans tm2
  have hLP : ∀ t ∈ (LL ls n).map (·.1), IsP n t := fun t ht => hg.isP ((hg.mem t).mp ht)
  obtain ⟨d, ok⟩ := okv_all (L := LL ls n) (us := us) n2 hLP n9 w0P (fun u hu => hg.isP (mku u hu)) lus (hpo.tm tmA) (TF.tm tmA hvt) (hp1.tm tmA) (TFs.tm tmA pux) (TF.tm tmA hvn)
    (tm2.1 _ _ k1) (tm2.1 _ _ k2) (tm2.1 _ _ k3) (st2 _ _ h4r k4) (tm2.1 _ _ k5) (tm2.1 _ _ k6) (tm2.1 _ _ k7) (tm2.1 _ _ k9) (tm2.1 _ _ k10) (tm2.1 _ _ k11) (tm2.1 _ _ k12) (tm2.1 _ _ k15) (tm2.1 _ _ k16) hx
  have hg2 := hg.tm tmA
  have hwa2 : LF H2 wa T0 := LF.step (hwa.same sF) (ra.step sF) hwr st2
  refine ⟨_, rfl, _, rfl, v, x, ls, n, d, rfl, hg2, ok.rp, ok.sml, fun H3 s3x => ?_⟩
  have ok3 := ok.same s3x
  refine ⟨_, rfl, _, rfl, _, rfl, v, x, wa, T0, ls, n, d, rfl, hwa2.same s3x, hmem, h63, n9, hls, hg.mem, ok3.rp, ok3.low, ok3.tf, fun H4 s4x => ?_⟩
  refine ⟨_, _, rfl, ?_⟩
  rw [decide_eq_true rfl]
  exact q H4
end
end Lt

set_option Elab.async false
set_option linter.all false
set_option maxRecDepth 100000
set_option maxHeartbeats 4000000
namespace Lt
open PySem PySem.Spec PyProof.Rows L2
theorem lower_serM {ls T0 : List (List Nat)} {n m : Nat} {Ts : List (List (List Nat))} (hls : ∀ g ∈ ls, IsP n g) (hf : Few ls n m) (hT : ∀ t, t ∈ T0 ↔ Mk ls n t) (h : SerM (Mb true T0) n T0 Ts) : Ser ls n T0 Ts ∧ ∀ (i : Nat) A, Ts[i]? = some A → Tm1 ls ls n A := by
  have inv : ∀ (i : Nat) A, Ts[i]? = some A → Tm1 ls ls n A := fun i => by
    induction i with
    | zero =>
      intro A e
      rw [h.head] at e
      rw [← Option.some.inj e]
      exact Tm1.whole hls hf hT
    | succ i ih =>
      intro B e
      have l := (List.getElem?_eq_some_iff.mp e).1
      have e1 : Ts[i]? = some (Ts[i]'(by omega)) := List.getElem?_eq_getElem _
      exact ((ih _ e1).next hls hls ((Nx.whole hls hf hT (ih _ e1)).mpr (h.step i _ B e1 e).1)).1
  exact ⟨⟨h.head, fun i A B h1 h2 => ⟨(Nx.whole hls hf hT (inv i A h1)).mpr (h.step i A B h1 h2).1, (h.step i A B h1 h2).2⟩, fun i A h1 h2 => let ⟨B, x, y⟩ := h.stop i A h1 h2; ⟨B, (Nx.whole hls hf hT (inv i A h1)).mpr x, y⟩⟩, inv⟩
theorem lvs_last {H : Hp} {xs : List V} {Ts : List (List (List Nat))} {T0 : List (List Nat)} (p : Paired (LV H) xs Ts) (h0 : Ts[0]? = some T0) : ∃ ys z A, xs = ys ++ [z] ∧ Ts.getLast? = some A ∧ LV H z A := by
  have hne : xs ≠ [] := fun e => by
    subst e
    cases p
    cases h0
  obtain ⟨ys, z, rfl⟩ : ∃ ys z, xs = ys ++ [z] := ⟨xs.dropLast, xs.getLast hne, (List.dropLast_concat_getLast hne).symm⟩
  obtain ⟨A, hA, hz⟩ := Paired.getL p (i := ys.length) (x := z) List.getElem?_concat_length
  refine ⟨ys, z, A, rfl, ?_, hz⟩
  have l := Paired.length p
  rw [List.length_append] at l
  have e1 : ([z] : List V).length = 1 := rfl
  rw [List.getLast?_eq_getElem?, show Ts.length - 1 = ys.length by omega]
  exact hA
/-- a ring is there exactly if the series does not die -/
theorem dies_iff {ls T0 : List (List Nat)} {n m k : Nat} {Ts : List (List (List Nat))} {A : List (List Nat)} (hls : ∀ g ∈ ls, IsP n g) (hf : Few ls n m) (hT : ∀ t, t ∈ T0 ↔ Mk ls n t) (h : SerM (Mb true T0) n T0 Ts) (hA : Ts.getLast? = some A) (hfix : Fix ls T0 n k) : A.length = 1 ↔ ∀ t ∈ T0, t ∈ Zk ls T0 n k := by
  obtain ⟨ser, inv⟩ := lower_serM hls hf hT h
  refine ⟨fun h1 => ?_, fun hk => dies_of hls hf hT ser hA hk⟩
  have hs : List.range n ∈ A := by
    rw [List.getLast?_eq_getElem?] at hA
    exact (inv _ A hA).still
  have hz : ∀ j, List.range n ∈ Zk ls T0 n j := fun j => by
    induction j with
    | zero => exact List.mem_singleton.mpr rfl
    | succ j ih => exact zk_up hls hT j _ ih
  exact fades_of hls hT ser hA h1 hs (hz k) (fun t mt hx => hfix t (led_mem.mpr ⟨(hT t).mpr mt, hx⟩)) fun i B hB t ht => (inv i B hB).sub t ht
def kinds10 : List Str := ["square", "quaternions", "three", "tetra", "six", "five", "whole", "ten", "heis", "four"]
theorem kinds10_in : ∀ x ∈ kinds10, x ∈ names := by decide +kernel
section
variable {P : Program} {w : World} {K : PySem.W.Frag} {mg : Str → Option Value} {base : Heap}
def spLaw (K : PySem.W.Frag) : Sp := fun vs H Q _ => ∃ (l : Addr) (ns : List Int), vs = [.ref l] ∧ SqL K H l (ns.map V.int) ∧ ∀ H', Q (.bl true) H'
theorem law_len : ∀ vs H Q E, spLaw K vs H Q E → vs.length = (["script"] : List Str).length := fun vs H Q E h => by
  obtain ⟨l, ns, rfl, _⟩ := h
  rfl
theorem law_one {f : Addr} {cdv : Value} {A : Around} {outer : List Env} {s0 : Shared} {H0 : Hp} {E0' : XK} (hr : Room 8 (L3X P w K mg base f cdv A outer s0 H0 E0').A) (L : LawHas3 P w K mg base) :
    ∃ t, PSs (L3X P w K mg base f cdv A outer s0 H0 E0') ((defBody s_law).drop 6) t ∧ ∀ (D : Ends) (H : Hp) (x0 x4 x5 x6 x7 x8 x9 x10 : Option V) (r wa : Addr) (sc : Addr) (ns : List Int) (v : V) (ls T0 : List (List Nat)) (n : Nat),
      RowAt K H r sc ns → Good H v ls n → LF H wa T0 → wa ≠ r → T0.Nodup → (∀ t, t ∈ T0 ↔ Mk ls n t) → (∀ H', D.rt (.bl true) H') →
      t D [x0, some (.ref r), some v, some (.ref wa), x4, x5, x6, x7, x8, x9, x10] H := by
  have B := L.bi
  have hr1 : Room 1 _ := hr.mono (by decide)
  have hr2 : Room 2 _ := hr.mono (by decide)
  have hr3 : Room 3 _ := hr.mono (by decide)
  have hr4 : Room 4 _ := hr.mono (by decide)
  have hr6 : Room 6 _ := hr.mono (by decide)
  have hr7 : Room 7 _ := hr.mono (by decide)
  obtain ⟨te, he, qe⟩ := law_end (outer := outer) (s0 := s0) (H0 := H0) (E0' := E0') hr L
  refine ⟨_, (pss_cons (ps_set (i := 6) sc_law.nd rfl (Or.inl rfl) (pe_tup (pa_cons (pe_has L.pick hr2 (by rfl) (pa_cons (pv 1) (pa_cons (pv 3) pa_nil))) (pa_cons (pe_tupleOf (by rfl) B.tuple (pe_lc (own := [("turn", 10)]) (g := gName 10) (te := tCall (spPick K) [] E0 (tCons (tVar 1) (tCons (tVar 3) tNil))) (by rfl) sc_law.nd
        (pi_range1 (by rfl) B.range (pa_cons (pe_op op_add pe_int (pe_has L.taken hr1 (by rfl) (pa_cons (pv 1) (pa_cons pe_int pa_nil)))) pa_nil)) (blkOk_by (own := [("turn", 10)]) (N := lawN) (sc := defScope s_law) (by decide +kernel))
        (fun _ _ _ _ _ => pg_name (i := 10) sc_law.nd rfl (Or.inl rfl)) (fun _ _ _ _ _ => pts_nil) (fun _ _ _ _ _ => pe_has L.pick hr2 (by rfl) (pa_cons (pv 1) (pa_cons (pv 3) pa_nil))))) pa_nil))))
    (pss_cons (ps_set (i := 7) sc_law.nd rfl (Or.inl rfl) (pe_tupRgF (by rfl) (by rfl) B.tuple (prg_1 (by rfl) B.range (pe_callB call_len_seq (by rfl) B.len PySem.boot_len (pa_cons (pe_ix ix_tup (pv 2) pe_int (fun _ _ => rfl)) pa_nil)))))
    he)), ?_⟩
  intro D H x0 x4 x5 x6 x7 x8 x9 x10 r wa sc ns v ls T0 n ra hg lf hwar hnd hmem q
  obtain ⟨g1, g2, g3, g4, g5⟩ := hg.gl
  have h63 : T0.length ≤ 63 := hg.few.le hnd fun t h => (hmem t).mp h
  have hk1 : 1 ≤ T0.length := List.length_pos_of_mem ((hmem _).mpr .still)
  obtain ⟨wx, hwx, pwx⟩ := id lf
  have hwl := Paired.length pwx
  refine ⟨_, rfl, _, rfl, r, wa, sc, ns, wx, rfl, ra, hwx, hwar, by omega, by omega, fun vt H1 hvt st1 ra1 => ?_⟩
  obtain ⟨w0, hw0, htf⟩ := Paired.memL pwx hvt
  have htf1 := TF.tm (st1.tm ra) htf
  refine ⟨_, rfl, r, sc, ns, 2, rfl, ra1, by omega, by omega, fun y H2 hy st2 ra2 => ?_⟩
  refine ⟨1, (y : Int), rfl, rfl, (1 : Int) + (y : Int), rfl, by omega, by omega, fun D1 hD => ?_⟩
  have hDr : D1 ≠ r := (ra2.ne hD).symm
  have st02 := st1.trans st2
  have lf2 : LF H2 wa T0 := lf.step ra hwar st02
  obtain ⟨wx2, hwx2, pwx2⟩ := id lf2
  have hwl2 := Paired.length pwx2
  refine lc_range (lo := 0) (n := ((1 : Int) + (y : Int)).toNat) (fun i H' => StepR r H2 H' ∧ RowAt K H' r sc ns ∧ ∃ ux us, H' D1 = some (.lst ux) ∧ Paired (TF H') ux us ∧ us.length = i ∧ ∀ u ∈ us, u ∈ T0)
    ⟨.of (same_new hD), ra2.step (same_new hD), [], [], upd_same, .nil, rfl, fun u h => (nomatch h)⟩ ?_ ?_
  · rintro i H' hi ⟨st4, ra4, ux, us, hus, pus, hul, hT⟩
    have hwD : wa ≠ D1 := ne_of_none hwx2 hD
    refine ⟨rfl, iteT (B := StepR r H2 H' ∧ RowAt K H' r sc ns ∧ ∃ ux us, H' D1 = some (.lst ux) ∧ Paired (TF H') ux us ∧ us.length = i ∧ ∀ u ∈ us, u ∈ T0) ⟨_, rfl, _, rfl, r, wa, sc, ns, wx2, rfl, ra4, st4 _ _ hwar hwx2, hwar, by omega, by omega, fun x H5 hx st5 ra5 => ?_⟩⟩
    obtain ⟨u, hu, hxf⟩ := Paired.memL pwx2 hx
    have hus5 := st5 _ _ hDr hus
    have t6 := Tm.lst (o := .lst (ux ++ [x])) hus5
    refine ⟨ux, hus5, by rw [Paired.length pus, hul, sizeLine_eq]; omega, (st4.trans st5).mut hD, RowAt.mut ra2 hD ra5, ux ++ [x], us ++ [u], upd_same, Paired.app (TFs.tm ((st5.tm ra4).trans t6) pus) (Paired.one (TF.tm (((st4.trans st5).tm ra2).trans t6) hxf)), by rw [List.length_append, hul]; rfl, fun g hg => ?_⟩
    rcases List.mem_append.mp hg with z | z
    · exact hT g z
    · rw [List.mem_singleton.mp z]
      exact hu
  · rintro H' ⟨st4, ra4, ux, us, hus, pus, hul, hT⟩
    refine .inl ⟨D1, ux, rfl, SqL.of hus, fun p1 hp1 => ?_⟩
    have s5 := same_new (o := .tup ux) hp1
    refine ⟨Nat.le_of_ble_eq_true rfl, fun po hpo => ?_⟩
    have s6 := same_new (o := .tup [vt, .ref p1]) hpo
    have s56 := s5.trans s6
    have st24 := st4
    have stA : StepR r H1 (upd (upd H' p1 (.tup ux)) po (.tup [vt, .ref p1])) := (st2.trans st4).trans (.of s56)
    have tmA : Tm H (upd (upd H' p1 (.tup ux)) po (.tup [vt, .ref p1])) := (st1.tm ra).trans (stA.tm ra1)
    have hgA := hg.tm tmA
    have k5 := s6 _ _ (upd_same (H := H') (a := p1) (o := .tup ux))
    have k6 := upd_same (H := upd H' p1 (.tup ux)) (a := po) (o := .tup [vt, .ref p1])
    have raA := ra4.step s56
    have pusA := TFs.tm (.of s56) pus
    have lfA : LF (upd (upd H' p1 (.tup ux)) po (.tup [vt, .ref p1])) wa T0 := lf.step ra hwar (st1.trans stA)
    generalize upd (upd H' p1 (.tup ux)) po (.tup [vt, .ref p1]) = HA at *
    obtain ⟨a, xs, b, rfl, ha, hp0, h0, t0, hbt, htl⟩ := hgA.tt.head hgA.gl
    refine ⟨_, rfl, a, xs, 0, .ref b, rfl, rfl, SqT.of ha, h0, b, nIs t0, rfl, .inr hbt.sq, ((nIs t0).length : Int), rfl, .of_le (by first | omega | (rw [nIs_len, htl]; omega)) (by first | omega | (rw [nIs_len, htl]; omega)) (by first | omega | (rw [nIs_len, htl]; omega)) (by first | omega | (rw [nIs_len, htl]; omega)), fun q0 o ho hq0 => ?_⟩
    have s7 := same_new (o := .frz o (.tup (rgV 0 ((nIs t0).length : Int)))) hq0
    exact qe _ _ _ _ _ _ _ _ r wa po p1 sc ns (.ref a) vt (.ref q0) ux ls T0 us n w0 (raA.step s7) (hgA.same s7) (lfA.same s7) hwar hnd hmem (.inl (s7 _ _ k6)) (TF.tm ((stA.tm ra1).trans (.of s7)) htf1) ((hmem w0).mp hw0) (.inl (s7 _ _ k5)) (TFs.tm (.of s7) pusA) (fun u hu => (hmem u).mp (hT u hu)) (by omega)
      ⟨q0, o, rfl, by rw [upd_same, nIs_len, htl, rgV_nat], ho⟩ q
theorem law_mid {f : Addr} {cdv : Value} {A : Around} {outer : List Env} {s0 : Shared} {H0 : Hp} {E0' : XK} (hr : Room 8 (L3X P w K mg base f cdv A outer s0 H0 E0').A) (L : LawHas3 P w K mg base) :
    ∃ t, PSs (L3X P w K mg base f cdv A outer s0 H0 E0') ((defBody s_law).drop 3) t ∧ ∀ (D : Ends) (H : Hp) (x0 x5 x6 x7 x8 x9 x10 : Option V) (r wa : Addr) (sc : Addr) (ns : List Int) (v told : V) (ls T0 : List (List Nat)) (n k : Nat),
      RowAt K H r sc ns → Good H v ls n → Few ls n 60 → LF H wa T0 → wa ≠ r → T0.Nodup → Asc T0 → (∀ t, t ∈ T0 ↔ Mk ls n t) → Fix ls T0 n k → ((told = .non ∧ ∀ t ∈ T0, t ∈ Zk ls T0 n k) ∨ ∃ t us, RingAt H told t us ∧ IsRing ls n t us ∧ ∃ t ∈ T0, t ∉ Zk ls T0 n k) → (∀ H', D.rt (.bl true) H') →
      t D [x0, some (.ref r), some v, some (.ref wa), some told, x5, x6, x7, x8, x9, x10] H := by
  have B := L.bi
  have hr1 : Room 1 _ := hr.mono (by decide)
  have hr2 : Room 2 _ := hr.mono (by decide)
  have hr3 : Room 3 _ := hr.mono (by decide)
  have hr4 : Room 4 _ := hr.mono (by decide)
  have hr6 : Room 6 _ := hr.mono (by decide)
  have hr7 : Room 7 _ := hr.mono (by decide)
  obtain ⟨te, he, qe⟩ := law_one (outer := outer) (s0 := s0) (H0 := H0) (E0' := E0') hr L
  refine ⟨_, (pss_cons (ps_set (i := 5) sc_law.nd rfl (Or.inl rfl) (pe_cmpR op_gt (pe_callB call_len_seq (by rfl) B.len PySem.boot_len (pa_cons (pe_ix ix_list (pe_has L.terms hr3 (by rfl) (pa_cons (pv 2) (pa_cons pe_bl pa_nil))) (pe_un un_neg pe_int) (fun _ _ => rfl)) pa_nil)) pe_int (nomark _)))
    (pss_cons (ps_if (PW.pt (pw_or (pt_cmpR op_ne (pe_cmp (pc_notN (pv 4))) (pv 5) (nomark _)) (pw_or1 (pt_cmpR op_eq (pe_has L.dying hr (by rfl) (pa_cons (pv 2) pa_nil)) (pv 5) (nomark _))))) (pss_one (ps_ret pe_bl)) pss_nil)
    (pss_cons (ps_if (PW.pt (pw_and (pt_cmp (pc_notN (pv 4))) (pw_and1 (pt_not (PW.pt (pw_and (pt_val (pe_has L.shown hr3 (by rfl) (pa_cons (pv 2) (pa_cons (pv 3) (pa_cons (pv 4) pa_nil))))) (pw_and1 (pt_cmpR op_isBl (pe_has L.shows hr6 (by rfl) (pa_cons (pv 2) (pa_cons (pv 4) pa_nil))) pe_bl (nomark _))))))))) (pss_one (ps_ret pe_bl)) pss_nil)
    he))), ?_⟩
  intro D H x0 x5 x6 x7 x8 x9 x10 r wa sc ns v told ls T0 n k ra hg fw lf hwar hnd hasc hmem hfix hcase q
  obtain ⟨g1, g2, g3, g4, g5⟩ := hg.gl
  have h60 : T0.length ≤ 60 := fw.le hnd fun t h => (hmem t).mp h
  have same0 : ∀ {T1 : List (List Nat)}, T1.Nodup → Asc T1 → (∀ t, t ∈ T1 ↔ Mk ls n t) → T1 = T0 := fun nd1 a1 m1 => asc_one g4 (fun t ht => hg.isP ((m1 t).mp ht)) ((List.perm_ext_iff_of_nodup nd1 hnd).mpr fun t => (m1 t).trans (hmem t).symm) a1 hasc
  refine ⟨_, rfl, v, true, ls, n, rfl, hg.tt, hg.gl, fw, fun da H5 dx Ds T1 s5 hda0 hda pdx nd1 a1 m1 hDs => ?_⟩
  have e1 := same0 nd1 a1 m1
  subst e1
  obtain ⟨dy, dz, DA, rfl, hDl, hDz⟩ := lvs_last pdx hDs.head
  obtain ⟨dza, rfl, dzx, hdzx, pdz⟩ := hDz
  have hdie := dies_iff g5 fw hmem hDs hDl hfix
  refine ⟨1, rfl, da, dy ++ [.ref dza], -1, .ref dza, rfl, rfl, SqL.of hda, atI_last dy (.ref dza), dza, dzx, rfl, .inl (SqL.of hdzx), _, 1, rfl, rfl, ?_⟩
  have hDA1 : 1 ≤ DA.length := by
    obtain ⟨_, inv⟩ := lower_serM g5 fw hmem hDs
    rw [List.getLast?_eq_getElem?] at hDl
    exact List.length_pos_of_mem (inv _ DA hDl).still
  have ldz := Paired.length pdz
  have ef : decide ((1 : Int) < ((dzx.length : Nat) : Int)) = decide (DA.length ≠ 1) := decide_eq_decide.mpr ⟨fun h => by omega, fun h => by omega⟩
  show gName 5 (V.bl (decide ((1 : Int) < ((dzx.length : Nat) : Int)))) _ _ _
  rw [ef]
  have hg5 := hg.same s5
  have lf5 := lf.same s5
  have ra5 := ra.step s5
  -- what is told
  have htold : (!decide (told = V.non)) = decide (DA.length ≠ 1) := by
    rcases hcase with ⟨e, hk⟩ | ⟨t, us, ⟨p, vt, vu, e, _⟩, _, x, hx1, hx2⟩
    · rw [e, decide_eq_true rfl, decide_eq_false (fun z => z (hdie.mpr hk))]
      rfl
    · rw [e, decide_eq_false (fun z => nomatch z), decide_eq_true (show DA.length ≠ 1 from fun z => hx2 (hdie.mp z x hx1))]
      rfl
  refine ⟨_, rfl, _, rfl, rfl, _, rfl, ?_⟩
  rw [htold, decide_eq_true rfl]
  refine iteF ⟨_, rfl, v, ls, n, rfl, hg5, fun H6 T2 Ts A6 s6 nd2 a2 m2 ser hla => ?_⟩
  have e2 := same0 nd2 a2 m2
  subst e2
  have eT : Ts = Ds := serM_one g5 fw hmem g4 (serM_lower g5 fw hmem ser) hDs
  subst eT
  have eA : DA = A6 := Option.some.inj (hDl.symm.trans hla)
  subst eA
  refine ⟨_, rfl, rfl, _, rfl, ?_⟩
  rw [show decide (V.bl (decide (DA.length = 1)) = V.bl (decide (DA.length ≠ 1))) = false from decide_eq_false fun z => by
    injection z with z
    by_cases c : DA.length = 1
    · rw [decide_eq_true c, decide_eq_false (fun y => y c)] at z
      cases z
    · rw [decide_eq_false c, decide_eq_true (show DA.length ≠ 1 from c)] at z
      cases z]
  have s56 := s5.trans s6
  have hg6 := hg.same s56
  have lf6 := lf.same s56
  have ra6 := ra.step s56
  refine iteF ⟨_, rfl, _, rfl, ?_⟩
  rcases hcase with ⟨rfl, hk⟩ | ⟨t, us, hra, hri, x, hx1, hx2⟩
  · exact iteF (iteF (qe _ _ _ _ _ _ _ _ _ _ r wa sc ns v ls _ n ra6 hg6 lf6 hwar hnd hmem q))
  · obtain ⟨p, vt, vu, rfl, hp, htf, ub, ubx, rfl, hub, pub⟩ := hra
    have mkt := hri.made
    have mku : ∀ u ∈ us, Mk ls n u := fun u hu => .one g5 (hri.sub u hu)
    have tP := hg.isP mkt
    have ok : OkV (LL ls n) H (.ref p) (.tuple [dT t, .tuple (us.map dT)]) := okv_pair (.inl hp) htf (.inl hub) pub (by rw [tP.len]; exact g4) hri.len fun u hu => by rw [(hg.isP (mku u hu)).len]; exact g4
    have ok6 := ok.same s56
    have hT' : ∀ x, Mk ls n x → isTurnD (LL ls n) (dT x) = true := fun x hx => by
      rw [isTurnD_dT]
      exact decide_eq_true ((hg.mem x).mpr hx)
    have ev : showsD (LL ls n) n (.tuple [dT t, .tuple (us.map dT)]) = true := by
      show (isTurnD (LL ls n) (dT t) && ((us.map dT).all (isTurnD (LL ls n)) && chainD n (unT (dT t)) ((us.map dT).map unT))) = true
      rw [hT' t mkt, unT_dT, unT_dTs, Bool.true_and, show (us.map dT).all (isTurnD (LL ls n)) = true from List.all_eq_true.mpr fun e he => by
        obtain ⟨u, hu, rfl⟩ := List.mem_map.mp he
        exact hT' u (mku u hu), Bool.true_and]
      unfold chainD
      rw [decide_eq_false hri.ne, decide_eq_true hri.back]
      cases us with
      | nil => exact absurd rfl hri.some_
      | cons => rfl
    refine iteT ⟨_, rfl, _, rfl, _, rfl, v, .ref p, wa, T2, ls, n, _, rfl, lf6, hmem, by omega, g4, g5, hg.mem, ok6.rp, ok6.low, ok6.tf, fun H7 s7 => ⟨_, rfl, ?_⟩⟩
    rw [ev]
    have ok7 := ok6.same s7
    refine iteT ⟨_, rfl, _, rfl, v, .ref p, ls, n, _, rfl, hg6.same s7, ok7.rp, ok7.sml, fun H8 s8 => ⟨_, _, rfl, rfl, _, rfl, ?_⟩⟩
    rw [ev, decide_eq_true rfl]
    refine iteF ?_
    have s78 := s7.trans s8
    exact qe _ _ _ _ _ _ _ _ _ _ r wa sc ns v ls _ n (ra6.step s78) (hg6.same s78) (lf6.same s78) hwar hnd hmem q
theorem law_body (L : LawHas3 P w K mg base) (f : Addr) (cdv : Value) (A : Around) (outer : List Env) (s : Shared) (H : Hp) (vs : List V) (Q : VK) (E : XK) (hr : Room 8 (A.deeper (envOfC "law" (defScope s_law) s.heap.objs.size f cdv))) (h : spLaw K vs H Q E) :
    ∃ t, PSs (cxOf CX0 P w K mg base lawN "law" (defScope s_law) f cdv A outer s H E).nox (defBody s_law) t ∧ t { nx := fun _ H' => Q .non H', rt := Q } (start lawN vs) H := by
  obtain ⟨sc, ns, rfl, hsc, q⟩ := h
  have B := L.bi
  have hr1 : Room 1 _ := hr.mono (by decide)
  have hr2 : Room 2 _ := hr.mono (by decide)
  have hr3 : Room 3 _ := hr.mono (by decide)
  have hr4 : Room 4 _ := hr.mono (by decide)
  have hr6 : Room 6 _ := hr.mono (by decide)
  have hr7 : Room 7 _ := hr.mono (by decide)
  obtain ⟨te, he, qe⟩ := law_mid (f := f) (cdv := cdv) (A := A) (outer := outer) (s0 := s) (H0 := H) (E0' := E) hr L
  refine ⟨_, pss_cons (ps_set (i := 1) sc_law.nd rfl (Or.inr rfl) (pe_lst (pa_cons (pv 0) (pa_cons pe_int (pa_cons pe_int (pa_cons pe_int pa_nil))))))
    (pss_cons (ps_set (i := 2) sc_law.nd rfl (Or.inl rfl) (pe_has L.lock hr4 (by rfl) (pa_cons (pv 1) (pa_cons (pe_lst (pa_cons pe_str (pa_cons pe_str (pa_cons pe_str (pa_cons pe_str (pa_cons pe_str (pa_cons pe_str (pa_cons pe_str (pa_cons pe_str (pa_cons pe_str (pa_cons pe_str pa_nil))))))))))) pa_nil))))
    (pss_cons (ps_asg (pe_tup (pa_cons (pe_has L.span hr2 (by rfl) (pa_cons (pe_callB call_len_seq (by rfl) B.len PySem.boot_len (pa_cons (pe_ix ix_tup (pv 2) pe_int (fun _ _ => rfl)) pa_nil)) (pa_cons (pv 2) pa_nil))) (pa_cons (pe_has L.ring hr7 (by rfl) (pa_cons (pv 2) pa_nil)) pa_nil)))
      (pg_tup (by rfl) (pgs_cons (pg_name (i := 3) sc_law.nd rfl (Or.inr rfl)) (pgs_cons (pg_name (i := 4) sc_law.nd rfl (Or.inl rfl)) pgs_nil))))
    he)), ?_⟩
  refine ⟨_, rfl, Nat.le_of_ble_eq_true rfl, fun r hr0 => ?_⟩
  have s1 := same_new (o := .lst [V.ref sc, V.int 0, V.int 7703, V.int 0]) hr0
  have ra1 : RowAt K (upd H r (.lst [V.ref sc, V.int 0, V.int 7703, V.int 0])) r sc ns := ⟨0, 7703, 0, upd_same, Same.seq s1 hsc, by omega, by omega, by omega⟩
  generalize upd H r (.lst [V.ref sc, V.int 0, V.int 7703, V.int 0]) = H1 at *
  refine ⟨_, rfl, Nat.le_of_ble_eq_true rfl, fun kl hkl => ?_⟩
  have s2 := same_new (o := .lst (kinds10.map V.str)) hkl
  have k2 : (upd H1 kl (.lst (kinds10.map V.str))) kl = some (.lst (kinds10.map V.str)) := upd_same
  have hklr : kl ≠ r := (ra1.ne hkl).symm
  refine ⟨r, kl, sc, ns, kinds10, rfl, ra1.step s2, k2, hklr, by decide, by decide, kinds10_in, fun v H3 ls n l3 gl fw st3 ra3 httf => ?_⟩
  have htt := httf.tt
  have hg : Good H3 v ls n := ⟨htt, gl, fw.mono (by omega)⟩
  obtain ⟨a, xs, b, rfl, ha, hp0, h0, t0, hbt, htl⟩ := htt.head gl
  obtain ⟨g1, g2, g3, g4, g5⟩ := id gl
  refine ⟨_, rfl, a, xs, 0, .ref b, rfl, rfl, SqT.of ha, h0, b, nIs t0, rfl, .inr hbt.sq, ?_⟩
  refine ⟨_, rfl, .ref a, ls, n, by rw [nIs_len, htl]; rfl, .inl htt, g5, by omega, g4, by omega, fw.mono (by omega), fun wa H4 T0 s4 hwa0 lf4 hnd hmem hasc => ?_⟩
  have hwar : wa ≠ r := (ra3.ne hwa0).symm
  have h60 : T0.length ≤ 60 := fw.le hnd fun t h => (hmem t).mp h
  have same0 : ∀ {T1 : List (List Nat)}, T1.Nodup → Asc T1 → (∀ t, t ∈ T1 ↔ Mk ls n t) → T1 = T0 := fun nd1 a1 m1 => asc_one g4 (fun t ht => hg.isP ((m1 t).mp ht)) ((List.perm_ext_iff_of_nodup nd1 hnd).mpr fun t => (m1 t).trans (hmem t).symm) a1 hasc
  have htf4 := httf.tm (.of s4)
  have hg4 := hg.same s4
  have ra4 := ra3.step s4
  have fin : ∀ (told : V) (H5 : Hp) (T1 : List (List Nat)) (k : Nat), Same H4 H5 → T1.Nodup → Asc T1 → (∀ t, t ∈ T1 ↔ Mk ls n t) → Fix ls T1 n k → ((told = .non ∧ ∀ t ∈ T1, t ∈ Zk ls T1 n k) ∨ ∃ t us, RingAt H5 told t us ∧ IsRing ls n t us ∧ ∃ t ∈ T1, t ∉ Zk ls T1 n k) →
      ∀ pt H6, Same H5 H6 → H6 pt = some (.tup [.ref wa, told]) → te { nx := fun _ H' => Q .non H', rt := Q } [some (.ref sc), some (.ref r), some (.ref a), some (.ref wa), some told, none, none, none, none, none, none] H6 := by
    intro told H5 T1 k s5 nd1 a1 m1 hfix hc pt H6 s6 hpt
    have e := same0 nd1 a1 m1
    subst e
    have s56 := s5.trans s6
    refine qe _ _ _ _ _ _ _ _ _ r wa sc ns (.ref a) told ls _ n k (ra4.step s56) (hg4.same s56) fw (lf4.same s56) hwar hnd hasc hmem hfix ?_ q
    rcases hc with h | ⟨t, us, ⟨p, vt, vu, e, hp, htf, hvu⟩, h2⟩
    · exact .inl h
    · exact .inr ⟨t, us, ⟨p, vt, vu, e, s6 _ _ hp, TF.tm (.of s6) htf, hvu.tm (.of s6)⟩, h2⟩
  refine ⟨_, rfl, .ref a, ls, n, rfl, hg4, htf4, fun H5 T1 k s5 nd1 a1 m1 hfix hk => ?_, fun rv H5 T1 k t us s5 nd1 a1 m1 hfix hx hra hri => ?_⟩
  · refine ⟨Nat.le_of_ble_eq_true rfl, fun pt hpt => ?_⟩
    exact ⟨pt, _, rfl, SqT.of upd_same, rfl, .ref wa, _, rfl, .non, _, rfl, rfl, fin .non H5 T1 k s5 nd1 a1 m1 hfix (.inl ⟨rfl, hk⟩) pt _ (same_new hpt) upd_same⟩
  · refine ⟨Nat.le_of_ble_eq_true rfl, fun pt hpt => ?_⟩
    exact ⟨pt, _, rfl, SqT.of upd_same, rfl, .ref wa, _, rfl, rv, _, rfl, rfl, fin rv H5 T1 k s5 nd1 a1 m1 hfix (.inr ⟨t, us, hra, hri, hx⟩) pt _ (same_new hpt) upd_same⟩
end
end Lt

set_option Elab.async false
set_option linter.all false
set_option maxRecDepth 100000
set_option maxHeartbeats 2000000
namespace Lt
open PySem PySem.Spec PyProof.Rows L2
section
variable {P : Program} {w : World} {K : PySem.W.Frag} {mg : Str → Option Value} {base : Heap} {CL CM : Addr}
theorem TopFs.has (T : TopFs K mg CL CM) : LawHas3 P w K mg base := by
  have B := T.bi
  have eL : ErrI P w K mg base "BadLock" "place" CL := T.e_BadLock.errI init_BadLock
  have eM : ErrI P w K mg base "TooMany" "most" CM := T.e_TooMany.errI init_TooMany
  have i1 : Has P w K mg base CX0 1 "is_number" _ _ := has_is_number T.f_is_number B
  have i2 := has_are_numbers T.f_are_numbers B i1
  have i3 := has_is_permutation T.f_is_permutation B i2
  have i4 : Has P w K mg base CX0 1 "still_of" _ _ := has_still_of T.f_still_of B
  have i5 : Has P w K mg base CX0 1 "product_of" _ _ := has_product_of T.f_product_of B
  have i5F : Has P w K mg base CX0 1 "product_of" _ _ := has_product_ofF T.f_product_of B
  have i6 : Has P w K mg base CX0 1 "back_of" _ _ := has_back_of T.f_back_of B
  have i7 := has_bracket_of T.f_bracket_of i5 i6
  have i7F := has_bracket_ofF T.f_bracket_of i5 i5F i6
  have i8 := has_words_of T.f_words_of B T.c_MOST_TURNS i4 i5
  have i9 := has_words_ofL T.f_words_of B T.c_MOST_TURNS i4 i5
  have i10 := has_group_of T.f_group_of B i4 i9
  have i16 := has_check_lock T.f_check_lock B eL T.c_MOST_GIVEN T.c_FEWEST_PLACES T.c_MOST_PLACES i3
  have i17 := has_made_words T.f_made_words B eM T.c_MOST_TURNS i16 i8
  have i18 := has_all_turns T.f_all_turns B i17
  have i18K := has_all_turnsK T.f_all_turns B i17
  have i19 := has_brackets_madeT T.f_brackets_made B i7 i10
  have i21 := has_led_intoR (R := TK) (fun h => TK.tn h) (fun e h => TK.tm e h) T.f_led_into B i7
  have i22 := has_lower T.f_lower B i18 i19
  have i24 := has_fading_turns T.f_fading_turns B i4 i21
  have i25 := has_is_turn T.f_is_turn i2
  have i26 := has_are_turns T.f_are_turns B i25
  have j1 : Has P w K mg base CX0 1 "_law_taken" _ _ := has_law_taken T.f_law_taken B
  have j2 := has_law_pick T.f_law_pick B j1
  have j5 := has_law_permutation T.f_law_permutation B j1
  have j5F := has_law_permutationF T.f_law_permutation B j1
  have j6 : Has P w K mg base CX0 1 "_law_behind" _ _ := has_law_behind T.f_law_behind B
  have j6F : Has P w K mg base CX0 1 "_law_behind" _ _ := has_law_behindF T.f_law_behind B
  have j7 : Has P w K mg base CX0 1 "_law_back" _ _ := has_law_back T.f_law_back B
  have j8 := has_law_swap T.f_law_swap j6 j7
  have j8F := has_law_swapF T.f_law_swap j6 j6F j7
  have j9 := has_law_span T.f_law_span B j6F
  have j10 := has_law_knownF T.f_law_known B j2 j5
  exact { bi := B, taken := j1, pick := j2, is_ := has_law_is T.f_law_is B, span := j9, lock := has_law_lockF T.f_law_lock B j1 j10 j5F, terms := has_law_terms T.f_law_terms B j9 j8, shown := has_law_shown T.f_law_shown B j8F,
          dying := has_is_dying T.f_is_dying B i22, ring := has_ring T.f_ring B i18K i24 i7 i7F, shows := has_shows_ring T.f_shows_ring B i17 i25 i26 i4 i7 }
theorem law_fin {h : Heap} {fa f : Addr} {oc kV doc pm cdv ct : Value} {od an : Option Addr} {osl : Array (Option Value)} (X : K.In h) (hfa : mg "law" = some (.ref fa)) (G : h.Ns mainGlobals mg) (a : PySem.W.nsIn K mainGlobals "law" = some (some (.ref f)))
    (l : K.lookup f = some ⟨oc, od, .func (PySem.W.fnOf "law" "law" (defArgs s_law) (defBody s_law) (defScope s_law) .none kV doc pm an cdv ct), osl⟩) (c : PySem.W.codeIn K cdv "law" = true) (k : PySem.W.keepIn K (.ref f) = true) (T : TopFs K mg CL CM) :
    ∃ fd : FuncData, (∀ (s : Shared) (u : Value), BindsTo s fd ⟨[u], []⟩ [("script", u)]) ∧ ∀ base : Heap, K.In base → base.Ns mainGlobals mg → FnOk P w K mg base CX0 9 fa fd ["script"] (spLaw K) := by
  have e := hfa.symm.trans (PySem.W.mg_of X G a)
  cases e
  exact ⟨_, fun s u => .of_eq rfl, fun base _ _ => (fun_mk l c k).ok sc_law law_len fun cdv A outer s H vs Q E hr h => law_body T.has _ cdv A outer s H vs Q E hr h⟩
end
end Lt

open PySem PySem.W PyProof.Rows
set_option Elab.async false
set_option maxRecDepth 100000 in
set_option maxHeartbeats 0 in
theorem PySem.Challenge.cw_lockturns_k03_whole_rings_holds : PySem.Challenge.rw_lockturns_k03_whole_rings.Holds := by
  w_on; o_law; k_head; (case hw => w_witness2)
  k_fill
  refine L2.walk_ofK (l := PySem.Challenge.rw_lockturns_k03_whole_rings) (n := 63) (k := 9) (x := "script") (CX := L2.CX0) (sp := Lt.spLaw) rfl (by decide) rfl ⟨rfl, by decide, by decide⟩ (fun w h Y => PySem.W.kIn_of Y) ?F (fun K H a ns _ _ h3 => ⟨a, ns, rfl, h3, fun _ => rfl⟩) (fun _ _ _ _ z => z)
  case F =>
    intro w mg fa h KX G hmg
    have bi : Lt.Bi mg := by
      refine' { tuple := mg_none_of KX G ?z0, list := mg_none_of KX G ?z1, range := mg_none_of KX G ?z2, len := mg_none_of KX G ?z3, sorted := mg_none_of KX G ?z4, enumerate := mg_none_of KX G ?z5, isinstance := mg_none_of KX G ?z6, all := mg_none_of KX G ?z7, set := mg_none_of KX G ?z8, int := mg_none_of KX G ?z9, bool := mg_none_of KX G ?z10, str := mg_none_of KX G ?z11 }
      all_goals k_is
    have c_MOST_TURNS : Lt.Cn mg "MOST_TURNS" 240 := by
      refine' Lt.cn_mk KX G ?a ?b
      (case a => k_is); (case b => exact ⟨_, rfl⟩)
    have c_MOST_GIVEN : Lt.Cn mg "MOST_GIVEN" 4 := by
      refine' Lt.cn_mk KX G ?a ?b
      (case a => k_is); (case b => exact ⟨_, rfl⟩)
    have c_FEWEST_PLACES : Lt.Cn mg "FEWEST_PLACES" 2 := by
      refine' Lt.cn_mk KX G ?a ?b
      (case a => k_is); (case b => exact ⟨_, rfl⟩)
    have c_MOST_PLACES : Lt.Cn mg "MOST_PLACES" 9 := by
      refine' Lt.cn_mk KX G ?a ?b
      (case a => k_is); (case b => exact ⟨_, rfl⟩)
    have f_is_number : Lt.TopX KX mg "is_number" Lt.s_is_number ["value"] := by
      refine' Lt.top_mk KX G ?a ?l ?c ?k (fun _ _ _ _ _ _ us hl => match us, hl with | [_], _ => rfl)
      (case a => k_is); (case l => k_is); (case c => k_is); (case k => k_is)
    have f_are_numbers : Lt.TopX KX mg "are_numbers" Lt.s_are_numbers ["value"] := by
      refine' Lt.top_mk KX G ?a ?l ?c ?k (fun _ _ _ _ _ _ us hl => match us, hl with | [_], _ => rfl)
      (case a => k_is); (case l => k_is); (case c => k_is); (case k => k_is)
    have f_is_permutation : Lt.TopX KX mg "is_permutation" Lt.s_is_permutation ["value", "size"] := by
      refine' Lt.top_mk KX G ?a ?l ?c ?k (fun _ _ _ _ _ _ us hl => match us, hl with | [_, _], _ => rfl)
      (case a => k_is); (case l => k_is); (case c => k_is); (case k => k_is)
    have f_still_of : Lt.TopX KX mg "still_of" Lt.s_still_of ["size"] := by
      refine' Lt.top_mk KX G ?a ?l ?c ?k (fun _ _ _ _ _ _ us hl => match us, hl with | [_], _ => rfl)
      (case a => k_is); (case l => k_is); (case c => k_is); (case k => k_is)
    have f_product_of : Lt.TopX KX mg "product_of" Lt.s_product_of ["one", "other"] := by
      refine' Lt.top_mk KX G ?a ?l ?c ?k (fun _ _ _ _ _ _ us hl => match us, hl with | [_, _], _ => rfl)
      (case a => k_is); (case l => k_is); (case c => k_is); (case k => k_is)
    have f_back_of : Lt.TopX KX mg "back_of" Lt.s_back_of ["turn"] := by
      refine' Lt.top_mk KX G ?a ?l ?c ?k (fun _ _ _ _ _ _ us hl => match us, hl with | [_], _ => rfl)
      (case a => k_is); (case l => k_is); (case c => k_is); (case k => k_is)
    have f_bracket_of : Lt.TopX KX mg "bracket_of" Lt.s_bracket_of ["one", "other"] := by
      refine' Lt.top_mk KX G ?a ?l ?c ?k (fun _ _ _ _ _ _ us hl => match us, hl with | [_, _], _ => rfl)
      (case a => k_is); (case l => k_is); (case c => k_is); (case k => k_is)
    have f_words_of : Lt.TopX KX mg "words_of" Lt.s_words_of ["makers", "size"] := by
      refine' Lt.top_mk KX G ?a ?l ?c ?k (fun _ _ _ _ _ _ us hl => match us, hl with | [_, _], _ => rfl)
      (case a => k_is); (case l => k_is); (case c => k_is); (case k => k_is)
    have f_group_of : Lt.TopX KX mg "group_of" Lt.s_group_of ["makers", "size"] := by
      refine' Lt.top_mk KX G ?a ?l ?c ?k (fun _ _ _ _ _ _ us hl => match us, hl with | [_, _], _ => rfl)
      (case a => k_is); (case l => k_is); (case c => k_is); (case k => k_is)
    have f_all_turns : Lt.TopX KX mg "all_turns" Lt.s_all_turns ["lock"] := by
      refine' Lt.top_mk KX G ?a ?l ?c ?k (fun _ _ _ _ _ _ us hl => match us, hl with | [_], _ => rfl)
      (case a => k_is); (case l => k_is); (case c => k_is); (case k => k_is)
    have f_check_lock : Lt.TopX KX mg "check_lock" Lt.s_check_lock ["lock"] := by
      refine' Lt.top_mk KX G ?a ?l ?c ?k (fun _ _ _ _ _ _ us hl => match us, hl with | [_], _ => rfl)
      (case a => k_is); (case l => k_is); (case c => k_is); (case k => k_is)
    have f_made_words : Lt.TopX KX mg "made_words" Lt.s_made_words ["lock"] := by
      refine' Lt.top_mk KX G ?a ?l ?c ?k (fun _ _ _ _ _ _ us hl => match us, hl with | [_], _ => rfl)
      (case a => k_is); (case l => k_is); (case c => k_is); (case k => k_is)
    have f_is_turn : Lt.TopX KX mg "is_turn" Lt.s_is_turn ["made", "value"] := by
      refine' Lt.top_mk KX G ?a ?l ?c ?k (fun _ _ _ _ _ _ us hl => match us, hl with | [_, _], _ => rfl)
      (case a => k_is); (case l => k_is); (case c => k_is); (case k => k_is)
    have f_are_turns : Lt.TopX KX mg "are_turns" Lt.s_are_turns ["made", "value"] := by
      refine' Lt.top_mk KX G ?a ?l ?c ?k (fun _ _ _ _ _ _ us hl => match us, hl with | [_, _], _ => rfl)
      (case a => k_is); (case l => k_is); (case c => k_is); (case k => k_is)
    have f_lower : Lt.TopX KX mg "lower" Lt.s_lower ["lock"] := by
      refine' Lt.top_mk KX G ?a ?l ?c ?k (fun _ _ _ _ _ _ us hl => match us, hl with | [_], _ => rfl)
      (case a => k_is); (case l => k_is); (case c => k_is); (case k => k_is)
    have f_is_dying : Lt.TopX KX mg "is_dying" Lt.s_is_dying ["lock"] := by
      refine' Lt.top_mk KX G ?a ?l ?c ?k (fun _ _ _ _ _ _ us hl => match us, hl with | [_], _ => rfl)
      (case a => k_is); (case l => k_is); (case c => k_is); (case k => k_is)
    have f_ring : Lt.TopX KX mg "ring" Lt.s_ring ["lock"] := by
      refine' Lt.top_mk KX G ?a ?l ?c ?k (fun _ _ _ _ _ _ us hl => match us, hl with | [_], _ => rfl)
      (case a => k_is); (case l => k_is); (case c => k_is); (case k => k_is)
    have f_shows_ring : Lt.TopX KX mg "shows_ring" Lt.s_shows_ring ["lock", "value"] := by
      refine' Lt.top_mk KX G ?a ?l ?c ?k (fun _ _ _ _ _ _ us hl => match us, hl with | [_, _], _ => rfl)
      (case a => k_is); (case l => k_is); (case c => k_is); (case k => k_is)
    have f_brackets_made : Lt.TopX KX mg "brackets_made" Lt.s_brackets_made ["term", "makers"] := by
      refine' Lt.top_mk KX G ?a ?l ?c ?k (fun _ _ _ _ _ _ us hl => match us, hl with | [_, _], _ => rfl)
      (case a => k_is); (case l => k_is); (case c => k_is); (case k => k_is)
    have f_led_into : Lt.TopX KX mg "led_into" Lt.s_led_into ["lock", "turns", "aims"] := by
      refine' Lt.top_mk KX G ?a ?l ?c ?k (fun _ _ _ _ _ _ us hl => match us, hl with | [_, _, _], _ => rfl)
      (case a => k_is); (case l => k_is); (case c => k_is); (case k => k_is)
    have f_fading_turns : Lt.TopX KX mg "fading_turns" Lt.s_fading_turns ["lock", "turns"] := by
      refine' Lt.top_mk KX G ?a ?l ?c ?k (fun _ _ _ _ _ _ us hl => match us, hl with | [_, _], _ => rfl)
      (case a => k_is); (case l => k_is); (case c => k_is); (case k => k_is)
    have f_law_taken : Lt.TopX KX mg "_law_taken" Lt.s_law_taken ["row", "many"] := by
      refine' Lt.top_mk KX G ?a ?l ?c ?k (fun _ _ _ _ _ _ us hl => match us, hl with | [_, _], _ => rfl)
      (case a => k_is); (case l => k_is); (case c => k_is); (case k => k_is)
    have f_law_pick : Lt.TopX KX mg "_law_pick" Lt.s_law_pick ["row", "things"] := by
      refine' Lt.top_mk KX G ?a ?l ?c ?k (fun _ _ _ _ _ _ us hl => match us, hl with | [_, _], _ => rfl)
      (case a => k_is); (case l => k_is); (case c => k_is); (case k => k_is)
    have f_law_is : Lt.TopX KX mg "_law_is" Lt.s_law_is ["found", "due"] := by
      refine' Lt.top_mk KX G ?a ?l ?c ?k (fun _ _ _ _ _ _ us hl => match us, hl with | [_, _], _ => rfl)
      (case a => k_is); (case l => k_is); (case c => k_is); (case k => k_is)
    have f_law_permutation : Lt.TopX KX mg "_law_permutation" Lt.s_law_permutation ["row", "places"] := by
      refine' Lt.top_mk KX G ?a ?l ?c ?k (fun _ _ _ _ _ _ us hl => match us, hl with | [_, _], _ => rfl)
      (case a => k_is); (case l => k_is); (case c => k_is); (case k => k_is)
    have f_law_behind : Lt.TopX KX mg "_law_behind" Lt.s_law_behind ["one", "other"] := by
      refine' Lt.top_mk KX G ?a ?l ?c ?k (fun _ _ _ _ _ _ us hl => match us, hl with | [_, _], _ => rfl)
      (case a => k_is); (case l => k_is); (case c => k_is); (case k => k_is)
    have f_law_back : Lt.TopX KX mg "_law_back" Lt.s_law_back ["turn"] := by
      refine' Lt.top_mk KX G ?a ?l ?c ?k (fun _ _ _ _ _ _ us hl => match us, hl with | [_], _ => rfl)
      (case a => k_is); (case l => k_is); (case c => k_is); (case k => k_is)
    have f_law_swap : Lt.TopX KX mg "_law_swap" Lt.s_law_swap ["one", "other"] := by
      refine' Lt.top_mk KX G ?a ?l ?c ?k (fun _ _ _ _ _ _ us hl => match us, hl with | [_, _], _ => rfl)
      (case a => k_is); (case l => k_is); (case c => k_is); (case k => k_is)
    have f_law_span : Lt.TopX KX mg "_law_span" Lt.s_law_span ["places", "given"] := by
      refine' Lt.top_mk KX G ?a ?l ?c ?k (fun _ _ _ _ _ _ us hl => match us, hl with | [_, _], _ => rfl)
      (case a => k_is); (case l => k_is); (case c => k_is); (case k => k_is)
    have f_law_known : Lt.TopX KX mg "_law_known" Lt.s_law_known ["row", "kinds"] := by
      refine' Lt.top_mk KX G ?a ?l ?c ?k (fun _ _ _ _ _ _ us hl => match us, hl with | [_, _], _ => rfl)
      (case a => k_is); (case l => k_is); (case c => k_is); (case k => k_is)
    have f_law_lock : Lt.TopX KX mg "_law_lock" Lt.s_law_lock ["row", "kinds"] := by
      refine' Lt.top_mk KX G ?a ?l ?c ?k (fun _ _ _ _ _ _ us hl => match us, hl with | [_, _], _ => rfl)
      (case a => k_is); (case l => k_is); (case c => k_is); (case k => k_is)
    have f_law_terms : Lt.TopX KX mg "_law_terms" Lt.s_law_terms ["lock", "by_all"] := by
      refine' Lt.top_mk KX G ?a ?l ?c ?k (fun _ _ _ _ _ _ us hl => match us, hl with | [_, _], _ => rfl)
      (case a => k_is); (case l => k_is); (case c => k_is); (case k => k_is)
    have f_law_shown : Lt.TopX KX mg "_law_shown" Lt.s_law_shown ["lock", "whole", "value"] := by
      refine' Lt.top_mk KX G ?a ?l ?c ?k (fun _ _ _ _ _ _ us hl => match us, hl with | [_, _, _], _ => rfl)
      (case a => k_is); (case l => k_is); (case c => k_is); (case k => k_is)
    have ee_BadLock : Lt.ErrE KX mg "BadLock" "place" Lt.s_BadLock := by
      refine' Lt.err_mk KX G ?aC ?xL ?rv ?sa ?ga ?gg ?no ?kC ?eC ?tC ?hC ?iC ?sC ?i1 ?i2 ?i3 ?i4 ?i5 (fun _ _ _ _ _ _ us hl => match us, hl with | [_, _], _ => rfl)
      (case aC => k_is); (case xL => k_is); (case rv => decide +kernel); (case sa => k_is); (case ga => k_is); (case gg => k_is); (case no => k_is); (case kC => k_is); (case eC => k_is); (case tC => k_is); (case hC => k_is); (case iC => k_is); (case sC => first | rfl | k_is)
      (case i1 => k_is); (case i2 => k_is); (case i3 => k_is); (case i4 => k_is); (case i5 => k_is)
    obtain ⟨C_BadLock, e_BadLock⟩ := ee_BadLock
    have ee_TooMany : Lt.ErrE KX mg "TooMany" "most" Lt.s_TooMany := by
      refine' Lt.err_mk KX G ?aC ?xL ?rv ?sa ?ga ?gg ?no ?kC ?eC ?tC ?hC ?iC ?sC ?i1 ?i2 ?i3 ?i4 ?i5 (fun _ _ _ _ _ _ us hl => match us, hl with | [_, _], _ => rfl)
      (case aC => k_is); (case xL => k_is); (case rv => decide +kernel); (case sa => k_is); (case ga => k_is); (case gg => k_is); (case no => k_is); (case kC => k_is); (case eC => k_is); (case tC => k_is); (case hC => k_is); (case iC => k_is); (case sC => first | rfl | k_is)
      (case i1 => k_is); (case i2 => k_is); (case i3 => k_is); (case i4 => k_is); (case i5 => k_is)
    obtain ⟨C_TooMany, e_TooMany⟩ := ee_TooMany
    refine' Lt.law_fin KX hmg G ?a ?l ?c ?k ⟨bi, c_MOST_TURNS, c_MOST_GIVEN, c_FEWEST_PLACES, c_MOST_PLACES, e_BadLock, e_TooMany, f_is_number, f_are_numbers, f_is_permutation, f_still_of, f_product_of, f_back_of, f_bracket_of, f_words_of, f_group_of, f_all_turns, f_check_lock, f_made_words, f_is_turn, f_are_turns, f_lower, f_is_dying, f_ring, f_shows_ring, f_brackets_made, f_led_into, f_fading_turns, f_law_taken, f_law_pick, f_law_is, f_law_permutation, f_law_behind, f_law_back, f_law_swap, f_law_span, f_law_known, f_law_lock, f_law_terms, f_law_shown⟩
    (case a => k_is); (case l => k_is); (case c => k_is); (case k => k_is)
#print axioms PySem.Challenge.cw_lockturns_k03_whole_rings_holds

