import PyProof.Rows.All
import Wide.All
import OpenK.AllK
import Wide.FinOn
import HandS.Base
import HandS.Call
import HandS.Dict
import PyProof.P3Eq
import PyProof.DictRoadsH
import PyProof.MeetsDict
import PyProof.MeetsIn
import KE.KExcIs
import KE.KExcInit
import HandS.List
import HandS.Ends
import HandS.Exc
import HandS.ExcInit
import HandS.IsInst
import HandS.Defaults
import KE.KStateDown
import HandS.Head0
import HandS.Head1
import HandS.Head2
import HandS.HeadHook1
import HandS.Words
import Open.Seg
import Open.Tree
import HandS.Codes
import HandS.HeadHook2
import HandS.Star
import HandS.SlotsOwn
import HandS.More
import HandS.SortRule
import HandS.Conv
import HandS.DictComp
import HandS.IterVal
import HandS.ClsMeth
import HandS.OwnIter
import HandS.Walk
import HandS.SetBool
import HandS.Strs
import PyProof.ZipIter
import KE.KDictZip
import HandS.Zip0
import PyProof.EnumMake
import PyProof.EnumFor
import PyProof.TupleIter
import HandS.Iter
import HandS.Zip
import HandS.WordsList
import HandS.WordsExc
import HandS.ExcOwn
import HandS.ExcValue
import PyProof.ReprReads
import PyProof.ReprRoads
import HandS.ForMost
import HandS.Comp
import PyProof.ReprLen
import HandS.Property
import HandS.SortKw
import HandS.SortOrd
import HandS.FStr
import PyProof.ReprText
import HandS.Deep
import HandS.AnyAll
import HandS.MakeKwOnly
import HandS.RaiseMore
import HandS.Style
import PySem.Challenge.RW_wornsteps_k12_stairs_told
set_option Elab.async false
set_option linter.all false
set_option maxRecDepth 100000
set_option maxHeartbeats 4000000
/-! Dicts whose keys are ints, texts and tuples of ints and texts, side by side. -/
namespace MX
open PySem PySem.Spec PyProof.Rows L2
/-- a key: an int, a text; a tuple of such -/
abbrev TK := Sum Key (List Key)
/-- texts are of characters -/
def ok1 : Key → Bool
  | .inl _ => true
  | .inr x => PyData.strOk x
def okT : TK → Bool
  | .inl k => ok1 k
  | .inr ks => ks.all ok1
/-- the value v is the key k -/
def isT (prog : Program) (w : World) (h : Heap) : TK → Value → Prop
  | .inl k, v => keyIs k v = true
  | .inr ks, v => ∃ a, v = .ref a ∧ IsTupleKey (mixKind prog w) h ks a
def hashT (prog : Program) (w : World) : TK → Int
  | .inl k => keyH w k
  | .inr ks => tupleKeyHash (mixKind prog w) ks
def drawsT : TK → Nat
  | .inl _ => 1
  | .inr ks => ks.length + 1
def dat1 : Key → PyData
  | .inl i => .int i
  | .inr x => .str x
def datT : TK → PyData
  | .inl k => dat1 k
  | .inr ks => .tuple (ks.map dat1)
section
variable {prog : Program} {w : World} {h : Heap} {A : Around} {E : Value → Shared → Prop} {s : Shared}
theorem reads1 {k : Key} {v : Value} (e : keyIs k v = true) : Reads h v (dat1 k) [] := by
  rcases keyIs_shape e with ⟨i, t, rfl, rfl⟩ | ⟨x, t, rfl, rfl⟩
  · exact Reads.int i t
  · exact Reads.str x t
theorem readsAll1 : ∀ {ks : List Key} {vs : List Value}, ItemsAre (mixKind prog w) ks vs → ReadsAll h vs (ks.map dat1) []
  | _, _, .nil => ReadsAll.nil
  | _, _, .cons e t => ReadsAll.cons (reads1 e) (readsAll1 t)
theorem readsT {k : TK} {v : Value} (e : isT prog w h k v) : ∃ as, Reads h v (datT k) as := by
  cases k with
  | inl k => exact ⟨_, reads1 e⟩
  | inr ks =>
    obtain ⟨a, rfl, o, its, n, ho, hc, hd, hi⟩ := e
    exact ⟨_, Reads.tuple ho hc (by rw [hd]) (readsAll1 hi)⟩
theorem eqv1 (a b : Key) : PyData.eqv (dat1 a) (dat1 b) = decide (a = b) := by
  cases a <;> cases b <;> simp [dat1, PyData.eqv] <;> first | rfl | (rename_i x y; by_cases e : x = y <;> simp [e])
theorem eqvAll1 : ∀ as bs : List Key, PyData.eqvAll (as.map dat1) (bs.map dat1) = decide (as = bs)
  | [], [] => rfl
  | [], b :: bs => by simp [PyData.eqvAll]
  | a :: as, [] => by simp [PyData.eqvAll]
  | a :: as, b :: bs => by simp [PyData.eqvAll, eqv1, eqvAll1 as bs]
theorem eqvT (a b : TK) : PyData.eqv (datT a) (datT b) = decide (a = b) := by
  cases a with
  | inl a => cases b with
    | inl b => simp [datT, eqv1]
    | inr bs => cases a <;> simp [datT, dat1, PyData.eqv]
  | inr as => cases b with
    | inl b => cases b <;> simp [datT, dat1, PyData.eqv]
    | inr bs => simp [datT, PyData.eqv, eqvAll1]
theorem can1 {k : Key} (o : ok1 k = true) : PyData.canLay0 (dat1 k) = true := by
  cases k with
  | inl i => rfl
  | inr x => exact o
theorem canAll1 : ∀ {ks : List Key}, ks.all ok1 = true → PyData.canLayAll0 (ks.map dat1) = true
  | [], _ => rfl
  | k :: ks, o => by
    rw [List.all_cons, Bool.and_eq_true] at o
    show (PyData.canLay0 (dat1 k) && PyData.canLayAll0 (ks.map dat1)) = true
    rw [can1 o.1, canAll1 o.2]
    rfl
theorem canT {k : TK} (o : okT k = true) : PyData.canLay0 (datT k) = true := by
  cases k with
  | inl k => exact can1 o
  | inr ks => exact canAll1 o
theorem depth1 (k : Key) : PyData.depth (dat1 k) = 0 := by cases k <;> rfl
theorem depthAll1 : ∀ ks : List Key, PyData.depthAll (ks.map dat1) = 0
  | [] => by simp [PyData.depthAll]
  | k :: ks => by simp [PyData.depthAll, depth1, depthAll1 ks]
theorem depthT (k : TK) : PyData.depth (datT k) ≤ 1 := by
  cases k with
  | inl k =>
    show PyData.depth (dat1 k) ≤ 1
    rw [depth1]
    omega
  | inr ks => simp [datT, PyData.depth, depthAll1]
/-- == of two keys -/
theorem eqBoolT {a b : TK} {u v : Value} {Q : Bool → Shared → Prop} (hu : A.units + 64 < cLine) (ha : isT prog w s.heap a u) (hb : isT prog w s.heap b v) (oa : okT a = true) (ob : okT b = true) (q : Q (decide (a = b)) s) : wpAny (model prog w) A (eqBool u v) Q E s := by
  obtain ⟨as, ra⟩ := readsT ha
  obtain ⟨bs, rb⟩ := readsT hb
  have d := depthT a
  exact SeqAt.eqBoolOverData prog w A E s u v _ _ as bs Q ra rb (canT oa) (canT ob) (by omega) (by rw [eqvT]; exact q)
theorem quietT {k : TK} {v : Value} {Q : Bool → Shared → Prop} (e : isT prog w s.heap k v) (q : Q true s) : wpAny (model prog w) A (eqIsQuiet 8 v) Q E s := by
  cases k with
  | inl k =>
    rcases keyIs_shape e with ⟨i, t, rfl, rfl⟩ | ⟨x, t, rfl, rfl⟩ <;> exact wpAny_pure q
  | inr ks =>
    obtain ⟨a, rfl, t⟩ := e
    exact wpAny_eqIsQuiet_tuple t q
theorem hashT_ok {k : TK} {v : Value} {Q : Int → Shared → Prop} (hu : A.units < cLine) (e : isT prog w s.heap k v) (q : Q (hashT prog w k) { s with toks := s.toks + drawsT k }) : wpAny (model prog w) A (pyHash v) Q E s := by
  cases k with
  | inl k => exact (mixKind prog w).pyHash e q
  | inr ks =>
    obtain ⟨a, rfl, t⟩ := e
    exact (tupleKind (mixKind prog w)).pyHash hu t q
theorem injT {h : Heap} {a b : TK} {v : Value} (ha : isT prog w h a v) (hb : isT prog w h b v) : a = b := by
  cases a with
  | inl a => cases b with
    | inl b => exact congrArg Sum.inl ((mixKind prog w).inj v a b ha hb)
    | inr bs =>
      obtain ⟨c, rfl, _⟩ := hb
      rcases keyIs_shape ha with ⟨i, t, _, e⟩ | ⟨x, t, _, e⟩ <;> cases e
  | inr as => cases b with
    | inl b =>
      obtain ⟨c, rfl, _⟩ := ha
      rcases keyIs_shape hb with ⟨i, t, _, e⟩ | ⟨x, t, _, e⟩ <;> cases e
    | inr bs =>
      obtain ⟨c, rfl, ta⟩ := ha
      obtain ⟨d, e, tb⟩ := hb
      cases e
      exact congrArg Sum.inr (ta.inj tb)
end
end MX

set_option Elab.async false
set_option linter.all false
set_option maxRecDepth 100000
set_option maxHeartbeats 4000000
namespace MX
open PySem PySem.Spec PyProof.Rows L2
section
variable {prog : Program} {w : World} {A : Around} {E : Value → Shared → Prop} {s : Shared}
def entT (prog : Program) (w : World) (x : TK × Value × Value) : DictEntry := ⟨hashT prog w x.1, x.2.1, x.2.2⟩
theorem ent_at {es : Array DictEntry} {xs : List (TK × Value × Value)} (he : es.toList = xs.map (entT prog w)) (j : Nat) : es[j]? = (xs[j]?).map (entT prog w) := by
  rw [← Array.getElem?_toList, he, List.getElem?_map]
theorem ent_size {es : Array DictEntry} {xs : List (TK × Value × Value)} (he : es.toList = xs.map (entT prog w)) : es.size = xs.length := by
  rw [← Array.length_toList, he, List.length_map]
/-- the places with a key's hash -/
abbrev plc (es : Array DictEntry) (h : Int) : List Nat := placesWithHash es.size (fun i => es[i]?.map (·.hash)) h
theorem plc_mem {es : Array DictEntry} {h : Int} {i : Nat} : i ∈ plc es h ↔ i < es.size ∧ es[i]?.map (·.hash) = some h := by
  unfold plc placesWithHash
  rw [List.mem_filter, List.mem_range, beq_iff_eq]
theorem plc_nodup {es : Array DictEntry} {h : Int} : (plc es h).Nodup := List.nodup_range.filter _
/-- what a walk over the places has found behind some of them -/
def Fnd (xs : List (TK × Value × Value)) (k : TK) (dn : List Nat) (hit : Option Nat) : Prop := (hit = none ∧ ∀ j ∈ dn, ∀ x, xs[j]? = some x → x.1 ≠ k) ∨ ∃ j ∈ dn, ∃ x, hit = some j ∧ xs[j]? = some x ∧ x.1 = k
theorem uniq {xs : List (TK × Value × Value)} (hn : (xs.map (·.1)).Nodup) {i j : Nat} {x y : TK × Value × Value} (hi : xs[i]? = some x) (hj : xs[j]? = some y) (e : x.1 = y.1) : i = j := by
  have hi' : (xs.map (·.1))[i]? = some x.1 := by rw [List.getElem?_map, hi]; rfl
  have hj' : (xs.map (·.1))[j]? = some x.1 := by rw [List.getElem?_map, hj, e]; rfl
  exact (List.getElem?_inj (List.getElem?_eq_some_iff.mp hi').1 hn).mp (hi'.trans hj'.symm)
theorem tells_T {key : Value} {k : TK} {stored : List Value} {Q : Bool → Shared → Prop} (hkey : isT prog w s.heap k key) (hst : ∀ v ∈ stored, ∃ k', isT prog w s.heap k' v) (q : Q false s) : wpAny (model prog w) A (tableMayTell key stored) Q E s := by
  unfold tableMayTell
  split
  · exact wpAny_pure q
  · refine wpAny_bind (quietT hkey ?_)
    simp only [Bool.not_true, Bool.false_eq_true, if_false]
    refine wpAny_bind (wpAny_forIn_list _ (fun rest r s' => s' = s ∧ r = (none, ()) ∧ ∀ v ∈ rest, ∃ k', isT prog w s.heap k' v) _ ?_ ?_ _ _ ⟨rfl, rfl, hst⟩)
    · rintro v rest r s' ⟨rfl, rfl, al⟩
      obtain ⟨k', hv⟩ := al v List.mem_cons_self
      refine wpAny_bind (quietT hv ?_)
      simp only [Bool.not_true, Bool.false_eq_true, if_false]
      exact wpAny_pure ⟨rfl, rfl, fun u hm => al u (List.mem_cons_of_mem _ hm)⟩
    · rintro r s' ⟨rfl, rfl, _⟩
      exact wpAny_pure q
theorem find_T {d : Addr} {key : Value} {o : Obj} {es : Array DictEntry} {ep : Nat} {xs : List (TK × Value × Value)} {k : TK} {Q : Option Nat → Shared → Prop} (hu : A.units + 64 < cLine) (hkey : isT prog w s.heap k key) (ok : okT k = true) (ho : s.heap.get? d = some o) (hd : o.data = .dict es ep)
    (he : es.toList = xs.map (entT prog w)) (his : ∀ x ∈ xs, isT prog w s.heap x.1 x.2.1 ∧ okT x.1 = true) (hn : (xs.map (·.1)).Nodup) (hs : ∀ z t, key = .str z t → xs = [] ∨ ∃ x ∈ xs, isExactStrKey x.2.1 = false)
    (qn : (∀ x ∈ xs, x.1 ≠ k) → Q none s) (qs : ∀ (j : Nat) (x : TK × Value × Value), xs[j]? = some x → x.1 = k → Q (some j) s) : wpAny (model prog w) A (dictFind d key (hashT prog w k)) Q E s := by
  have hsz := ent_size he
  have atp : ∀ i, i ∈ plc es (hashT prog w k) → ∃ x, xs[i]? = some x ∧ x ∈ xs ∧ es[i]? = some (entT prog w x) ∧ hashT prog w x.1 = hashT prog w k := fun i hi => by
    obtain ⟨lt, hh⟩ := plc_mem.mp hi
    have hx : xs[i]? = some (xs[i]'(by omega)) := List.getElem?_eq_getElem _
    have hex := ent_at he i
    rw [hx] at hex
    rw [hex] at hh
    exact ⟨_, hx, List.getElem_mem _, hex, Option.some.inj hh⟩
  have inp : ∀ j x, xs[j]? = some x → x.1 = k → j ∈ plc es (hashT prog w k) := fun j x hj e => by
    have lt := (List.getElem?_eq_some_iff.mp hj).1
    refine plc_mem.mpr ⟨by omega, ?_⟩
    rw [ent_at he j, hj]
    show some (hashT prog w x.1) = _
    rw [e]
  have hst : ∀ v ∈ (plc es (hashT prog w k)).filterMap (fun i => es[i]?.map (·.key)), ∃ k', isT prog w s.heap k' v := fun v hv => by
    obtain ⟨i, hi, e⟩ := List.mem_filterMap.mp hv
    obtain ⟨x, _, hm, hex, _⟩ := atp i hi
    rw [hex] at e
    cases e
    exact ⟨x.1, (his x hm).1⟩
  unfold dictFind
  try with_reducible refine wpAny_holding ?_
  refine wpAny_bind (wpAny_dictEntries ho hd ?_)
  cases k with
  | inl k =>
    rcases keyIs_shape hkey with ⟨z, t, rfl, rfl⟩ | ⟨z, t, rfl, rfl⟩
    · dsimp only
      by_cases hp0 : ((Value.int z t :: (plc es (hashT prog w (.inl (.inl z)))).filterMap (fun i => es[i]?.map (·.key))).all carriedByValue) = true
      · rw [if_pos hp0]
        unfold dictWalkPlain
        refine wpAny_bind (wpAny_forIn_list _ (fun rest b s' => s' = s ∧ b = (none, ()) ∧ ∃ dn, plc es (hashT prog w (.inl (.inl z))) = dn ++ rest ∧ ∀ j ∈ dn, ∀ x, xs[j]? = some x → x.1 ≠ (.inl (.inl z))) _ ?_ ?_ _ _ ⟨rfl, rfl, [], rfl, nofun⟩)
        · rintro i rest b s' ⟨rfl, rfl, dn, hp, no⟩
          obtain ⟨x, hx, hmem, hex, hh⟩ := atp i (by rw [hp]; exact List.mem_append_right _ List.mem_cons_self)
          rw [hex]
          dsimp only [entT]
          rw [if_pos (by rw [hh]; exact beq_self_eq_true _)]
          refine wpAny_bind (wpAny_dictEpoch ho hd (wpAny_bind (eqBoolT hu (his x hmem).1 hkey (his x hmem).2 ok (wpAny_bind (wpAny_dictEpoch ho hd ?_)))))
          show wpAny _ _ (if (ep != ep) = true then _ else _) _ E _
          rw [if_neg (by simp)]
          by_cases e : x.1 = (.inl (.inl z))
          · rw [decide_eq_true e]
            first | rw [if_pos rfl] | skip
            refine wpAny_bind (wpAny_rule ?_)
            exact wpAny_pure (wpAny_pure (qs i x hx e))
          · rw [decide_eq_false e]
            simp only [Bool.false_eq_true, if_false]
            refine wpAny_bind (wpAny_rule ?_)
            refine wpAny_pure ⟨rfl, rfl, dn ++ [i], by rw [hp, List.append_assoc]; rfl, fun j hj y hy => ?_⟩
            rcases List.mem_append.mp hj with hj | hj
            · exact no j hj y hy
            · obtain rfl := List.mem_singleton.mp hj
              rw [hx] at hy
              cases hy
              exact e
        · rintro b s' ⟨rfl, rfl, dn, hp, no⟩
          rw [List.append_nil] at hp
          exact wpAny_pure (qn fun x hx e => by
            obtain ⟨j, hj⟩ := List.mem_iff_getElem?.mp hx
            exact no j (hp ▸ inp j x hj e) x hj e)
      · rw [if_neg hp0]
        by_cases hone : ((plc es (hashT prog w (.inl (.inl z)))).filterMap (fun i => es[i]?.map (·.key)) == [.int z t]) = true <;> (first | rw [if_pos hone] | rw [if_neg hone]) <;> (first | refine wpAny_bind (wpAny_pure ?_) | refine wpAny_bind (tells_T hkey hst ?_)) <;> (
          rw [if_neg (by simp)]
          refine wpAny_bind (wpAny_forIn_list _ (fun rest b s' => s' = s ∧ ∃ dn hit, b = (none, hit) ∧ plc es (hashT prog w (.inl (.inl z))) = dn ++ rest ∧ Fnd xs (.inl (.inl z)) dn hit) _ ?_ ?_ _ _ ⟨rfl, [], none, rfl, rfl, .inl ⟨rfl, nofun⟩⟩)
          · rintro i rest b s' ⟨rfl, dn, hit, rfl, hp, fnd⟩
            obtain ⟨x, hx, hmem, hex, hh⟩ := atp i (by rw [hp]; exact List.mem_append_right _ List.mem_cons_self)
            have more : plc es (hashT prog w (.inl (.inl z))) = (dn ++ [i]) ++ rest := by rw [hp, List.append_assoc]; rfl
            have out : i ∉ dn := fun m => by
              have nd := plc_nodup (es := es) (h := hashT prog w (.inl (.inl z)))
              rw [hp, List.nodup_append] at nd
              exact nd.2.2 i m i List.mem_cons_self rfl
            rw [hex]
            dsimp only [entT]
            rw [if_pos (by rw [hh]; exact beq_self_eq_true _)]
            refine wpAny_bind (wpAny_dictEpoch ho hd (wpAny_bind (eqBoolT hu (his x hmem).1 hkey (his x hmem).2 ok (wpAny_bind (wpAny_dictEpoch ho hd ?_)))))
            show wpAny _ _ (if (ep != ep) = true then _ else _) _ E _
            rw [if_neg (by simp)]
            by_cases e : x.1 = (.inl (.inl z))
            · rw [decide_eq_true e]
              rcases fnd with ⟨rfl, _⟩ | ⟨j, hj, y, _, hy, ey⟩
              · first | rw [if_pos rfl] | skip
                simp only [Option.isSome_none, Bool.false_eq_true, if_false]
                first | refine wpAny_bind (wpAny_pure ?_) | skip
                refine wpAny_bind (wpAny_rule ?_)
                split
                · exact wpAny_pure (wpAny_pure (qs i x hx e))
                · exact wpAny_pure ⟨rfl, dn ++ [i], some i, rfl, more, .inr ⟨i, List.mem_append_right _ List.mem_cons_self, x, rfl, hx, e⟩⟩
              · rw [uniq hn hy hx (ey.trans e.symm)] at hj
                exact absurd hj out
            · rw [decide_eq_false e]
              simp only [Bool.false_eq_true, if_false]
              have nxt : Fnd xs (.inl (.inl z)) (dn ++ [i]) hit := by
                rcases fnd with ⟨h0, no⟩ | ⟨j, hj, r⟩
                · refine .inl ⟨h0, fun j hj y hy => ?_⟩
                  rcases List.mem_append.mp hj with hj | hj
                  · exact no j hj y hy
                  · obtain rfl := List.mem_singleton.mp hj
                    rw [hx] at hy
                    cases hy
                    exact e
                · exact .inr ⟨j, List.mem_append_left _ hj, r⟩
              refine wpAny_bind (wpAny_rule ?_)
              first | rw [if_neg (by simp)] | skip
              first
                | exact wpAny_pure ⟨rfl, dn ++ [i], hit, rfl, more, nxt⟩
                | exact wpAny_bind (wpAny_pure (wpAny_pure ⟨rfl, dn ++ [i], hit, rfl, more, nxt⟩))
          · rintro b s' ⟨rfl, dn, hit, rfl, hp, fnd⟩
            rw [List.append_nil] at hp
            rcases fnd with ⟨rfl, no⟩ | ⟨j, _, x, rfl, hx, e⟩
            · exact wpAny_pure (qn fun x hx e => by
                obtain ⟨j, hj⟩ := List.mem_iff_getElem?.mp hx
                exact no j (hp ▸ inp j x hj e) x hj e)
            · exact wpAny_pure (qs j x hx e))
    · dsimp only
      by_cases al : (es.all fun e => isExactStrKey e.key) = true
      · rcases hs z t rfl with e0 | ⟨x, hx, hx'⟩
        · subst e0
          have e1 : es = #[] := by
            apply Array.ext'
            rw [he]
            rfl
          subst e1
          rw [if_pos al]
          unfold foundByValue
          first
            | exact wpAny_bind (wpAny_pure (wpAny_pure (qn fun x hx => nomatch hx)))
            | exact wpAny_pure (qn fun x hx => nomatch hx)
            | (simp; exact wpAny_pure (qn fun x hx => nomatch hx))
        · rw [Array.all_eq_true'] at al
          have : isExactStrKey (entT prog w x).key = true := al _ (by rw [← Array.mem_toList_iff, he]; exact List.mem_map_of_mem hx)
          rw [show (entT prog w x).key = x.2.1 from rfl, hx'] at this
          cases this
      · rw [if_neg al]
        by_cases hp0 : ((Value.str z t :: (plc es (hashT prog w (.inl (.inr z)))).filterMap (fun i => es[i]?.map (·.key))).all carriedByValue) = true
        · rw [if_pos hp0]
          unfold dictWalkPlain
          refine wpAny_bind (wpAny_forIn_list _ (fun rest b s' => s' = s ∧ b = (none, ()) ∧ ∃ dn, plc es (hashT prog w (.inl (.inr z))) = dn ++ rest ∧ ∀ j ∈ dn, ∀ x, xs[j]? = some x → x.1 ≠ (.inl (.inr z))) _ ?_ ?_ _ _ ⟨rfl, rfl, [], rfl, nofun⟩)
          · rintro i rest b s' ⟨rfl, rfl, dn, hp, no⟩
            obtain ⟨x, hx, hmem, hex, hh⟩ := atp i (by rw [hp]; exact List.mem_append_right _ List.mem_cons_self)
            rw [hex]
            dsimp only [entT]
            rw [if_pos (by rw [hh]; exact beq_self_eq_true _)]
            refine wpAny_bind (wpAny_dictEpoch ho hd (wpAny_bind (eqBoolT hu (his x hmem).1 hkey (his x hmem).2 ok (wpAny_bind (wpAny_dictEpoch ho hd ?_)))))
            show wpAny _ _ (if (ep != ep) = true then _ else _) _ E _
            rw [if_neg (by simp)]
            by_cases e : x.1 = (.inl (.inr z))
            · rw [decide_eq_true e]
              first | rw [if_pos rfl] | skip
              refine wpAny_bind (wpAny_rule ?_)
              exact wpAny_pure (wpAny_pure (qs i x hx e))
            · rw [decide_eq_false e]
              simp only [Bool.false_eq_true, if_false]
              refine wpAny_bind (wpAny_rule ?_)
              refine wpAny_pure ⟨rfl, rfl, dn ++ [i], by rw [hp, List.append_assoc]; rfl, fun j hj y hy => ?_⟩
              rcases List.mem_append.mp hj with hj | hj
              · exact no j hj y hy
              · obtain rfl := List.mem_singleton.mp hj
                rw [hx] at hy
                cases hy
                exact e
          · rintro b s' ⟨rfl, rfl, dn, hp, no⟩
            rw [List.append_nil] at hp
            exact wpAny_pure (qn fun x hx e => by
              obtain ⟨j, hj⟩ := List.mem_iff_getElem?.mp hx
              exact no j (hp ▸ inp j x hj e) x hj e)
        · rw [if_neg hp0]
          by_cases hone : ((plc es (hashT prog w (.inl (.inr z)))).filterMap (fun i => es[i]?.map (·.key)) == [.str z t]) = true <;> (first | rw [if_pos hone] | rw [if_neg hone]) <;> (first | refine wpAny_bind (wpAny_pure ?_) | refine wpAny_bind (tells_T hkey hst ?_)) <;> (
            rw [if_neg (by simp)]
            refine wpAny_bind (wpAny_forIn_list _ (fun rest b s' => s' = s ∧ ∃ dn hit, b = (none, hit) ∧ plc es (hashT prog w (.inl (.inr z))) = dn ++ rest ∧ Fnd xs (.inl (.inr z)) dn hit) _ ?_ ?_ _ _ ⟨rfl, [], none, rfl, rfl, .inl ⟨rfl, nofun⟩⟩)
            · rintro i rest b s' ⟨rfl, dn, hit, rfl, hp, fnd⟩
              obtain ⟨x, hx, hmem, hex, hh⟩ := atp i (by rw [hp]; exact List.mem_append_right _ List.mem_cons_self)
              have more : plc es (hashT prog w (.inl (.inr z))) = (dn ++ [i]) ++ rest := by rw [hp, List.append_assoc]; rfl
              have out : i ∉ dn := fun m => by
                have nd := plc_nodup (es := es) (h := hashT prog w (.inl (.inr z)))
                rw [hp, List.nodup_append] at nd
                exact nd.2.2 i m i List.mem_cons_self rfl
              rw [hex]
              dsimp only [entT]
              rw [if_pos (by rw [hh]; exact beq_self_eq_true _)]
              refine wpAny_bind (wpAny_dictEpoch ho hd (wpAny_bind (eqBoolT hu (his x hmem).1 hkey (his x hmem).2 ok (wpAny_bind (wpAny_dictEpoch ho hd ?_)))))
              show wpAny _ _ (if (ep != ep) = true then _ else _) _ E _
              rw [if_neg (by simp)]
              by_cases e : x.1 = (.inl (.inr z))
              · rw [decide_eq_true e]
                rcases fnd with ⟨rfl, _⟩ | ⟨j, hj, y, _, hy, ey⟩
                · first | rw [if_pos rfl] | skip
                  simp only [Option.isSome_none, Bool.false_eq_true, if_false]
                  first | refine wpAny_bind (wpAny_pure ?_) | skip
                  refine wpAny_bind (wpAny_rule ?_)
                  split
                  · exact wpAny_pure (wpAny_pure (qs i x hx e))
                  · exact wpAny_pure ⟨rfl, dn ++ [i], some i, rfl, more, .inr ⟨i, List.mem_append_right _ List.mem_cons_self, x, rfl, hx, e⟩⟩
                · rw [uniq hn hy hx (ey.trans e.symm)] at hj
                  exact absurd hj out
              · rw [decide_eq_false e]
                simp only [Bool.false_eq_true, if_false]
                have nxt : Fnd xs (.inl (.inr z)) (dn ++ [i]) hit := by
                  rcases fnd with ⟨h0, no⟩ | ⟨j, hj, r⟩
                  · refine .inl ⟨h0, fun j hj y hy => ?_⟩
                    rcases List.mem_append.mp hj with hj | hj
                    · exact no j hj y hy
                    · obtain rfl := List.mem_singleton.mp hj
                      rw [hx] at hy
                      cases hy
                      exact e
                  · exact .inr ⟨j, List.mem_append_left _ hj, r⟩
                refine wpAny_bind (wpAny_rule ?_)
                first | rw [if_neg (by simp)] | skip
                first
                  | exact wpAny_pure ⟨rfl, dn ++ [i], hit, rfl, more, nxt⟩
                  | exact wpAny_bind (wpAny_pure (wpAny_pure ⟨rfl, dn ++ [i], hit, rfl, more, nxt⟩))
            · rintro b s' ⟨rfl, dn, hit, rfl, hp, fnd⟩
              rw [List.append_nil] at hp
              rcases fnd with ⟨rfl, no⟩ | ⟨j, _, x, rfl, hx, e⟩
              · exact wpAny_pure (qn fun x hx e => by
                  obtain ⟨j, hj⟩ := List.mem_iff_getElem?.mp hx
                  exact no j (hp ▸ inp j x hj e) x hj e)
              · exact wpAny_pure (qs j x hx e))
  | inr ks =>
    obtain ⟨a, rfl, ta⟩ := id hkey
    dsimp only
    rw [if_neg (show ¬ ((Value.ref a :: (plc es (hashT prog w (.inr ks))).filterMap (fun i => es[i]?.map (·.key))).all carriedByValue) = true by simp [carriedByValue])]
    rw [if_neg (by
      rw [← Array.any_toList, he, List.any_map, List.any_eq_true]
      rintro ⟨x, hx, hc⟩
      simp only [Function.comp, entT, Bool.and_eq_true, beq_iff_eq, bne_iff_ne, ne_eq] at hc
      have hi := (his x hx).1
      rw [hc.1] at hi
      exact hc.2 (by rw [injT hi hkey]))]
    by_cases hone : ((plc es (hashT prog w (.inr ks))).filterMap (fun i => es[i]?.map (·.key)) == [.ref a]) = true <;> (first | rw [if_pos hone] | rw [if_neg hone]) <;> (first | refine wpAny_bind (wpAny_pure ?_) | refine wpAny_bind (tells_T hkey hst ?_)) <;> (
      rw [if_neg (by simp)]
      refine wpAny_bind (wpAny_forIn_list _ (fun rest b s' => s' = s ∧ ∃ dn hit, b = (none, hit) ∧ plc es (hashT prog w (.inr ks)) = dn ++ rest ∧ Fnd xs (.inr ks) dn hit) _ ?_ ?_ _ _ ⟨rfl, [], none, rfl, rfl, .inl ⟨rfl, nofun⟩⟩)
      · rintro i rest b s' ⟨rfl, dn, hit, rfl, hp, fnd⟩
        obtain ⟨x, hx, hmem, hex, hh⟩ := atp i (by rw [hp]; exact List.mem_append_right _ List.mem_cons_self)
        have more : plc es (hashT prog w (.inr ks)) = (dn ++ [i]) ++ rest := by rw [hp, List.append_assoc]; rfl
        have out : i ∉ dn := fun m => by
          have nd := plc_nodup (es := es) (h := hashT prog w (.inr ks))
          rw [hp, List.nodup_append] at nd
          exact nd.2.2 i m i List.mem_cons_self rfl
        rw [hex]
        dsimp only [entT]
        rw [if_pos (by rw [hh]; exact beq_self_eq_true _)]
        refine wpAny_bind (wpAny_dictEpoch ho hd (wpAny_bind (eqBoolT hu (his x hmem).1 hkey (his x hmem).2 ok (wpAny_bind (wpAny_dictEpoch ho hd ?_)))))
        show wpAny _ _ (if (ep != ep) = true then _ else _) _ E _
        rw [if_neg (by simp)]
        by_cases e : x.1 = (.inr ks)
        · rw [decide_eq_true e]
          rcases fnd with ⟨rfl, _⟩ | ⟨j, hj, y, _, hy, ey⟩
          · first | rw [if_pos rfl] | skip
            simp only [Option.isSome_none, Bool.false_eq_true, if_false]
            first | refine wpAny_bind (wpAny_pure ?_) | skip
            refine wpAny_bind (wpAny_rule ?_)
            split
            · exact wpAny_pure (wpAny_pure (qs i x hx e))
            · exact wpAny_pure ⟨rfl, dn ++ [i], some i, rfl, more, .inr ⟨i, List.mem_append_right _ List.mem_cons_self, x, rfl, hx, e⟩⟩
          · rw [uniq hn hy hx (ey.trans e.symm)] at hj
            exact absurd hj out
        · rw [decide_eq_false e]
          simp only [Bool.false_eq_true, if_false]
          have nxt : Fnd xs (.inr ks) (dn ++ [i]) hit := by
            rcases fnd with ⟨h0, no⟩ | ⟨j, hj, r⟩
            · refine .inl ⟨h0, fun j hj y hy => ?_⟩
              rcases List.mem_append.mp hj with hj | hj
              · exact no j hj y hy
              · obtain rfl := List.mem_singleton.mp hj
                rw [hx] at hy
                cases hy
                exact e
            · exact .inr ⟨j, List.mem_append_left _ hj, r⟩
          refine wpAny_bind (wpAny_rule ?_)
          first | rw [if_neg (by simp)] | skip
          first
            | exact wpAny_pure ⟨rfl, dn ++ [i], hit, rfl, more, nxt⟩
            | exact wpAny_bind (wpAny_pure (wpAny_pure ⟨rfl, dn ++ [i], hit, rfl, more, nxt⟩))
      · rintro b s' ⟨rfl, dn, hit, rfl, hp, fnd⟩
        rw [List.append_nil] at hp
        rcases fnd with ⟨rfl, no⟩ | ⟨j, _, x, rfl, hx, e⟩
        · exact wpAny_pure (qn fun x hx e => by
            obtain ⟨j, hj⟩ := List.mem_iff_getElem?.mp hx
            exact no j (hp ▸ inp j x hj e) x hj e)
        · exact wpAny_pure (qs j x hx e))
end
end MX

set_option Elab.async false
set_option linter.all false
set_option maxRecDepth 100000
set_option maxHeartbeats 4000000
namespace MX
open PySem PySem.Spec PyProof.Rows L2
section
variable {prog : Program} {w : World} {A : Around} {E : Value → Shared → Prop} {s : Shared} {d : Addr} {key : Value} {k : TK} {xs : List (TK × Value × Value)}
/-- at d stands a dict with these entries -/
def TabIs (prog : Program) (w : World) (h : Heap) (d : Addr) (xs : List (TK × Value × Value)) : Prop :=
  ∃ o es ep, h.get? d = some o ∧ o.ExactDict ∧ o.data = .dict es ep ∧ es.toList = xs.map (entT prog w) ∧ (∀ x ∈ xs, isT prog w h x.1 x.2.1 ∧ okT x.1 = true) ∧ (xs.map (·.1)).Nodup
theorem TabIs.typeIs (m : TabIs prog w s.heap d xs) : s.TypeIs (.ref d) "dict" := let ⟨o, _, _, ho, hc, _⟩ := m; ⟨o, ho, hc.1⟩
/-- a text is looked for in an empty dict, or in one that has other keys, too -/
def MixS (xs : List (TK × Value × Value)) (key : Value) : Prop := ∀ z t, key = .str z t → xs = [] ∨ ∃ x ∈ xs, isExactStrKey x.2.1 = false
def atT (xs : List (TK × Value × Value)) (k : TK) : Option Value := (xs.find? fun x => decide (x.1 = k)).map (·.2.2)
theorem atT_none (no : ∀ x ∈ xs, x.1 ≠ k) : atT xs k = none := by
  unfold atT
  rw [List.find?_eq_none.mpr fun x hx => by simpa using no x hx]
  rfl
theorem atT_at : ∀ {xs : List (TK × Value × Value)}, (xs.map (·.1)).Nodup → ∀ {j : Nat} {x : TK × Value × Value}, xs[j]? = some x → x.1 = k → atT xs k = some x.2.2
  | [], _, _, _, h, _ => nomatch h
  | y :: ys, hn, 0, x, h, e => by
    cases h
    unfold atT
    rw [List.find?_cons_of_pos (by simpa using e)]
    rfl
  | y :: ys, hn, j + 1, x, h, e => by
    rw [List.map_cons, List.nodup_cons] at hn
    have hx : x ∈ ys := List.mem_of_getElem? h
    have ne : y.1 ≠ k := fun z => hn.1 (by rw [z, ← e]; exact List.mem_map_of_mem hx)
    have ih := atT_at hn.2 h e
    unfold atT at ih ⊢
    rw [List.find?_cons_of_neg (by simpa using ne)]
    exact ih
theorem get_T {Q : Option Value → Shared → Prop} (hu : A.units + 64 < cLine) (hkey : isT prog w s.heap k key) (ok : okT k = true) (hm : TabIs prog w s.heap d xs) (hs : MixS xs key) (q : Q (atT xs k) { s with toks := s.toks + drawsT k }) : wpAny (model prog w) A (dictGet d key) Q E s := by
  obtain ⟨o, es, ep, ho, _, hd, he, his, hn⟩ := hm
  unfold dictGet
  try with_reducible refine wpAny_holding ?_
  refine wpAny_bind (hashT_ok (by omega) hkey (wpAny_bind (find_T (s := { s with toks := s.toks + drawsT k }) hu hkey ok ho hd he his hn hs (fun no => ?_) fun j x hj e => ?_)))
  · rw [atT_none no] at q
    exact wpAny_pure q
  · rw [atT_at hn hj e] at q
    refine wpAny_bind (wpAny_dictEntries (s := { s with toks := s.toks + drawsT k }) ho hd ?_)
    rw [ent_at he j, hj]
    exact wpAny_pure q
theorem contains_T {Q : Bool → Shared → Prop} (hu : A.units + 100 < cLine) (hkey : isT prog w s.heap k key) (ok : okT k = true) (hd : (d == sysModules) = false) (hm : TabIs prog w s.heap d xs) (hs : MixS xs key) (q : Q (atT xs k).isSome { s with toks := s.toks + drawsT k }) :
    wpAny (model prog w) A (contains (.ref d) key) Q E s := by
  refine wpAny_contains_slot hm.typeIs F.slot_dict_contains ?_
  refine call_meetsIn F.slot_dict_contains hm.typeIs F.entry_dict_contains (F.args_dict_contains_2 _ _) (S := fun A' R s' => A' = A ∧ s' = s ∧ R (.ok (.ret (.bool (atT xs k).isSome))) { s with toks := s.toks + drawsT k }) (fun A' R s' hS => ?_) ⟨rfl, rfl, wpAny_truthy_bool q⟩
  obtain ⟨rfl, rfl, hq⟩ := hS
  show wpAny _ _ (dictGet d key >>= _) _ _ _
  refine wpAny_bind (get_T (by show A'.units + 1 + 64 < cLine; omega) hkey ok hm hs ?_)
  cases hf : atT xs k with
  | some p =>
    rw [hf] at hq
    exact wpAny_pure hq
  | none =>
    rw [hf] at hq
    exact wpAny_bind (wpAny_pendingKey_other hd (wpAny_pure hq))
theorem isT_keeps {h h' : Heap} {d : Addr} {o : Obj} {es ep} {k : TK} {v : Value} (e : isT prog w h k v) (ho : h.get? d = some o) (hd : o.data = .dict es ep) (sb : Heap.SameBut d h h') : isT prog w h' k v := by
  cases k with
  | inl k => exact e
  | inr ks =>
    obtain ⟨a, rfl, t⟩ := e
    exact ⟨a, rfl, (tupleKind (mixKind prog w)).keeps t ho hd sb⟩
/-- a new key -/
theorem set_T {v : Value} {Q : Unit → Shared → Prop} (hu : A.units + 64 < cLine) (hkey : isT prog w s.heap k key) (ok : okT k = true) (hm : TabIs prog w s.heap d xs) (hs : MixS xs key) (new : ∀ x ∈ xs, x.1 ≠ k) (hsz : xs.length ≤ sizeLine)
    (q : ∀ h', TabIs prog w h' d (xs ++ [(k, key, v)]) → Heap.SameBut d s.heap h' → Q () { s with heap := h', toks := s.toks + drawsT k }) : wpAny (model prog w) A (dictSet d key v) Q E s := by
  obtain ⟨o, es, ep, ho, hc, hd, he, his, hn⟩ := hm
  have hes := ent_size he
  unfold dictSet
  try with_reducible refine wpAny_holding ?_
  refine wpAny_bind (hashT_ok (by omega) hkey ?_)
  unfold dictSetHashed
  try with_reducible refine wpAny_holding ?_
  refine wpAny_bind (find_T (s := { s with toks := s.toks + drawsT k }) hu hkey ok ho hd he his hn hs (fun _ => ?_) fun j x hj e => absurd e (new x (List.mem_of_getElem? hj)))
  refine wpAny_bind (wpAny_rule (wpAny_updateDictKeys (hz := by omega) (s := { s with toks := s.toks + drawsT k }) ho hd (q _ ⟨_, _, ep + 1, Heap.get?_update_self _ ho (Obj.isFreed_of_dict (Obj.data_mapDictKeys hd _)), hc.mapDictKeys _, Obj.data_mapDictKeys hd _, ?_, ?_, ?_⟩ (Heap.SameBut.update ..))))
  · simp [he, entT]
  · intro x hx
    rcases List.mem_append.mp hx with hx | hx
    · exact ⟨isT_keeps (his x hx).1 ho hd (Heap.SameBut.update ..), (his x hx).2⟩
    · obtain rfl := List.mem_singleton.mp hx
      exact ⟨isT_keeps hkey ho hd (Heap.SameBut.update ..), ok⟩
  · rw [List.map_append, List.nodup_append]
    refine ⟨hn, by simp, fun a ha b hb e => ?_⟩
    obtain rfl := List.mem_singleton.mp hb
    obtain ⟨x, hx, ex⟩ := List.mem_map.mp ha
    exact new x hx (ex.trans e)
theorem setItem_T {v : Value} {Q : Unit → Shared → Prop} (hu : A.units + 100 < cLine) (hkey : isT prog w s.heap k key) (ok : okT k = true) (hm : TabIs prog w s.heap d xs) (hs : MixS xs key) (new : ∀ x ∈ xs, x.1 ≠ k) (hsz : xs.length ≤ sizeLine)
    (q : ∀ h', TabIs prog w h' d (xs ++ [(k, key, v)]) → Heap.SameBut d s.heap h' → Q () { s with heap := h', toks := s.toks + drawsT k }) : wpAny (model prog w) A (setItem (.ref d) key v) Q E s := by
  unfold setItem
  try with_reducible refine wpAny_holding ?_
  refine wpAny_bind (wpAny_sequenceKey hm.typeIs (by decide) ?_)
  refine wpAny_bind (wpAny_callSpecial?_slot (name := Str.ofString "__setitem__") hm.typeIs F.slot_dict_setitem (wpAny_call_entry F.slot_dict_setitem hm.typeIs F.entry_dict_setitem ?_ (args_dict_setitem _ _ _)))
  show wpAny _ _ (Builtin.Dict.notOrdered "__setitem__" ⟨[.ref d, key, v], []⟩ >>= _) _ _ s
  refine wpAny_bind (wpAny_notOrdered_dict hm.typeIs ?_)
  show wpAny _ _ (dictSet d key v >>= _) _ _ s
  exact wpAny_bind (set_T (by show A.units + 1 + 64 < cLine; omega) hkey ok hm hs new hsz fun h' m sb => wpAny_pure ⟨.none, rfl, wpAny_pure (q h' m sb)⟩)
end
end MX

set_option Elab.async false
set_option linter.all false
set_option maxRecDepth 100000
set_option maxHeartbeats 4000000
/-! An exception class of the program's own, over any built-in class, its own `__init__` a def: made by position and by keywords. -/
namespace PySem
namespace XM
open PySem.W PySem.Calls PyProof.Rows PySem.HandSPX Builtin
section
variable {M : Model} {prog : Program} {w : World} {A : Around} {E : Value → Shared → Prop} {R : Result → Shared → Prop} {hp : Heap} {gs : Array GenState} {dr : Drawn} {tk : Nat} {os : OsState}
variable {nm qn : Str} {C N : Addr} {bs bm mB : List Value} {hdc ab : Bool} {sn : List Str} {sub : List Value} {col : Option Bool} {dd : Option Addr} {k0 k1 k2 k3 k5 : Option Value} {B nId iId : String} {rest : List Value} {kw : List (Str × Value)}
/-- the look ahead of `__new__` -/
theorem ck_new (F : ExcBaseFacts B nId iId mB) (sm : ∀ X : String, bm.contains (.type X) = mB.contains (.type X)) {Q : Unit → Shared → Prop}
    (cC : hp.get? C = some (excClassObj nm qn C N bs bm hdc sn sub ab col dd k0 k1 k2 k3 k5 nId)) (q : Q () ⟨hp, gs, dr, tk, os⟩) :
    wpAny M A (checkBuiltinCall nId { pos := .ref C :: rest, kw := kw }) Q E ⟨hp, gs, dr, tk, os⟩ := by
  have inB : (Value.ref C :: bm).contains (.type B) = true := by rw [List.contains_cons, sm, F.hasB, Bool.or_true]
  have ns := F.noStar
  simp only [checkBuiltinCall, F.newKind, F.newSplit, F.newRow]
  repeat (first
    | with_reducible refine wpAny_loadPart_at cC ?_
    | (with_reducible refine wpAny_isSubtype_exc cC ?_; rw [inB])
    | with_reducible refine wpAny_staticBase_exc cC ?_
    | with_reducible refine wpAny_madeBy_exc cC ?_
    | simp only [bne_self_eq_false, Bool.false_eq_true, if_false]
    | wp_step)
  exact q
/-- `__new__` itself -/
theorem run_new (F : ExcBaseFacts B nId iId mB) (sm : ∀ X : String, bm.contains (.type X) = mB.contains (.type X)) (cC : hp.get? C = some (excClassObj nm qn C N bs bm hdc sn sub ab col dd k0 k1 k2 k3 k5 nId)) (room : rest.length ≤ sizeLine)
    (q : R (.ok (.ret (.ref (hp.objs.size + 1)))) ⟨(hp.push (kdv_tup rest)).push (excO C hp.objs.size), gs, dr, tk, os⟩) :
    codeAny (model prog w) A (.builtin nId { pos := .ref C :: rest, kw := kw }) R ⟨hp, gs, dr, tk, os⟩ := by
  have ends := F.ends
  have inB : (Value.ref C :: bm).contains (.type B) = true := by rw [List.contains_cons, sm, F.hasB, Bool.or_true]
  have inA : (Value.ref C :: bm).contains (.type "AttributeError") = false := by rw [List.contains_cons, sm, F.noAttr]; rfl
  have inN : (Value.ref C :: bm).contains (.type "NameError") = false := by rw [List.contains_cons, sm, F.noName]; rfl
  refine codeAny_builtinAt F.entry ?_
  unfold Builtin.«BaseException.__new__»
  refine wpAt_bind ?_
  show wpAt _ _ _ (stack >>= _) _ _ _
  refine wpAt_bind (wpAt_stack fun p below => wpAt_of_wpAny ?_)
  wp_walk
  refine wpAt_of_wpAny ?_
  rw [F.owner]
  repeat (first
    | with_reducible refine wpAny_madeHere_exc F.canon cC ?_
    | with_reducible refine wpAny_loadPart_at cC ?_
    | (with_reducible refine wpAny_isSubtype_exc cC ?_; first | rw [inB] | rw [inA] | rw [inN])
    | wp_step)
  show R _ _
  rw [Heap.size_push]
  exact q
/-- `type.__call__` -/
theorem run_type (F : ExcBaseFacts B nId iId mB) (sm : ∀ X : String, bm.contains (.type X) = mB.contains (.type X)) {fI : Addr} {Q : Fin → Shared → Prop} (cC : hp.get? C = some (excClassObj nm qn C N bs bm hdc sn sub ab col dd k0 k1 k2 k3 k5 nId))
    (li : W.Looks (model prog w) hp (typeLookup (.ref C) "__init__") (some (.ref fI))) (lb : ∀ self, W.Looks (model prog w) hp (bindSpecial (.ref fI) self) (.ref fI, [self])) (room : rest.length ≤ sizeLine)
    (q : codeAny (model prog w) A (.call (.ref fI) { pos := .ref (hp.objs.size + 1) :: rest, kw := kw })
      (fun r s' => match r with | .ok (.ret v) => v = .none ∧ Q (.done (.ret (.ref (hp.objs.size + 1)))) s' | .ok _ => False | .error x => E x s') ⟨(hp.push (kdv_tup rest)).push (excO C hp.objs.size), gs, dr, tk, os⟩) :
    wpAny (model prog w) A (Builtin.«type.__call__» { pos := .ref C :: rest, kw := kw }) Q E ⟨hp, gs, dr, tk, os⟩ := by
  repeat (first | with_reducible refine wpAny_loadPart_at cC ?_ | with_reducible refine wpAny_madeBy_exc cC ?_ | wp_step)
  refine codeAny_call_builtin_code (Code.quiet_builtin _ F.quiet) (ck_new F sm cC ?_)
  refine run_new F sm cC room ?_
  show wpAny _ _ _ _ _ _
  have keep : ∀ b o, hp.get? b = some o → ((hp.push (kdv_tup rest)).push (excO C hp.objs.size)).get? b = some o := fun b o e => Heap.get?_push_of_some _ (Heap.get?_push_of_some _ e)
  have c1 := keep _ _ cC
  have ge : ((hp.push (kdv_tup rest)).push (excO C hp.objs.size)).get? (hp.objs.size + 1) = some (excO C hp.objs.size) := by heap_get
  have self : (Value.ref C :: bm).contains (.ref C) = true := by simp
  have li1 := li.keeps keep
  have lb1 := (lb (.ref (hp.objs.size + 1))).keeps keep
  unfold isInstance
  repeat (first | with_reducible refine wpAny_loadPart_at ge ?_ | (with_reducible refine wpAny_isSubtype_exc c1 ?_; rw [self]) | wp_step)
  show wpAny _ _ (typeLookup (.ref C) _) _ _ _
  refine li1.at ?_
  refine wpAny_holding (wpAny_bind (lb1.at ?_))
  refine wpAny_bind (wpAny_call (codeAny_mono q fun r s' z => ?_))
  rcases r with x | (v | _ | _ | _) <;> first | exact z | exact z.elim | skip
  obtain ⟨rfl, z⟩ := z
  first | exact wpAny_pure (wpAny_pure z) | (wp_walk; exact z)
end
end XM
end PySem

set_option Elab.async false
set_option linter.all false
set_option maxRecDepth 100000
set_option maxHeartbeats 0
/-! The head's facts by a Hook of one's own: the heap's part forced first. -/
namespace HX
open PySem PySem.Spec PyProof.Rows L2 PySem.XM
open PySem.W (Frag)
theorem and_of {a b : Bool} (h : (a && b) = true) : a = true ∧ b = true := Bool.and_eq_true_iff.mp h
open HandSHeadRun (frNat frNat_eq getT getT_eq)
/-- numbers reckoned first -/
def forceL {β : Type} : List Nat → (List Nat → β) → β
  | [], k => k []
  | a :: r, k => frNat a fun a => forceL r fun r => k (a :: r)
theorem forceL_eq {β : Type} : ∀ (as : List Nat) (k : List Nat → β), forceL as k = k as
  | [], _ => rfl
  | a :: r, k => by
    show frNat a (fun a => forceL r fun r => k (a :: r)) = _
    rw [frNat_eq, forceL_eq]
/-- objects looked up first -/
def forceK {β : Type} (g : Addr → Option Obj) : List Addr → (Frag → β) → β
  | [], k => k []
  | a :: r, k => match g a with
    | some o => forceK g r fun K => k ((a, o) :: K)
    | none => forceK g r k
theorem forceK_eq {β : Type} (g : Addr → Option Obj) : ∀ (as : List Addr) (k : Frag → β), forceK g as k = k (He.frG g as)
  | [], _ => rfl
  | a :: r, k => by
    show (match g a with
      | some o => forceK g r fun K => k ((a, o) :: K)
      | none => forceK g r k) = _
    unfold He.frG
    rw [List.filterMap_cons]
    cases e : g a with
    | none => exact forceK_eq g r k
    | some ob => exact forceK_eq g r fun K => k ((a, ob) :: K)
def asF {β : Type} (g : Addr → Option Obj) : Nat → (List Nat → β) → β
  | 0, k => k [mainGlobals]
  | n + 1, k => asF g n fun as => forceL (He.growG g as) k
theorem asF_eq {β : Type} (g : Addr → Option Obj) : ∀ (n : Nat) (k : List Nat → β), asF g n k = k (He.asG g n)
  | 0, _ => rfl
  | n + 1, k => by
    show asF g n (fun as => forceL (He.growG g as) k) = _
    rw [asF_eq g n, forceL_eq]
    rfl
def obsXK (fa : List He.Fa) (fn : List He.FnD) (B : Frag → Bool) (K : Frag) : He.Al := (B K && (He.obsE fa fn K).1, (He.obsE fa fn K).2)
def obsF (fa : List He.Fa) (fn : List He.FnD) (B : Frag → Bool) (n : Nat) (g : Addr → Option Obj) : He.Al := asF g n fun as => forceK g as fun K => obsXK fa fn B K
def hookX (n : Nat) (fa : List He.Fa) (fn : List He.FnD) (B : Frag → Bool) : PySem.W.Hook where
  α := He.Al
  obs := fun s => obsXK fa fn B (He.frG s.heap.get? (He.asG s.heap.get? n))
  val := fun _ => He.valE fn
  says := fun _ h => ∃ K : Frag, K.In h ∧ obsXK fa fn B K = He.valE fn
  of := fun _ _ e => ⟨_, He.frG_in, e⟩
  keeps := fun _ _ _ ⟨K, hK, c⟩ k => ⟨K, PySem.W.Frag.In.keeps hK k, c⟩
theorem obsF_eq {fa : List He.Fa} {fn : List He.FnD} {B : Frag → Bool} {n : Nat} (s : PySem.W.SharedT) : obsF fa fn B n (getT s) = (hookX n fa fn B).obs s.abs := by
  have e : getT s = s.abs.heap.get? := funext (getT_eq s)
  show asF (getT s) n (fun as => forceK (getT s) as fun K => obsXK fa fn B K) = _
  rw [asF_eq, forceK_eq, e]
  rfl
theorem said {fa : List He.Fa} {fn : List He.FnD} {B : Frag → Bool} {K : Frag} (c : obsXK fa fn B K = He.valE fn) : B K = true ∧ He.SaysE fa fn K := by
  have c1 : (B K && (He.obsE fa fn K).1) = true := congrArg (fun z : He.Al => z.1) c
  have c2 : (He.obsE fa fn K).2 = fn.map He.FnD.val := congrArg (fun z : He.Al => z.2) c
  obtain ⟨h1, h2⟩ := and_of c1
  exact ⟨h1, Prod.ext h2 c2⟩
end HX

set_option Elab.async false
set_option linter.all false
set_option maxRecDepth 100000
set_option maxHeartbeats 2000000
/-! One run of the top in the place of another: where a piece of it reaches what the other piece reaches, so does the whole. -/
namespace FX
open PySem PySem.W PySem.Calls PyProof.Rows
section
variable (tb : String → Option Builtin) (p : Program) (w : World) (n₀ : Nat) (ann : Option Value)
/-- where t comes through, so does t', in so many steps more -/
def Rch (e : Nat) (s : Shared) (t : Thread) (s' : Shared) (t' : Thread) : Prop := ∀ N r, topRun tb p w n₀ ann N s t = some r → topRun tb p w n₀ ann (40 * N + e) s' t' = some r
end
section
variable {tb : String → Option Builtin} {p : Program} {w : World} {n₀ : Nat} {ann : Option Value} {e e' : Nat}
theorem run_le {N N' : Nat} {s r : Shared} {t : Thread} (h : topRun tb p w n₀ ann N s t = some r) (le : N ≤ N') : topRun tb p w n₀ ann N' s t = some r := by
  have := topRun_mono (N' - N) _ _ _ _ h
  rwa [show N + (N' - N) = N' by omega] at this
theorem Rch.mono {s s' : Shared} {t t' : Thread} (h : Rch tb p w n₀ ann e s t s' t') (le : e ≤ e') : Rch tb p w n₀ ann e' s t s' t' := fun N r hr => run_le (h N r hr) (by omega)
/-- so many steps ahead -/
theorem Rch.go {s₁ s₂ s₃ : Shared} {t₁ t₂ t₃ : Thread} {n : Nat} (a : Rch tb p w n₀ ann e s₁ t₁ s₃ t₃) (h : topGo tb p w n₀ ann n s₂ t₂ = some (s₃, t₃)) : Rch tb p w n₀ ann (e + n) s₁ t₁ s₂ t₂ := fun N r hr =>
  run_le (go_top h (a N r hr)) (by omega)
/-- one step of a run that comes through -/
theorem run_step {N : Nat} {s r : Shared} {t : Thread} (ht : through t = false) (h : topRun tb p w n₀ ann N s t = some r) : ∃ M s' t', N = M + 1 ∧ stepOk n₀ ann t = true ∧ step (denote tb) p w s t = .go s' t' ∧ topRun tb p w n₀ ann M s' t' = some r := by
  cases N with
  | zero => cases h
  | succ M =>
    unfold topRun at h
    rw [ht] at h
    cases hk : stepOk n₀ ann t with
    | false =>
      rw [hk] at h
      cases h
    | true =>
      rw [hk] at h
      cases hs : step (denote tb) p w s t with
      | halt o s' =>
        rw [hs] at h
        cases h
      | go s' t' =>
        rw [hs] at h
        exact ⟨M, s', t', rfl, rfl, rfl, h⟩
theorem step_run {N : Nat} {s s' r : Shared} {t t' : Thread} (ht : through t = false) (hk : stepOk n₀ ann t = true) (hs : step (denote tb) p w s t = .go s' t') (h : topRun tb p w n₀ ann N s' t' = some r) : topRun tb p w n₀ ann (N + 1) s t = some r := by
  unfold topRun
  rw [ht, hk, hs]
  exact h
/-- the fake's load -/
theorem Rch.load_l {s s' : Shared} {a : Addr} {pt : Option Value} {k : Obj → Sem Fin} {c : Code} {q : Pos} {B : List Frame} {t' : Thread} (h : ∀ o, s.heap.get? a = some o → Rch tb p w n₀ ann (e + 40) s ⟨k o, c, q, B⟩ s' t') : Rch tb p w n₀ ann e s ⟨.load a pt k, c, q, B⟩ s' t' := fun N r hr => by
  obtain ⟨M, s2, t2, rfl, _, hs, h2⟩ := run_step (by simp only [through, Bool.and_false]) hr
  obtain ⟨heap, gens, drawn, toks, os⟩ := s
  cases eg : heap.get? a with
  | none =>
    simp only [step, eg] at hs
    cases hs
  | some o =>
    simp only [step, eg, Step.go.injEq] at hs
    obtain ⟨rfl, rfl⟩ := hs
    exact run_le (h o eg M r h2) (by omega)
/-- the true one's load -/
theorem Rch.load_r {s s' : Shared} {a : Addr} {pt : Option Value} {k : Obj → Sem Fin} {c : Code} {q : Pos} {B : List Frame} {t : Thread} {o : Obj} (eg : s'.heap.get? a = some o) (h : Rch tb p w n₀ ann e s t s' ⟨k o, c, q, B⟩) : Rch tb p w n₀ ann (e + 1) s t s' ⟨.load a pt k, c, q, B⟩ := fun N r hr => by
  refine step_run (N := 40 * N + e) (by simp only [through, Bool.and_false]) rfl ?_ (h N r hr)
  obtain ⟨heap, gens, drawn, toks, os⟩ := s'
  simp only [step, eg]
theorem Rch.unsup {s s' : Shared} {x : String} {c : Code} {q : Pos} {B : List Frame} {t' : Thread} : Rch tb p w n₀ ann e s ⟨.unsupported x, c, q, B⟩ s' t' := fun N r hr => by
  obtain ⟨M, s2, t2, _, _, hs, _⟩ := run_step (by simp only [through, Bool.and_false]) hr
  obtain ⟨heap, gens, drawn, toks, os⟩ := s
  simp only [step] at hs
  cases hs
end
/-! ### a piece in the place of another -/
section
variable {α : Type} {K K' : α → Sem Fin} {H H' : Value → Sem Fin} {gd : Bool → Bool} {lv : List Value → List Value} {B : List Frame} {den : Code → Sem Fin} {p : Program} {w : World}
theorem step_out (hB : splitAtGen B = none) {s s₂ : Shared} {x : Sem α} {code : Code} {pos : Pos} {t₂ : Thread} (hp : ∀ a, x ≠ .pure a) (hr : ∀ e, x ≠ .raise e)
    (h : step den p w s ⟨x.wrap K H gd lv, code, pos, B⟩ = .go s₂ t₂) : ∃ t₂', step den p w s ⟨x.wrap K' H' gd lv, code, pos, B⟩ = .go s₂ t₂' ∧ Rel2 K K' H H' gd lv B t₂ t₂' := by
  obtain ⟨heap, gens, drawn, toks, os⟩ := s
  cases x with
  | pure a => exact absurd rfl (hp a)
  | raise e => exact absurd rfl (hr e)
  | unsupported | register | fork | await =>
    simp only [Sem.wrap, step] at h
    cases h
  | finish e =>
    simp only [Sem.wrap, step] at h
    split at h <;> cases h
  | load a q k =>
    cases e : heap.get? a with
    | none =>
      simp only [Sem.wrap, step, e] at h
      cases h
    | some o =>
      simp only [Sem.wrap, step, e, Step.go.injEq] at h ⊢
      obtain ⟨rfl, rfl⟩ := h
      exact ⟨_, ⟨rfl, rfl⟩, rfl, rfl, .inl ⟨rfl, rfl, _, rfl, rfl⟩⟩
  | update a q f k =>
    cases e : (heap.get? a).isSome with
    | false =>
      simp only [Sem.wrap, step, e, Bool.false_eq_true, if_false] at h
      cases h
    | true =>
      simp only [Sem.wrap, step, e, if_true, Step.go.injEq] at h ⊢
      obtain ⟨rfl, rfl⟩ := h
      exact ⟨_, ⟨rfl, rfl⟩, rfl, rfl, .inl ⟨rfl, rfl, _, rfl, rfl⟩⟩
  | choose src n k =>
    by_cases e : n = 0
    · simp only [Sem.wrap, step, e, if_true] at h
      cases h
    · simp only [Sem.wrap, step, e, if_false, Step.go.injEq] at h ⊢
      obtain ⟨rfl, rfl⟩ := h
      exact ⟨_, ⟨rfl, rfl⟩, rfl, rfl, .inl ⟨rfl, rfl, _, rfl, rfl⟩⟩
  | genState g k =>
    cases e : gens[g]? with
    | none =>
      simp only [Sem.wrap, step, e] at h
      cases h
    | some st =>
      simp only [Sem.wrap, step, e, Step.go.injEq] at h ⊢
      obtain ⟨rfl, rfl⟩ := h
      exact ⟨_, ⟨rfl, rfl⟩, rfl, rfl, .inl ⟨rfl, rfl, _, rfl, rfl⟩⟩
  | resume g r l k =>
    cases e : gens[g]? with
    | none =>
      simp only [Sem.wrap, step, e] at h
      cases h
    | some st =>
      cases st with
      | fresh c =>
        cases r with
        | throw x =>
          simp only [Sem.wrap, step, e, Step.go.injEq] at h ⊢
          obtain ⟨rfl, rfl⟩ := h
          exact ⟨_, ⟨rfl, rfl⟩, rfl, rfl, .inl ⟨rfl, rfl, _, rfl, rfl⟩⟩
        | send v => cases v <;> (simp only [Sem.wrap, step, e, Step.go.injEq] at h ⊢; obtain ⟨rfl, rfl⟩ := h; first | exact ⟨_, ⟨rfl, rfl⟩, rfl, rfl, .inl ⟨rfl, rfl, _, rfl, rfl⟩⟩ | exact ⟨_, ⟨rfl, rfl⟩, rfl, rfl, .inr ⟨rfl, .gen ..⟩⟩)
      | suspended kk lv' c p frames cl =>
        simp only [Sem.wrap, step, e, Step.go.injEq] at h ⊢
        obtain ⟨rfl, rfl⟩ := h
        exact ⟨_, ⟨rfl, rfl⟩, rfl, rfl, .inr ⟨rfl, Frames2.append (.gen ..) frames⟩⟩
      | running | finished =>
        simp only [Sem.wrap, step, e, Step.go.injEq] at h ⊢
        obtain ⟨rfl, rfl⟩ := h
        exact ⟨_, ⟨rfl, rfl⟩, rfl, rfl, .inl ⟨rfl, rfl, _, rfl, rfl⟩⟩
  | «yield» v g0 l kk =>
    simp only [Sem.wrap, step, hB] at h
    cases h
  | call c m g l k =>
    simp only [Sem.wrap, step, Step.go.injEq] at h ⊢
    obtain ⟨rfl, rfl⟩ := h
    exact ⟨_, ⟨rfl, rfl⟩, rfl, rfl, .inr ⟨rfl, .ret ..⟩⟩
  | _ =>
    simp only [Sem.wrap, step, Step.go.injEq] at h ⊢
    obtain ⟨rfl, rfl⟩ := h
    exact ⟨_, ⟨rfl, rfl⟩, rfl, rfl, .inl ⟨rfl, rfl, _, rfl, rfl⟩⟩
theorem ok_out {n₀ : Nat} {ann : Option Value} {x : Sem α} {code : Code} {pos : Pos} (hp : ∀ a, x ≠ .pure a) (hr : ∀ e, x ≠ .raise e) (h : stepOk n₀ ann ⟨x.wrap K H gd lv, code, pos, B⟩ = true) :
    stepOk n₀ ann ⟨x.wrap K' H' gd lv, code, pos, B⟩ = true ∧ through ⟨x.wrap K' H' gd lv, code, pos, B⟩ = false := by
  cases x with
  | pure a => exact absurd rfl (hp a)
  | raise e => exact absurd rfl (hr e)
  | _ => exact ⟨h, by simp only [Sem.wrap, through, Bool.and_false]⟩
end
section
variable {α β : Type} {tb : String → Option Builtin} {p : Program} {w : World} {n₀ : Nat} {ann : Option Value} {B : List Frame}
theorem cont_go (hB : splitAtGen B = none) (hn : B.isEmpty = false) {K K' : α → Sem Fin} {H H' : Value → Sem Fin} {gd : Bool → Bool} {lv : List Value → List Value} (hK : ∀ a s c q, Rch tb p w n₀ ann 0 s ⟨K a, c, q, B⟩ s ⟨K' a, c, q, B⟩) (hH : ∀ e s c q, Rch tb p w n₀ ann 0 s ⟨H e, c, q, B⟩ s ⟨H' e, c, q, B⟩) :
    ∀ (N : Nat) (s : Shared) (t t' : Thread) (r : Shared), Rel2 K K' H H' gd lv B t t' → topRun tb p w n₀ ann N s t = some r → topRun tb p w n₀ ann (40 * N) s t' = some r
  | 0, _, _, _, _, _, h => by cases h
  | N + 1, s, ⟨cur, code, pos, st⟩, ⟨cur', code', pos', st'⟩, r, R, h => by
    obtain ⟨e1, e2, R⟩ := R
    dsimp only at e1 e2 R
    subst e1 e2
    have main : through ⟨cur, code, pos, st⟩ = false → (stepOk n₀ ann ⟨cur, code, pos, st⟩ = true → stepOk n₀ ann ⟨cur', code, pos, st'⟩ = true ∧ through ⟨cur', code, pos, st'⟩ = false) →
        (∀ s₂ t₂, step (denote tb) p w s ⟨cur, code, pos, st⟩ = .go s₂ t₂ → ∃ t₂', step (denote tb) p w s ⟨cur', code, pos, st'⟩ = .go s₂ t₂' ∧ Rel2 K K' H H' gd lv B t₂ t₂') → topRun tb p w n₀ ann (40 * (N + 1)) s ⟨cur', code, pos, st'⟩ = some r := fun ht hk hs => by
      unfold topRun at h
      rw [ht] at h
      cases k1 : stepOk n₀ ann ⟨cur, code, pos, st⟩ with
      | false =>
        rw [k1] at h
        cases h
      | true =>
        rw [k1] at h
        cases k2 : step (denote tb) p w s ⟨cur, code, pos, st⟩ with
        | halt o s₂ =>
          rw [k2] at h
          cases h
        | go s₂ t₂ =>
          rw [k2] at h
          obtain ⟨t₂', k3, R2⟩ := hs s₂ t₂ k2
          obtain ⟨k4, k5⟩ := hk k1
          exact run_le (step_run k5 k4 k3 (cont_go hB hn hK hH N s₂ t₂ t₂' r R2 h)) (by omega)
    rcases R with ⟨rfl, rfl, x, rfl, rfl⟩ | ⟨rfl, F⟩
    · by_cases hp : ∃ a, x = .pure a
      · obtain ⟨a, rfl⟩ := hp
        exact hK a s code pos (N + 1) r h
      · by_cases hr : ∃ e, x = .raise e
        · obtain ⟨e, rfl⟩ := hr
          exact hH e s code pos (N + 1) r h
        · have p1 : ∀ a, x ≠ .pure a := fun a e => hp ⟨a, e⟩
          have p2 : ∀ e, x ≠ .raise e := fun a e => hr ⟨a, e⟩
          exact main (by simp only [through, hn, Bool.false_and]) (fun k => ok_out p1 p2 k) fun s₂ t₂ k => step_out hB p1 p2 k
    · have l := F.longer.1
      exact main (by cases st with
        | nil => exact absurd l (Nat.not_lt_zero _)
        | cons => rfl) (fun k => okInner hB F k) fun s₂ t₂ k => step_inner hB F k
variable (tb p w n₀ ann B) in
/-- y's run comes through, so does x's, whatever comes behind -/
def Sim (x y : Sem α) : Prop := ∀ (s : Shared) (c : Code) (q : Pos) (K K' : α → Sem Fin) (H H' : Value → Sem Fin) (gd : Bool → Bool) (lv : List Value → List Value), (∀ a s c q, Rch tb p w n₀ ann 0 s ⟨K' a, c, q, B⟩ s ⟨K a, c, q, B⟩) → (∀ e s c q, Rch tb p w n₀ ann 0 s ⟨H' e, c, q, B⟩ s ⟨H e, c, q, B⟩) →
  Rch tb p w n₀ ann 0 s ⟨y.wrap K' H' gd lv, c, q, B⟩ s ⟨x.wrap K H gd lv, c, q, B⟩
theorem Sim.refl (hB : splitAtGen B = none) (hn : B.isEmpty = false) {x : Sem α} : Sim tb p w n₀ ann B x x := fun s c q K K' H H' gd lv k1 k2 N r hr => cont_go hB hn k1 k2 N s ⟨x.wrap K' H' gd lv, c, q, B⟩ ⟨x.wrap K H gd lv, c, q, B⟩ r ⟨rfl, rfl, .inl ⟨rfl, rfl, x, rfl, rfl⟩⟩ hr
theorem Sim.wrap (hB : splitAtGen B = none) (hn : B.isEmpty = false) {x y : Sem α} (h : Sim tb p w n₀ ann B x y) {K K' : α → Sem β} {H H' : Value → Sem β} {gd : Bool → Bool} {lv : List Value → List Value} (hK : ∀ a, Sim tb p w n₀ ann B (K a) (K' a)) (hH : ∀ e, Sim tb p w n₀ ann B (H e) (H' e)) :
    Sim tb p w n₀ ann B (x.wrap K H gd lv) (y.wrap K' H' gd lv) := fun s c q K2 K2' H2 H2' gd2 lv2 k1 k2 => by
  rw [Sem.wrap_wrap, Sem.wrap_wrap]
  exact h s c q _ _ _ _ _ _ (fun a s c q => hK a s c q K2 K2' H2 H2' gd2 lv2 k1 k2) fun e s c q => hH e s c q K2 K2' H2 H2' gd2 lv2 k1 k2
theorem Sim.bind (hB : splitAtGen B = none) (hn : B.isEmpty = false) {x y : Sem α} {f g : α → Sem β} (h : Sim tb p w n₀ ann B x y) (hf : ∀ a, Sim tb p w n₀ ann B (f a) (g a)) : Sim tb p w n₀ ann B (x >>= f) (y >>= g) := by
  rw [Sem.bind_eq_wrap', Sem.bind_eq_wrap']
  exact h.wrap hB hn hf fun _ => .refl hB hn
theorem Sim.keep (hB : splitAtGen B = none) (hn : B.isEmpty = false) {x y : Sem α} (h : Sim tb p w n₀ ann B x y) (vs : List Value) : Sim tb p w n₀ ann B (x.keep vs) (y.keep vs) := by
  rw [Sem.keep_eq_wrap, Sem.keep_eq_wrap]
  exact h.wrap hB hn (fun _ => .refl hB hn) fun _ => .refl hB hn
theorem Sim.holding (hB : splitAtGen B = none) (hn : B.isEmpty = false) {x y : Sem α} (h : Sim tb p w n₀ ann B x y) (vs : List Value) : Sim tb p w n₀ ann B (holding vs x) (holding vs y) := by
  unfold PySem.holding
  split
  · exact h
  · exact h.keep hB hn _
theorem Sim.onRaise (hB : splitAtGen B = none) (hn : B.isEmpty = false) {x y : Sem α} (h : Sim tb p w n₀ ann B x y) (k : Value → Sem Unit) : Sim tb p w n₀ ann B (x.onRaise k) (y.onRaise k) := by
  rw [Sem.onRaise_eq_wrap, Sem.onRaise_eq_wrap]
  exact h.wrap hB hn (fun _ => .refl hB hn) fun _ => .refl hB hn
theorem Sim.forIn (hB : splitAtGen B = none) (hn : B.isEmpty = false) {γ : Type} {f g : γ → β → Sem (ForInStep β)} (h : ∀ a b, Sim tb p w n₀ ann B (f a b) (g a b)) : ∀ (l : List γ) (b : β), Sim tb p w n₀ ann B (forIn l b f) (forIn l b g)
  | [], b => by
    rw [List.forIn_nil, List.forIn_nil]
    exact .refl hB hn
  | a :: l, b => by
    rw [List.forIn_cons, List.forIn_cons]
    refine Sim.bind hB hn (h a b) fun r => ?_
    cases r with
    | done b => exact .refl hB hn
    | yield b => exact Sim.forIn hB hn h l b
end
end FX

set_option Elab.async false
set_option linter.all false
set_option maxRecDepth 100000
set_option maxHeartbeats 2000000
/-! Displays of dicts with another look-up in the place of the dict's own. -/
namespace FX
open PySem PySem.W PySem.Calls PyProof.Rows
/-- a text with one constant of it made an argument -/
structure Abs {A T : Type} (a : A) (t : T) : Type where
  F : A → T
  h : F a = t
noncomputable def dispA : Abs PySem.dictFind PySem.dictDisplay := by
  delta PySem.dictDisplay PySem.subDict PySem.mergeMapping PySem.dictSet PySem.dictSetHashed PySem.dictPut
  refine ⟨?_, ?h⟩
  case h =>
    generalize PySem.dictFind = x
    rfl
noncomputable def dispF : (Addr → Value → Int → Sem (Option Nat)) → List (Option (Sem Value) × Sem Value) → Sem Value := dispA.F
theorem dispF_eq : dispF PySem.dictFind = PySem.dictDisplay := dispA.h

section
variable {α β : Type} {tb : String → Option Builtin} {p : Program} {w : World} {n₀ : Nat} {ann : Option Value} {B : List Frame}
theorem Sim.tryCatch (hB : splitAtGen B = none) (hn : B.isEmpty = false) {x y : Sem α} (h : Sim tb p w n₀ ann B x y) {k k' : Value → Sem α} (hk : ∀ e, Sim tb p w n₀ ann B (k e) (k' e)) : Sim tb p w n₀ ann B (x.tryCatch k) (y.tryCatch k') := by
  rw [Sem.tryCatch_eq_wrap, Sem.tryCatch_eq_wrap]
  exact h.wrap hB hn (fun _ => .refl hB hn) hk
theorem Sim.ite {c : Prop} [Decidable c] {x x' y y' : Sem α} (h : Sim tb p w n₀ ann B x x') (k : Sim tb p w n₀ ann B y y') : Sim tb p w n₀ ann B (if c then x else y) (if c then x' else y') := by
  by_cases e : c
  · rw [if_pos e, if_pos e]
    exact h
  · rw [if_neg e, if_neg e]
    exact k
theorem sim_disp (hB : splitAtGen B = none) (hn : B.isEmpty = false) {fnd : Addr → Value → Int → Sem (Option Nat)} (hf : ∀ d k h, Sim tb p w n₀ ann B (PySem.dictFind d k h) (fnd d k h)) (items : List (Option (Sem Value) × Sem Value)) : Sim tb p w n₀ ann B (dispF PySem.dictFind items) (dispF fnd items) := by
  unfold dispF dispA
  dsimp only [id]
  repeat' with_reducible (first | exact hf _ _ _ | exact Sim.refl hB hn | refine Sim.bind hB hn ?_ fun _ => ?_ | refine Sim.forIn hB hn (fun _ _ => ?_) _ _ | refine Sim.holding hB hn ?_ _ | refine Sim.onRaise hB hn ?_ _ | refine Sim.tryCatch hB hn ?_ fun _ => ?_ | refine Sim.ite ?_ ?_ | split)
end
end FX

set_option Elab.async false
set_option linter.all false
set_option maxRecDepth 100000
set_option maxHeartbeats 2000000
/-! name = {..}, with another display. -/
namespace FX
open PySem PySem.W PySem.Calls PyProof.Rows
noncomputable def asgA : Abs PySem.dictDisplay (fun (ts : List Expr) (ks : List (Option Expr)) (vs : List Expr) (q1 q2 : Pos) (env : Env) => PySem.exec (.Assign ts (.Dict ks vs q1) q2) env) := by
  dsimp only [PySem.exec, PySem.eval]
  refine ⟨?_, ?h⟩
  case h =>
    generalize PySem.dictDisplay = x
    rfl
noncomputable def asgF : (List (Option (Sem Value) × Sem Value) → Sem Value) → List Expr → List (Option Expr) → List Expr → Pos → Pos → Env → Sem Flow := asgA.F
theorem asgF_eq (ts : List Expr) (ks : List (Option Expr)) (vs : List Expr) (q1 q2 : Pos) (env : Env) : asgF PySem.dictDisplay ts ks vs q1 q2 env = PySem.exec (.Assign ts (.Dict ks vs q1) q2) env :=
  congrFun (congrFun (congrFun (congrFun (congrFun (congrFun asgA.h ts) ks) vs) q1) q2) env
section
variable {α β : Type} {tb : String → Option Builtin} {p : Program} {w : World} {n₀ : Nat} {ann : Option Value} {B : List Frame}
theorem sim_asg (hB : splitAtGen B = none) (hn : B.isEmpty = false) {D : List (Option (Sem Value) × Sem Value) → Sem Value} (hf : ∀ l, Sim tb p w n₀ ann B (PySem.dictDisplay l) (D l)) (ts : List Expr) (ks : List (Option Expr)) (vs : List Expr) (q1 q2 : Pos) (env : Env) : Sim tb p w n₀ ann B (asgF PySem.dictDisplay ts ks vs q1 q2 env) (asgF D ts ks vs q1 q2 env) := by
  unfold asgF asgA
  dsimp only [id]
  repeat' with_reducible (first | exact hf _ | exact Sim.refl hB hn | refine Sim.bind hB hn ?_ fun _ => ?_ | refine Sim.forIn hB hn (fun _ _ => ?_) _ _ | refine Sim.holding hB hn ?_ _ | refine Sim.onRaise hB hn ?_ _ | refine Sim.tryCatch hB hn ?_ fun _ => ?_ | refine Sim.ite ?_ ?_ | split)
end
end FX

set_option Elab.async false
set_option linter.all false
set_option maxRecDepth 100000
set_option maxHeartbeats 2000000
/-! The look-up that does not ask for a text's hash. -/
namespace FX
open PySem PySem.W PySem.Calls PyProof.Rows
/-- a text stands first, and no other key has that hash -/
def lone : List DictEntry → Int → Value → Bool
  | ⟨_, .str _ _, _⟩ :: r, h, key => r.all fun e => !(e.hash == h) && !(e.key == key)
  | _, _, _ => false
def plainTup : Obj → Bool
  | ⟨.type t, none, .seq ⟨[.int _ _, .int _ _]⟩ _, ⟨[]⟩⟩ => t == "tuple"
  | _ => false
noncomputable def fnd (d : Addr) (key : Value) (h : Int) : Sem (Option Nat) := match key with
  | .int i u => do
    let es ← dictEntries d (keyPart (.int i u))
    match lone es.toList h (.int i u) with
    | true => pure none
    | false => dictFind d (.int i u) h
  | .ref a => do
    let es ← dictEntries d (keyPart (.ref a))
    match lone es.toList h (.ref a) with
    | true => do
      let o ← load a
      match plainTup o with
      | true => pure none
      | false => unsupported "fnd"
    | false => dictFind d (.ref a) h
  | k => dictFind d k h
theorem lone_at {es : Array DictEntry} {h : Int} {key : Value} (l : lone es.toList h key = true) : ∃ h0 x t v r, es = ⟨⟨h0, .str x t, v⟩ :: r⟩ ∧ ∀ e ∈ r, (e.hash == h) = false ∧ (e.key == key) = false := by
  obtain ⟨l0⟩ := es
  cases l0 with
  | nil => cases l
  | cons e r =>
    obtain ⟨h0, k, v⟩ := e
    cases k with
    | str x t =>
      refine ⟨h0, x, t, v, r, rfl, fun e he => ?_⟩
      have z := List.all_eq_true.mp l e he
      obtain ⟨z1, z2⟩ := Bool.and_eq_true_iff.mp z
      exact ⟨by simpa using z1, by simpa using z2⟩
    | _ => cases l
theorem places_no {h0 h : Int} {k v : Value} {r : List DictEntry} (n : ∀ e ∈ r, (e.hash == h) = false) : placesWithHash (Array.mk (⟨h0, k, v⟩ :: r)).size (fun i => (Array.mk (⟨h0, k, v⟩ :: r))[i]?.map (·.hash)) h = if h0 = h then [0] else [] := by
  unfold placesWithHash
  show (List.range (r.length + 1)).filter _ = _
  rw [List.range_succ_eq_map, List.filter_cons, List.filter_map]
  have e1 : (List.range r.length).filter ((fun i => ((Array.mk (⟨h0, k, v⟩ :: r))[i]?.map (·.hash)) == some h) ∘ Nat.succ) = [] := by
    refine List.filter_eq_nil_iff.mpr fun i hi => ?_
    have hi := List.mem_range.mp hi
    show ¬ (((Array.mk (⟨h0, k, v⟩ :: r))[i + 1]?.map (·.hash)) == some h) = true
    have e : (Array.mk ((⟨h0, k, v⟩ : DictEntry) :: r))[i + 1]? = some r[i] := by simp [hi]
    rw [e]
    have := n r[i] (List.getElem_mem hi)
    simpa using this
  rw [e1]
  show (if ((some h0 : Option Int) == some h) = true then _ else _) = _
  by_cases e : h0 = h
  · simp [e]
  · simp [e]
section
variable {α β : Type} {tb : String → Option Builtin} {p : Program} {w : World} {n₀ : Nat} {ann : Option Value} {B : List Frame} {e : Nat}
theorem Rch.entries_l {s s' : Shared} {d : Addr} {pt : Option Value} {K : Array DictEntry → Sem Fin} {H : Value → Sem Fin} {gd : Bool → Bool} {lv : List Value → List Value} {c : Code} {q : Pos} {t' : Thread} (h : ∀ o es n, s.heap.get? d = some o → o.data = .dict es n → Rch tb p w n₀ ann (e + 40) s ⟨K es, c, q, B⟩ s' t') : Rch tb p w n₀ ann e s ⟨(dictEntries d pt).wrap K H gd lv, c, q, B⟩ s' t' := by
  refine Rch.load_l (k := fun o => Sem.wrap K H gd lv (match o.data with
    | .dict es _ => pure es
    | _ => unsupported "internal:not-a-dict")) fun o ho => ?_
  obtain ⟨oc, od, dt, sl⟩ := o
  cases dt with
  | dict es n => exact h _ es n ho rfl
  | _ => exact Rch.unsup
theorem Rch.entries_r {s s' : Shared} {d : Addr} {pt : Option Value} {K : Array DictEntry → Sem Fin} {H : Value → Sem Fin} {gd : Bool → Bool} {lv : List Value → List Value} {c : Code} {q : Pos} {t : Thread} {o : Obj} {es : Array DictEntry} {n : Nat} (eg : s'.heap.get? d = some o) (eo : o.data = .dict es n) (h : Rch tb p w n₀ ann e s t s' ⟨K es, c, q, B⟩) : Rch tb p w n₀ ann (e + 1) s t s' ⟨(dictEntries d pt).wrap K H gd lv, c, q, B⟩ := by
  refine Rch.load_r (k := fun o => Sem.wrap K H gd lv (match o.data with
    | .dict es _ => pure es
    | _ => unsupported "internal:not-a-dict")) eg ?_
  rw [eo]
  exact h
theorem Rch.epoch_r {s s' : Shared} {d : Addr} {pt : Option Value} {K : Nat → Sem Fin} {H : Value → Sem Fin} {gd : Bool → Bool} {lv : List Value → List Value} {c : Code} {q : Pos} {t : Thread} {o : Obj} {es : Array DictEntry} {n : Nat} (eg : s'.heap.get? d = some o) (eo : o.data = .dict es n) (h : Rch tb p w n₀ ann e s t s' ⟨K n, c, q, B⟩) : Rch tb p w n₀ ann (e + 1) s t s' ⟨(dictEpoch d pt).wrap K H gd lv, c, q, B⟩ := by
  refine Rch.load_r (k := fun o => Sem.wrap K H gd lv (match o.data with
    | .dict _ n => pure n
    | _ => unsupported "internal:not-a-dict")) eg ?_
  rw [eo]
  exact h
end
end FX

set_option Elab.async false
set_option linter.all false
set_option maxRecDepth 100000
set_option maxHeartbeats 2000000
/-! A text is no number and no tuple: the steps of that question. -/
namespace FX
open PySem PySem.W PySem.Calls PyProof.Rows
def wb (b : Bool) (w : World) : World := { w with params := { w.params with followText := fun r => if r == "special-get-raises" then b else w.params.followText r } }
section
variable {p : Program} {w : World} {n₀ : Nat} {ann : Option Value} {fr : Frame} {B : List Frame}
theorem eq_int_go (b : Bool) {s : Shared} {x : Str} {t u : Tok} {i : Int} {K : Bool → Sem Fin} {H : Value → Sem Fin} {gd : Bool → Bool} {lv : List Value → List Value} {c : Code} {q : Pos} : topGo treeTable p (wb b w) n₀ ann 11 s ⟨(eqBool (.str x t) (.int i u)).wrap K H gd lv, c, q, fr :: B⟩ = some (s, ⟨K false, c, q, fr :: B⟩) := by
  obtain ⟨heap, gens, drawn, toks, os⟩ := s
  cases b
  · kernel_rfl
  · kernel_rfl
end
end FX

set_option Elab.async false
set_option linter.all false
set_option maxRecDepth 100000
set_option maxHeartbeats 2000000
/-! The look-up that does not ask for a text's hash: numbers as keys. -/
namespace FX
open PySem PySem.W PySem.Calls PyProof.Rows
section
variable {p : Program} {w : World} {n₀ : Nat} {ann : Option Value} {fr : Frame} {B : List Frame}
theorem sim_int (b : Bool) (hB : splitAtGen (fr :: B) = none) (d : Addr) (i : Int) (u : Tok) (h : Int) : Sim treeTable p (wb b w) n₀ ann (fr :: B) (dictFind d (.int i u) h) (fnd d (.int i u) h) := fun s c q K K' H H' gd lv k1 k2 => by
  show Rch _ _ _ _ _ 0 s ⟨((dictEntries d (keyPart (.int i u))) >>= fun es => (match lone es.toList h (.int i u) with
    | true => pure none
    | false => dictFind d (.int i u) h : Sem (Option Nat))).wrap K' H' gd lv, c, q, fr :: B⟩ s _
  rw [Sem.bind_eq_wrap', Sem.wrap_wrap]
  refine Rch.entries_l fun o es n ho eo => ?_
  cases l : lone es.toList h (.int i u) with
  | false => exact (Sim.refl hB rfl s c q K K' H H' gd lv k1 k2).mono (by decide)
  | true =>
    obtain ⟨h0, x, t, v, r, rfl, nr⟩ := lone_at l
    have pl := places_no (h0 := h0) (k := .str x t) (v := v) fun e he => (nr e he).1
    dsimp only
    unfold dictFind
    simp only [PySem.holding, List.filter]
    rw [Sem.bind_eq_wrap', Sem.wrap_wrap]
    refine Rch.entries_r ho eo ?_
    rw [pl]
    by_cases e : h0 = h
    · rw [if_pos e]
      subst e
      have hc : (Value.int i u :: List.filterMap (fun j => Option.map (fun x => x.key) (Array.mk ((⟨h0, .str x t, v⟩ : DictEntry) :: r))[j]?) [0]).all carriedByValue = true := rfl
      rw [if_pos hc]
      have e0 : (Array.mk ((⟨h0, .str x t, v⟩ : DictEntry) :: r))[0]? = some ⟨h0, .str x t, v⟩ := rfl
      simp only [dictWalkPlain, List.forIn_cons, List.forIn_nil, e0, beq_self_eq_true, if_true]
      rw [Sem.bind_eq_wrap', Sem.wrap_wrap, Sem.bind_eq_wrap', Sem.wrap_wrap, Sem.bind_eq_wrap', Sem.wrap_wrap]
      refine Rch.epoch_r ho eo ?_
      rw [Sem.bind_eq_wrap', Sem.wrap_wrap]
      refine Rch.go ?_ (eq_int_go b)
      rw [Sem.bind_eq_wrap', Sem.wrap_wrap]
      refine Rch.epoch_r ho eo ?_
      simp only [bne_self_eq_false, Bool.false_eq_true, if_false]
      refine Rch.go (n := 1) ((k1 none s c q).mono (Nat.zero_le 25)) ?_
      obtain ⟨heap, gens, drawn, toks, os⟩ := s
      kernel_rfl
    · rw [if_neg e]
      exact (k1 none s c q).mono (Nat.zero_le _)
end
end FX

set_option Elab.async false
set_option linter.all false
set_option maxRecDepth 100000
set_option maxHeartbeats 2000000
/-! The look-up that does not ask for a text's hash: tuples of two numbers as keys. -/
namespace FX
open PySem PySem.W PySem.Calls PyProof.Rows
theorem frames_le (c : Code) : c.frames ≤ 3 := by
  unfold Code.frames
  split <;> first | omega | (split <;> omega)
theorem cUnits_le (c : Code) : c.cUnits ≤ 10 := by
  have := frames_le c
  unfold Code.cUnits
  split <;> omega
/-- where so many steps lead -/
def goT (tb : String → Option Builtin) (p : Program) (w : World) (n₀ : Nat) (ann : Option Value) (n : Nat) (s : Shared) (t : Thread) : Thread := match topGo tb p w n₀ ann n s t with
  | some (_, t') => t'
  | none => t
def curK (t : Thread) : Obj → Sem PySem.Fin := match t.cur with
  | .load _ _ k => k
  | z => fun _ => z
def curP (t : Thread) : Option Value := match t.cur with
  | .load _ pt _ => pt
  | _ => none
/-- .. the object loaded there -/
def ldT (o : Obj) (t : Thread) : Thread := { t with cur := curK t o }
/-- so many steps, then a load -/
theorem Rch.hop {tb : String → Option Builtin} {p : Program} {w : World} {n₀ : Nat} {ann : Option Value} {e : Nat} {s s' : Shared} {t t' : Thread} {a : Addr} {o : Obj} (ha : s'.heap.get? a = some o) (n : Nat) (hg : topGo tb p w n₀ ann n s' t' = some (s', goT tb p w n₀ ann n s' t'))
    (hl : (goT tb p w n₀ ann n s' t').cur = .load a (curP (goT tb p w n₀ ann n s' t')) (curK (goT tb p w n₀ ann n s' t'))) (h : Rch tb p w n₀ ann e s t s' (ldT o (goT tb p w n₀ ann n s' t'))) : Rch tb p w n₀ ann (e + 1 + n) s t s' t' := by
  refine Rch.go ?_ hg
  generalize goT tb p w n₀ ann n s' t' = T at hl h
  have e1 : T = ⟨.load a (curP T) (curK T), T.code, T.pos, T.stack⟩ := by rw [← hl]
  rw [e1]
  exact Rch.load_r ha h
section
variable {p : Program} {w : World} {n₀ : Nat} {ann : Option Value} {fr : Frame} {B : List Frame}
theorem Rch.room {e : Nat} {tb : String → Option Builtin} {s s' : Shared} {t : Thread} {what : String} {K : Unit → Sem PySem.Fin} {H : Value → Sem PySem.Fin} {gd : Bool → Bool} {lv : List Value → List Value} {c : Code} {q : Pos} (hU : (B.map fun f => f.where_.1.cUnits).sum + 10 < cLine) (h : Rch tb p w n₀ ann e s t s' ⟨K (), c, q, B⟩) : Rch tb p w n₀ ann (e + 1) s t s' ⟨(cRoom what).wrap K H gd lv, c, q, B⟩ := fun N r hr => by
  refine step_run (N := 40 * N + e) (by show (B.isEmpty && false) = false; simp) rfl ?_ (h N r hr)
  obtain ⟨heap, gens, drawn, toks, os⟩ := s'
  show Step.go _ ⟨Sem.wrap K H gd lv (if ((((c, q) :: B.map Frame.where_).map (·.1.cUnits)).sum ≥ cLine) then unsupported _ else pure ()), c, q, B⟩ = _
  have := cUnits_le c
  rw [if_neg (by
    rw [List.map_cons, List.sum_cons, List.map_map]
    show ¬ (c.cUnits + (B.map fun f => f.where_.1.cUnits).sum ≥ cLine)
    omega)]
  rfl
def tupO (i j : Int) (t u : Tok) (n : Nat) : Obj := ⟨.type "tuple", none, .seq ⟨[.int i t, .int j u]⟩ n, #[]⟩
theorem eq_ref (b : Bool) {s s' : Shared} {th : Thread} {a : Addr} {i j : Int} {t1 t2 : Tok} {n : Nat} {x : Str} {t : Tok} {K : Bool → Sem PySem.Fin} {H : Value → Sem PySem.Fin} {gd : Bool → Bool} {lv : List Value → List Value} {c : Code} {q : Pos} (hU : ((fr :: B).map fun f => f.where_.1.cUnits).sum + 10 < cLine)
    (ha : s.heap.get? a = some (tupO i j t1 t2 n)) (h : Rch treeTable p (wb b w) n₀ ann 10 s' th s ⟨K false, c, q, fr :: B⟩) : Rch treeTable p (wb b w) n₀ ann 25 s' th s ⟨(eqBool (.str x t) (.ref a)).wrap K H gd lv, c, q, fr :: B⟩ := by
  unfold eqBool
  simp only [PySem.holding, List.filter]
  rw [Sem.keep_eq_wrap, Sem.wrap_wrap]
  have e1 : ¬ ((Value.str x t == Value.ref a) = true) := nofun
  rw [if_neg e1]
  unfold richCompare
  simp only [PySem.holding, List.filter]
  rw [Sem.bind_eq_wrap', Sem.wrap_wrap, Sem.keep_eq_wrap, Sem.wrap_wrap, Sem.bind_eq_wrap', Sem.wrap_wrap]
  refine Rch.room (what := "comparison") hU ?_
  obtain ⟨heap, gens, drawn, toks, os⟩ := s
  cases b
  · refine Rch.load_r (o := tupO i j t1 t2 n) ha ?_
    refine Rch.hop ha 3 (by kernel_rfl) (by kernel_rfl) ?_
    refine Rch.hop ha 2 (by kernel_rfl) (by kernel_rfl) ?_
    refine Rch.hop ha 2 (by kernel_rfl) (by kernel_rfl) ?_
    exact Rch.go (n := 3) h (by kernel_rfl)
  · refine Rch.load_r (o := tupO i j t1 t2 n) ha ?_
    refine Rch.hop ha 3 (by kernel_rfl) (by kernel_rfl) ?_
    refine Rch.hop ha 2 (by kernel_rfl) (by kernel_rfl) ?_
    refine Rch.hop ha 2 (by kernel_rfl) (by kernel_rfl) ?_
    exact Rch.go (n := 3) h (by kernel_rfl)
end
end FX

set_option Elab.async false
set_option linter.all false
set_option maxRecDepth 100000
set_option maxHeartbeats 2000000
namespace FX
open PySem PySem.W PySem.Calls PyProof.Rows
theorem plain_at {o : Obj} (h : plainTup o = true) : ∃ i j t u n, o = tupO i j t u n := by
  unfold plainTup at h
  split at h
  · rename_i ty i t j u n
    have e : ty = "tuple" := of_decide_eq_true (by simpa using h)
    subst e
    exact ⟨i, j, t, u, n, rfl⟩
  · cases h
section
variable {p : Program} {w : World} {n₀ : Nat} {ann : Option Value} {fr : Frame} {B : List Frame}
theorem any_no {h0 h : Int} {x : Str} {t : Tok} {v : Value} {a : Addr} {r : List DictEntry} (nr : ∀ e ∈ r, (e.hash == h) = false ∧ (e.key == Value.ref a) = false) : (Array.mk ((⟨h0, .str x t, v⟩ : DictEntry) :: r)).any (fun e => e.key == Value.ref a && e.hash != h) = false := by
  rw [← Array.any_toList]
  show ((⟨h0, .str x t, v⟩ : DictEntry) :: r).any _ = false
  rw [List.any_cons]
  have e1 : ((Value.str x t == Value.ref a) && h0 != h) = false := rfl
  show (((Value.str x t == Value.ref a) && h0 != h) || r.any _) = false
  rw [e1, Bool.false_or]
  refine List.any_eq_false.mpr fun e he => ?_
  rw [(nr e he).2]
  simp
theorem tells_r (b : Bool) {s s' : Shared} {th : Thread} {a : Addr} {i j : Int} {t1 t2 : Tok} {n : Nat} {x : Str} {t : Tok} {K : Bool → Sem PySem.Fin} {H : Value → Sem PySem.Fin} {gd : Bool → Bool} {lv : List Value → List Value} {c : Code} {q : Pos}
    (ha : s.heap.get? a = some (tupO i j t1 t2 n)) (h : Rch treeTable p (wb b w) n₀ ann 30 s' th s ⟨K false, c, q, fr :: B⟩) : Rch treeTable p (wb b w) n₀ ann 33 s' th s ⟨(tableMayTell (.ref a) [.str x t]).wrap K H gd lv, c, q, fr :: B⟩ := by
  obtain ⟨heap, gens, drawn, toks, os⟩ := s
  refine Rch.hop ha 0 (by kernel_rfl) (by kernel_rfl) ?_
  refine Rch.hop ha 0 (by kernel_rfl) (by kernel_rfl) ?_
  refine Rch.hop ha 0 (by kernel_rfl) (by kernel_rfl) ?_
  exact Rch.go (n := 0) h (by kernel_rfl)
theorem sim_ref (b : Bool) (hB : splitAtGen (fr :: B) = none) (hU : ((fr :: B).map fun f => f.where_.1.cUnits).sum + 10 < cLine) (d a : Addr) (h : Int) : Sim treeTable p (wb b w) n₀ ann (fr :: B) (dictFind d (.ref a) h) (fnd d (.ref a) h) := fun s c q K K' H H' gd lv k1 k2 => by
  show Rch _ _ _ _ _ 0 s ⟨((dictEntries d (keyPart (.ref a))) >>= fun es => (match lone es.toList h (.ref a) with
    | true => do
      let o ← load a
      match plainTup o with
      | true => pure none
      | false => unsupported "fnd"
    | false => dictFind d (.ref a) h : Sem (Option Nat))).wrap K' H' gd lv, c, q, fr :: B⟩ s _
  rw [Sem.bind_eq_wrap', Sem.wrap_wrap]
  refine Rch.entries_l fun o es n ho eo => ?_
  cases l : lone es.toList h (.ref a) with
  | false => exact (Sim.refl hB rfl s c q K K' H H' gd lv k1 k2).mono (by decide)
  | true =>
    obtain ⟨h0, x, t, v, r, rfl, nr⟩ := lone_at l
    have pl := places_no (h0 := h0) (k := .str x t) (v := v) fun e he => (nr e he).1
    have an := any_no (h0 := h0) (x := x) (t := t) (v := v) nr
    dsimp only
    refine Rch.load_l (k := fun o => Sem.wrap K' H' gd lv (match plainTup o with
      | true => pure none
      | false => unsupported "fnd")) fun ot hot => ?_
    cases pt : plainTup ot with
    | false => exact Rch.unsup
    | true =>
    obtain ⟨i, j, t1, t2, m, rfl⟩ := plain_at pt
    unfold dictFind
    simp only [PySem.holding, List.filter]
    rw [Sem.keep_eq_wrap, Sem.wrap_wrap, Sem.bind_eq_wrap', Sem.wrap_wrap]
    refine Rch.mono (e := 41) (Rch.entries_r ho eo ?_) (by decide)
    rw [pl, an]
    by_cases e : h0 = h
    · rw [if_pos e]
      subst e
      have hc : (Value.ref a :: List.filterMap (fun j => Option.map (fun x => x.key) (Array.mk ((⟨h0, .str x t, v⟩ : DictEntry) :: r))[j]?) [0]).all carriedByValue = false := rfl
      rw [hc]
      have fm : List.filterMap (fun j => Option.map (fun x => x.key) (Array.mk ((⟨h0, .str x t, v⟩ : DictEntry) :: r))[j]?) [0] = [.str x t] := rfl
      have hs : (([Value.str x t] : List Value) == [Value.ref a]) = false := rfl
      have e0 : (Array.mk ((⟨h0, .str x t, v⟩ : DictEntry) :: r))[0]? = some ⟨h0, .str x t, v⟩ := rfl
      simp only [fm, hs, Bool.false_eq_true, if_false]
      rw [Sem.bind_eq_wrap', Sem.wrap_wrap]
      refine Rch.mono (e := 33) (tells_r b hot ?_) (by decide)
      simp only [Bool.false_and, Bool.false_eq_true, if_false, List.forIn_cons, List.forIn_nil, e0, beq_self_eq_true, if_true]
      rw [Sem.bind_eq_wrap', Sem.wrap_wrap, Sem.bind_eq_wrap', Sem.wrap_wrap, Sem.bind_eq_wrap', Sem.wrap_wrap]
      refine Rch.mono (e := 26) (Rch.epoch_r ho eo ?_) (by decide)
      rw [Sem.bind_eq_wrap', Sem.wrap_wrap]
      refine eq_ref b hU hot ?_
      rw [Sem.bind_eq_wrap', Sem.wrap_wrap]
      refine Rch.epoch_r ho eo ?_
      simp only [bne_self_eq_false, Bool.false_eq_true, if_false]
      refine Rch.go (n := 1) (e := 8) ((k1 none s c q).mono (Nat.zero_le _)) ?_
      obtain ⟨heap, gens, drawn, toks, os⟩ := s
      kernel_rfl
    · rw [if_neg e]
      exact (k1 none s c q).mono (Nat.zero_le _)
theorem sim_fnd (b : Bool) (hB : splitAtGen (fr :: B) = none) (hU : ((fr :: B).map fun f => f.where_.1.cUnits).sum + 10 < cLine) (d : Addr) (k : Value) (h : Int) : Sim treeTable p (wb b w) n₀ ann (fr :: B) (dictFind d k h) (fnd d k h) := by
  cases k with
  | int i u => exact sim_int b hB d i u h
  | ref a => exact sim_ref b hB hU d a h
  | _ => exact .refl hB rfl
/-- two small numbers -/
def smTup : Obj → Option (Nat × Nat)
  | ⟨.type t, none, .seq ⟨[.int (.ofNat i) _, .int (.ofNat j) _]⟩ _, ⟨[]⟩⟩ => if t == "tuple" && (Nat.blt i 12 && Nat.blt j 12) then some (i, j) else none
  | _ => none
noncomputable def hsh : Value → Sem Int
  | .ref a => do
    let o ← load a
    match smTup o with
    | some (i, j) => do
      let _ ← mkInt i
      let _ ← mkInt j
      let _ ← mkInt 0
      pure (Builtin.Tuple.tupleHashOf [i, j])
    | none => pyHash (.ref a)
  | v => pyHash v
/-- a text with two constants of it made arguments -/
structure Abs2 {A B T : Type} (a : A) (b : B) (t : T) : Type where
  F : A → B → T
  h : F a b = t
noncomputable def dispA2 : Abs2 PySem.dictFind PySem.pyHash PySem.dictDisplay := by
  delta PySem.dictDisplay PySem.subDict PySem.mergeMapping PySem.dictSet PySem.dictSetHashed PySem.dictPut
  refine ⟨?_, ?h⟩
  case h =>
    generalize PySem.dictFind = x
    generalize PySem.pyHash = y
    rfl
noncomputable def dispG : (Addr → Value → Int → Sem (Option Nat)) → (Value → Sem Int) → List (Option (Sem Value) × Sem Value) → Sem Value := dispA2.F
/-- a step of that kind is always let -/
def okQ : Sem PySem.Fin → Bool
  | .load .. => true
  | .alloc .. => true
  | .loadIfAlive .. => true
  | .fresh .. => true
  | .rule .. => true
  | .at .. => true
  | .point .. => true
  | .ask .. => true
  | .stack .. => true
  | .handled .. => true
  | .call .. => true
  | .raise .. => true
  | _ => false
section
variable (st : SharedT → Thread → Option (SharedT × Thread)) (n0 : Nat) (ann : Option Value)
/-- the top, to its end -/
def goG : Nat → SharedT → Thread → Option SharedT
  | 0, _, _ => none
  | m + 1, s, t => match okQ t.cur with
    | true => match st s t with
      | some (s', t') => HandSHeadRun.frS s' fun s' => goG m s' t'
      | none => none
    | false => match through t with
      | true => some s
      | false => match stepOk n0 ann t with
        | false => none
        | true => match st s t with
          | some (s', t') => HandSHeadRun.frS s' fun s' => goG m s' t'
          | none => none
end
/-- name = {..} with that look-up -/
noncomputable def fakeS (ts : List Expr) (ks : List (Option Expr)) (vs : List Expr) (q1 q2 : Pos) (env : Env) : Sem Flow := asgF (dispG fnd hsh) ts ks vs q1 q2 env
theorem smTup_at {o : Obj} {i j : Nat} (h : smTup o = some (i, j)) : i < 12 ∧ j < 12 ∧ ∃ t u n, o = tupO i j t u n := by
  unfold smTup at h
  split at h
  · rename_i ty i' t j' u n
    by_cases e : (ty == "tuple" && (Nat.blt i' 12 && Nat.blt j' 12)) = true
    · rw [if_pos e] at h
      simp only [Bool.and_eq_true] at e
      obtain ⟨e1, e2, e3⟩ := e
      have e1 : ty = "tuple" := of_decide_eq_true (by simpa using e1)
      subst e1
      cases h
      exact ⟨Nat.le_of_ble_eq_true e2, Nat.le_of_ble_eq_true e3, t, u, n, rfl⟩
    · rw [if_neg e] at h
      cases h
  · cases h
theorem h12 {i : Nat} (h : i < 12) : i = 0 ∨ i = 1 ∨ i = 2 ∨ i = 3 ∨ i = 4 ∨ i = 5 ∨ i = 6 ∨ i = 7 ∨ i = 8 ∨ i = 9 ∨ i = 10 ∨ i = 11 := by omega
section
variable {p : Program} {w : World} {n₀ : Nat} {ann : Option Value} {fr : Frame} {B : List Frame}
theorem hash_r (b : Bool) {e : Nat} {heap : Heap} {gens : Array GenState} {drawn : Drawn} {toks : Nat} {os : OsState} {s : Shared} {th : Thread} {a : Addr} {i j : Nat} {t1 t2 : Tok} {n : Nat} {K : Int → Sem PySem.Fin} {H : Value → Sem PySem.Fin} {gd : Bool → Bool} {lv : List Value → List Value} {c : Code} {q : Pos} (hU : ((fr :: B).map fun f => f.where_.1.cUnits).sum + 10 < cLine)
    (hi : i < 12) (hj : j < 12) (ha : heap.get? a = some (tupO i j t1 t2 n)) (h : Rch treeTable p (wb b w) n₀ ann e s th ⟨heap, gens, drawn, toks + 3, os⟩ ⟨K (Builtin.Tuple.tupleHashOf [i, j]), c, q, fr :: B⟩) :
    Rch treeTable p (wb b w) n₀ ann (e + 30) s th ⟨heap, gens, drawn, toks, os⟩ ⟨(pyHash (.ref a)).wrap K H gd lv, c, q, fr :: B⟩ := by
  unfold pyHash pyHashByItsType cRoomFor
  simp only [List.any_cons, List.any_nil, Value.onHeap, Bool.or_false, if_true]
  rw [Sem.bind_eq_wrap', Sem.wrap_wrap]
  refine Rch.mono (e := e + 21 + 1) (Rch.room (what := "hash") hU ?_) (by omega)
  cases b
  · refine Rch.mono (e := e + 12 + 1 + 1 + 1 + 1 + 2 + 1 + 1) (Rch.hop ha 0 (by kernel_rfl) (by kernel_rfl) ?_) (by omega)
    refine Rch.hop ha 0 (by kernel_rfl) (by kernel_rfl) ?_
    refine Rch.hop ha 0 (by kernel_rfl) (by kernel_rfl) ?_
    refine Rch.hop ha 2 (by kernel_rfl) (by kernel_rfl) ?_
    refine Rch.hop ha 1 (by kernel_rfl) (by kernel_rfl) ?_
    refine Rch.go (n := 12) h ?_
    rcases h12 hi with rfl | rfl | rfl | rfl | rfl | rfl | rfl | rfl | rfl | rfl | rfl | rfl <;> rcases h12 hj with rfl | rfl | rfl | rfl | rfl | rfl | rfl | rfl | rfl | rfl | rfl | rfl <;> kernel_rfl
  · refine Rch.mono (e := e + 12 + 1 + 1 + 1 + 1 + 2 + 1 + 1) (Rch.hop ha 0 (by kernel_rfl) (by kernel_rfl) ?_) (by omega)
    refine Rch.hop ha 0 (by kernel_rfl) (by kernel_rfl) ?_
    refine Rch.hop ha 0 (by kernel_rfl) (by kernel_rfl) ?_
    refine Rch.hop ha 2 (by kernel_rfl) (by kernel_rfl) ?_
    refine Rch.hop ha 1 (by kernel_rfl) (by kernel_rfl) ?_
    refine Rch.go (n := 12) h ?_
    rcases h12 hi with rfl | rfl | rfl | rfl | rfl | rfl | rfl | rfl | rfl | rfl | rfl | rfl <;> rcases h12 hj with rfl | rfl | rfl | rfl | rfl | rfl | rfl | rfl | rfl | rfl | rfl | rfl <;> kernel_rfl
end
section
variable {p : Program} {w : World} {n₀ : Nat} {ann : Option Value} {fr : Frame} {B : List Frame}
/-- the fake's number -/
theorem Rch.int_l {tb : String → Option Builtin} {e : Nat} {heap : Heap} {gens : Array GenState} {drawn : Drawn} {toks : Nat} {os : OsState} {s' : Shared} {t' : Thread} {i : Int} {K : Value → Sem PySem.Fin} {H : Value → Sem PySem.Fin} {gd : Bool → Bool} {lv : List Value → List Value} {c : Code} {q : Pos} {B : List Frame}
    (h : ∀ v, Rch tb p w n₀ ann (e + 40) ⟨heap, gens, drawn, toks + 1, os⟩ ⟨K v, c, q, B⟩ s' t') : Rch tb p w n₀ ann e ⟨heap, gens, drawn, toks, os⟩ ⟨(mkInt i).wrap K H gd lv, c, q, B⟩ s' t' := fun N r hr => by
  have hr : topRun tb p w n₀ ann N ⟨heap, gens, drawn, toks, os⟩ ⟨.fresh fun k => K (.int i k), c, q, B⟩ = some r := hr
  obtain ⟨M, s2, t2, rfl, _, hs, h2⟩ := run_step (by simp only [through, Bool.and_false]) hr
  simp only [step, Step.go.injEq] at hs
  obtain ⟨rfl, rfl⟩ := hs
  exact run_le (h _ M r h2) (by omega)
theorem sim_hsh (b : Bool) (hB : splitAtGen (fr :: B) = none) (hU : ((fr :: B).map fun f => f.where_.1.cUnits).sum + 10 < cLine) (k : Value) : Sim treeTable p (wb b w) n₀ ann (fr :: B) (pyHash k) (hsh k) := by
  cases k with
  | ref a =>
    intro s c q K K' H H' gd lv k1 k2
    show Rch _ _ _ _ _ 0 s ⟨((load a) >>= fun o => (match smTup o with
    | some (i, j) => do
      let _ ← mkInt i
      let _ ← mkInt j
      let _ ← mkInt 0
      pure (Builtin.Tuple.tupleHashOf [i, j])
    | none => pyHash (.ref a) : Sem Int)).wrap K' H' gd lv, c, q, fr :: B⟩ s _
    refine Rch.load_l (k := fun o => Sem.wrap K' H' gd lv (match smTup o with
    | some (i, j) => do
      let _ ← mkInt i
      let _ ← mkInt j
      let _ ← mkInt 0
      pure (Builtin.Tuple.tupleHashOf [i, j])
    | none => pyHash (.ref a) : Sem Int)) fun o ho => ?_
    cases e : smTup o with
    | none => exact (Sim.refl hB rfl s c q K K' H H' gd lv k1 k2).mono (by decide)
    | some ij =>
      obtain ⟨i, j⟩ := ij
      obtain ⟨hi, hj, t, u, n, rfl⟩ := smTup_at e
      obtain ⟨heap, gens, drawn, toks, os⟩ := s
      dsimp only
      rw [Sem.bind_eq_wrap', Sem.wrap_wrap]
      refine Rch.int_l fun v1 => ?_
      rw [Sem.bind_eq_wrap', Sem.wrap_wrap]
      refine Rch.int_l fun v2 => ?_
      rw [Sem.bind_eq_wrap', Sem.wrap_wrap]
      refine Rch.int_l fun v3 => ?_
      exact Rch.mono (e := 30) (Rch.mono (e := 0 + 30) (hash_r b hU hi hj ho ((k1 _ _ c q))) (by decide)) (by decide)
  | _ => exact .refl hB rfl
end
theorem dispG_eq : dispG PySem.dictFind PySem.pyHash = PySem.dictDisplay := dispA2.h
section
variable {α β : Type} {tb : String → Option Builtin} {p : Program} {w : World} {n₀ : Nat} {ann : Option Value} {B : List Frame}
theorem sim_dispG (hB : splitAtGen B = none) (hn : B.isEmpty = false) {fnd : Addr → Value → Int → Sem (Option Nat)} {hs : Value → Sem Int} (hf : ∀ d k h, Sim tb p w n₀ ann B (PySem.dictFind d k h) (fnd d k h)) (hh : ∀ k, Sim tb p w n₀ ann B (PySem.pyHash k) (hs k)) (items : List (Option (Sem Value) × Sem Value)) : Sim tb p w n₀ ann B (dispG PySem.dictFind PySem.pyHash items) (dispG fnd hs items) := by
  unfold dispG dispA2
  dsimp only [id]
  repeat' with_reducible (first | exact hf _ _ _ | exact hh _ | exact Sim.refl hB hn | refine Sim.bind hB hn ?_ fun _ => ?_ | refine Sim.forIn hB hn (fun _ _ => ?_) _ _ | refine Sim.holding hB hn ?_ _ | refine Sim.onRaise hB hn ?_ _ | refine Sim.tryCatch hB hn ?_ fun _ => ?_ | refine Sim.ite ?_ ?_ | split)
end
section
open HandSHeadRun
theorem okQ_ok {n0 : Nat} {ann : Option Value} {t : Thread} (h : okQ t.cur = true) : (t.stack.isEmpty = false → through t = false) ∧ stepOk n0 ann t = true := by
  obtain ⟨cur, code, pos, stack⟩ := t
  cases cur <;> first | (cases h; done) | (refine ⟨fun h => ?_, ?_⟩ <;> simp_all [through, stepOk, Thread.calm, Thread.atCollectorCode, Thread.yieldsInsideHandler])
theorem okQ_thr {t : Thread} (h : okQ t.cur = true) : through t = false := by
  obtain ⟨cur, code, pos, stack⟩ := t
  cases cur <;> first | (cases h; done) | simp [through]
theorem goG_eq {st : SharedT → Thread → Option (SharedT × Thread)} {n0 : Nat} {ann : Option Value} : ∀ (m : Nat) (s : SharedT) (t : Thread), goG st n0 ann m s t = goF st n0 ann m s t
  | 0, _, _ => rfl
  | m + 1, s, t => by
    show (match okQ t.cur with
    | true => match st s t with
      | some (s', t') => frS s' fun s' => goG st n0 ann m s' t'
      | none => none
    | false => match through t with
      | true => some s
      | false => match stepOk n0 ann t with
        | false => none
        | true => match st s t with
          | some (s', t') => frS s' fun s' => goG st n0 ann m s' t'
          | none => none) = (match through t with
    | true => some s
    | false => match stepOk n0 ann t with
      | false => none
      | true => match st s t with
        | some (s', t') => frS s' fun s' => goF st n0 ann m s' t'
        | none => none)
    have ih : ∀ s t, goG st n0 ann m s t = goF st n0 ann m s t := fun s t => goG_eq m s t
    cases e : okQ t.cur with
    | true =>
      rw [okQ_thr e, (okQ_ok e).2]
      dsimp only
      cases st s t with
      | none => rfl
      | some r =>
        obtain ⟨s', t'⟩ := r
        dsimp only
        rw [frS_eq, frS_eq, ih]
    | false =>
      dsimp only
      cases through t with
      | true => rfl
      | false =>
        dsimp only
        cases stepOk n0 ann t with
        | false => rfl
        | true =>
          dsimp only
          cases st s t with
          | none => rfl
          | some r =>
            obtain ⟨s', t'⟩ := r
            dsimp only
            rw [frS_eq, frS_eq, ih]
end
theorem sim_fake (b : Bool) (hB : splitAtGen (fr :: B) = none) (hU : ((fr :: B).map fun f => f.where_.1.cUnits).sum + 10 < cLine) (ts : List Expr) (ks : List (Option Expr)) (vs : List Expr) (q1 q2 : Pos) (env : Env) : Sim treeTable p (wb b w) n₀ ann (fr :: B) (PySem.exec (.Assign ts (.Dict ks vs q1) q2) env) (fakeS ts ks vs q1 q2 env) := by
  rw [← asgF_eq]
  exact sim_asg hB rfl (fun l => by
    rw [← dispG_eq]
    exact sim_dispG hB rfl (sim_fnd b hB hU) (sim_hsh b hB hU) l) ts ks vs q1 q2 env
end
end FX

set_option Elab.async false
set_option linter.all false
set_option maxRecDepth 100000
set_option maxHeartbeats 2000000
/-! The top with that look-up in one of its statements. -/
namespace FX
open PySem PySem.W PySem.Calls PyProof.Rows HandSHeadRun
noncomputable section
/-- the statements, the i-th by that look-up -/
def fakeX (i : Nat) (b : List Stmt) (env : Env) : Sem Flow := match b.drop i with
  | .Assign ts (.Dict ks vs q1) q2 :: l2 => (execs (b.take i) env).wrap (fun f => match f with
      | .next => (fakeS ts ks vs q1 q2 env).wrap (fun f => match f with
        | .next => execs l2 env
        | f => .pure f) .raise id id
      | f => .pure f) .raise id id
  | _ => .unsupported "fakeX"
def fakeB (i : Nat) (b : List Stmt) (env : Env) : Sem PySem.Fin := (blockStart b env).wrap (fun _ => (fakeX i b env).wrap doneF (leaveH env) id id) .raise id id
section
variable {p : Program} {w : World} {n₀ : Nat} {ann : Option Value} {fr : Frame} {B : List Frame}
theorem sim_x (b : Bool) (hB : splitAtGen (fr :: B) = none) (hU : ((fr :: B).map fun f => f.where_.1.cUnits).sum + 10 < cLine) (i : Nat) (l : List Stmt) (env : Env) : Sim treeTable p (wb b w) n₀ ann (fr :: B) (execs l env) (fakeX i l env) := by
  unfold fakeX
  split
  · rename_i ts ks vs q1 q2 l2 e
    have el : l = l.take i ++ .Assign ts (.Dict ks vs q1) q2 :: l2 := by rw [← e, List.take_append_drop]
    have h : Sim treeTable p (wb b w) n₀ ann (fr :: B) ((execs (l.take i) env).wrap (fun f => match f with
      | .next => (PySem.exec (.Assign ts (.Dict ks vs q1) q2) env).wrap (fun f => match f with
        | .next => execs l2 env
        | f => .pure f) .raise id id
      | f => .pure f) .raise id id) ((execs (l.take i) env).wrap (fun f => match f with
      | .next => (fakeS ts ks vs q1 q2 env).wrap (fun f => match f with
        | .next => execs l2 env
        | f => .pure f) .raise id id
      | f => .pure f) .raise id id) := by
      refine (Sim.refl hB rfl).wrap hB rfl (fun f => ?_) fun _ => .refl hB rfl
      cases f with
      | next => exact (sim_fake b hB hU ts ks vs q1 q2 env).wrap hB rfl (fun _ => .refl hB rfl) fun _ => .refl hB rfl
      | _ => exact .refl hB rfl
    intro s c q K K' H H' gd lv k1 k2
    have h2 := h s c q K K' H H' gd lv k1 k2
    have ee : (execs l env).wrap K H gd lv = ((execs (l.take i) env).wrap (fun f => match f with
      | .next => (PySem.exec (.Assign ts (.Dict ks vs q1) q2) env).wrap (fun f => match f with
        | .next => execs l2 env
        | f => .pure f) .raise id id
      | f => .pure f) .raise id id).wrap K H gd lv := by
      conv => lhs; rw [el]
      rw [execs_app_wrap, Sem.wrap_wrap]
      refine Sem.wrap_congr _ _ _ (fun f => ?_) fun _ => rfl
      cases f with
      | next =>
        rw [execs_cons_wrap, Sem.wrap_wrap]
        refine Sem.wrap_congr _ _ _ (fun f => ?_) fun _ => rfl
        cases f <;> rfl
      | _ => rfl
    rw [ee]
    exact h2
  · exact fun s c q K K' H H' gd lv k1 k2 => Rch.unsup
theorem fake_b (b : Bool) (hB : splitAtGen (fr :: B) = none) (hU : ((fr :: B).map fun f => f.where_.1.cUnits).sum + 10 < cLine) (i : Nat) (l : List Stmt) (env : Env) (s : Shared) (c : Code) (q : Pos) : Rch treeTable p (wb b w) n₀ ann 0 s ⟨fakeB i l env, c, q, fr :: B⟩ s ⟨denote treeTable (.body l env), c, q, fr :: B⟩ := by
  rw [body_wrap]
  unfold fakeB
  exact (Sim.refl hB rfl : Sim treeTable p (wb b w) n₀ ann (fr :: B) (blockStart l env) (blockStart l env)) s c q _ _ _ _ _ _ (fun _ s c q => sim_x b hB hU i l env s c q _ _ _ _ _ _ (fun _ _ _ _ => fun N r h => run_le h (by omega)) fun _ _ _ _ => fun N r h => run_le h (by omega)) fun _ _ _ _ => fun N r h => run_le h (by omega)
end
/-- the steps to the call of the top's own text -/
def preF (st : SharedT → Thread → Option (SharedT × Thread)) (n0 : Nat) (ann : Option Value) : Nat → SharedT → Thread → Option (SharedT × Thread)
  | 0, _, _ => none
  | m + 1, s, t => match t.cur, t.stack with
    | .call (.body _ _) _ _ _ _, [] => some (s, t)
    | _, _ => match through t with
      | true => none
      | false => match stepOk n0 ann t with
        | false => none
        | true => match st s t with
          | some (s', t') => frS s' fun s' => preF st n0 ann m s' t'
          | none => none
theorem preF_ok {tb : String → Option Builtin} {p : Program} {w : World} {n0 : Nat} {ann : Option Value} : ∀ {m : Nat} {s s1 : SharedT} {t t1 : Thread}, preF (stepT (denote tb) p w) n0 ann m s t = some (s1, t1) →
    (∃ b env h g l k code pos, t1 = ⟨.call (.body b env) h g l k, code, pos, []⟩) ∧ ∀ N r, topRun tb p w n0 ann N s1.abs t1 = some r → topRun tb p w n0 ann (m + N) s.abs t = some r
  | 0, _, _, _, _, h => by cases h
  | m + 1, s, s1, t, t1, h => by
    have alt : (match through t with
      | true => none
      | false => match stepOk n0 ann t with
        | false => none
        | true => match stepT (denote tb) p w s t with
          | some (s', t') => frS s' fun s' => preF (stepT (denote tb) p w) n0 ann m s' t'
          | none => none) = some (s1, t1) → (∃ b env h g l k code pos, t1 = ⟨.call (.body b env) h g l k, code, pos, []⟩) ∧ ∀ N r, topRun tb p w n0 ann N s1.abs t1 = some r → topRun tb p w n0 ann (m + 1 + N) s.abs t = some r := fun h => by
      cases ht : through t with
      | true =>
        rw [ht] at h
        cases h
      | false =>
        rw [ht] at h
        cases hk : stepOk n0 ann t with
        | false =>
          rw [hk] at h
          cases h
        | true =>
          rw [hk] at h
          cases hs : stepT (denote tb) p w s t with
          | none =>
            rw [hs] at h
            cases h
          | some x =>
            obtain ⟨s2, t2⟩ := x
            rw [hs] at h
            dsimp only at h
            rw [frS_eq] at h
            obtain ⟨h1, h2⟩ := preF_ok h
            exact ⟨h1, fun N r hr => run_le (step_run ht hk (stepT_spec hs) (h2 N r hr)) (by omega)⟩
    obtain ⟨cur, code, pos, stack⟩ := t
    unfold preF at h
    dsimp only at h
    split at h
    · cases h
      exact ⟨⟨_, _, _, _, _, _, _, _, rfl⟩, fun N r hr => run_le hr (by omega)⟩
    · exact alt h
/-- the state behind the top, from the boot, the i-th statement by that look-up -/
def endX (st : SharedT → Thread → Option (SharedT × Thread)) (i M : Nat) (p : Program) (w : World) (os : OsState) : Option SharedT := match putAll (boot_heap w.params).objs.toList .nil 0 with
  | some (t, n) => frNat n fun n0 => match preF st n0 (bootAnn w) M (bootT w os (t, n0)) (topStub p) with
    | some (s1, ⟨.call (.body b env) h g l k, code, pos, _⟩) => frS s1 fun s1 => goG st n0 (bootAnn w) M s1 ⟨fakeB i b env, .body b env, pos, [.ret k h g l code pos []]⟩
    | _ => none
  | none => none
theorem wb_self (w : World) : wb (w.params.followText "special-get-raises") w = w := by
  obtain ⟨d, ps⟩ := w
  have e : (fun r => if r == "special-get-raises" then ps.followText "special-get-raises" else ps.followText r) = ps.followText := funext fun r => by
    by_cases h : r = "special-get-raises"
    · subst h
      rfl
    · rw [if_neg (by simpa using h)]
  show (⟨d, { ps with followText := fun r => if r == "special-get-raises" then ps.followText "special-get-raises" else ps.followText r }⟩ : World) = ⟨d, ps⟩
  rw [e]
theorem endX_ok {i M : Nat} {p : Program} {w : World} {os : OsState} {s : SharedT} (h : endX (stepT (denote treeTable) p w) i M p w os = some s) :
    topRun treeTable p w (boot_heap w.params).objs.size (bootAnn w) (M + (40 * M + 1)) ⟨boot_heap w.params, #[], boot_drawn, boot_toks, os⟩ (topStub p) = some s.abs := by
  unfold endX at h
  cases e : putAll (boot_heap w.params).objs.toList .nil 0 with
  | none =>
    rw [e] at h
    cases h
  | some r =>
    obtain ⟨t, n⟩ := r
    rw [e] at h
    dsimp only at h
    rw [frNat_eq] at h
    have eh := putAll_heap e
    have en : (boot_heap w.params).objs.size = n := by
      rw [← eh]
      exact absHeap_size t n _
    have eb : (bootT w os (t, n)).abs = ⟨boot_heap w.params, #[], boot_drawn, boot_toks, os⟩ := by
      show (⟨absHeap t n (boot_heap w.params).life, #[], boot_drawn, boot_toks, os⟩ : Shared) = _
      rw [eh]
    cases e2 : preF (stepT (denote treeTable) p w) n (bootAnn w) M (bootT w os (t, n)) (topStub p) with
    | none =>
      rw [e2] at h
      cases h
    | some x =>
      obtain ⟨s1, t1⟩ := x
      obtain ⟨⟨b, env, hd, g, l, k, code, pos, rfl⟩, h2⟩ := preF_ok e2
      rw [e2] at h
      dsimp only at h
      rw [frS_eq] at h
      rw [en, ← eb]
      refine h2 _ _ (step_run rfl rfl rfl ?_)
      rw [goG_eq] at h
      have q := goF_ok h
      have fk := fake_b (p := p) (w := w) (n₀ := n) (ann := bootAnn w) (fr := .ret k hd g l code pos []) (B := []) (w.params.followText "special-get-raises") rfl (by
        have := cUnits_le code
        show code.cUnits + 0 + 10 < 9900
        omega) i b env s1.abs (.body b env) pos
      rw [wb_self] at fk
      exact fk M _ q
theorem left_x {p q : Program} {loose : List Str} {Xt : Shared → Bool} {α : Type} {Yf : Shared → α} {Ya : World → α} {i M : Nat}
    (e : opening p = plainProg p.main.scope.names) (f : ∀ s, fenceModules? p s = some s)
    (run : ∀ (w : World) (os : OsState), (endX (stepT (denote treeTable) p w) i M p w os).map (fun s => (looksF p (boot_heap w.params) s.abs, openSeen q loose (importedModules p.main.body) Xt true s.abs, Yf s.abs)) = some (true, openGood q loose, Ya w)) :
    LeftO p q loose Xt Yf Ya (M + (40 * M + 1) + 600) true := fun w => by
  obtain ⟨⟨h, gs, d, k, os⟩, a, a'⟩ := Option.map_eq_some_iff.mp (boot_open e (show Nat.ble 600 (M + (40 * M + 1) + 600) = true from Nat.ble_eq_true_of_le (by omega)) f w)
  obtain ⟨rfl, rfl, rfl, rfl⟩ : h = boot_heap w.params ∧ gs = Array.mk [] ∧ d = boot_drawn ∧ k = boot_toks := by simpa using a'
  obtain ⟨s, hs, hv⟩ := Option.map_eq_some_iff.mp (run w os)
  obtain ⟨l1, l2, l3⟩ : _ ∧ _ ∧ _ := by simpa only [Prod.mk.injEq] using hv
  have r := run_le (endX_ok hs) (show M + (40 * M + 1) ≤ M + (40 * M + 1) + 600 by omega)
  have l1' : (staticsOk (importedModules p.main.body) (boot_heap w.params) s.abs.heap && namesBound p s.abs.heap && gensDone s.abs && laidKept (boot_heap w.params) s.abs.heap) = true := l1
  have t : topFrom treeTable p w (M + (40 * M + 1) + 600) ⟨boot_heap w.params, Array.mk [], boot_drawn, boot_toks, os⟩ = some s.abs := by
    unfold topFrom
    dsimp only
    rw [boot_ns]
    show (topRun treeTable p w (boot_heap w.params).objs.size (bootAnn w) (M + (40 * M + 1) + 600) ⟨boot_heap w.params, #[], boot_drawn, boot_toks, os⟩ (topStub p)).bind _ = _
    rw [r]
    show (match staticsOk (importedModules p.main.body) (boot_heap w.params) s.abs.heap && namesBound p s.abs.heap && gensDone s.abs && laidKept (boot_heap w.params) s.abs.heap with | true => some s.abs | false => none) = _
    rw [l1']
  unfold openEnds
  rw [a]
  show (topFrom treeTable p w (M + (40 * M + 1) + 600) _).map _ = _
  rw [t]
  exact congrArg some (Prod.ext l2 l3)
/-- the run's equation at a world -/
def RunX (r : OpenRow) (q : Program) (H : Hook) (ob : SharedT → H.α) (i M : Nat) (loose : List PySem.Str) (w : World) : Prop :=
  ∀ os : OsState, (endX (stepQ (denQ tabQ) r.prog w) i M r.prog w os).map (fun s => (looksF r.prog (boot_heap w.params) s.abs, seenQ q loose (importedModules r.prog.main.body) (fun s => xlAt q [] s && recOk r.toRowW.records s) s.abs, ob s)) = some (true, openGood q loose, H.val w)
theorem RunX.of {r : OpenRow} {q : Program} {H : Hook} {ob : SharedT → H.α} {i M : Nat} {loose : List PySem.Str} (h : ∀ (b : Bool) (w : World), RunX r q H ob i M loose (wb b w)) (w : World) : RunX r q H ob i M loose w := by
  have := h (w.params.followText "special-get-raises") w
  rwa [wb_self] at this
theorem head_x {r : OpenRow} {q : Program} {H : Hook} {ob : SharedT → H.α} {i M : Nat} {loose : List PySem.Str} {d : DefRec} {kwd : List (PySem.Str × PySem.Expr)} (ho : ∀ s : SharedT, ob s = H.obs s.abs)
    (e : opening r.prog = plainProg r.prog.main.scope.names) (f : ∀ s, fenceModules? r.prog s = some s) (run : ∀ (b : Bool) (w : World), RunX r q H ob i M loose (wb b w))
    (hdef : defOf q r.name = some (d, kwd)) (hp : r.prog.theDef r.name = some (d.params, d.body, d.scope)) (hk : kwWritten? d.params.kwonlyargs d.params.kw_defaults = some kwd)
    (hwr : (!r.writes || r.records.isEmpty) = true) (k1 : r.wellSaid = true) (ok : (chainsOk q && opensWell r.prog && (frees r.toRowW && r.within.isEmpty)) = true) (hb : r.prog.bare) (hw : r.toRowW.promised)
    (call : WalkO q loose (XL q []) H.says r.toRowW d kwd fun f vs => PySem.call f vs) : r.Holds := by
  have left : LeftO r.prog q loose (fun s => xlAt q [] s && recOk r.toRowW.records s) H.obs H.val (M + (40 * M + 1) + 600) true :=
    left_x (i := i) (M := M) e f fun w os => by
      have z := RunX.of run w os
      have eo : ob = fun s => H.obs s.abs := funext ho
      rw [eo] at z
      rw [← stepQ_eq, ← denQ_eq, ← tabQ_eq] at z
      simp only [seenQ_eq]
      exact z
  exact holds_open (r := r) (q := q) (loose := loose) (XP := XL q []) (YP := H.says) (d := d) (kwd := kwd) left H.of H.keeps (fun s z => xl_of s (Bool.and_eq_true_iff.mp z).1) XL.keeps hdef hp hk (fun s z => recFacts_of (Bool.and_eq_true_iff.mp z).2) hwr k1 ok hb hw call
end
end FX

set_option Elab.async false
set_option linter.all false
set_option maxRecDepth 100000
set_option maxHeartbeats 0
/-! The head's facts, a table's hashes among them (one of them a text's: a letter). -/
namespace HX
open PySem PySem.Spec PyProof.Rows L2 PySem.XM
open PySem.W (Frag)
open HandSHeadRun
abbrev AlH : Type := (He.Al × List He.FnV) × Option (List Int)
/-- a function that stands in a record of the class's (a property's getter, a staticmethod's def) -/
structure GnD where
  x : Str
  m : Str
  T : String
  qual : Str
  st : Stmt
/-- the record's function -/
def gAd (K : Frag) (d : GnD) : Addr := match PySem.W.recIn K (He.ma K (He.ga K d.x) d.m) d.T with
  | some (.ref g :: _) => g
  | _ => 0
def gnV (K : Frag) (d : GnD) : He.FnV := (K.lookup (gAd K d)).bind fun o => match o.data with
  | .func z => some (z.name, z.qualname, z.params, z.body, z.scope, z.globals, z.closure, z.defaults, z.builtins)
  | _ => none
def GnD.val (d : GnD) : He.FnV := some (d.m, d.qual, defArgs d.st, .stmts (defBody d.st), defScope d.st, mainGlobals, [], .none, builtinsNs)
def gnB (K : Frag) (d : GnD) : Bool := He.eqO (PySem.W.findIn K (.ref (He.ga K d.x)) d.m) (some (some (.ref (He.ma K (He.ga K d.x) d.m)))) && ((match PySem.W.recIn K (He.ma K (He.ga K d.x) d.m) d.T with
    | some (.ref _ :: _) => true
    | _ => false) && (match K.lookup (gAd K d) with
    | some ⟨_, _, .func z, _⟩ => PySem.W.codeIn K z.code d.qual
    | _ => false))
theorem gn_ok {K : Frag} {d : GnD} (c : gnB K d = true) (e : gnV K d = d.val) : ∃ g rest oc od kV doc pm an cdv ct osl, PySem.W.findIn K (.ref (He.ga K d.x)) d.m = some (some (.ref (He.ma K (He.ga K d.x) d.m))) ∧ PySem.W.recIn K (He.ma K (He.ga K d.x) d.m) d.T = some (.ref g :: rest) ∧
    K.lookup g = some ⟨oc, od, .func (PySem.W.fnOf d.m d.qual (defArgs d.st) (defBody d.st) (defScope d.st) .none kV doc pm an cdv ct), osl⟩ ∧ PySem.W.codeIn K cdv d.qual = true := by
  obtain ⟨c1, c⟩ := Bool.and_eq_true_iff.mp c
  obtain ⟨c2, c3⟩ := Bool.and_eq_true_iff.mp c
  have h1 := He.eqO_ok c1
  unfold gnV gAd at e
  unfold gAd at c3
  generalize PySem.W.recIn K (He.ma K (He.ga K d.x) d.m) d.T = r at c2 c3 e ⊢
  match r, c2 with
  | some (.ref g :: rest), _ =>
    dsimp only at c3 e
    generalize hl : K.lookup g = l at c3 e
    match l, c3 with
    | some ⟨oc, od, .func z, osl⟩, c3 =>
      obtain ⟨z1, z2, z3, z4, z5, z6, z7, z8, kV, doc, pm, an, cdv, ct, z9⟩ := z
      simp only [Option.bind_some, GnD.val, Option.some.injEq, Prod.mk.injEq] at e
      obtain ⟨rfl, rfl, rfl, rfl, rfl, rfl, rfl, rfl, rfl⟩ := e
      exact ⟨g, rest, oc, od, kV, doc, pm, an, cdv, ct, osl, h1, rfl, hl, c3⟩
def obsXH (fa : List He.Fa) (fn : List He.FnD) (gn : List GnD) (B : Frag → Bool) (T : Frag → Option (List Int)) (K : Frag) : AlH := ((obsXK fa fn (fun K => B K && gn.all (gnB K)) K, gn.map (gnV K)), T K)
def valH (fn : List He.FnD) (gn : List GnD) (l : List Int) : AlH := ((He.valE fn, gn.map GnD.val), some l)
/-- what an object leads to -/
def folO (o : Obj) : List Addr := match o.data with
  | .func z => He.refV z.code
  | .cls cd => [cd.ns]
  | .fields vs => vs.toList.flatMap He.refV
  | .dict es _ => es.toList.flatMap fun e => He.refV e.key
  | _ => []
def valO (o : Obj) : List Addr := match o.data with
  | .dict es _ => es.toList.flatMap fun e => He.refV e.val
  | _ => []
def codO (o : Obj) : List Addr := match o.data with
  | .func z => He.refV z.code
  | _ => []
def viaO (g : Addr → Option Obj) (f : Obj → List Addr) (as : List Addr) : List Addr := as.flatMap fun a => match g a with
  | some o => f o
  | none => []
/-- what is looked at: the module's names, their codes, classes' names, keys, these names' codes and records, the records' functions' codes -/
def colA (g : Addr → Option Obj) : List Addr :=
  let a1 := viaO g valO [mainGlobals]
  let a2 := viaO g folO a1
  let a3 := viaO g valO a2
  let a4 := viaO g folO a3
  let a5 := viaO g codO a4
  mainGlobals :: PySem.cStatics :: (a1 ++ (a2 ++ (a3 ++ (a4 ++ a5))))
def colF {β : Type} (g : Addr → Option Obj) (k : List Addr → β) : β :=
  forceL (viaO g valO [mainGlobals]) fun a1 => forceL (viaO g folO a1) fun a2 => forceL (viaO g valO a2) fun a3 => forceL (viaO g folO a3) fun a4 => forceL (viaO g codO a4) fun a5 => k (mainGlobals :: PySem.cStatics :: (a1 ++ (a2 ++ (a3 ++ (a4 ++ a5)))))
theorem colF_eq {β : Type} (g : Addr → Option Obj) (k : List Addr → β) : colF g k = k (colA g) := by
  unfold colF colA
  simp only [forceL_eq]
def obsFH (fa : List He.Fa) (fn : List He.FnD) (gn : List GnD) (B : Frag → Bool) (T : Frag → Option (List Int)) (g : Addr → Option Obj) : AlH := colF g fun as => forceL as fun as => forceK g as fun K => obsXH fa fn gn B T K
def hookH (fa : List He.Fa) (fn : List He.FnD) (gn : List GnD) (B : Frag → Bool) (T : Frag → Option (List Int)) (hs : World → List Int) : PySem.W.Hook where
  α := AlH
  obs := fun s => obsXH fa fn gn B T (He.frG s.heap.get? (colA s.heap.get?))
  val := fun w => valH fn gn (hs w)
  says := fun w h => ∃ K : Frag, K.In h ∧ obsXH fa fn gn B T K = valH fn gn (hs w)
  of := fun _ _ e => ⟨_, He.frG_in, e⟩
  keeps := fun _ _ _ ⟨K, hK, c⟩ k => ⟨K, PySem.W.Frag.In.keeps hK k, c⟩
theorem obsFH_eq {fa : List He.Fa} {fn : List He.FnD} {gn : List GnD} {B : Frag → Bool} {T : Frag → Option (List Int)} {hs : World → List Int} (s : PySem.W.SharedT) : obsFH fa fn gn B T (getT s) = (hookH fa fn gn B T hs).obs s.abs := by
  have e : getT s = s.abs.heap.get? := funext (getT_eq s)
  show colF (getT s) (fun as => forceL as fun as => forceK (getT s) as fun K => obsXH fa fn gn B T K) = _
  rw [colF_eq, forceL_eq, forceK_eq, e]
  rfl
/-- what is said: the rest's Bool, the facts, the records' functions, the table's hashes -/
theorem saidH {fa : List He.Fa} {fn : List He.FnD} {gn : List GnD} {B : Frag → Bool} {T : Frag → Option (List Int)} {K : Frag} {l : List Int} (c : obsXH fa fn gn B T K = valH fn gn l) : B K = true ∧ He.SaysE fa fn K ∧ (∀ d ∈ gn, gnB K d = true ∧ gnV K d = d.val) ∧ T K = some l := by
  have c1 : obsXK fa fn (fun K => B K && gn.all (gnB K)) K = He.valE fn := congrArg (fun z : AlH => z.1.1) c
  have c2 : gn.map (gnV K) = gn.map GnD.val := congrArg (fun z : AlH => z.1.2) c
  have c3 : T K = some l := congrArg (fun z : AlH => z.2) c
  obtain ⟨h1, h2⟩ := said c1
  obtain ⟨h3, h4⟩ := Bool.and_eq_true_iff.mp h1
  exact ⟨h3, h2, fun d hd => ⟨List.all_eq_true.mp h4 d hd, List.map_inj_left.mp c2 d hd⟩, c3⟩
end HX

set_option Elab.async false
set_option linter.all false
set_option maxRecDepth 100000
set_option maxHeartbeats 0
/-! The program's pieces by their places, and what is looked at when the head has run. -/
namespace K12
open PySem PySem.Spec PyProof.Rows L2 MX HX
def top (i : Nat) : Stmt := PySem.Challenge.pw_wornsteps_k12_stairs_told.main.body.getD i (.Pass ⟨0, 0, 0, 0⟩)
def clsBody : Stmt → List Stmt
  | .ClassDef (body := b) .. => b
  | _ => []
/-- the j-th statement of the class Stair -/
def mth (j : Nat) : Stmt := (clsBody (top 26)).getD j (.Pass ⟨0, 0, 0, 0⟩)
abbrev sNum : Stmt := top 14
abbrev sList : Stmt := top 15
abbrev sLen : Stmt := top 16
abbrev sSteps : Stmt := top 24
def kinds : List String := ["NoneType", "bool", "int", "str", "list", "tuple", "dict"]
abbrev sSorted : Stmt := top 25
abbrev sReady : Stmt := (clsBody (top 13)).getD 0 (.Pass ⟨0, 0, 0, 0⟩)
abbrev sInit : Stmt := mth 2
def kP (p : Int × Int) : List Key := [.inl p.1, .inl p.2]
def pairD (p : Int × Int) : PyData := .tuple [.int p.1, .int p.2]
/-- the key that stands there -/
def tkT (o : Obj) : Option TK := match FX.plainTup o, o.data with
  | true, .seq ⟨[.int i _, .int j _]⟩ _ => some (.inr [.inl i, .inl j])
  | _, _ => none
def tkOf (K : W.Frag) : Value → Option TK
  | .str x _ => some (.inl (.inr x))
  | .int i _ => some (.inl (.inl i))
  | .ref a => (K.lookup a).bind tkT
  | _ => none
def xsOf (K : W.Frag) : List DictEntry → Option (List (TK × Value × Value))
  | [] => some []
  | e :: r => match tkOf K e.key, xsOf K r with
    | some k, some l => some ((k, e.key, e.val) :: l)
    | _, _ => none
/-- what is asked of the table, by computation -/
def chkX (xs : List (TK × Value × Value)) : Bool := xs.all (fun x => okT x.1) && (decide (xs.map (·.1)).Nodup && (xs.any (fun x => !isExactStrKey x.2.1) && (List.range 12).all fun i => (List.range 12).all fun j => !(Nat.blt i j) || (match atT xs (.inr (kP ((i : Nat), (j : Nat)))) with
  | some z => He.relB (.str (pairD ((i : Nat), (j : Nat))).shown) z
  | none => false)))
/-- where the table stands -/
def txA (K : W.Frag) : Addr := He.ga K "TEXTS"
def txE (K : W.Frag) : Option (Array DictEntry) := match K.lookup (txA K) with
  | some ⟨.type c, none, .dict es _, ⟨[]⟩⟩ => if c == "dict" && !(txA K == sysModules) then some es else none
  | _ => none
def txH (K : W.Frag) : Option (List Int) := (txE K).map fun es => es.toList.map (·.hash)
def txXs (K : W.Frag) : List (TK × Value × Value) := match txE K with
  | some es => (xsOf K es.toList).getD []
  | none => []
/-- the table's keys, in their order -/
def tkL : List TK := .inl (.inr "feet") :: ((List.range 10).map (fun i => .inl (.inl (1 + (i : Nat)))) ++ (List.range 12).flatMap fun i => ((List.range 12).filter fun j => Nat.blt i j).map fun j => .inr (kP ((i : Nat), (j : Nat))))
def txB (K : W.Frag) : Bool := match txE K with
  | some es => match xsOf K es.toList with
    | some xs => decide (xs.map (·.1) = tkL) && chkX xs
    | none => false
  | none => false
def dM (x m q : Str) (st : Stmt) : He.FnD := ⟨(x, some m), m, q, defArgs st, defBody st, defScope st⟩
def dF (x : Str) (st : Stmt) : He.FnD := ⟨(x, none), x, x, defArgs st, defBody st, defScope st⟩
def rcG (m : Str) (T : String) (q : Str) (st : Stmt) : GnD := ⟨"Stair", m, T, q, st⟩
def gnA : List GnD := [rcG "of" "staticmethod" "Stair.of" (mth 3), rcG "steps" "property" "Stair.steps" (mth 4), rcG "head" "property" "Stair.head" (mth 5)]
/-! one look at the rest -/
def insB (K : W.Frag) (C : Addr) : Bool := He.eqO (W.findIn K (.ref C) "__class__") (some (some (.builtin "object.__class__"))) && (He.eqO (W.specialIn K (.builtin "object.__class__") "__get__") (some (some (.builtin "getset_descriptor.__get__"))) && (decide (W.takesIn K (.builtin "object.__class__") = some true) && (decide (W.mroIn K C (.type "object") = some true) && decide (W.kitOne K (.ref C) (.ref C) = some true))))
def offB (K : W.Frag) (C : Addr) (us : List String) : Bool := us.all fun U => decide (W.kitOne K (.type U) (.ref C) = some false)
def cvB (K : W.Frag) (C : Addr) (f : Str) (i : Int) : Bool := match W.findCls K (.ref C) (.type "type") f with
  | some (.val (.int j _)) => decide (j = i)
  | _ => false
def conB (K : W.Frag) (C : Addr) (f : Str) (i : Int) : Bool := match W.findIn K (.ref C) f with
  | some (some (.int j t)) => decide (j = i) && He.eqO (W.specialIn K (.int j t) "__get__") (some none)
  | _ => false
def smB (K : W.Frag) (C : Addr) (m : Str) : Bool := match W.findCls K (.ref C) (.type "type") m with
  | some (.get (.builtin g) (.ref p) .none (.ref D)) => decide (g = "staticmethod.__get__") && (Nat.beq p (He.ma K C m) && Nat.beq D C)
  | _ => false
def prB (K : W.Frag) (C : Addr) (m : Str) : Bool := He.eqO (W.specialIn K (.ref (He.ma K C m)) "__get__") (some (some (.builtin "property.__get__"))) && decide (W.takesIn K (.ref (He.ma K C m)) = some true)
def bare : List Str := ["len", "abs", "max", "min", "int", "divmod", "range", "repr", "all", "any", "enumerate", "isinstance", "bool", "str", "list", "tuple", "zip", "sorted", "iter"]
def bkC (K : W.Frag) (C R : Addr) : Bool := insB K C && (insB K R && (offB K C kinds && (offB K R ["list", "tuple"] && (W.readsIn K C (.type "type") && (He.eqO (W.specialIn K (.ref C) "__getattribute__") (some (some (.builtin "type.__getattribute__"))) && (cvB K C "MOST_STEPS" 10 && (cvB K C "MOST_JUMPS" 40 && (conB K C "MOST_STEPS" 10 && (smB K C "of" && (prB K C "steps" && (prB K C "head" &&
  (W.fnIn K (He.ma K C "__call__") && (He.eqO (W.findIn K (.ref C) "__ne__") (some (some (.builtin "object.__ne__"))) && (kinds.all (fun U => W.notFirst K C (.type U)) && (W.notFirst K C (.ref C) && (He.Fa.ok K (.int "MOST_LENGTH" 11) && bare.all fun x => He.eqO (W.nsIn K mainGlobals x) (some none)))))))))))))))))
def Bk (K : W.Frag) : Bool := txB K && forceL [He.ga K "Stair", He.ga K "Ready"] fun as => match as with
  | [C, R] => bkC K C R
  | _ => false
end K12

set_option Elab.async false
set_option linter.all false
set_option maxRecDepth 100000
set_option maxHeartbeats 0
/-! What is looked at when this law's head has run. -/
namespace K12
open PySem PySem.Spec PyProof.Rows L2 HX
abbrev sLaw : Stmt := top 42
def fa0 : List He.Fa := [.glo "is_number", .keep "is_number", .glo "is_list", .keep "is_list", .glo "is_length", .keep "is_length", .glo "is_way", .keep "is_way", .glo "first_wrong", .keep "first_wrong", .glo "check_lengths", .keep "check_lengths", .glo "check_steps", .keep "check_steps", .glo "sorted_jumps", .keep "sorted_jumps", .glo "_law_pot", .keep "_law_pot", .glo "_law_draw", .keep "_law_draw", .glo "_law_pick", .keep "_law_pick", .glo "_law_mixed", .keep "_law_mixed", .glo "_law_every", .keep "_law_every", .glo "_law_parts", .keep "_law_parts", .glo "_law_of", .keep "_law_of"]
def fa1 : List He.Fa := [.glo "_law_four", .keep "_law_four", .glo "_law_is_thing", .keep "_law_is_thing", .glo "_law_is_row", .keep "_law_is_row", .glo "_law_odd", .keep "_law_odd", .glo "_law_is_told", .keep "_law_is_told", .glo "_law_lens_right", .keep "_law_lens_right", .glo "_law_right", .keep "_law_right", .glo "law", .keep "law", .glo "Stair", .glo "Ready", .cls "Stair", .cls "Ready", .noat "Stair" "_jumps", .noat "Stair" "_steps", .noat "Stair" "_things", .noat "Stair" "_table", .noat "Ready" "part", .mkr "Stair", .mkr "Ready", .meth "Stair" "__init__", .meth "Stair" "jumps", .meth "Stair" "things"]
def fa2 : List He.Fa := [.meth "Stair" "lengths", .meth "Stair" "is_run", .meth "Stair" "__len__", .meth "Stair" "__contains__", .meth "Stair" "__iter__", .meth "Stair" "__call__", .meth "Stair" "__eq__", .meth "Stair" "__repr__", .meth "Ready" "__init__", .glo "TEXTS"]
def faA : List He.Fa := fa0 ++ fa1 ++ fa2
def fn0 : List He.FnD := [dF "is_number" sNum, dF "is_list" sList, dF "is_length" sLen, dF "is_way" (top 18), dF "first_wrong" (top 19), dF "check_lengths" (top 20), dF "check_steps" sSteps, dF "sorted_jumps" sSorted, dF "_law_pot" (top 28), dF "_law_draw" (top 29), dF "_law_pick" (top 30), dF "_law_mixed" (top 31), dF "_law_every" (top 32), dF "_law_parts" (top 33), dF "_law_of" (top 34), dF "_law_four" (top 35), dF "_law_is_thing" (top 36), dF "_law_is_row" (top 37), dF "_law_odd" (top 38), dF "_law_is_told" (top 39), dF "_law_lens_right" (top 40), dF "_law_right" (top 41), dF "law" sLaw, dM "Stair" "__init__" "Stair.__init__" sInit, dM "Stair" "jumps" "Stair.jumps" (mth 6), dM "Stair" "things" "Stair.things" (mth 7), dM "Stair" "lengths" "Stair.lengths" (mth 8), dM "Stair" "is_run" "Stair.is_run" (mth 9), dM "Stair" "__len__" "Stair.__len__" (mth 13), dM "Stair" "__contains__" "Stair.__contains__" (mth 14)]
def fn1 : List He.FnD := [dM "Stair" "__iter__" "Stair.__iter__" (mth 15), dM "Stair" "__call__" "Stair.__call__" (mth 16), dM "Stair" "__eq__" "Stair.__eq__" (mth 21), dM "Stair" "__repr__" "Stair.__repr__" (mth 22), dM "Ready" "__init__" "Ready.__init__" sReady]
def fnA : List He.FnD := fn0 ++ fn1
abbrev R : PySem.W.OpenRow := PySem.W.OpenLaw.row PySem.Challenge.rw_wornsteps_k12_stairs_told
abbrev qv : Program := PySem.W.view R.prog [42]
def lo0 : List Str := ["StairError", "InvalidSteps", "InvalidJumps", "InvalidJump", "InvalidLengths", "StateError", "OtherSteps", "LimitError", "TooMany", "Ready", "is_number", "is_list", "is_length", "is_jump", "is_way", "first_wrong", "check_lengths", "check_same_steps", "check_steps", "sorted_jumps"]
def lo1 : List Str := ["Stair", "_law_pot", "_law_draw", "_law_pick", "_law_mixed", "_law_every", "_law_parts", "_law_of", "_law_four", "_law_is_thing", "_law_is_row", "_law_odd", "_law_is_told", "_law_lens_right", "_law_right"]
def loA : List Str := lo0 ++ lo1 ++ (["_wall", "MOST_LENGTH", "TEXTS"] : List Str)
end K12

set_option Elab.async false
set_option linter.all false
set_option maxRecDepth 100000
set_option maxHeartbeats 0
namespace K12
open PySem PySem.Spec PyProof.Rows L2 HX FX HandSHeadRun
/-- the run by kernel, the facts read off, the table's hashes a letter: b = true -/
theorem runT (w : World) : RunX R qv (hookH faA fnA gnA Bk txH (fun w => tkL.map (MX.hashT R.prog w))) (fun s => obsFH faA fnA gnA Bk txH (HandSHeadRun.getT s)) 22 20000 loA (wb true w) := by
  intro os
  kernel_rfl
end K12

set_option Elab.async false
set_option linter.all false
set_option maxRecDepth 100000
set_option maxHeartbeats 0
namespace K12
open PySem PySem.Spec PyProof.Rows L2 HX FX HandSHeadRun
/-- the run by kernel, the facts read off, the table's hashes a letter: b = false -/
theorem runF (w : World) : RunX R qv (hookH faA fnA gnA Bk txH (fun w => tkL.map (MX.hashT R.prog w))) (fun s => obsFH faA fnA gnA Bk txH (HandSHeadRun.getT s)) 22 20000 loA (wb false w) := by
  intro os
  kernel_rfl
end K12

set_option Elab.async false
set_option linter.all false
set_option maxRecDepth 100000
set_option maxHeartbeats 4000000
namespace MX
open PySem PySem.Spec PyProof.Rows L2
/-- the dict's own object: its entries as they stand -/
def mxF (P : Program) (w : World) (a : Addr) (es0 : List (TK × Value × Value)) : Heap → Prop := fun h => ∃ o es ep, h.get? a = some o ∧ o.ExactDict ∧ o.data = .dict es ep ∧ es.toList = es0.map (entT P w) ∧ (es0.map (·.1)).Nodup ∧ ∀ x ∈ es0, okT x.1 = true
/-- the value is the key: tuples are tracked -/
def KeyAt (H : Hp) : TK → Value → Prop
  | .inl k, v => keyIs k v = true
  | .inr ks, v => ∃ b, v = .ref b ∧ H b = some (.tup (ks.map kV))
def KeyV (H : Hp) : TK → V → Prop
  | .inl k, x => x = kV k
  | .inr ks, x => ∃ b, x = .ref b ∧ H b = some (.tup (ks.map kV))
def EntAt (H : Hp) (p : TK × V) (q : TK × Value × Value) : Prop := p.1 = q.1 ∧ KeyAt H q.1 q.2.1 ∧ RelV p.2 q.2.2
/-- at a stands a dict with these keys and values -/
def MxAt (P : Program) (w : World) (H : Hp) (a : Addr) (kvs : List (TK × V)) : Prop := (a == sysModules) = false ∧ kvs.length ≤ sizeLine ∧ ∃ es0, Paired (EntAt H) kvs es0 ∧ H a = some (.ext (mxF P w a es0))
section
variable {P : Program} {w : World} {H H' : Hp} {h : Heap} {a : Addr} {kvs : List (TK × V)}
theorem KeyAt.same {k : TK} {v : Value} (e : KeyAt H k v) (s : Same H H') : KeyAt H' k v := by
  cases k with
  | inl k => exact e
  | inr ks =>
    obtain ⟨b, rfl, t⟩ := e
    exact ⟨b, rfl, s _ _ t⟩
theorem MxAt.same (m : MxAt P w H a kvs) (s : Same H H') : MxAt P w H' a kvs := by
  obtain ⟨m1, m2, es0, pr, e⟩ := m
  exact ⟨m1, m2, es0, Paired.mapP pr fun p q x => ⟨x.1, x.2.1.same s, x.2.2⟩, s _ _ e⟩
theorem KeyAt.isT {k : TK} {v : Value} (ok : HOk P w H h) (e : KeyAt H k v) : isT P w h k v := by
  cases k with
  | inl k => exact e
  | inr ks =>
    obtain ⟨b, rfl, t⟩ := e
    exact ⟨b, rfl, key_of ok t⟩
theorem KeyV.at_ (P : Program) (w : World) {k : TK} {x : V} {v : Value} (e : KeyV H k x) (r : RelV x v) : KeyAt H k v := by
  cases k with
  | inl k =>
    subst e
    exact kV_is (P := P) (w := w) r
  | inr ks =>
    obtain ⟨b, rfl, t⟩ := e
    cases r
    exact ⟨b, rfl, t⟩
theorem ents_isT (ok : HOk P w H h) : ∀ {kvs : List (TK × V)} {es0 : List (TK × Value × Value)}, Paired (EntAt H) kvs es0 → ∀ x ∈ es0, isT P w h x.1 x.2.1
  | _, _, .nil, x, hx => nomatch hx
  | _, _, .cons e t, x, hx => by
    rcases List.mem_cons.mp hx with rfl | hx
    · exact e.2.1.isT ok
    · exact ents_isT ok t x hx
theorem ents_keys : ∀ {kvs : List (TK × V)} {es0 : List (TK × Value × Value)}, Paired (EntAt H) kvs es0 → kvs.map (·.1) = es0.map (·.1)
  | _, _, .nil => rfl
  | _, _, .cons e t => by rw [List.map_cons, List.map_cons, e.1, ents_keys t]
theorem MxAt.tab (ok : HOk P w H h) {es0 : List (TK × Value × Value)} (pr : Paired (EntAt H) kvs es0) (e : H a = some (.ext (mxF P w a es0))) : TabIs P w h a es0 := by
  obtain ⟨⟨o, es, ep, h1, h2, h3, h4, h5, h6⟩, _, _⟩ := (show ObjOk P w H h a (.ext (mxF P w a es0)) from ok a _ e)
  exact ⟨o, es, ep, h1, h2, h3, h4, fun x hx => ⟨ents_isT ok pr x hx, h6 x hx⟩, h5⟩
/-- a text is looked for in an empty dict, or in one with other keys, too -/
def isTx : TK → Bool
  | .inl (.inr _) => true
  | _ => false
def MixV (kvs : List (TK × V)) (k : TK) : Prop := isTx k = true → kvs = [] ∨ ∃ p ∈ kvs, isTx p.1 = false
theorem key_tx {k : TK} {v : Value} (e : KeyAt H k v) : isExactStrKey v = isTx k := by
  cases k with
  | inl k =>
    rcases keyIs_shape e with ⟨i, t, rfl, rfl⟩ | ⟨x, t, rfl, rfl⟩ <;> rfl
  | inr ks =>
    obtain ⟨b, rfl, _⟩ := e
    rfl
theorem ents_tx : ∀ {kvs : List (TK × V)} {es0 : List (TK × Value × Value)}, Paired (EntAt H) kvs es0 → (∃ p ∈ kvs, isTx p.1 = false) → ∃ x ∈ es0, isExactStrKey x.2.1 = false
  | _, _, .nil, h => by
    obtain ⟨_, hp, _⟩ := h
    cases hp
  | _, _, .cons e t, ⟨p, hp, hx⟩ => by
    rcases List.mem_cons.mp hp with rfl | hp
    · exact ⟨_, List.mem_cons_self, by rw [key_tx e.2.1, ← e.1]; exact hx⟩
    · obtain ⟨x, hm, z⟩ := ents_tx t ⟨p, hp, hx⟩
      exact ⟨x, List.mem_cons_of_mem _ hm, z⟩
theorem mix_of {k : TK} {v : Value} {es0 : List (TK × Value × Value)} (pr : Paired (EntAt H) kvs es0) (kx : KeyAt H k v) (m : MixV kvs k) : MixS es0 v := fun z t e => by
  have tx : isTx k = true := by rw [← key_tx kx, e]; rfl
  rcases m tx with e0 | x
  · subst e0
    cases pr
    exact .inl rfl
  · exact .inr (ents_tx pr x)
def hasK (kvs : List (TK × V)) (k : TK) : Bool := kvs.any fun p => decide (p.1 = k)
theorem at_some {k : TK} : ∀ {kvs : List (TK × V)} {es0 : List (TK × Value × Value)}, Paired (EntAt H) kvs es0 → (atT es0 k).isSome = hasK kvs k
  | _, _, .nil => rfl
  | p :: _, x :: l, .cons e t => by
    have ih := at_some (k := k) t
    unfold atT hasK at *
    rw [Option.isSome_map] at ih ⊢
    rw [List.any_cons, e.1]
    by_cases z : x.1 = k
    · rw [List.find?_cons_of_pos (by simpa using z), decide_eq_true z]
      rfl
    · rw [List.find?_cons_of_neg (by simpa using z), ih, decide_eq_false z]
      rfl
end
section
variable {X : Cx}
/-- x in d -/
def rInM (P : Program) (w : World) : R2 := fun x y H Q => ∃ d kvs k, y = .ref d ∧ MxAt P w H d kvs ∧ KeyV H k x ∧ okT k = true ∧ MixV kvs k ∧ Q (.bl (hasK kvs k)) H
def rNinM (P : Program) (w : World) : R2 := fun x y H Q => ∃ d kvs k, y = .ref d ∧ MxAt P w H d kvs ∧ KeyV H k x ∧ okT k = true ∧ MixV kvs k ∧ Q (.bl (!hasK kvs k)) H
theorem op_inM (hu : X.A.units + 100 < cLine) : OpR X (compareOp .In) (rInM X.prog X.w) := by
  intro pins s σ H x y v u Q I rx ry h
  obtain ⟨d, kvs, k, rfl, ⟨m1, _, es0, pr, e⟩, kx, ok, mix, q⟩ := h
  cases ry
  have ka := kx.at_ X.prog X.w rx
  refine wpAny_bind (contains_T hu (ka.isT I.hok) ok m1 (MxAt.tab I.hok pr e) (mix_of pr ka mix) ?_)
  rw [at_some pr]
  exact wpAny_pure ⟨.bl _, H, I.tok _, rfl, q⟩
theorem op_ninM (hu : X.A.units + 100 < cLine) : OpR X (compareOp .NotIn) (rNinM X.prog X.w) := by
  intro pins s σ H x y v u Q I rx ry h
  obtain ⟨d, kvs, k, rfl, ⟨m1, _, es0, pr, e⟩, kx, ok, mix, q⟩ := h
  cases ry
  have ka := kx.at_ X.prog X.w rx
  refine wpAny_bind (contains_T hu (ka.isT I.hok) ok m1 (MxAt.tab I.hok pr e) (mix_of pr ka mix) ?_)
  rw [at_some pr]
  exact wpAny_pure ⟨.bl _, H, I.tok _, rfl, q⟩
end
end MX

set_option Elab.async false
set_option linter.all false
set_option maxRecDepth 100000
set_option maxHeartbeats 4000000
namespace MX
open PySem PySem.Spec PyProof.Rows L2
section
variable {X : Cx} {pins : List (Addr × Obj)} {σ : L2.St} {H : Hp} {s : Shared}
theorem papp {α β : Type} {R : α → β → Prop} : ∀ {as : List α} {bs : List β} {cs : List α} {ds : List β}, Paired R as bs → Paired R cs ds → Paired R (as ++ cs) (bs ++ ds)
  | _, _, _, _, .nil, q => q
  | _, _, _, _, .cons r t, q => .cons r (papp t q)
theorem mxF_ok {P : Program} {w : World} {H' : Hp} {h' : Heap} {a : Addr} {es0 : List (TK × Value × Value)} (t : TabIs P w h' a es0) : ObjOk P w H' h' a (.ext (mxF P w a es0)) := by
  obtain ⟨o, es, ep, h1, h2, h3, h4, h5, h6⟩ := t
  refine ⟨⟨o, es, ep, h1, h2, h3, h4, h6, fun x hx => (h5 x hx).2⟩, ⟨o, h1⟩, fun a1 a2 ⟨o', es', ep', g1, g⟩ k => ⟨o', es', ep', k _ g1, g⟩⟩
theorem EntAt.upd_ {P : Program} {w : World} {D : Addr} {o' : HO} {e0 : List (TK × Value × Value)} (hD : H D = some (.ext (mxF P w D e0))) : ∀ {kvs : List (TK × V)} {es0 : List (TK × Value × Value)}, Paired (EntAt H) kvs es0 → Paired (EntAt (upd H D o')) kvs es0 := fun pr =>
  Paired.mapP pr fun p q x => ⟨x.1, by
    have kx := x.2.1
    revert kx
    cases q.1 with
    | inl k => exact fun e => e
    | inr ks =>
      rintro ⟨b, e, t⟩
      refine ⟨b, e, ?_⟩
      rw [upd_ne (ne_of t hD nofun)]
      exact t, x.2.2⟩
theorem ents_new {k : TK} : ∀ {kvs : List (TK × V)} {es0 : List (TK × Value × Value)}, Paired (EntAt H) kvs es0 → hasK kvs k = false → ∀ x ∈ es0, x.1 ≠ k
  | _, _, .nil, _, x, hx => nomatch hx
  | p :: kvs, y :: es0, .cons e t, n, x, hx => by
    unfold hasK at n
    rw [List.any_cons, Bool.or_eq_false_iff] at n
    rcases List.mem_cons.mp hx with rfl | hx
    · rw [← e.1]
      exact of_decide_eq_false n.1
    · exact ents_new t n.2 x hx
/-- d[y] = v, y a new key -/
theorem mx_set {E : Value → Shared → Prop} {D : Addr} {kvs : List (TK × V)} {k : TK} {y v : V} {u r : Value} {Q : Unit → Shared → Prop} (hu : X.A.units + 64 < cLine) (I : Inv X pins σ H s) (m : MxAt X.prog X.w H D kvs) (kx : KeyV H k y) (ok : okT k = true) (mix : MixV kvs k)
    (new : hasK kvs k = false) (hz : kvs.length < sizeLine) (ry : RelV y u) (rv : RelV v r) (q : ∀ s' o', Inv X pins σ (upd H D o') s' → MxAt X.prog X.w (upd H D o') D (kvs ++ [(k, v)]) → Q () s') : wpAny (model X.prog X.w) X.A (dictSet D u r) Q E s := by
  obtain ⟨m1, m2, es0, pr, e⟩ := m
  have ka := kx.at_ X.prog X.w ry
  have ln : es0.length = kvs.length := (Paired.length pr).symm
  refine set_T hu (ka.isT I.hok) ok (MxAt.tab I.hok pr e) (mix_of pr ka mix) (ents_new pr new) (by omega) fun h' t sb => ?_
  refine q _ (.ext (mxF X.prog X.w D (es0 ++ [(k, u, r)]))) (d_write I (by rw [e]; exact True.intro) sb (let ⟨o, _, _, h1, _⟩ := t; ⟨o, h1⟩) (mxF_ok t)) ⟨m1, by rw [List.length_append]; exact hz, es0 ++ [(k, u, r)], ?_, upd_same⟩
  have one : Paired (EntAt H) [(k, v)] [(k, u, r)] := .cons ⟨rfl, ka, rv⟩ .nil
  exact EntAt.upd_ e (papp pr one)
/-- {k: v for target in iter if ..}, each key a new one -/
def tDm (P : Program) (w : World) (wi : TI) (g : TG) (tt : TT) (tk tv : TE) (vs : List Nat) : TE := fun σ H Q => wi σ H fun J H1 => ∀ D, H1 D = none → ∃ W : Nat → Nat → Hp → Prop, (∀ o, MxAt P w (upd H1 D o) D [] → ∃ m, W 0 m (upd H1 D o)) ∧ ∀ i m H, W i m H →
  (J.stop i H ∧ Q (.ref D) H) ∨ (J.go i H ∧ ∃ Nx : Hp → Prop, (∀ H', Nx H' → ∃ m', m' < m ∧ W (i + 1) m' H') ∧ ∀ x H', J.yld i H x H' → g x (wipe σ vs) H' fun σ2 H2 => wipe σ2 vs = wipe σ vs ∧ tt σ2 H2 fun b H3 =>
    if b = true then tk σ2 H3 fun y H4 => tv σ2 H4 fun z H5 => ∃ kvs k, KeyV H5 k y ∧ MxAt P w H5 D kvs ∧ okT k = true ∧ MixV kvs k ∧ hasK kvs k = false ∧ kvs.length < sizeLine ∧ ∀ o, MxAt P w (upd H5 D o) D (kvs ++ [(k, z)]) → Nx (upd H5 D o) else Nx H3)
theorem dm_core {Q : VK} {kx vx tg iter : Expr} {ifs : List Expr} {scope : Scope} {own : List (Str × Nat)} {pos pos' : Pos} {wi : TI} {g : TG} {tt : TT} {tk tv : TE} {use : Option (Value → Sem Unit)} {Qf : Value → Shared → Prop} (hu : X.A.units + 64 < cLine) (hc : X.calm = true) (hN : X.N.Nodup) (I : Inv X pins σ H s) (hi : PI X tg iter wi) (ok : BlkOk X.N X.env.scope scope own)
    (hg : ∀ s H C cl fp, PG (X.blk s H scope (compEnvC scope cl C X.env) fp) tg g) (ht : ∀ s H C cl fp, PTs (X.blk s H scope (compEnvC scope cl C X.env) fp) ifs tt) (hk : ∀ s H C cl fp, PE (X.blk s H scope (compEnvC scope cl C X.env) fp) kx tk) (he : ∀ s H C cl fp, PE (X.blk s H scope (compEnvC scope cl C X.env) fp) vx tv)
    (hs : ∀ x, foldedSetIterable iter X.env x = pure x) (h : tDm X.prog X.w wi g tt tk tv (own.map (·.2)) σ H Q)
    (hR : ∀ D C s' m H', Inv X pins σ H' s' → Q (.ref D) H' → s'.heap.Ns C m → FpOk X pins H' C → compPost (model X.prog X.w) X.A X.xe use Qf (.ref D) C (.ok .next) s') : wpAny (model X.prog X.w) X.A (comprehension (.DictComp kx vx [⟨tg, iter, ifs, 0⟩] scope pos) scope X.env pos' newDict false (eval iter X.env) use) Qf X.xe s := by
  have cells : ∀ y ∈ scope.names, y.2 = .free → ∃ c, X.env.cells.lookup y.1 = some c := fun y hy e => (ok.free y hy e).elim (fun k => I.ok.has _ (.inl k)) fun k => I.ok.has _ (.inr k)
  refine wpAny_comprehension_free (use := use) rfl hs (closure_ok cells) ok.kind (fun y hy e => by rw [ok.uniq y hy, e]) (thn (hi.run pins s σ H _ I h) fun xv s1 hx => thn hx fun itv s2 h2 => ?_)
  obtain ⟨it, fp, tn, J, H2, rfl, I2, T, st2, f2, q⟩ := h2
  refine wpAny_newObj_type (newEnv_comp ?_)
  generalize hD : s2.heap.objs.size = D
  have hDn : H2 D = none := I2.hok.fresh (Nat.le_of_eq hD)
  obtain ⟨W, w00, turn⟩ := q D hDn
  generalize hs3 : ({ s2 with heap := s2.heap.push { cls := .type "dict", data := .dict #[] } } : Shared) = s3
  have h3 : s3.heap = s2.heap.push { cls := .type "dict", data := .dict #[] } := by rw [← hs3]
  have dm : (D == sysModules) = false := beq_eq_false_iff_ne.mpr fun z => Nat.lt_irrefl _ (by have b := I2.big; rw [hD, z] at b; exact b)
  have I3 : Inv X pins σ (upd H2 D (.ext (mxF X.prog X.w D []))) s3 := by
    rw [← hs3]
    refine I2.laid (t' := s2.toks) (fun b o e => Heap.get?_push_of_some _ e) (Nat.le_of_eq hD) (mxF_ok ?_)
    rw [← hD]
    exact ⟨_, #[], 0, Heap.get?_push_size _ rfl, ⟨rfl, rfl, rfl⟩, rfl, rfl, nofun, List.nodup_nil⟩
  obtain ⟨m0, w0⟩ := w00 (.ext (mxF X.prog X.w D [])) ⟨dm, Nat.zero_le _, [], .nil, upd_same⟩
  generalize hH3 : upd H2 D (.ext (mxF X.prog X.w D [])) = H3 at I3 w0
  have f3 : ∀ b ∈ fp, FpOk X pins H3 b ∧ b < s3.heap.objs.size := fun b hb => by
    obtain ⟨o, e, _⟩ := T.obj _ _ st2 b hb
    have lt : b < s2.heap.objs.size := Heap.lt_size e
    refine ⟨⟨?_, (f2 b hb).2⟩, by rw [h3, Heap.size_push]; exact Nat.lt_succ_of_lt lt⟩
    rw [← hH3, upd_ne (by rw [← hD]; exact Nat.ne_of_lt lt)]
    exact (f2 b hb).1
  have I4 := block_start I3 ok hN f3
  generalize hcl : cellsFrom (s3.heap.objs.size + 1) scope.names (cloFrom X.env.cells scope.names []) = cl at I4
  have pg := hg s3 H3 s3.heap.objs.size cl fp
  have pt := ht s3 H3 s3.heap.objs.size cl fp
  have pk := hk s3 H3 s3.heap.objs.size cl fp
  have pe := he s3 H3 s3.heap.objs.size cl fp
  generalize hce : compEnvC scope cl s3.heap.objs.size X.env = ce at I4 pg pt pk pe
  have cL : ce.locals = s3.heap.objs.size := by rw [← hce]; rfl
  generalize hs4 : ({ s3 with heap := pushCells (s3.heap.push { cls := .type "dict", data := .dict #[] }) scope.names } : Shared) = s4 at I4
  have st4 : tn 0 s4.heap := T.keep _ _ _ st2 fun b _ o e => by
    rw [← hs4]
    exact pushCells_keeps _ _ _ _ (Heap.get?_push_of_some _ (by rw [h3]; exact Heap.get?_push_of_some _ e))
  have stat : ∀ {σ' : L2.St} {H' : Hp} {s' : Shared}, Inv (X.blk s3 H3 scope ce fp) [] σ' H' s' → (∀ b ∈ fp, H' b = none) → ∀ b ∈ fp, FpOk (X.blk s3 H3 scope ce fp) [] H' b := fun I' hn b hb =>
    ⟨hn b hb, (I'.ok.exf b hb).1, I'.ok.exfs b hb, .inl hb, fun x c e => (I'.ok.exf b hb).2 x c e, fun p hp => nomatch (show p ∈ ([] : List (Addr × Obj)) from hp)⟩
  have loop : codeAny (model X.prog X.w) X.A (.compLoop (.DictComp kx vx [⟨tg, iter, ifs, 0⟩] scope pos) 0 (.ref it) (.ref D) ce) (compPost (model X.prog X.w) X.A X.xe use Qf (.ref D) s3.heap.objs.size) s4 := by
    refine compLoop_anyD (fun n s' => ∃ i H', Inv (X.blk s3 H3 scope ce fp) [] (wipe σ (own.map (·.2))) H' s' ∧ tn i s'.heap ∧ (∀ b ∈ fp, H' b = none) ∧ W i n H') ?_ m0 ⟨0, H3, I4, st4, fun b hb => (f3 b hb).1.1, w0⟩
    rintro n s5 ⟨i, H5, I5, st5, n5, w5⟩
    rcases turn i n H5 w5 with ⟨stop, qq⟩ | ⟨go, Nx, hNx, step⟩
    · refine thnF (T.done (X.blk s3 H3 scope ce fp) rfl rfl rfl hc i [] s5 _ H5 (fun _ _ => False) I5 (stat I5 n5) st5 stop) fun r s6 ⟨hr, I6⟩ => ?_
      subst hr
      have I7 : Inv X pins σ H5 s6 := I3.call' (ch := fp) I6.os I6.base I6.hok I6.bare fun b hb => ⟨(f3 b hb).1.2.2.2.1, (f3 b hb).1.2.1, (f3 b hb).1.2.2.2.2.1, (f3 b hb).1.2.2.2.2.2⟩
      obtain ⟨m, hn, _⟩ := I6.loc
      exact hR D s3.heap.objs.size s6 m H5 I7 qq (by rw [← cL]; exact hn) (I3.fpOk (Nat.le_refl _) (by rw [← cL]; exact I6.free))
    · refine thnF (T.item (X.blk s3 H3 scope ce fp) rfl rfl rfl hc i [] s5 _ H5 (fun _ _ => False) I5 (stat I5 n5) st5 go) fun r s6 ⟨u, hr, h6⟩ => ?_
      subst hr
      refine thnF h6 fun _ s7 ⟨x, H7, I7, r7, y7, st7, n7⟩ => thnF (pg.run _ s7 _ H7 x u _ (I7.pinned (stat I7 n7) (T.obj _ _ st7)) r7 (step x H7 y7)) fun _ s8 ⟨σ8, H8, I8, hw8, q8⟩ => thnF (pt.run _ s8 σ8 H8 _ I8 q8) fun b s9 ⟨H9, I9, q9⟩ => ?_
      have fin : ∀ {s' : Shared} {H' : Hp}, Inv (X.blk s3 H3 scope ce fp) ([] ++ pinsAt fp s7.heap) σ8 H' s' → Nx H' → ∃ m, m < n ∧ ∃ i H', Inv (X.blk s3 H3 scope ce fp) [] (wipe σ (own.map (·.2))) H' s' ∧ tn i s'.heap ∧ (∀ b ∈ fp, H' b = none) ∧ W i m H' := fun {s' H'} I' nx => by
        obtain ⟨m', hm, w'⟩ := hNx H' nx
        have pin' : ∀ b ∈ fp, ∀ o, s7.heap.get? b = some o → s'.heap.get? b = some o ∧ H' b = none := fun b hb o e => let z := I'.pin (b, o) (List.mem_append_right _ (List.mem_append_right _ (mem_pinsAt hb e))); ⟨z.1, z.2.1⟩
        have hl : (wipe σ (own.map (·.2))).length = σ8.length := by rw [← hw8, wipe_length]
        exact ⟨m', hm, i + 1, H', (I'.unpinned (pins := [])).weak hl (fun j v e => (wipe_some (by rw [hw8]; exact e)).1), T.keep _ _ _ st7 fun b hb o e => (pin' b hb o e).1, fun b hb => let ⟨o, e, _⟩ := T.obj _ _ st7 b hb; (pin' b hb o e).2, w'⟩
      cases b with
      | false => exact fin I9 q9
      | true =>
        refine thnF (pk.run _ s9 σ8 H9 _ I9 q9) fun z s10 ⟨yk, H10, I10, r10, q10⟩ => thnF (pe.run _ s10 σ8 H10 _ I10 q10) fun z2 s11 ⟨yv, H11, I11, r11, kvs, k, kk, mm, o1, o2, o3, o4, nx⟩ => ?_
        exact mx_set (X := X.blk s3 H3 scope ce fp) hu I11 mm kk o1 o2 o3 o4 r10 r11 fun s12 o' I12 m12 => fin I12 (nx o' m12)
  show codeAny _ _ (.compStart (.DictComp kx vx [⟨tg, iter, ifs, 0⟩] scope pos) 0 (.ref it) (.ref D) (compEnvC scope cl s3.heap.objs.size X.env)) (compPost (model X.prog X.w) X.A X.xe use Qf (.ref D) s3.heap.objs.size) _
  rw [hce]
  subst hs4
  exact codeAny_compStart_dict loop (T.self X.A 0 _ _ _ st4 loop)
end
section
variable {X : Cx}
theorem pe_dm {kx vx tg iter : Expr} {ifs : List Expr} {scope : Scope} {own : List (Str × Nat)} {pos : Pos} {wi : TI} {g : TG} {tt : TT} {tk tv : TE} (hu : X.A.units + 64 < cLine) (hc : X.calm = true) (hN : X.N.Nodup) (hi : PI X tg iter wi) (ok : BlkOk X.N X.env.scope scope own)
    (hg : ∀ s H C cl fp, PG (X.blk s H scope (compEnvC scope cl C X.env) fp) tg g) (ht : ∀ s H C cl fp, PTs (X.blk s H scope (compEnvC scope cl C X.env) fp) ifs tt) (hk : ∀ s H C cl fp, PE (X.blk s H scope (compEnvC scope cl C X.env) fp) kx tk) (he : ∀ s H C cl fp, PE (X.blk s H scope (compEnvC scope cl C X.env) fp) vx tv)
    (hs : ∀ x, foldedSetIterable iter X.env x = pure x := by intro _; rfl) : PE X (.DictComp kx vx [⟨tg, iter, ifs, 0⟩] scope pos) (tDm X.prog X.w wi g tt tk tv (own.map (·.2))) := by
  refine ⟨fun pins s σ H Q I h => ?_⟩
  rw [arm_eval_DictComp]
  refine dm_core hu hc hN I hi ok hg ht hk he hs h fun D C s' m H' I' q hn ⟨f0, f1, f2, f3, f4, f5⟩ => ⟨m, hn, fun h'' sb => ?_⟩
  exact ⟨.ref D, H', I'.turned (t' := s'.toks) (fun b o hb e => (sb.2 b hb).trans e) f0 f1 f3 f4 f5, rfl, q⟩
end
end MX

set_option Elab.async false
set_option linter.all false
set_option maxRecDepth 100000
set_option maxHeartbeats 4000000
namespace MX
open PySem PySem.Spec PyProof.Rows L2
section
/-- sorted(x) of anything that can be gone through, whose elements are pairs of whole numbers -/
theorem sorted_src {prog : Program} {w : World} {A : Around} {E : Value → Shared → Prop} {s : Shared} {T : String} {r d : Addr} {n : Nat} {P : Nat → Value → Prop} {OK : Heap → Prop} {vs : List Value} {k : Value → Int × Int} {Q : Value → Shared → Prop}
    (src : W.KdlSrc prog w T r d n P OK) (hh : A.handled = none) (ok : OK s.heap) (hn : n ≤ sizeLine) (det : ∀ acc, ItemsOf P acc n → acc.toList = vs) (hp : ∀ v ∈ vs, Srt.IsPair s.heap v (k v).1 (k v).2)
    (h : ∀ (h1 h' : Heap) (a : Addr) (out : List Value) (t1 t' : Nat), SrtO.Srtd (fun v u => SrtO.lexB (k v) (k u)) out → SrtO.Stb (fun v u => SrtO.lexB (k v) (k u)) out vs → (∀ (b : Addr) (o : Obj), s.heap.get? b = some o → h1.get? b = some o) → (∀ (b : Addr) (o : Obj), h1.get? b = some o → h'.get? b = some o) → h1.objs.size ≤ a →
      (∃ n, h'.get? a = some (seqObj "list" out.toArray n)) → Q (.ref a) { s with heap := h', toks := t' }) : wpAny (model prog w) A (call (.builtin "sorted") [.ref r]) Q E s := by
  refine Calls.call_function_entry kind_sorted plain_sorted entry_sorted (args_sorted1 (.ref r)) ?_
  refine wpAny_bind (wpAny_pure ?_)
  refine wpAny_bind (W.kdu_collect src hh ok hn fun h' tk acc kp it => ?_)
  have ea : acc.toList = vs := det acc it
  have len : vs.length ≤ sizeLine := by
    rw [← ea, Array.length_toList, it.1]
    exact hn
  rw [ea]
  refine wpAny_bind (wpAny_newList ?_ len)
  have hoL : (h'.push (seqObj "list" vs.toArray 0)).get? h'.objs.size = some (seqObj "list" vs.toArray 0) := Heap.get?_push_size h' rfl
  have kp3 : ∀ (b : Addr) (o : Obj), h'.get? b = some o → b ≠ h'.objs.size ∧ (h'.push (seqObj "list" vs.toArray 0)).get? b = some o := fun b o e =>
    ⟨Nat.ne_of_lt (Heap.lt_size e), Heap.get?_push_of_some (seqObj "list" vs.toArray 0) e⟩
  have kp2 : ∀ (b : Addr) (o : Obj), s.heap.get? b = some o → b ≠ h'.objs.size ∧ (h'.push (seqObj "list" vs.toArray 0)).get? b = some o := fun b o e => kp3 b o (kp b o e)
  refine wpAny_bind (wpAny_holding (wpAny_call_entry slot_list_sort ⟨seqObj "list" vs.toArray 0, hoL, rfl⟩ entry_list_sort (SrtO.list_sort_ord (SrtO.swo_lex k) hoL len (fun h2 => ?_) fun out hs hb => ⟨.none, rfl, wpAny_pure ⟨.ref h'.objs.size, rfl, ?_⟩⟩) (args_list_sort (.ref h'.objs.size))))
  · exact SrtO.pairs_sortableO (by omega) (fun v hm => Srt.IsPair.keeps (hp v hm) fun b o e _ => (kp2 b o e).2) fun o e => by
      have e' : some (seqObj "list" vs.toArray 0) = some o := hoL.symm.trans e
      cases e'
      exact fun c => absurd (Value.type.inj c) (by decide)
  · refine h h' (sortedHeap (h'.push (seqObj "list" vs.toArray 0)) h'.objs.size vs out.toArray) h'.objs.size out tk _ hs hb kp (fun b o e => ?_) (Nat.le_refl _) (sortedHeap_at hoL)
    rw [sortedHeap_old (kp3 b o e).1 (Heap.lt_size (kp3 b o e).2)]
    exact (kp3 b o e).2
variable {X : Cx}
def adr : Value → Addr
  | .ref a => a
  | _ => 0
/-- the pair of whole numbers at an address, by the description -/
def pairAt (H : Hp) : Value → Int × Int
  | .ref a => match H a with
    | some (.tup [.int i, .int j]) => (i, j)
    | _ => (0, 0)
  | _ => (0, 0)
theorem pairAt_eq {H : Hp} {a : Addr} {p : Int × Int} (e : H a = some (.tup [.int p.1, .int p.2])) : pairAt H (.ref a) = p := by
  simp only [pairAt, e]
theorem isPair_of {P : Program} {w : World} {H : Hp} {h : Heap} {a : Addr} {p : Int × Int} (ok : HOk P w H h) (e : H a = some (.tup [.int p.1, .int p.2])) : Srt.IsPair h (.ref a) p.1 p.2 := by
  obtain ⟨_, its, r, o, ho, hc, n, hd⟩ := ok a _ e
  obtain ⟨u1, u2, rfl, ⟨t1, rfl⟩, ⟨t2, rfl⟩⟩ := vals2 r
  exact ⟨a, o, t1, t2, n, rfl, ho, hc, hd⟩
def leP (p q : Int × Int) : Prop := SrtO.lexB q p = false
/-- sorted(d), d a dict whose keys are pairs of whole numbers, any number of them -/
theorem call_sortedDT (hc : X.calm = true) : CallR X (.builtin "sorted") (fun xs H Q => ∃ (a : Addr) (kvs : List (List Key × V)) (ks : List (Int × Int)), xs = [V.ref a] ∧ Rd H a (.dT kvs) ∧ kvs.map (·.1) = ks.map (fun p => [Sum.inl p.1, Sum.inl p.2]) ∧
    ∀ (bs : List Addr) (ys : List (Int × Int)) (p : Addr), ys.Perm ks → ys.Pairwise leP → Paired (fun (y : Int × Int) b => H b = some (.tup [.int y.1, .int y.2])) ys bs → H p = none → Q (.ref p) (upd H p (.lst (bs.map V.ref)))) := by
  intro pins s σ H xs us Q I r h
  obtain ⟨a, kvs, ks, rfl, hd, hks, q⟩ := h
  obtain ⟨u, rfl, rx⟩ := Vals.one r
  cases rx
  obtain ⟨z, hs, en, pr, o, es, ep, ho, hx, hdt, he, hn⟩ := Rd.ok hd I.hok
  have l1 := size_of_entries he
  have l2 := Paired.length pr
  have ln : ks.length = en.length := by
    have := congrArg List.length hks
    rw [List.length_map, List.length_map] at this
    omega
  have at_ : ∀ (kvs : List (List Key × V)) (ks : List (Int × Int)) (en : List (List Key × Addr × Value)), Paired (fun (p : List Key × V) (q : List Key × Addr × Value) => p.1 = q.1 ∧ H q.2.1 = some (.tup (p.1.map kV)) ∧ RelV p.2 q.2.2) kvs en → kvs.map (·.1) = ks.map (fun p => [Sum.inl p.1, Sum.inl p.2]) →
      Paired (fun (y : Int × Int) (q : List Key × Addr × Value) => H q.2.1 = some (.tup [.int y.1, .int y.2])) ks en := by
    intro kvs
    induction kvs with
    | nil => intro ks en pr e
             cases pr
             cases ks with
             | nil => exact .nil
             | cons => cases e
    | cons p kvs ih => intro ks en pr e
                       cases pr with
                       | cons x pr' =>
                         cases ks with
                         | nil => cases e
                         | cons k ks =>
                           rw [List.map_cons, List.map_cons] at e
                           obtain ⟨e1, e2⟩ := List.cons.inj e
                           refine .cons ?_ (ih ks _ pr' e2)
                           have := x.2.1
                           rw [e1] at this
                           exact this
  have pk := at_ kvs ks en pr hks
  have each : ∀ v ∈ en.map (fun x => Value.ref x.2.1), ∃ b y, v = .ref b ∧ H b = some (.tup [.int (Prod.fst y), .int (Prod.snd y)]) := by
    intro v hv
    obtain ⟨x, hx, rfl⟩ := List.mem_map.mp hv
    obtain ⟨y, e⟩ := Paired.right pk x hx
    exact ⟨x.2.1, y, rfl, e⟩
  refine sorted_src (k := pairAt H) (vs := en.map (fun x => Value.ref x.2.1)) (kdl_raw hs hx hdt) (I.ok.hd hc) ho (by omega) (fun acc it => ?_) (fun v hv => ?_) fun h1 h' d out t1 t' so st kp1 kp2 hsz hn' => ?_
  · apply List.ext_getElem?
    intro j
    rw [List.getElem?_map, Array.getElem?_toList]
    have qe := entry_at he j
    cases hj : acc[j]? with
    | none =>
      have hj' := Array.getElem?_eq_none_iff.mp hj
      have i1 := it.1
      rw [List.getElem?_eq_none (by omega)]
      rfl
    | some v =>
      obtain ⟨e, h1, rfl⟩ := it.2 j v hj
      rw [h1] at qe
      cases hk : en[j]? with
      | none =>
        rw [hk] at qe
        cases qe
      | some x =>
        rw [hk] at qe
        cases qe
        rfl
  · obtain ⟨b, y, rfl, e⟩ := each v hv
    rw [pairAt_eq e]
    exact isPair_of I.hok e
  · have eo : ∀ v ∈ out, ∃ b y, v = .ref b ∧ H b = some (.tup [.int (Prod.fst y), .int (Prod.snd y)]) := fun v hv => each v (st.perm.mem_iff.mp hv)
    have e1 : out.map backV = (out.map adr).map V.ref := by
      rw [List.map_map]
      refine List.map_congr_left fun v hv => ?_
      obtain ⟨b, y, rfl, e⟩ := eo v hv
      rfl
    have I1 := Inv.kept (t' := t1) I kp1
    have po : ∀ out : List Value, (∀ v ∈ out, ∃ b y, v = .ref b ∧ H b = some (.tup [.int (Prod.fst y), .int (Prod.snd y)])) → Paired (fun (y : Int × Int) b => H b = some (.tup [.int y.1, .int y.2])) (out.map (pairAt H)) (out.map adr) := by
      intro out
      induction out with
      | nil => exact fun _ => .nil
      | cons v out ih =>
        intro eo
        refine .cons ?_ (ih fun v hv => eo v (List.mem_cons_of_mem _ hv))
        obtain ⟨b, y, rfl, e⟩ := eo v List.mem_cons_self
        rw [pairAt_eq e]
        exact e
    have pm : ∀ (ks : List (Int × Int)) (en : List (List Key × Addr × Value)), Paired (fun (y : Int × Int) (q : List Key × Addr × Value) => H q.2.1 = some (.tup [.int y.1, .int y.2])) ks en → (en.map (fun x => Value.ref x.2.1)).map (pairAt H) = ks := by
      intro ks
      induction ks with
      | nil => intro en p
               cases p
               rfl
      | cons k ks ih => intro en p
                        cases p with
                        | cons x p => rw [List.map_cons, List.map_cons, pairAt_eq x, ih _ p]
    have pe := st.perm.map (pairAt H)
    rw [pm ks en pk] at pe
    obtain ⟨n, hn'⟩ := hn'
    have lo : (out.map backV).length ≤ sizeLine := by
      rw [List.length_map, st.perm.length_eq, List.length_map]
      omega
    refine ⟨V.ref d, upd H d (.lst ((out.map adr).map V.ref)), ?_, rfl, q (out.map adr) (out.map (pairAt H)) d pe (SrtO.srtd_map so) (po out eo) (HOk.fresh I1.hok hsz)⟩
    rw [← e1]
    have I2 := Inv.laid (t' := t') (o := .lst (out.map backV)) I1 kp2 hsz ⟨lo, out, n, vals_back fun u hu => let ⟨b, _, e, _⟩ := eo u hu; ⟨b, e⟩, hn'⟩
    exact I2
end
end MX

set_option Elab.async false
set_option linter.all false
set_option maxRecDepth 100000
set_option maxHeartbeats 4000000
namespace MX
open PySem PySem.Spec PyProof.Rows L2
section
/-- x in o, o of an own class with __contains__ -/
theorem contains_fn {prog : Program} {w : World} {A : Around} {E : Value → Shared → Prop} {s : Shared} {K : W.Frag} {c C f : Addr} {x : Value} {ox : Obj} {od : Option Obj} {Q : Bool → Shared → Prop} (X : K.In s.heap) (I : W.InstAt s.heap c ox C od)
    (hs : W.findIn K (.ref C) "__contains__" = some (some (.ref f))) (hf : W.isFn K (.ref f) = true) (h : wpAny (model prog w) A (call (.ref f) [.ref c, x]) (fun r s1 => ∃ b, r = .bool b ∧ Q b s1) E s) : wpAny (model prog w) A (contains (.ref c) x) Q E s := by
  refine wpAny_holding ?_
  refine wpAny_bind (wpAny_bind (W.Looks.here (W.InstAt.type I) (W.Looks.here (W.looks_findIn X hs) ?_)))
  refine wpAny_ite_false rfl ?_
  refine wpAny_bind (wpAny_bind (wpAny_bind (W.Looks.here (W.InstAt.type I) (W.Looks.here (W.looks_findIn X hs) (wpAny_holding (wpAny_bind (W.Looks.here (W.bind_fn X (.ref c) (beq_iff_eq.mp hf)) ?_)))))))
  refine wpAny_ite_false rfl ?_
  refine wpAny_bind (wpAny_mono h (fun r s1 ⟨b, e, q⟩ => ?_) fun _ _ z => z)
  subst e
  exact wpAny_pure (wpAny_pure q)
variable {X : Cx}
def rInO (X : Cx) (C : Addr) (sp : Sp) (E : XK) (neg : Bool) : R2 := fun x y H Q => ∃ a, y = .ref a ∧ StX.InsC X H a C ∧ sp [.ref a, x] H (fun z H' => ∃ b, z = .bl b ∧ Q (.bl (b != neg)) H') E
theorem op_inO {CX : CXT} {C g : Addr} {n : Nat} {sp : Sp} {E : XK} (hs : W.findIn X.K (.ref C) "__contains__" = some (some (.ref g))) (hf : W.isFn X.K (.ref g) = true) (F : FnR X.prog X.w X.K X.mg X.base CX n g sp) (hr : Room n X.A) (hx : Passes CX X E) : OpR X (compareOp .In) (rInO X C sp E false) := by
  intro pins s σ H x y v u Q I rx ry h
  obtain ⟨a, rfl, hi, q⟩ := h
  cases ry
  obtain ⟨ox, od, J, _⟩ := StX.insC_at I hi
  have vv : Vals [V.ref a, x] [.ref a, v] := .cons (show L2.RelV (V.ref a) (.ref a) from rfl) (.cons rx .nil)
  refine wpAny_bind (contains_fn I.kIn J hs hf (wpAny_mono (wpAny_call (SlX.run_at F hr I.env0 hx I vv q)) (fun r s1 z => ?_) fun _ _ z => z))
  obtain ⟨z', H', I', rz, b, rfl, qz⟩ := z
  cases rz
  refine ⟨b, rfl, wpAny_pure ⟨.bl b, H', I', rfl, ?_⟩⟩
  cases b <;> exact qz
theorem op_ninO {CX : CXT} {C g : Addr} {n : Nat} {sp : Sp} {E : XK} (hs : W.findIn X.K (.ref C) "__contains__" = some (some (.ref g))) (hf : W.isFn X.K (.ref g) = true) (F : FnR X.prog X.w X.K X.mg X.base CX n g sp) (hr : Room n X.A) (hx : Passes CX X E) : OpR X (compareOp .NotIn) (rInO X C sp E true) := by
  intro pins s σ H x y v u Q I rx ry h
  obtain ⟨a, rfl, hi, q⟩ := h
  cases ry
  obtain ⟨ox, od, J, _⟩ := StX.insC_at I hi
  have vv : Vals [V.ref a, x] [.ref a, v] := .cons (show L2.RelV (V.ref a) (.ref a) from rfl) (.cons rx .nil)
  refine wpAny_bind (contains_fn I.kIn J hs hf (wpAny_mono (wpAny_call (SlX.run_at F hr I.env0 hx I vv q)) (fun r s1 z => ?_) fun _ _ z => z))
  obtain ⟨z', H', I', rz, b, rfl, qz⟩ := z
  cases rz
  refine ⟨b, rfl, wpAny_pure ⟨.bl !b, H', I', rfl, ?_⟩⟩
  cases b <;> exact qz
end
end MX

set_option Elab.async false
set_option linter.all false
set_option maxRecDepth 100000
set_option maxHeartbeats 4000000
namespace MX
open PySem PySem.Spec PyProof.Rows L2
section
theorem looks_ty {M : Model} {s : Shared} {v : Value} {U : String} (t : s.TypeIs v U) : W.Looks M s.heap (typeOf v) (.type U) := by
  intro A Q E s' kp q
  refine wpAny_typeOf (T := U) ?_ q
  cases v <;> first | exact t | exact let ⟨o, h1, h2⟩ := t; ⟨o, kp _ _ h1, h2⟩
theorem looks_eq {α : Type} {M : Model} {h : Heap} {t : Sem α} {r : α} (e : t = pure r) : W.Looks M h t r := fun _ _ _ _ _ q => by
  rw [e]
  exact wpAny_pure q
/-- o op y, o of an own class, y of another type whose slot is no number's -/
theorem binop_other {prog : Program} {w : World} {A : Around} {E : Value → Shared → Prop} {s : Shared} {K : W.Frag} {x C f : Addr} {ox : Obj} {od : Option Obj} {op : Operator} {b tb : Value} {Q : Value → Shared → Prop} (X : K.In s.heap) (I : W.InstAt s.heap x ox C od)
    (hb : W.Looks (model prog w) s.heap (typeOf b) tb) (ne : (Value.ref C == tb) = false) (hr : W.Looks (model prog w) s.heap (fillsNumberSlot tb op.info.2) false) (hc : W.selfFirst K C = true)
    (hs : W.findIn K (.ref C) (dunder op.info.2) = some (some (.ref f))) (hf : W.isFn K (.ref f) = true) (h : wpAny (model prog w) A (call (.ref f) [.ref x, b]) (W.CmpBack Q) E s) : wpAny (model prog w) A (binaryOp op (.ref x) b) Q E s := by
  obtain ⟨cd, hcd, hm⟩ := W.any_some hc
  have hm2 : ∃ rest, cd.mro = Value.ref C :: rest := by
    cases e : cd.mro with
    | nil => rw [e] at hm; cases hm
    | cons a r =>
      rw [e, List.head?_cons] at hm
      cases beq_iff_eq.mp hm
      exact ⟨r, rfl⟩
  obtain ⟨rest, hm⟩ := hm2
  have hl : W.Looks (model prog w) s.heap (fillsNumberSlot (.ref C) op.info.2) true := W.fills_K X hcd hm hs
  refine wpAny_holding (wpAny_bind ?_)
  show wpAny _ _ (binaryOp1 op.info.2 (.ref x) b) _ _ _
  refine wpAny_bind (W.Looks.here (W.InstAt.type I) (wpAny_bind (W.Looks.here hb (wpAny_bind (W.Looks.here hl ?_)))))
  refine wpAny_ite_false (decide_eq_false (by rw [ne]; exact Bool.false_ne_true)) ?_
  refine wpAny_bind (W.Looks.here hr ?_)
  refine wpAny_ite_false rfl ?_
  refine wpAny_ite_false rfl ?_
  refine wpAny_ite_false rfl ?_
  refine wpAny_bind (wpAny_pure ?_)
  refine wpAny_ite_false rfl ?_
  refine wpAny_ite_true rfl ?_
  refine wpAny_bind (wpAny_bind (W.special_fn X I hs (beq_iff_eq.mp hf) (wpAny_mono h (fun v s1 z => ?_) fun _ _ z => z)))
  cases v <;> first | exact z.elim | exact wpAny_pure (wpAny_pure (wpAny_pure z))
/-- the same, the other's slot being a number's, of a built-in type -/
theorem binop_num {prog : Program} {w : World} {A : Around} {E : Value → Shared → Prop} {s : Shared} {K : W.Frag} {x C f : Addr} {ox : Obj} {od : Option Obj} {op : Operator} {b : Value} {U : String} {lp : Bool} {tk : Option Value} {Q : Value → Shared → Prop} (X : K.In s.heap) (I : W.InstAt s.heap x ox C od)
    (hb : W.Looks (model prog w) s.heap (typeOf b) (.type U)) (hr : W.Looks (model prog w) s.heap (fillsNumberSlot (.type U) op.info.2) true) (hu : W.Looks (model prog w) s.heap (isSubtype (.type U) (.ref C)) false) (hp : W.Looks (model prog w) s.heap (numberSlotInPython (.ref C) op.info.2) lp)
    (ht : W.Looks (model prog w) s.heap (typeLookup (.type U) (dunderR op.info.2)) tk) (hc : W.selfFirst K C = true)
    (hs : W.findIn K (.ref C) (dunder op.info.2) = some (some (.ref f))) (hf : W.isFn K (.ref f) = true) (h : wpAny (model prog w) A (call (.ref f) [.ref x, b]) (W.CmpBack Q) E s) : wpAny (model prog w) A (binaryOp op (.ref x) b) Q E s := by
  obtain ⟨cd, hcd, hm⟩ := W.any_some hc
  have hm2 : ∃ rest, cd.mro = Value.ref C :: rest := by
    cases e : cd.mro with
    | nil => rw [e] at hm; cases hm
    | cons a r =>
      rw [e, List.head?_cons] at hm
      cases beq_iff_eq.mp hm
      exact ⟨r, rfl⟩
  obtain ⟨rest, hm⟩ := hm2
  have hl : W.Looks (model prog w) s.heap (fillsNumberSlot (.ref C) op.info.2) true := W.fills_K X hcd hm hs
  refine wpAny_holding (wpAny_bind ?_)
  show wpAny _ _ (binaryOp1 op.info.2 (.ref x) b) _ _ _
  refine wpAny_bind (W.Looks.here (W.InstAt.type I) (wpAny_bind (W.Looks.here hb (wpAny_bind (W.Looks.here hl ?_)))))
  refine wpAny_ite_false (decide_eq_false fun e => nomatch (beq_iff_eq.mp e)) ?_
  refine wpAny_bind (W.Looks.here hr ?_)
  refine wpAny_ite_true rfl ?_
  refine wpAny_bind (W.Looks.here hu ?_)
  refine wpAny_ite_false rfl ?_
  refine wpAny_ite_false rfl ?_
  refine wpAny_ite_true rfl ?_
  refine wpAny_bind (W.Looks.here hp ?_)
  have fin : ∀ tk2 : Option Value, wpAny (model prog w) A (tryMethod (.ref x) (dunder op.info.2) b) (fun r s' => ∃ v, r = some v ∧ Q v s') E s := fun _ =>
    wpAny_bind (W.special_fn X I hs (beq_iff_eq.mp hf) (wpAny_mono h (fun v s1 z => by cases v <;> first | exact z.elim | exact wpAny_pure ⟨_, rfl, z⟩) fun _ _ z => z))
  cases lp with
  | true =>
    refine wpAny_ite_true rfl ?_
    refine wpAny_bind (wpAny_pure ?_)
    refine wpAny_ite_true rfl ?_
    refine wpAny_bind (W.Looks.here ht ?_)
    refine wpAny_ite_true rfl ?_
    refine wpAny_bind (wpAny_mono (fin tk) (fun r s1 ⟨v, e, q⟩ => ?_) fun _ _ z => z)
    subst e
    exact wpAny_pure (wpAny_pure q)
  | false =>
    refine wpAny_ite_false rfl ?_
    refine wpAny_ite_true rfl ?_
    refine wpAny_bind (wpAny_mono (fin tk) (fun r s1 ⟨v, e, q⟩ => ?_) fun _ _ z => z)
    subst e
    exact wpAny_pure (wpAny_pure q)
example : fillsNumberSlot (.type "tuple") "sub" = pure false := by rfl
example : fillsNumberSlot (.type "tuple") "add" = pure false := by rfl
example : fillsNumberSlot (.type "int") "add" = pure true := by rfl
end
end MX

set_option Elab.async false
set_option linter.all false
set_option maxRecDepth 100000
set_option maxHeartbeats 4000000
namespace MX
open PySem PySem.Spec PyProof.Rows L2
section
variable {X : Cx}
theorem looks_nsp {M : Model} {h : Heap} {K : W.Frag} {C f : Addr} {nm : String} {rr : Option Value} (k : K.In h) (hs : W.findIn K (.ref C) (dunder nm) = some (some (.ref f))) (hr : W.findIn K (.ref C) (dunderR nm) = some rr) (ok : rr = none ∨ ∃ g, rr = some (.ref g)) : W.Looks M h (numberSlotInPython (.ref C) nm) true := by
  intro A Q E s kp q
  refine wpAny_bind (W.looks_findIn k hs A _ E s kp ?_)
  refine wpAny_bind (wpAny_pure ?_)
  refine wpAny_bind (W.looks_findIn k hr A _ E s kp ?_)
  rcases ok with rfl | ⟨g, rfl⟩
  · exact wpAny_bind (wpAny_pure (wpAny_ite_true rfl (wpAny_pure q)))
  · exact wpAny_bind (wpAny_pure (wpAny_ite_true rfl (wpAny_pure q)))
/-- what is known of a built-in type at the right of an own class's operator -/
def OthU (nm U : String) : Prop := fillsNumberSlot (.type U) nm = pure false ∨ (fillsNumberSlot (.type U) nm = pure true ∧ (∀ C, isSubtype (.type U) (.ref C) = pure false) ∧ ∃ tk, typeLookup (.type U) (dunderR nm) = pure tk)
def TyV (X : Cx) (H : Hp) (y : V) (U : String) : Prop := ∀ (pins : List (Addr × Obj)) (σ : L2.St) (s : Shared) (v : Value), Inv X pins σ H s → RelV y v → s.TypeIs v U
theorem ty_int {H : Hp} {n : Int} : TyV X H (.int n) "int" := fun _ _ _ _ _ r => by
  obtain ⟨t, rfl⟩ := r
  rfl
theorem ty_bl {H : Hp} {b : Bool} : TyV X H (.bl b) "bool" := fun _ _ _ _ _ r => by
  cases r
  rfl
theorem ty_str {H : Hp} {z : Str} : TyV X H (.str z) "str" := fun _ _ _ _ _ r => by
  obtain ⟨t, rfl⟩ := r
  rfl
theorem ty_non {H : Hp} : TyV X H .non "NoneType" := fun _ _ _ _ _ r => by
  cases r
  rfl
theorem ty_tup {H : Hp} {a : Addr} {xs : List V} (e : H a = some (.tup xs)) : TyV X H (.ref a) "tuple" := fun _ _ _ _ I r => by
  cases r
  obtain ⟨_, its, r, o, ho, hc, n, hd⟩ := I.hok a _ e
  exact ⟨o, ho, hc⟩
theorem ty_lst {H : Hp} {a : Addr} {xs : List V} (e : H a = some (.lst xs)) : TyV X H (.ref a) "list" := fun _ _ _ _ I r => by
  cases r
  obtain ⟨_, its, n, rv, ho⟩ := I.hok a _ e
  exact ⟨_, ho, rfl⟩
def rBinO (X : Cx) (C : Addr) (nm : String) (sp : Sp) (E : XK) : R2 := fun x y H Q => ∃ a U, x = .ref a ∧ StX.InsC X H a C ∧ TyV X H y U ∧ OthU nm U ∧ sp [.ref a, y] H Q E
/-- o op y, o of an own class with this operator, y of a built-in type -/
theorem op_binO {CX : CXT} {C g : Addr} {n : Nat} {sp : Sp} {E : XK} {op : Operator} {rr : Option Value} (hc : W.selfFirst X.K C = true) (hs : W.findIn X.K (.ref C) (dunder op.info.2) = some (some (.ref g))) (hrr : W.findIn X.K (.ref C) (dunderR op.info.2) = some rr) (okr : rr = none ∨ ∃ g, rr = some (.ref g)) (hf : W.isFn X.K (.ref g) = true)
    (F : FnR X.prog X.w X.K X.mg X.base CX n g sp) (hr : Room n X.A) (hx : Passes CX X E) : OpR X (binaryOp op) (rBinO X C op.info.2 sp E) := by
  intro pins s σ H x y v u Q I rx ry h
  obtain ⟨a, U, rfl, hi, ty, ot, q⟩ := h
  cases rx
  obtain ⟨ox, od, J, _⟩ := StX.insC_at I hi
  have vv : Vals [V.ref a, y] [.ref a, u] := .cons (show L2.RelV (V.ref a) (.ref a) from rfl) (.cons ry .nil)
  have run : wpAny (model X.prog X.w) X.A (call (.ref g) [.ref a, u]) (W.CmpBack (EP X pins σ Q)) X.xe s := wpAny_mono (wpAny_call (SlX.run_at F hr I.env0 hx I vv q)) (fun r s1 z => by
    obtain ⟨z', H', I', rz, qz⟩ := z
    exact SlX.cmpback rz ⟨z', H', I', rz, qz⟩) fun _ _ z => z
  have hb := looks_ty (M := model X.prog X.w) (ty pins σ s u I ry)
  rcases ot with o | ⟨o, su, tk, et⟩
  · exact binop_other I.kIn J hb (beq_eq_false_iff_ne.mpr fun e => nomatch e) (looks_eq o) hc hs hf run
  · exact binop_num I.kIn J hb (looks_eq o) (looks_eq (su C)) (looks_nsp I.kIn hs hrr okr) (looks_eq et) hc hs hf run
/-- o op p, both of one own class -/
def rBinS (X : Cx) (C : Addr) (sp : Sp) (E : XK) : R2 := fun x y H Q => ∃ a b, x = .ref a ∧ y = .ref b ∧ StX.InsC X H a C ∧ StX.InsC X H b C ∧ sp [.ref a, .ref b] H Q E
theorem binop_same {prog : Program} {w : World} {A : Around} {E : Value → Shared → Prop} {s : Shared} {K : W.Frag} {x C f : Addr} {ox : Obj} {od : Option Obj} {op : Operator} {b : Value} {Q : Value → Shared → Prop} (X : K.In s.heap) (I : W.InstAt s.heap x ox C od)
    (hb : W.Looks (model prog w) s.heap (typeOf b) (.ref C)) (hc : W.selfFirst K C = true)
    (hs : W.findIn K (.ref C) (dunder op.info.2) = some (some (.ref f))) (hf : W.isFn K (.ref f) = true) (h : wpAny (model prog w) A (call (.ref f) [.ref x, b]) (W.CmpBack Q) E s) : wpAny (model prog w) A (binaryOp op (.ref x) b) Q E s := by
  obtain ⟨cd, hcd, hm⟩ := W.any_some hc
  have hm2 : ∃ rest, cd.mro = Value.ref C :: rest := by
    cases e : cd.mro with
    | nil => rw [e] at hm; cases hm
    | cons a r =>
      rw [e, List.head?_cons] at hm
      cases beq_iff_eq.mp hm
      exact ⟨r, rfl⟩
  obtain ⟨rest, hm⟩ := hm2
  have hl : W.Looks (model prog w) s.heap (fillsNumberSlot (.ref C) op.info.2) true := W.fills_K X hcd hm hs
  refine wpAny_holding (wpAny_bind ?_)
  show wpAny _ _ (binaryOp1 op.info.2 (.ref x) b) _ _ _
  refine wpAny_bind (W.Looks.here (W.InstAt.type I) (wpAny_bind (W.Looks.here hb (wpAny_bind (W.Looks.here hl ?_)))))
  refine wpAny_ite_true (decide_eq_true (beq_self_eq_true _)) ?_
  refine wpAny_bind (wpAny_pure ?_)
  refine wpAny_ite_false rfl ?_
  refine wpAny_ite_false rfl ?_
  refine wpAny_ite_false rfl ?_
  refine wpAny_bind (wpAny_pure ?_)
  refine wpAny_ite_false rfl ?_
  refine wpAny_ite_true rfl ?_
  refine wpAny_bind (wpAny_bind (W.special_fn X I hs (beq_iff_eq.mp hf) (wpAny_mono h (fun v s1 z => ?_) fun _ _ z => z)))
  cases v <;> first | exact z.elim | exact wpAny_pure (wpAny_pure (wpAny_pure z))
theorem op_binS {CX : CXT} {C g : Addr} {n : Nat} {sp : Sp} {E : XK} {op : Operator} (hc : W.selfFirst X.K C = true) (hs : W.findIn X.K (.ref C) (dunder op.info.2) = some (some (.ref g))) (hf : W.isFn X.K (.ref g) = true)
    (F : FnR X.prog X.w X.K X.mg X.base CX n g sp) (hr : Room n X.A) (hx : Passes CX X E) : OpR X (binaryOp op) (rBinS X C sp E) := by
  intro pins s σ H x y v u Q I rx ry h
  obtain ⟨a, b, rfl, rfl, hi, hj, q⟩ := h
  cases rx
  cases ry
  obtain ⟨ox, od, J, _⟩ := StX.insC_at I hi
  obtain ⟨oy, oe, J2, _⟩ := StX.insC_at I hj
  have vv : Vals [V.ref a, V.ref b] [.ref a, .ref b] := .cons (show L2.RelV (V.ref a) (.ref a) from rfl) (.cons (show L2.RelV (V.ref b) (.ref b) from rfl) .nil)
  have run : wpAny (model X.prog X.w) X.A (call (.ref g) [.ref a, .ref b]) (W.CmpBack (EP X pins σ Q)) X.xe s := wpAny_mono (wpAny_call (SlX.run_at F hr I.env0 hx I vv q)) (fun r s1 z => by
    obtain ⟨z', H', I', rz, qz⟩ := z
    exact SlX.cmpback rz ⟨z', H', I', rz, qz⟩) fun _ _ z => z
  exact binop_same I.kIn J (W.InstAt.type J2) hc hs hf run
theorem oth_add_tuple : OthU "add" "tuple" := .inl rfl
theorem oth_add_list : OthU "add" "list" := .inl rfl
theorem oth_add_str : OthU "add" "str" := .inl rfl
theorem oth_add_dict : OthU "add" "dict" := .inl rfl
theorem oth_add_none : OthU "add" "NoneType" := .inl rfl
theorem oth_add_int : OthU "add" "int" := .inr ⟨rfl, fun _ => rfl, _, rfl⟩
theorem oth_add_bool : OthU "add" "bool" := .inr ⟨rfl, fun _ => rfl, _, rfl⟩
theorem oth_sub_tuple : OthU "sub" "tuple" := .inl rfl
theorem oth_sub_list : OthU "sub" "list" := .inl rfl
theorem oth_sub_str : OthU "sub" "str" := .inl rfl
theorem oth_sub_dict : OthU "sub" "dict" := .inl rfl
theorem oth_sub_none : OthU "sub" "NoneType" := .inl rfl
theorem oth_sub_int : OthU "sub" "int" := .inr ⟨rfl, fun _ => rfl, _, rfl⟩
theorem oth_sub_bool : OthU "sub" "bool" := .inr ⟨rfl, fun _ => rfl, _, rfl⟩
theorem oth_mul_int : OthU "mul" "int" := .inr ⟨rfl, fun _ => rfl, _, rfl⟩
end
end MX

set_option Elab.async false
set_option linter.all false
set_option maxRecDepth 100000
set_option maxHeartbeats 4000000
namespace MX
open PySem PySem.Spec PyProof.Rows L2
section
variable {X : Cx}
/-- o op y by an own comparison, y of a built-in type, or of an own class -/
def rCmpO (X : Cx) (C : Addr) (sp : Sp) (E : XK) : R2 := fun x y H Q => ∃ a, x = .ref a ∧ StX.InsC X H a C ∧ ((∃ U, TyV X H y U ∧ W.notFirst X.K C (.type U) = true) ∨ ∃ b C', y = .ref b ∧ StX.InsC X H b C' ∧ W.notFirst X.K C (.ref C') = true) ∧ sp [.ref a, y] H Q E
theorem op_cmpO {CX : CXT} {C g : Addr} {n : Nat} {sp : Sp} {E : XK} {op : CmpOp} (hop : ∀ a b, compareOp op a b = richCompare op a b) (hs : W.findIn X.K (.ref C) (cmpInfo op).2.1 = some (some (.ref g))) (hf : W.isFn X.K (.ref g) = true)
    (F : FnR X.prog X.w X.K X.mg X.base CX n g sp) (hr : Room n X.A) (hx : Passes CX X E) : OpR X (compareOp op) (rCmpO X C sp E) := by
  intro pins s σ H x y v u Q I rx ry h
  obtain ⟨a, rfl, hi, ty, q⟩ := h
  cases rx
  obtain ⟨ox, od, J, _⟩ := StX.insC_at I hi
  have vv : Vals [V.ref a, y] [.ref a, u] := .cons (show L2.RelV (V.ref a) (.ref a) from rfl) (.cons ry .nil)
  have run : wpAny (model X.prog X.w) X.A (call (.ref g) [.ref a, u]) (W.CmpBack (EP X pins σ Q)) X.xe s := wpAny_mono (wpAny_call (SlX.run_at F hr I.env0 hx I vv q)) (fun r s1 z => by
    obtain ⟨z', H', I', rz, qz⟩ := z
    exact SlX.cmpback rz ⟨z', H', I', rz, qz⟩) fun _ _ z => z
  obtain ⟨m, hF⟩ := I.fr
  rw [hop]
  rcases ty with ⟨U, ty, nf⟩ | ⟨b, C', rfl, hj, nf⟩
  · exact W.cmp_K (Room.units0 hr) hF I.ok.mod.kin J (looks_ty (ty pins σ s u I ry)) nf hs hf run
  · cases ry
    obtain ⟨oy, oe, J2, _⟩ := StX.insC_at I hj
    exact W.cmp_K (Room.units0 hr) hF I.ok.mod.kin J (W.InstAt.type J2) nf hs hf run
theorem room_in1 {n : Nat} {A : Around} (r : Room (n + 1) A) : Room n A.in1 := Room.in1 r
/-- len(o), o of an own class with __len__ -/
def rLenO (X : Cx) (C : Addr) (sp : Sp) (E : XK) : List V → Hp → VK → Prop := fun xs H Q => ∃ a, xs = [.ref a] ∧ StX.InsC X H a C ∧ sp [.ref a] H (fun z H' => ∃ n : Nat, z = .int n ∧ n < 2 ^ 62 ∧ Q (.int n) H') E
theorem call_lenO {CX : CXT} {C g : Addr} {n : Nat} {sp : Sp} {E : XK} (hs : W.findIn X.K (.ref C) "__len__" = some (some (.ref g))) (hf : W.isFn X.K (.ref g) = true) (F : FnR X.prog X.w X.K X.mg X.base CX n g sp) (hr : Room (n + 1) X.A) (hx : Passes CX X E) : CallR X (.builtin "len") (rLenO X C sp E) := by
  intro pins s σ H xs us Q I r h
  obtain ⟨a, rfl, hi, q⟩ := h
  obtain ⟨u, rfl, rx⟩ := Vals.one r
  cases rx
  obtain ⟨ox, od, J, _⟩ := StX.insC_at I hi
  have vv : Vals [V.ref a] [.ref a] := .cons (show L2.RelV (V.ref a) (.ref a) from rfl) .nil
  refine Calls.call_function_entry kind_len plain_len entry_len (by rfl) ?_
  refine wpAny_bind (show wpAny _ _ (pure (Value.ref a)) _ _ _ from wpAny_pure ?_)
  refine wpAny_bind (W.special_fn I.kIn J hs (beq_iff_eq.mp hf) (wpAny_mono (wpAny_call (SlX.run_at F (room_in1 hr) (Env0.in1 I.env0) hx I vv q)) (fun r s1 z => ?_) fun _ _ z => z))
  obtain ⟨z', H', I', rz, m, rfl, lt, qz⟩ := z
  obtain ⟨t, rfl⟩ := rz
  refine wpAny_bind (wpAny_holding (show wpAny _ _ (pure (m : Int)) _ _ _ from wpAny_pure ?_))
  refine wpAny_bind (wpAny_letGo ?_)
  refine wpAny_ite_false (decide_eq_false (by omega)) ?_
  refine wpAny_ite_false (decide_eq_false (by omega)) ?_
  refine wpAny_bind (wpAny_mkInt (wpAny_pure ⟨_, rfl, .int m, H', I'.tok _, ⟨_, rfl⟩, qz⟩))
end
end MX

set_option Elab.async false
set_option linter.all false
set_option maxRecDepth 100000
set_option maxHeartbeats 4000000
namespace MX
open PySem PySem.Spec PyProof.Rows L2 ItX
section
variable {X : Cx}
theorem next_of {P : Program} {w : World} {A : Around} {E : Value → Shared → Prop} {s : Shared} {it l : Addr} {i : Nat} {Q : Option Value → Shared → Prop} (h : s.heap.get? it = some (GNX.itObj l i)) (q : Q (some (.builtin "list_iterator.__next__")) s) : wpAny (model P w) A (specialOf (.ref it) "__next__") Q E s := by
  refine wpAny_bind (wpAny_typeOf (T := "list_iterator") ⟨_, h, rfl⟩ ?_)
  exact wpAny_of_eq (a := some (.builtin "list_iterator.__next__")) (by rfl) q
/-- iter(o), o of an own class whose __iter__ gives a list's iterator -/
theorem pyIter_fn {prog : Program} {w : World} {A : Around} {E : Value → Shared → Prop} {s : Shared} {K : W.Frag} {x C f : Addr} {ox : Obj} {od : Option Obj} {Q : Value → Shared → Prop} (X : K.In s.heap) (I : W.InstAt s.heap x ox C od)
    (hs : W.findIn K (.ref C) "__iter__" = some (some (.ref f))) (hf : W.isFn K (.ref f) = true) (h : wpAny (model prog w) A (call (.ref f) [.ref x]) (fun r s1 => ∃ it l i, r = .ref it ∧ s1.heap.get? it = some (GNX.itObj l i) ∧ Q r s1) E s) : wpAny (model prog w) A (pyIter (.ref x)) Q E s := by
  have fin : wpAny (model prog w) A (call (.ref f) [.ref x]) (fun r s1 => wpAny (model prog w) A (do let t ← specialOf r "__next__"; match t with
        | none => do
          rule "iter.non-iterator"
          let n ← typeNameOf r
          raiseErrorMade "TypeError" (toString "iter() returned non-iterator of type '" ++ toString n ++ toString "'")
        | some _ => pure r) Q E s1) E s := wpAny_mono h (fun r s1 ⟨it, l, i, e, g, q⟩ => by
    subst e
    exact wpAny_bind (next_of g (wpAny_pure q))) fun _ _ z => z
  refine wpAny_bind (wpAny_bind (W.Looks.here (W.InstAt.type I) (W.Looks.here (W.looks_findIn X hs) ?_)))
  refine wpAny_bind (wpAny_holding (wpAny_bind (wpAny_bind (wpAny_bind (W.Looks.here (W.InstAt.type I) (W.Looks.here (W.looks_findIn X hs) (wpAny_bind (wpAny_askSetting (wpAny_ite ?_)))))))))
  split
  · refine wpAny_bind (W.Looks.here (W.bind_fn X (.ref x) (beq_iff_eq.mp hf)) (wpAny_pure (wpAny_ite_false rfl ?_)))
    exact wpAny_bind (wpAny_mono fin (fun v s' h' => wpAny_pure h') fun _ _ h' => h')
  · refine wpAny_tryCatch (wpAny_bind (W.Looks.here (W.bind_fn X (.ref x) (beq_iff_eq.mp hf)) (wpAny_pure (wpAny_ite_false rfl ?_))))
    exact wpAny_bind (wpAny_mono fin (fun v s' h' => wpAny_pure h') fun _ _ h' => h')
/-- e gone through, an instance of an own class with __iter__, which gives a list's iterator -/
def iOwnIt (X : Cx) (C : Addr) (sp : Sp) (E : XK) (te : TE) : TI := fun σ H R => te σ H fun x H1 => ∃ a, x = .ref a ∧ StX.InsC X H1 a C ∧ sp [.ref a] H1 (fun z H2 => ∃ it l i0, z = .ref it ∧ H2 it = some (ItO l it i0) ∧ X.s_0.heap.objs.size ≤ it ∧ R (ItlF X.K l i0) (dropH H2 it)) E
theorem pi_ownIt {CX : CXT} {C g : Addr} {n : Nat} {sp : Sp} {E : XK} {tg e : Expr} {te : TE} (ht : PE X e te) (hs : W.findIn X.K (.ref C) "__iter__" = some (some (.ref g))) (hf : W.isFn X.K (.ref g) = true) (F : FnR X.prog X.w X.K X.mg X.base CX n g sp) (hr : Room n X.A) (hx : Passes CX X E) : PI X tg e (iOwnIt X C sp E te) := by
  refine ⟨fun pins s σ H R I h => ?_⟩
  refine thn (ht.run pins s σ H _ I h) fun u s1 x => ?_
  obtain ⟨v, H1, I1, r1, a, rfl, hi, q⟩ := x
  cases r1
  obtain ⟨ox, od, J, _⟩ := StX.insC_at I1 hi
  have vv : Vals [V.ref a] [.ref a] := .cons (show L2.RelV (V.ref a) (.ref a) from rfl) .nil
  refine pyIter_fn I1.kIn J hs hf (wpAny_mono (wpAny_call (SlX.run_at F hr I1.env0 hx I1 vv q)) (fun r s2 z => ?_) fun _ _ z => z)
  obtain ⟨z', H2, I2, rz, it, l, i0, rfl, hit, hn, q2⟩ := z
  cases rz
  have eo := itO_get I2 hit
  refine ⟨it, l, i0, rfl, eo, it, [it], _, ItlF X.K l i0, dropH H2 it, rfl, inv_drop I2 hit, turn_listF l it i0, ⟨GNX.itObj l i0, eo, rfl, rfl⟩, fun b hb => ?_, q2⟩
  rw [List.mem_singleton] at hb
  subst hb
  exact inv_fp I2 hit hn
end
end MX

set_option Elab.async false
set_option linter.all false
set_option maxRecDepth 100000
set_option maxHeartbeats 4000000
namespace MX
open PySem PySem.Spec PyProof.Rows L2
section
variable {X : Cx}
/-- repr(o), o of an own class with __repr__ -/
def rReprO (X : Cx) (C : Addr) (sp : Sp) (E : XK) : List V → Hp → VK → Prop := fun xs H Q => ∃ a, xs = [.ref a] ∧ StX.InsC X H a C ∧ sp [.ref a] H (fun z H' => ∃ y, z = .str y ∧ Q (.str y) H') E
theorem call_reprO {CX : CXT} {C g : Addr} {n : Nat} {sp : Sp} {E : XK} (hs : W.findIn X.K (.ref C) "__repr__" = some (some (.ref g))) (hf : W.isFn X.K (.ref g) = true) (F : FnR X.prog X.w X.K X.mg X.base CX n g sp) (hr : Room (n + 1) X.A) (hx : Passes CX X E) : CallR X (.builtin "repr") (rReprO X C sp E) := by
  intro pins s σ H xs us Q I r h
  obtain ⟨a, rfl, hi, q⟩ := h
  obtain ⟨u, rfl, rx⟩ := Vals.one r
  cases rx
  obtain ⟨ox, od, J, _⟩ := StX.insC_at I hi
  have vv : Vals [V.ref a] [.ref a] := .cons (show L2.RelV (V.ref a) (.ref a) from rfl) .nil
  refine Calls.call_function_entry (b := Builtin.repr) (by rfl) (by rfl) (by rfl) (by rfl) ?_
  refine wpAny_bind (show wpAny _ _ (pure (Value.ref a)) _ _ _ from wpAny_pure ?_)
  refine wpAny_bind (wpAny_cRoomFor (Room.units0 (room_in1 hr)) ?_)
  refine wpAny_bind (wpAny_bind (W.Looks.here (W.InstAt.type J) (W.Looks.here (W.looks_findIn I.kIn hs) ?_)))
  refine wpAny_ite_false rfl ?_
  refine wpAny_bind (W.ifBound_K I.kIn J hs hf (wpAny_mono (wpAny_call (SlX.run_at F (room_in1 hr) (Env0.in1 I.env0) hx I vv q)) (fun r s1 z => ?_) fun _ _ z => z))
  obtain ⟨z', H', I', rz, y, rfl, qz⟩ := z
  obtain ⟨t, rfl⟩ := rz
  refine wpAny_bind (wpAny_isInstance (T := "str") (b := true) rfl (by rfl) ?_)
  refine wpAny_ite_true rfl ?_
  exact wpAny_pure ⟨_, rfl, .str y, H', I', ⟨t, rfl⟩, qz⟩
end
end MX

set_option Elab.async false
set_option linter.all false
set_option maxRecDepth 100000
set_option maxHeartbeats 4000000
namespace MX
open PySem PySem.Spec PyProof.Rows L2
section
variable {prog : Program} {w : World} {A : Around} {E : Value → Shared → Prop} {s : Shared} {xs : List (TK × Value × Value)} {k : TK} {d : Addr} {key : Value}
/-- d[key], there -/
theorem getItem_T {v : Value} {Q : Value → Shared → Prop} (hu : A.units + 100 < cLine) (hkey : isT prog w s.heap k key) (ok : okT k = true) (hm : TabIs prog w s.heap d xs) (hs : MixS xs key) (e : atT xs k = some v) (q : Q v { s with toks := s.toks + drawsT k }) : wpAny (model prog w) A (getItem (.ref d) key) Q E s := by
  unfold getItem
  try with_reducible refine wpAny_holding ?_
  refine wpAny_bind (wpAny_sequenceKey hm.typeIs (by decide) ?_)
  refine wpAny_bind (wpAny_callSpecial?_slot (name := Str.ofString "__getitem__") hm.typeIs F.slot_dict_getitem (wpAny_call_entry F.slot_dict_getitem hm.typeIs F.entry_dict_getitem ?_ (args_dict_getitem _ _)))
  show wpAny _ _ (dictGet d key >>= _) _ _ s
  refine wpAny_bind (get_T (by show A.units + 1 + 64 < cLine; omega) hkey ok hm hs ?_)
  rw [e]
  exact wpAny_pure ⟨v, rfl, wpAny_pure q⟩
end
section
variable {X : Cx}
/-- d[y] of a dict with keys of all kinds, there -/
def atM (kvs : List (TK × V)) (k : TK) : Option V := (kvs.find? fun p => decide (p.1 = k)).map (·.2)
theorem atM_rel {H : Hp} {k : TK} {v : V} : ∀ {kvs : List (TK × V)} {es0 : List (TK × Value × Value)}, Paired (EntAt H) kvs es0 → atM kvs k = some v → ∃ u, atT es0 k = some u ∧ RelV v u
  | _, _, .nil, e => by cases e
  | p :: kvs, y :: es0, .cons x t, e => by
    unfold atM at e
    unfold atT
    by_cases h : p.1 = k
    · rw [List.find?_cons_of_pos (by simpa using h)] at e
      rw [List.find?_cons_of_pos (by rw [← x.1]; simpa using h)]
      cases e
      exact ⟨_, rfl, x.2.2⟩
    · rw [List.find?_cons_of_neg (by simpa using h)] at e
      rw [List.find?_cons_of_neg (by rw [← x.1]; simpa using h)]
      exact atM_rel t e
def rIxM (P : Program) (w : World) : R2 := fun x y H Q => ∃ d kvs k v, x = .ref d ∧ MxAt P w H d kvs ∧ KeyV H k y ∧ okT k = true ∧ MixV kvs k ∧ atM kvs k = some v ∧ Q v H
theorem ix_M (hu : X.A.units + 100 < cLine) : IxR X (rIxM X.prog X.w) := by
  intro value slice pins s σ H x y v u Q I rx ry h hs
  obtain ⟨d, kvs, k, r, rfl, ⟨m1, _, es0, pr, e⟩, kx, ok, mix, ea, q⟩ := h
  cases rx
  have ka := kx.at_ X.prog X.w ry
  obtain ⟨z, ez, rz⟩ := atM_rel pr ea
  have tab := MxAt.tab I.hok pr e
  exact tail_any tab.typeIs slot_dict_getitem.lookup (getItem_T hu (ka.isT I.hok) ok tab (mix_of pr ka mix) ez ⟨r, H, I.tok _, rz, q⟩) hs
/-- a dict of the written part, with keys of all kinds -/
def KMx (P : Program) (w : World) (K : W.Frag) (p : Addr) (xs : List (TK × Value × Value)) : Prop := (p == sysModules) = false ∧ ∃ es n, List.lookup p K = some { cls := .type "dict", data := .dict es n } ∧ es.toList = xs.map (entT P w) ∧ (∀ x ∈ xs, (∀ h, K.In h → isT P w h x.1 x.2.1) ∧ okT x.1 = true) ∧ (xs.map (·.1)).Nodup
theorem KMx.tab {P : Program} {w : World} {K : W.Frag} {p : Addr} {h : Heap} (m : KMx P w K p xs) (k : K.In h) : TabIs P w h p xs := by
  obtain ⟨_, es, n, hl, he, hx, hn⟩ := m
  exact ⟨_, es, n, k p _ hl, ⟨rfl, rfl, rfl⟩, rfl, he, fun x hm => ⟨(hx x hm).1 h k, (hx x hm).2⟩, hn⟩
def rIxKM (P : Program) (w : World) (K : W.Frag) : R2 := fun x y H Q => ∃ p xs k r z, x = .ref p ∧ KMx P w K p xs ∧ KeyV H k y ∧ okT k = true ∧ (∃ x ∈ xs, isExactStrKey x.2.1 = false) ∧ atT xs k = some z ∧ RelV r z ∧ Q r H
theorem ix_KM (hu : X.A.units + 100 < cLine) : IxR X (rIxKM X.prog X.w X.K) := by
  intro value slice pins s σ H x y v u Q I rx ry h hs
  obtain ⟨p, xs, k, r, z, rfl, m, kx, ok, mix, ez, rz, q⟩ := h
  cases rx
  have ka := kx.at_ X.prog X.w ry
  have tab := m.tab I.kIn
  exact tail_any tab.typeIs slot_dict_getitem.lookup (getItem_T hu (ka.isT I.hok) ok tab (fun _ _ _ => .inr mix) ez ⟨r, H, I.tok _, rz, q⟩) hs
end
end MX

set_option Elab.async false
set_option linter.all false
set_option maxRecDepth 100000
set_option maxHeartbeats 4000000
namespace MX
open PySem PySem.Spec PyProof.Rows L2
section
theorem call_objNe {prog : Program} {w : World} {A : Around} {E : Value → Shared → Prop} {s : Shared} {K : W.Frag} {x C f : Addr} {ox : Obj} {od : Option Obj} {b : Value} {Q : Value → Shared → Prop} (hu : A.units + 1 < cLine) (X : K.In s.heap) (I : W.InstAt s.heap x ox C od) (hm : W.mroIn K C (.type "object") = some true)
    (hs : W.findIn K (.ref C) "__eq__" = some (some (.ref f))) (hf : W.isFn K (.ref f) = true) (h : wpAny (model prog w) A.in1 (call (.ref f) [.ref x, b]) (fun r s1 => ∃ c, r = .bool c ∧ Q (.bool !c) s1) E s) : wpAny (model prog w) A (call (.builtin "object.__ne__") [.ref x, b]) Q E s := by
  refine wpAny_call (codeAny_call_builtin F.cmp_object.ne.plain F.cmpEntry_ne (W.check_slot F.cmpKind_ne F.cmpSplit_ne (W.Looks.andThen (W.InstAt.type I) (W.looks_mroIn X hm)) (F.cmpArgs_ne (.ref x) b) ?_))
  refine wpAny_bind (show wpAny _ _ (pure (Value.ref x, [b])) _ _ _ from wpAny_pure ?_)
  refine wpAny_bind (wpAny_cRoomFor hu ?_)
  refine wpAny_bind (W.ifBound_K X I hs hf (wpAny_mono h (fun r s1 ⟨c, e, q⟩ => ?_) fun _ _ z => z))
  subst e
  refine wpAny_bind (wpAny_truthy_bool ?_)
  exact wpAny_pure q
/-- o != y, by the own __eq__ -/
theorem rich_ne {prog : Program} {w : World} {A : Around} {E : Value → Shared → Prop} {s : Shared} {K : W.Frag} {x C f : Addr} {ox : Obj} {od : Option Obj} {b tb : Value} {Q : Value → Shared → Prop} (hu : A.units + 1 < cLine) (X : K.In s.heap) (I : W.InstAt s.heap x ox C od) (hm : W.mroIn K C (.type "object") = some true)
    (hb : W.Looks (model prog w) s.heap (typeOf b) tb) (ht : tb = .ref C ∨ (W.Looks (model prog w) s.heap (isSubtype tb (.ref C)) false))
    (hn : W.findIn K (.ref C) "__ne__" = some (some (.builtin "object.__ne__"))) (hs : W.findIn K (.ref C) "__eq__" = some (some (.ref f))) (hf : W.isFn K (.ref f) = true)
    (h : wpAny (model prog w) A.in1 (call (.ref f) [.ref x, b]) (fun r s1 => ∃ c, r = .bool c ∧ Q (.bool !c) s1) E s) : wpAny (model prog w) A (richCompare .NotEq (.ref x) b) Q E s := by
  have one : wpAny (model prog w) A (tryCompare (.ref x) "__ne__" b) (fun r s1 => ∃ c, r = some (.bool c) ∧ Q (.bool c) s1) E s := by
    have fin : wpAny (model prog w) A (call (.builtin "object.__ne__") [.ref x, b]) (fun r s1 => ∃ c, r = .bool c ∧ Q (.bool c) s1) E s := call_objNe hu X I hm hs hf (wpAny_mono h (fun r s1 ⟨c, e, q⟩ => ⟨c, e, !c, rfl, q⟩) fun _ _ z => z)
    refine wpAny_bind (wpAny_holding (wpAny_bind (wpAny_bind (wpAny_bind (W.Looks.here (W.InstAt.type I) (W.Looks.here (W.looks_findIn X hn) (wpAny_bind (wpAny_askSetting (wpAny_ite ?_)))))))))
    have last : ∀ (r : Value) (s1 : Shared), (∃ c, r = .bool c ∧ Q (.bool c) s1) → wpAny (model prog w) A (match some r with | some Value.notImplemented => pure none | none => pure none | some v => pure (some v)) (fun r s1 => ∃ c, r = some (.bool c) ∧ Q (.bool c) s1) E s1 := fun r s1 ⟨c, e, q⟩ => by
      subst e
      exact wpAny_pure ⟨c, rfl, q⟩
    split
    · refine wpAny_bind (wpAny_of_eq (F.cmp_object.ne.bind (.ref x)) (wpAny_pure ?_))
      exact wpAny_bind (wpAny_mono fin (fun v s' h' => wpAny_pure (last v s' h')) fun _ _ h' => h')
    · refine wpAny_tryCatch (wpAny_bind (wpAny_of_eq (F.cmp_object.ne.bind (.ref x)) (wpAny_pure ?_)))
      exact wpAny_bind (wpAny_mono fin (fun v s' h' => wpAny_pure (last v s' h')) fun _ _ h' => h')
  refine wpAny_holding (wpAny_bind (wpAny_cRoomFor (by omega) ?_))
  show wpAny _ _ (typeOf (.ref x) >>= _) _ _ _
  refine wpAny_bind (W.Looks.here (W.InstAt.type I) (wpAny_bind (W.Looks.here hb ?_)))
  have rest : wpAny (model prog w) A (tryCompare (.ref x) "__ne__" b >>= fun r => match r with
      | some v => pure v
      | none => (tryCompare b "__ne__" (.ref x) >>= fun r => match r with
        | some v => pure v
        | none => do
          rule "compare.ne-identity"
          let z ← isSame (.ref x) b
          pure (Value.bool !z))) Q E s := wpAny_bind (wpAny_mono one (fun r s1 ⟨c, e, q⟩ => by
    subst e
    exact wpAny_pure q) fun _ _ z => z)
  by_cases e : tb = .ref C
  · subst e
    refine wpAny_ite_false (decide_eq_false (by simp)) ?_
    refine wpAny_bind (wpAny_pure ?_)
    refine wpAny_ite_false rfl ?_
    exact wpAny_bind (wpAny_mono one (fun r s1 ⟨c, e, q⟩ => by
      subst e
      exact wpAny_pure q) fun _ _ z => z)
  · have ht := ht.resolve_left e
    refine wpAny_ite_true (decide_eq_true (by simpa using fun z => e z.symm)) ?_
    refine wpAny_bind (W.Looks.here ht ?_)
    refine wpAny_ite_false rfl ?_
    exact wpAny_bind (wpAny_mono one (fun r s1 ⟨c, e, q⟩ => by
      subst e
      exact wpAny_pure q) fun _ _ z => z)
variable {X : Cx}
def rNeO (X : Cx) (C : Addr) (sp : Sp) (E : XK) : R2 := fun x y H Q => ∃ a, x = .ref a ∧ StX.InsC X H a C ∧ ((∃ U, TyV X H y U ∧ ∀ C, isSubtype (.type U) (.ref C) = pure false) ∨ ∃ b, y = .ref b ∧ StX.InsC X H b C) ∧ sp [.ref a, y] H (fun z H' => ∃ b, z = .bl b ∧ Q (.bl !b) H') E
theorem op_neO {CX : CXT} {C g : Addr} {n : Nat} {sp : Sp} {E : XK} (hm : W.mroIn X.K C (.type "object") = some true) (hn : W.findIn X.K (.ref C) "__ne__" = some (some (.builtin "object.__ne__"))) (hs : W.findIn X.K (.ref C) "__eq__" = some (some (.ref g))) (hf : W.isFn X.K (.ref g) = true)
    (F : FnR X.prog X.w X.K X.mg X.base CX n g sp) (hr : Room (n + 1) X.A) (hx : Passes CX X E) : OpR X (compareOp .NotEq) (rNeO X C sp E) := by
  intro pins s σ H x y v u Q I rx ry h
  obtain ⟨a, rfl, hi, ty, q⟩ := h
  cases rx
  obtain ⟨ox, od, J, _⟩ := StX.insC_at I hi
  have vv : Vals [V.ref a, y] [.ref a, u] := .cons (show L2.RelV (V.ref a) (.ref a) from rfl) (.cons ry .nil)
  have run : wpAny (model X.prog X.w) X.A.in1 (call (.ref g) [.ref a, u]) (fun r s1 => ∃ c, r = .bool c ∧ EP X pins σ Q (.bool !c) s1) X.xe s := wpAny_mono (wpAny_call (SlX.run_at F (room_in1 hr) (Env0.in1 I.env0) hx I vv q)) (fun r s1 z => by
    obtain ⟨z', H', I', rz, b, rfl, qz⟩ := z
    cases rz
    exact ⟨b, rfl, .bl !b, H', I', rfl, qz⟩) fun _ _ z => z
  have hu : X.A.units + 1 < cLine := Room.units0 (room_in1 hr)
  show wpAny _ _ (richCompare .NotEq (.ref a) u) _ _ _
  rcases ty with ⟨U, ty, su⟩ | ⟨b, rfl, hj⟩
  · exact rich_ne hu I.kIn J hm (looks_ty (ty pins σ s u I ry)) (.inr (looks_eq (su C))) hn hs hf run
  · cases ry
    obtain ⟨oy, oe, J2, _⟩ := StX.insC_at I hj
    exact rich_ne hu I.kIn J hm (W.InstAt.type J2) (.inl rfl) hn hs hf run
end
end MX

set_option Elab.async false
set_option linter.all false
set_option maxRecDepth 100000
set_option maxHeartbeats 4000000
namespace MX
open PySem PySem.Spec PyProof.Rows L2
section
variable {X : Cx}
/-- the class C has a staticmethod m, kept at p, of the function g -/
structure SMet (K : W.Frag) (C : Addr) (mc : Value) (m : Str) (p g : Addr) : Prop where
  at_ : W.findCls K (.ref C) mc m = some (W.CFound.get (.builtin "staticmethod.__get__") (.ref p) .none (.ref C))
  rc : ∃ rest, W.recIn K p "staticmethod" = some (.ref g :: rest)
  kp : W.keepIn K (.ref g) = true
theorem getmethsm_ok {pins : List (Addr × Obj)} {σ : L2.St} {H : Hp} {s : Shared} {C p g : Addr} {mc : Value} {m : Str} {A : Around} {E : Value → Shared → Prop} {pl : Sem Bool} {Q : Value × List Value → Shared → Prop} (I : Inv X pins σ H s) (r : ClX.CRead X.K C mc) (k : SMet X.K C mc m p g) (h : ∀ s', Inv X pins σ H s' → Q (.ref g, []) s') : wpAny (model X.prog X.w) A (getMethod (.ref C) m pl) Q E s := by
  obtain ⟨rest, hp⟩ := k.rc
  exact W.method_cls I.kIn r.ga (W.cls_bind I.kIn r.rd k.at_ (wpAny_call (W.sm_get I.kIn hp (W.handed_on rfl (h _ (I.tok (s.toks + 1)))))))
def tSMeth (C : Addr) (sp : Sp) (E : XK) (ta : TE) (t : TA) : TE := fun σ H Q => ta σ H fun x H1 => x = .ref C ∧ t σ H1 fun vs H2 => sp vs H2 Q E
/-- C.m(e, ..), m a staticmethod of the own class C -/
theorem pe_smeth {CX : CXT} {k : Nat} {C p g : Addr} {mc : Value} {sp : Sp} {E : XK} {o e : Expr} {es : List Expr} {m : Str} {pos apos : Pos} {ta : TE} {t : TA} {pl : Sem Bool} (he : PE X o ta) (r : ClX.CRead X.K C mc) (c : SMet X.K C mc m p g) (F : FnR X.prog X.w X.K X.mg X.base CX k g sp) (hr : Room k X.A) (hx : Passes CX X E) (ha : PA X (e :: es) t)
    (hst : starEach (e :: es) X.env = (false, eval e X.env) :: starEach es X.env := by rfl) (hpl : ((backTo pos (starEach es X.env)).any fun x => x.fst) = false := by rfl)
    (ht : eval ((o.Attribute m apos).Call (e :: es) [] pos) X.env = (do
      let ov ← eval o X.env
      standAt apos.atName
      let __x ← holding [ov] (getMethod ov m pl)
      match __x with
        | (f, first) => callWith pos f first (backTo pos (starEach (e :: es) X.env)) (backToKw pos (keywordEach [] X.env))) := by rfl) : PE X ((o.Attribute m apos).Call (e :: es) [] pos) (tSMeth C sp E ta t) := by
  refine ⟨fun pins s σ H Q I h => W.methodCall_KW (thn (he.run pins s σ H _ I h) fun u s1 x => ?_) ht⟩
  obtain ⟨v, H1, I1, r1, rfl, q⟩ := x
  cases r1
  refine getmethsm_ok I1 r c fun s2 I2 => ?_
  exact W.callWith_K I.ok.mod.kin c.kp (thn (ha.run pos pins s2 σ H1 _ I2 q) fun us s3 ⟨vs, H2, I3, rv, q2⟩ => ⟨I3.kIn, wpAny_call (run_fnR F hr hx I3 rv q2)⟩) hst hpl
end
end MX

set_option Elab.async false
set_option linter.all false
set_option maxRecDepth 100000
set_option maxHeartbeats 4000000
namespace MX
open PySem PySem.Spec PyProof.Rows L2
section
variable {X : Cx}
def isB : V → Bool → Bool
  | .bl c, b => c == b
  | _, _ => false
theorem same_bool {P : Program} {w : World} {A : Around} {E : Value → Shared → Prop} {s : Shared} {x : V} {v : Value} {b : Bool} {Q : Bool → Shared → Prop} (r : RelV x v) (q : Q (isB x b) s) : wpAny (model P w) A (isSame v (.bool b)) Q E s := by
  cases x with
  | non => cases r; exact wpAny_pure q
  | bl c =>
    cases r
    cases c <;> cases b <;> exact wpAny_pure q
  | int i => obtain ⟨t, rfl⟩ := r; exact wpAny_pure q
  | str z => obtain ⟨t, rfl⟩ := r; exact wpAny_pure q
  | byt z => obtain ⟨t, rfl⟩ := r; exact wpAny_pure q
  | flt z => obtain ⟨t, rfl⟩ := r; exact wpAny_pure q
  | ref a => cases r; exact wpAny_pure q
  | ty T => cases r; exact wpAny_pure q
/-- x is True, x of any kind -/
def rIsBx (neg : Bool) : R2 := fun x y H Q => ∃ b, y = .bl b ∧ Q (.bl (isB x b != neg)) H
theorem op_isBx : OpR X (compareOp .Is) (rIsBx false) := by
  intro pins s σ H x y v u Q I rx ry h
  obtain ⟨b, rfl, q⟩ := h
  cases ry
  refine wpAny_bind (same_bool rx (wpAny_pure ⟨.bl (isB x b), H, I, rfl, ?_⟩))
  cases e : isB x b <;> rw [e] at q <;> exact q
theorem op_isnotBx : OpR X (compareOp .IsNot) (rIsBx true) := by
  intro pins s σ H x y v u Q I rx ry h
  obtain ⟨b, rfl, q⟩ := h
  cases ry
  refine wpAny_bind (same_bool rx (wpAny_pure ⟨.bl (!isB x b), H, I, rfl, ?_⟩))
  cases e : isB x b <;> rw [e] at q <;> exact q
end
end MX

set_option Elab.async false
set_option linter.all false
set_option maxRecDepth 100000
set_option maxHeartbeats 4000000
/-! A def whose promise knows how many objects there are when it begins (for __iter__); for x in o and list(o) by it. -/
namespace MX
open PySem PySem.Spec PyProof.Rows L2 ItX
def FnN (P : Program) (w : World) (K : W.Frag) (mg : Str → Option Value) (base : Heap) (CX : CXT) (k : Nat) (f : Addr) (sp : Nat → Sp) : Prop :=
  ∀ (A : Around) (outer : List Env) (s : Shared) (H : Hp) (us : List Value) (vs : List V) (Q : VK) (E : XK), Room k A → Env0 P w K mg base A outer s H → Vals vs us → sp s.heap.objs.size vs H Q E →
    codeAny (model P w) A (.call (.ref f) ⟨us, []⟩) (CR CX outer P w H s Q E) s
theorem FnN.mono {P : Program} {w : World} {K : W.Frag} {mg : Str → Option Value} {base : Heap} {CX : CXT} {j k : Nat} {f : Addr} {sp : Nat → Sp} (F : FnN P w K mg base CX j f sp) (h : j ≤ k) : FnN P w K mg base CX k f sp := fun A outer s H us vs Q E hr => F A outer s H us vs Q E (hr.mono h)
theorem fn_ofN {CX : CXT} {P : Program} {w : World} {K : W.Frag} {mg : Str → Option Value} {base : Heap} {k : Nat} {f : Addr} {name qual : Str} {params : Arguments} {body : List Stmt} {scope : Scope} {dV kV doc pm cdv ct oc : Value} {an od : Option Addr}
    {osl : Array (Option Value)} {N ps : List Str} {sp : Nat → Sp} (lk : K.lookup f = some ⟨oc, od, .func (W.fnOf name qual params body scope dV kV doc pm an cdv ct), osl⟩) (hcd : W.codeIn K cdv qual = true) (S : FnScope N ps scope) (hb : Binds K (W.fnOf name qual params body scope dV kV doc pm an cdv ct) ps [])
    (len : ∀ n vs H Q E, sp n vs H Q E → vs.length = ps.length)
    (hbody : ∀ (A : Around) (outer : List Env) (s : Shared) (H : Hp) (vs : List V) (Q : VK) (E : XK), Room k (A.deeper (envOfC qual scope s.heap.objs.size f cdv)) → sp s.heap.objs.size vs H Q E →
      ∃ t, PSs (cxOf CX P w K mg base N qual scope f cdv A outer s H E) body t ∧ t { nx := fun _ H' => Q .non H', rt := Q } (start N vs) H) :
    FnN P w K mg base CX (k + 1) f sp := by
  refine fun A outer s H us vs Q E hr e0 r hsp => ?_
  have hl : us.length = ps.length := by rw [← len _ _ _ _ _ hsp]; exact r.length.symm
  have KX : K.In s.heap := e0.mod.kin.keeps fun b o e => (e0.bs b o e).1
  have lim : s.heap.NoLimit := e0.mod.nolimit.keeps fun b o e => (e0.bs b o e).1
  have hkind : ∀ y ∈ ps.zip us, scope.names.lookup y.1 = some .local ∨ (scope.names.lookup y.1 = some .cell ∧ ((cellsFrom (s.heap.objs.size + 1) scope.names []).lookup y.1).isSome = true) := fun ⟨n, v⟩ hy => by
    rcases S.par n (List.of_mem_zip hy).1 with q | q
    · exact .inl q
    · exact .inr ⟨q, W.cellsFrom_some _ _ _ (.inl q)⟩
  have hb' := hb s us KX (by simpa using hl)
  simp only [List.append_nil] at hb'
  refine codeAny_call_function hr.depth (KX _ _ lk) rfl S.co S.gen rfl (W.codeRec_of KX hcd) (hb' _ _ _ _ ?_)
  refine wpAny_newFunctionEnv_cells S.kind hkind fun env he s1 x => ?_
  subst he
  refine ⟨lim.keeps x.toInCall.keep, codeAny_func ?_⟩
  obtain ⟨t, ht, hq⟩ := hbody A outer s H vs Q E (hr.deeper _) hsp
  have I : Inv (cxOf CX P w K mg base N qual scope f cdv A outer s H E) [] (start N vs) H s1 := inv_start S hr.hd e0 (by rw [r.length]; exact hl) r x
  refine wpAny_mono (ht.run [] s1 (start N vs) H _ I hq) (fun fl s' hs => ?_) fun e s' hs => hs
  have fin : ∀ {σ' : L2.St} {H' : Hp} {v : V} {u : Value}, Inv (cxOf CX P w K mg base N qual scope f cdv A outer s H E) [] σ' H' s' → RelV v u → Q v H' → CE outer P w H s Q u s' :=
    fun {σ' H' v u} J rv q => ⟨v, H', J.os, J.bare, J.base, J.hok, rv, q⟩
  cases fl with
  | ret u =>
    obtain ⟨v, σ', H', J, rv, q⟩ := hs
    exact fin J rv q
  | next =>
    obtain ⟨σ', H', J, q⟩ := hs
    exact fin (v := V.non) (u := Value.none) J rfl q
  | brk =>
    obtain ⟨_, _, _, q⟩ := hs
    exact False.elim q
  | cont =>
    obtain ⟨_, _, _, q⟩ := hs
    exact False.elim q
theorem okN {P : Program} {w : World} {K : W.Frag} {mg : Str → Option Value} {base : Heap} {x qual : Str} {st : Stmt} {f : Addr} {fd : FuncData} {N ps : List Str} {k : Nat} {sp : Nat → Sp} (F : Fun K x qual st f fd) (S : FnScope N ps (defScope st)) (hb : Binds K fd ps []) (len : ∀ n vs H Q E, sp n vs H Q E → vs.length = ps.length)
    (hbody : ∀ (cdv : Value) (A : Around) (outer : List Env) (s : Shared) (H : Hp) (vs : List V) (Q : VK) (E : XK), Room k (A.deeper (envOfC qual (defScope st) s.heap.objs.size f cdv)) → sp s.heap.objs.size vs H Q E →
      ∃ t, PSs (cxOf CX0 P w K mg base N qual (defScope st) f cdv A outer s H E).nox (defBody st) t ∧ t { nx := fun _ H' => Q .non H', rt := Q } (start N vs) H) : FnN P w K mg base CX0 (k + 1) f sp := by
  obtain ⟨oc, od, kV, doc, pm, an, cdv, ct, osl, rfl, lk, hcd⟩ := F.ex
  refine fn_ofN lk hcd S hb len fun A outer s H vs Q E hr hsp => ?_
  obtain ⟨t, h, q⟩ := hbody cdv A outer s H vs Q E hr hsp
  exact ⟨t, h.nox, q⟩
section
variable {X : Cx} {pins : List (Addr × Obj)} {σ : L2.St} {H : Hp} {s : Shared}
theorem run_N0 {A : Around} {g : Addr} {n : Nat} {sp : Nat → Sp} {E : XK} {Q : VK} {us : List Value} {ws : List V} (F : FnN X.prog X.w X.K X.mg X.base CX0 n g sp) (hr : Room n A) (e0 : Env0 X.prog X.w X.K X.mg X.base A X.stack s H) (I : Inv X pins σ H s) (r : Vals ws us) (h : sp s.heap.objs.size ws H Q E) :
    codeAny (model X.prog X.w) A (.call (.ref g) ⟨us, []⟩) (fun r s' => match r with | .ok (.ret v) => EP X pins σ Q v s' | .ok _ => False | .error e => False) s := by
  refine codeAny_mono (F A X.stack s H us ws Q E hr e0 r h) fun r s' hq => ?_
  cases r with
  | error e => exact hq
  | ok fl =>
    cases fl with
    | ret u => exact I.after hq
    | next => exact False.elim hq
    | brk => exact False.elim hq
    | cont => exact False.elim hq
theorem run_R0 {A : Around} {g : Addr} {n : Nat} {sp : Sp} {E : XK} {Q : VK} {us : List Value} {ws : List V} (F : FnR X.prog X.w X.K X.mg X.base CX0 n g sp) (hr : Room n A) (e0 : Env0 X.prog X.w X.K X.mg X.base A X.stack s H) (I : Inv X pins σ H s) (r : Vals ws us) (h : sp ws H Q E) :
    codeAny (model X.prog X.w) A (.call (.ref g) ⟨us, []⟩) (fun r s' => match r with | .ok (.ret v) => EP X pins σ Q v s' | .ok _ => False | .error e => False) s :=
  run_N0 (sp := fun _ => sp) F hr e0 I r h
theorem call_N0 {A : Around} {g : Addr} {n : Nat} {sp : Nat → Sp} {E : XK} {E' : Value → Shared → Prop} {Q : VK} {us : List Value} {ws : List V} (F : FnN X.prog X.w X.K X.mg X.base CX0 n g sp) (hr : Room n A) (e0 : Env0 X.prog X.w X.K X.mg X.base A X.stack s H) (I : Inv X pins σ H s) (r : Vals ws us) (h : sp s.heap.objs.size ws H Q E) :
    wpAny (model X.prog X.w) A (call (.ref g) us) (EP X pins σ Q) E' s := wpAny_call (codeAny_mono (run_N0 F hr e0 I r h) fun r s' z => by
  cases r with
  | error e => exact z.elim
  | ok fl =>
    cases fl with
    | ret u => exact z
    | next => exact z.elim
    | brk => exact z.elim
    | cont => exact z.elim)
theorem call_R0 {A : Around} {g : Addr} {n : Nat} {sp : Sp} {E : XK} {E' : Value → Shared → Prop} {Q : VK} {us : List Value} {ws : List V} (F : FnR X.prog X.w X.K X.mg X.base CX0 n g sp) (hr : Room n A) (e0 : Env0 X.prog X.w X.K X.mg X.base A X.stack s H) (I : Inv X pins σ H s) (r : Vals ws us) (h : sp ws H Q E) :
    wpAny (model X.prog X.w) A (call (.ref g) us) (EP X pins σ Q) E' s := call_N0 (sp := fun _ => sp) F hr e0 I r h
/-- e gone through, an instance of an own class with __iter__, which gives a new iterator of a list -/
def iOwnN (X : Cx) (C : Addr) (sp : Nat → Sp) (te : TE) : TI := fun σ H R => te σ H fun x H1 => ∃ a dx fs, x = .ref a ∧ H1 a = some (.ins C dx fs) ∧ ∀ n, X.s_0.heap.objs.size ≤ n → sp n [.ref a] H1 (fun z H2 => ∃ it l i0, z = .ref it ∧ H2 it = some (ItO l it i0) ∧ n ≤ it ∧ R (ItlF X.K l i0) (dropH H2 it)) E0
theorem pi_ownN {C g : Addr} {n : Nat} {sp : Nat → Sp} {tg e : Expr} {te : TE} (ht : PE X e te) (hs : W.findIn X.K (.ref C) "__iter__" = some (some (.ref g))) (hf : W.isFn X.K (.ref g) = true) (F : FnN X.prog X.w X.K X.mg X.base CX0 n g sp) (hr : Room n X.A) : PI X tg e (iOwnN X C sp te) := by
  refine ⟨fun pins s σ H R I h => ?_⟩
  refine thn (ht.run pins s σ H _ I h) fun u s1 x => ?_
  obtain ⟨v, H1, I1, r1, a, dx, fs, rfl, hi, q⟩ := x
  cases r1
  obtain ⟨ox, od, J, _⟩ := StX.insC_at I1 (.inr ⟨dx, fs, hi⟩)
  have vv : Vals [V.ref a] [.ref a] := .cons (show L2.RelV (V.ref a) (.ref a) from rfl) .nil
  refine pyIter_fn I1.kIn J hs hf (wpAny_mono (call_N0 F hr I1.env0 I1 vv (q _ I1.sz)) (fun r s2 z => ?_) fun _ _ z => z)
  obtain ⟨z', H2, I2, rz, it, l, i0, rfl, hit, hn, q2⟩ := z
  cases rz
  have eo := itO_get I2 hit
  refine ⟨it, l, i0, rfl, eo, it, [it], _, ItlF X.K l i0, dropH H2 it, rfl, inv_drop I2 hit, turn_listF l it i0, ⟨GNX.itObj l i0, eo, rfl, rfl⟩, fun b hb => ?_, q2⟩
  rw [List.mem_singleton] at hb
  subst hb
  exact inv_fp I2 hit (Nat.le_trans I1.sz hn)
end
theorem itl0 {K : W.Frag} {a : Addr} : ItlF K a 0 = Itl K a := by
  unfold ItlF
  have e : ∀ {β : Sort _} (f : Nat → β), (fun i => f (0 + i)) = f := fun f => funext fun i => by rw [Nat.zero_add]
  show (⟨fun i => (Itl K a).go (0 + i), fun i => (Itl K a).yld (0 + i), fun i => (Itl K a).stop (0 + i)⟩ : It) = _
  rw [e, e, e]
theorem drop_new {H : Hp} {a : Addr} {o : HO} (n : H a = none) : dropH (upd H a o) a = H := by
  funext b
  by_cases h : b = a
  · rw [h, dropH_same, n]
  · rw [dropH_ne h, upd_ne h]
end MX

set_option Elab.async false
set_option linter.all false
set_option maxRecDepth 100000
set_option maxHeartbeats 4000000
/-! list(o), o of an own class with __iter__ that gives a new iterator of a list, and with __len__. -/
namespace MX
open PySem PySem.Spec PyProof.Rows L2 ItX
section
variable {X : Cx} {pins : List (Addr × Obj)} {σ : L2.St} {H : Hp} {s : Shared}
/-- the rest of the list at l is put behind the one at q -/
theorem it_loop {A1 : Around} {q it l : Addr} {ys : List V} {Rs : Result → Shared → Prop} (hd : A1.in1.handled = none) (nl : q ≠ l) (nt : it ≠ q) (hl : H l = some (.lst ys)) (hf : FpOk X pins H it)
    (hdone : ∀ s', Inv X pins σ (upd H q (.lst ys)) s' → Rs (.ok (.ret .none)) s') :
    ∀ (m i : Nat) (s : Shared), m = ys.length - i → i ≤ ys.length → Inv X pins σ (upd H q (.lst (ys.take i))) s → s.heap.IsListIter it l i → codeAny (model X.prog X.w) A1 (.builtin "list.extend.loop" ⟨[.ref q, .ref it, .none], []⟩) Rs s := by
  intro m
  induction m with
  | zero =>
    intro i s hm hi I st
    have e : i = ys.length := by omega
    subst e
    refine codeAny_builtin PySem.F.entry_extend_loop ?_
    rw [Around.under_plainId PySem.F.plain_extend_loop _]
    show wpAny _ A1.in1 (pyNext (.ref it) >>= _) _ _ s
    have hl' : upd H q (.lst (ys.take ys.length)) l = some (.lst ys) := by rw [upd_ne (Ne.symm nl)]; exact hl
    obtain ⟨z, its, k, r, le, e⟩ := I.lstM hl'
    refine wpAny_bind (wpAny_pyNext_list_end (items := its.toArray) hd st ⟨_, e, rfl, k, rfl⟩ (by simp; omega) fun h' eb => ?_)
    obtain ⟨f0, f1, f2, f3, f4, f5⟩ := hf
    have I1 : Inv X pins σ (upd H q (.lst (ys.take ys.length))) { s with heap := h' } := I.turned (t' := s.toks) (it := it) (fun b o hb e => eb b o hb e) (by rw [upd_ne nt]; exact f0) f1 f3 f4 f5
    rw [List.take_length] at I1
    exact wpAny_pure (hdone _ I1)
  | succ m ih =>
    intro i s hm hi I st
    have hlt : i < ys.length := by omega
    refine codeAny_builtin PySem.F.entry_extend_loop ?_
    rw [Around.under_plainId PySem.F.plain_extend_loop _]
    show wpAny _ A1.in1 (pyNext (.ref it) >>= _) _ _ s
    have hl' : upd H q (.lst (ys.take i)) l = some (.lst ys) := by rw [upd_ne (Ne.symm nl)]; exact hl
    obtain ⟨z, its, k, r, le, e⟩ := I.lstM hl'
    obtain ⟨u, hu, ru⟩ := r.get (show ys[i]? = some ys[i] from List.getElem?_eq_getElem hlt)
    refine wpAny_bind (wpAny_pyNext_list_item (items := its.toArray) (x := u) st ⟨_, e, rfl, k, rfl⟩ (by simpa using hu) fun h' st' sb => ?_)
    obtain ⟨f0, f1, f2, f3, f4, f5⟩ := id hf
    have I1 : Inv X pins σ (upd H q (.lst (ys.take i))) { s with heap := h' } := I.turned (t' := s.toks) (it := it) (fun b o hb e => (sb.2 b hb).trans e) (by rw [upd_ne nt]; exact f0) f1 f3 f4 f5
    show wpAny _ A1.in1 (updateSeq q (·.push u) >>= _) _ _ _
    obtain ⟨z2, its2, k2, r2, hl2, e2⟩ := I1.lstM upd_same
    have tl : (ys.take i).length = i := by rw [List.length_take]; omega
    refine wpAny_bind (wpAny_updateSeq e2 rfl (wpAny_pure ⟨plainId_quiet PySem.F.plain_extend_loop _, ?_⟩) (by rw [List.size_toArray]; omega) (by show (its2.toArray.push u).size ≤ sizeLine + 1; rw [Array.size_push, List.size_toArray]; omega))
    have I2 := I1.lset (f := fun a => a.push u) (its' := its2 ++ [u]) (ys := ys.take (i + 1)) (t' := s.toks) upd_same e2 (by simp) (by
      rw [take_succ' hlt]
      exact r2.append (.cons ru .nil)) (by rw [List.length_take]; omega)
    rw [upd_upd] at I2
    exact ih (i + 1) _ (by omega) hlt I2 (st'.at fun o eo => (Heap.get?_update_other _ _ (Ne.symm nt)).trans eo)
where
  take_succ' {ys : List V} {i : Nat} (h : i < ys.length) : ys.take (i + 1) = ys.take i ++ [ys[i]] := by
    rw [List.take_succ, List.getElem?_eq_getElem h]; rfl
/-- the number that o's __len__ gives is asked for -/
theorem hint_len {C g a dx : Addr} {fs : List (Str × V)} {n : Nat} {sp : Sp} {A : Around} {E' : Value → Shared → Prop} {Q : Bool → Shared → Prop} (hs : W.findIn X.K (.ref C) "__len__" = some (some (.ref g))) (hf : W.isFn X.K (.ref g) = true) (F : FnR X.prog X.w X.K X.mg X.base CX0 n g sp) (sb : Sub X (n + 1) A)
    (I : Inv X pins σ H s) (ha : H a = some (.ins C dx fs)) (q : sp [.ref a] H (fun z H' => (∃ m : Nat, z = .int m ∧ m ≤ 1000) ∧ H' = H) E0) (k : ∀ b s', Inv X pins σ H s' → Q b s') : wpAny (model X.prog X.w) A (Builtin.List.listLengthHint (.ref a)) Q E' s := by
  obtain ⟨ox, od, J, _⟩ := StX.insC_at I (.inr ⟨dx, fs, ha⟩)
  have vv : Vals [V.ref a] [.ref a] := .cons (show L2.RelV (V.ref a) (.ref a) from rfl) .nil
  have e0 : Env0 X.prog X.w X.K X.mg X.base A X.stack s H := by
    have e := I.env0
    exact ⟨by rw [sb.fr]; exact e.frames, e.mod, e.bs, e.bsz, e.funs, e.frf, e.hok, e.bare⟩
  unfold Builtin.List.listLengthHint
  refine wpAny_bind (wpAny_bind (W.Looks.here (W.InstAt.type J) (W.Looks.here (W.looks_findIn I.kIn hs) ?_)))
  refine W.KFB.if_not rfl ?_
  refine wpAny_ite_true (by rfl) ?_
  refine wpAny_bind (wpAny_rule ?_)
  refine wpAny_bind (wpAny_attempt ?_)
  refine Calls.call_function_entry kind_len plain_len entry_len (by rfl) ?_
  refine wpAny_bind (show wpAny _ _ (pure (Value.ref a)) _ _ _ from wpAny_pure ?_)
  refine wpAny_bind (W.special_fn I.kIn J hs (beq_iff_eq.mp hf) (wpAny_mono (call_R0 F (room_in1 sb.room) (Env0.in1 e0) I vv q) (fun r s1 z => ?_) fun _ _ z => z))
  obtain ⟨z', H', I', rz, ⟨m, rfl, lt⟩, rfl⟩ := z
  obtain ⟨t, rfl⟩ := rz
  refine wpAny_bind (wpAny_holding (show wpAny _ _ (pure (m : Int)) _ _ _ from wpAny_pure ?_))
  refine wpAny_bind (wpAny_letGo ?_)
  refine wpAny_ite_false (decide_eq_false (by omega)) ?_
  refine wpAny_ite_false (decide_eq_false (by omega)) ?_
  refine wpAny_bind (wpAny_mkInt (wpAny_pure ⟨_, rfl, ?_⟩))
  refine wpAny_bind (show wpAny _ _ (pure (some (m : Int))) _ _ _ from wpAny_pure ?_)
  have nl : Builtin.List.listTooLong (m : Int).toNat = false := by
    unfold Builtin.List.listTooLong
    rw [Int.toNat_natCast]
    exact decide_eq_false (Nat.not_lt.mpr (Nat.le_of_lt (small1000 lt)))
  show wpAny _ _ (if Builtin.List.listTooLong (m : Int).toNat = true then _ else pure ((m : Int) != 0)) _ _ _
  rw [nl]
  exact wpAny_ite_false rfl (wpAny_pure (k _ _ (I'.tok _)))
theorem same_new {H : Hp} {p : Addr} {o : HO} (n : H p = none) : Same H (upd H p o) := fun b u e => by rw [upd_ne (ne_of_none e n)]; exact e
theorem upd_self {H : Hp} {p : Addr} {o : HO} (e : H p = some o) : upd H p o = H := by
  funext b
  by_cases h : b = p
  · rw [h, upd_same, e]
  · rw [upd_ne h]
theorem ext_it {C gi gl a dx l q : Addr} {fs : List (Str × V)} {ys : List V} {n : Nat} {spI : Nat → Sp} {spL : Sp} {A1 : Around} {Rs : Result → Shared → Prop} (hi : W.findIn X.K (.ref C) "__iter__" = some (some (.ref gi))) (fi : W.isFn X.K (.ref gi) = true) (FI : FnN X.prog X.w X.K X.mg X.base CX0 n gi spI)
    (hl : W.findIn X.K (.ref C) "__len__" = some (some (.ref gl))) (fl : W.isFn X.K (.ref gl) = true) (FL : FnR X.prog X.w X.K X.mg X.base CX0 n gl spL) (sb : Sub X (n + 1) A1.in1) (I : Inv X pins σ H s) (ha : H a = some (.ins C dx fs)) (hly : H l = some (.lst ys)) (hq : H q = some (.lst [])) (hne : q ≠ a) (hnl : q ≠ l)
    (spi : ∀ n, spI n [.ref a] H (fun z H1 => ∃ it, z = .ref it ∧ n ≤ it ∧ H it = none ∧ H1 = upd H it (ItO l it 0)) E0) (spl : ∀ H', Same H H' → spL [.ref a] H' (fun z H2 => (∃ m : Nat, z = .int m ∧ m ≤ 1000) ∧ H2 = H') E0) (hdone : ∀ s', Inv X pins σ (upd H q (.lst ys)) s' → Rs (.ok (.ret .none)) s') :
    wpAny (model X.prog X.w) A1.in1 (Builtin.List.listExtendWith (.ref q) (.ref a) .none)
      (fun fin s' => match fin with | .done f => Rs (.ok f) s' | .again c' => c'.quiet = true ∧ codeAny (model X.prog X.w) A1 c' Rs s') (fun e s' => Rs (.error e) s') s := by
  obtain ⟨ox, od, J, _⟩ := StX.insC_at I (.inr ⟨dx, fs, ha⟩)
  have vv : Vals [V.ref a] [.ref a] := .cons (show L2.RelV (V.ref a) (.ref a) from rfl) .nil
  have e0 : Env0 X.prog X.w X.K X.mg X.base A1.in1 X.stack s H := by
    have e := I.env0
    exact ⟨by rw [sb.fr]; exact e.frames, e.mod, e.bs, e.bsz, e.funs, e.frf, e.hok, e.bare⟩
  unfold Builtin.List.listExtendWith
  refine wpAny_bind (J.type.here ?_)
  have h1 : Builtin.List.listSameRef (.ref q) (.ref a) = false := by simp [Builtin.List.listSameRef, hne]
  have h2 : (Value.ref C == Value.type "list") = false := rfl
  have h3 : (Value.ref C == Value.type "tuple") = false := rfl
  simp only [h1, h2, h3, Bool.or_false, Bool.false_eq_true, if_false]
  refine wpAny_bind (pyIter_fn I.kIn J hi fi (wpAny_mono (call_N0 FI (sb.room.mono (Nat.le_succ _)) e0 I vv (spi _)) (fun r s2 z => ?_) fun _ _ z => z))
  obtain ⟨z', H2, I2, rz, it, rfl, hn, hnone, rfl⟩ := z
  cases rz
  refine ⟨it, l, 0, rfl, itO_get I2 upd_same, ?_⟩
  have sm : Same H (upd H it (ItO l it 0)) := same_new hnone
  have nt : it ≠ q := (ne_of_none hq hnone).symm
  refine wpAny_bind (wpAny_holding (hint_len hl fl FL sb I2 (sm _ _ ha) (spl _ sm) fun b s3 I3 => ?_))
  have hq2 : upd H it (ItO l it 0) q = some (.lst []) := sm _ _ hq
  have fin : ∀ s4, Inv X pins σ (upd H it (ItO l it 0)) s4 → codeAny (model X.prog X.w) A1 (.builtin "list.extend.loop" ⟨[.ref q, .ref it, .none], []⟩) Rs s4 := fun s4 I4 => by
    have eo := itO_get I4 upd_same
    have I5 : Inv X pins σ H s4 := by
      have I5 := inv_drop I4 (upd_same (H := H) (a := it) (o := ItO l it 0))
      rw [drop_new hnone] at I5
      exact I5
    have fp := inv_fp I4 (upd_same (H := H) (a := it) (o := ItO l it 0)) (Nat.le_trans I.sz hn)
    rw [drop_new hnone] at fp
    exact it_loop (H := H) sb.room.hd hnl nt hly fp hdone ys.length 0 s4 (by omega) (Nat.zero_le _) (by rw [List.take_zero, upd_self hq]; exact I5) ⟨GNX.itObj l 0, eo, rfl, rfl⟩
  obtain ⟨z, its, k, r3, hl3, e3⟩ := I3.lstM hq2
  cases r3
  refine wpAny_ite_split (fun _ => ?_) (fun _ => wpAny_pure ⟨plainId_quiet PySem.F.plain_extend_loop _, fin _ I3⟩)
  refine wpAny_bind (wpAny_rule ?_)
  refine wpAny_bind ?_
  show wpAny _ _ (updateSeq q (·.push .none) >>= fun _ => updateSeq q (·.pop)) _ _ _
  refine wpAny_bind (wpAny_updateSeq e3 rfl ?_)
  have I4 := I3.lset (f := (·.push Value.none)) (its' := [Value.none]) (ys := [.non]) (t' := s3.toks) hq2 e3 (by simp) (.cons rfl .nil) (by rw [List.length_singleton, sizeLine_eq]; decide)
  obtain ⟨z4, its4, k4, r4, hl4, e4⟩ := I4.lstM upd_same
  obtain ⟨u4, rfl, ru4⟩ := r4.one
  refine wpAny_updateSeq e4 rfl ?_ (by show 1 ≤ sizeLine; rw [sizeLine_eq]; decide) (by show 0 ≤ sizeLine + 1; exact Nat.zero_le _)
  refine wpAny_pure ⟨plainId_quiet PySem.F.plain_extend_loop _, fin _ ?_⟩
  have I5 := I4.lset (f := (·.pop)) (its := [u4]) (its' := []) (ys := []) (t' := s3.toks) upd_same e4 (by rfl) .nil (Nat.zero_le _)
  rw [upd_upd, upd_self hq2] at I5
  exact I5
/-- list(o) -/
def rListIt (C : Addr) (spI : Nat → Sp) (spL : Sp) : List V → Hp → VK → Prop := fun xs H Q => ∃ a dx fs l ys, xs = [.ref a] ∧ H a = some (.ins C dx fs) ∧ H l = some (.lst ys) ∧
  (∀ H' n, Same H H' → spI n [.ref a] H' (fun z H1 => ∃ it, z = .ref it ∧ n ≤ it ∧ H' it = none ∧ H1 = upd H' it (ItO l it 0)) E0) ∧ (∀ H', Same H H' → spL [.ref a] H' (fun z H2 => (∃ m : Nat, z = .int m ∧ m ≤ 1000) ∧ H2 = H') E0) ∧ ∀ q, H q = none → Q (.ref q) (upd H q (.lst ys))
theorem call_listIt {C gi gl : Addr} {n : Nat} {spI : Nat → Sp} {spL : Sp} (hi : W.findIn X.K (.ref C) "__iter__" = some (some (.ref gi))) (fi : W.isFn X.K (.ref gi) = true) (FI : FnN X.prog X.w X.K X.mg X.base CX0 n gi spI)
    (hl : W.findIn X.K (.ref C) "__len__" = some (some (.ref gl))) (fl : W.isFn X.K (.ref gl) = true) (FL : FnR X.prog X.w X.K X.mg X.base CX0 n gl spL) (hr : Room (n + 3) X.A) : CallR X (.type "list") (rListIt C spI spL) := by
  intro pins s σ H xs us Q I rv h
  obtain ⟨a, dx, fs, l, ys, rfl, ha, hly, spi, spl, k⟩ := h
  obtain ⟨u, rfl, ru⟩ := rv.one
  cases ru
  have sb : Sub X (n + 1) X.A.in1.in1 := (Sub.in1 (Sub.in1 (⟨hr, rfl⟩ : Sub X (n + 3) X.A)))
  refine callType_codes (Q₁ := fun obj s₁ => obj = .ref s.heap.objs.size ∧ s₁ = { s with heap := s.heap.push { cls := .type "list", data := .seq #[] } }) PySem.F.called_list (PySem.F.typeCall_list_1 _) PySem.F.entry_list_init
    (code_list_new _ ⟨rfl, rfl⟩) fun obj s₁ h₁ => ?_
  obtain ⟨rfl, rfl⟩ := h₁
  have hS : (s.heap.push { cls := .type "list", data := .seq #[] }).get? s.heap.objs.size = some { cls := .type "list", data := .seq #[] } := Heap.get?_push_size _ rfl
  refine ⟨⟨_, hS, rfl⟩, PySem.F.args_list_init_2 _ _, ?_⟩
  have fr : H s.heap.objs.size = none := I.hok.fresh (Nat.le_refl _)
  generalize eq : s.heap.objs.size = q at *
  have I1 : Inv X pins σ (upd H q (.lst [])) { s with heap := s.heap.push { cls := .type "list", data := .seq #[] } } := by rw [← eq]; exact I.lnew (its := []) (t' := s.toks) .nil (Nat.zero_le _)
  show wpAny _ _ (do let old ← Builtin.List.listItems (.ref q); Builtin.List.listUpdate (.ref q) (fun _ => #[]); letGo old.toList.reverse; Builtin.List.listExtendWith (.ref q) (.ref a) .none) _ _ _
  refine wpAny_bind ?_
  unfold Builtin.List.listItems
  refine wpAny_bind (wpAny_seqItems hS rfl (wpAny_pure ?_))
  show wpAny _ _ (updateSeq q (fun _ => #[]) >>= fun _ => letGo (#[] : Array Value).toList.reverse >>= fun _ => Builtin.List.listExtendWith (.ref q) (.ref a) .none) _ _ _
  refine wpAny_bind (wpAny_updateSeq hS rfl ?_)
  have I2 := I1.lset (f := fun _ => #[]) (its := []) (its' := []) (ys := []) (t' := s.toks) upd_same hS rfl .nil (Nat.zero_le _)
  rw [upd_upd] at I2
  refine wpAny_bind (wpAny_letGo ?_)
  have sm : Same H (upd H q (.lst [])) := same_new fr
  have ha2 : upd H q (.lst []) a = some (.ins C dx fs) := sm _ _ ha
  have hl2 : upd H q (.lst []) l = some (.lst ys) := sm _ _ hly
  have hne : q ≠ a := (ne_of_none ha fr).symm
  have hnl : q ≠ l := (ne_of_none hly fr).symm
  exact ext_it (A1 := X.A.in1) (Rs := wants (fun r s₂ => r = .none ∧ EP X pins σ Q (.ref q) s₂) X.xe) hi fi FI hl fl FL sb I2 ha2 hl2 upd_same hne hnl (fun n => spi _ n sm) (fun H' s' => spl H' (fun b o e => s' _ _ (sm _ _ e)))
    (fun s' I' => ⟨rfl, .ref q, _, by rw [upd_upd] at I'; exact I', rfl, k q fr⟩)
end
end MX

set_option Elab.async false
set_option linter.all false
set_option maxRecDepth 100000
set_option maxHeartbeats 4000000
/-! {e for target in iter}, whole numbers. -/
namespace MX
open PySem PySem.Spec PyProof.Rows L2 PpSet
abbrev set0 (w : World) : Obj := { cls := .type "set", dict := none, data := .set #[] 0 (.fresh 0 0 (!w.params.followText "set-order")) }
section
variable {X : Cx} {pins : List (Addr × Obj)} {σ : L2.St} {H : Hp} {s : Shared}
theorem addI_ok {E : Value → Shared → Prop} {D : Addr} {S : Int → Bool} {n : Nat} {y : Int} {u : Value} {Q : Value → Shared → Prop} (I : Inv X pins σ H s) (hD : H D = some (SetO X.w D S n)) (room : n + 1 < scanBound) (ru : L2.RelV (.int y) u)
    (h : ∀ s', Inv X pins σ (upd H D (SetO X.w D (fun j => S j || decide (j = y)) (if S y = true then n else n + 1))) s' → Q .none s') : wpAny (model X.prog X.w) X.A (call (.builtin "set.add") [.ref D, u]) Q E s := by
  obtain ⟨t, rfl⟩ := ru
  refine setR_add (setO_get I hD) room fun h' sb new => h _ ?_
  have there : ∃ z, h'.get? D = some z := ⟨_, (Classical.choose_spec (Classical.choose_spec (Classical.choose_spec (Classical.choose_spec new)))).1⟩
  exact I.write (e := D) (t' := s.toks + 1) (by rw [hD]; trivial) (.inl rfl) (fun b o nb e => (sb.2 b nb).trans e) there (setO_new new)
/-- the comprehension's reading: what stands at D is the set so far -/
def tSi (w : World) (wi : TI) (g : TG) (tt : TT) (te : TE) (vs : List Nat) : TE := fun σ H Q => wi σ H fun J H1 => ∀ D, H1 D = none → ∃ W : Nat → Nat → Hp → Prop, (∃ m, W 0 m (upd H1 D (SetO w D (fun _ => false) 0))) ∧ ∀ i m H, W i m H →
  (J.stop i H ∧ Q (.ref D) H) ∨ (J.go i H ∧ ∃ Nx : Hp → Prop, (∀ H', Nx H' → ∃ m', m' < m ∧ W (i + 1) m' H') ∧ ∀ x H', J.yld i H x H' → g x (wipe σ vs) H' fun σ2 H2 => wipe σ2 vs = wipe σ vs ∧ tt σ2 H2 fun b H3 =>
    if b = true then te σ2 H3 fun y H4 => ∃ (c : Int) (S : Int → Bool) (n : Nat), y = .int c ∧ H4 D = some (SetO w D S n) ∧ n + 1 < scanBound ∧ Nx (upd H4 D (SetO w D (fun j => S j || decide (j = c)) (if S c = true then n else n + 1))) else Nx H3)
/-- the block of a comprehension: its context, and what holds of the walked iterator's own objects within -/
theorem own_stat {scope : Scope} {ce : Env} {fp : List Addr} {s3 : Shared} {H3 : Hp} {σ' : L2.St} {H' : Hp} {s' : Shared} (I' : Inv (X.blk s3 H3 scope ce fp) [] σ' H' s') (hn : ∀ b ∈ fp, H' b = none) : ∀ b ∈ fp, FpOk (X.blk s3 H3 scope ce fp) [] H' b := fun b hb => by
  obtain ⟨p, q⟩ := I'.ok.exf b hb
  exact ⟨hn b hb, p, I'.ok.exfs b hb, .inl hb, fun x c e => q x c e, fun r hr => nomatch (show r ∈ ([] : List (Addr × Obj)) from hr)⟩
/-- the turns, within the block -/
theorem si_loop {elt tg iter : Expr} {ifs : List Expr} {scope : Scope} {pos : Pos} {g : TG} {tt : TT} {te : TE} {vs : List Nat} {fp : List Addr} {it D : Addr} {tn : Nat → Heap → Prop} {J : It} {s3 : Shared} {H3 : Hp} {ce : Env} {R : Result → Shared → Prop} {Qe : Hp → Prop} {W : Nat → Nat → Hp → Prop}
    (hc : X.calm = true) (T : Turn X.prog X.w X.K tg J fp it tn) (pg : PG (X.blk s3 H3 scope ce fp) tg g) (pt : PTs (X.blk s3 H3 scope ce fp) ifs tt) (pe : PE (X.blk s3 H3 scope ce fp) elt te)
    (turn : ∀ i m H, W i m H → (J.stop i H ∧ Qe H) ∨ (J.go i H ∧ ∃ Nx : Hp → Prop, (∀ H', Nx H' → ∃ m', m' < m ∧ W (i + 1) m' H') ∧ ∀ x H', J.yld i H x H' → g x (wipe σ vs) H' fun σ2 H2 => wipe σ2 vs = wipe σ vs ∧ tt σ2 H2 fun b H3 =>
      if b = true then te σ2 H3 fun y H4 => ∃ (c : Int) (S : Int → Bool) (n : Nat), y = .int c ∧ H4 D = some (SetO X.w D S n) ∧ n + 1 < scanBound ∧ Nx (upd H4 D (SetO X.w D (fun j => S j || decide (j = c)) (if S c = true then n else n + 1))) else Nx H3))
    (fin : ∀ H' s', Inv (X.blk s3 H3 scope ce fp) [] (wipe σ vs) H' s' → Qe H' → R (.ok .next) s') {m0 : Nat} {H4 : Hp} {s4 : Shared} (I4 : Inv (X.blk s3 H3 scope ce fp) [] (wipe σ vs) H4 s4) (st4 : tn 0 s4.heap) (n4 : ∀ b ∈ fp, H4 b = none) (w4 : W 0 m0 H4) :
    codeAny (model X.prog X.w) X.A (.compLoop (.SetComp elt [⟨tg, iter, ifs, 0⟩] scope pos) 0 (.ref it) (.ref D) ce) R s4 := by
  let L : Nat → Shared → Prop := fun n s' => ∃ i H', Inv (X.blk s3 H3 scope ce fp) [] (wipe σ vs) H' s' ∧ tn i s'.heap ∧ (∀ b ∈ fp, H' b = none) ∧ W i n H'
  refine compLoopS_any L (fun n s5 ⟨i, H5, I5, st5, n5, w5⟩ => ?_) m0 ⟨0, H4, I4, st4, n4, w4⟩
  rcases turn i n H5 w5 with ⟨stop, qq⟩ | ⟨go, Nx, hNx, step⟩
  · refine thnF (T.done (X.blk s3 H3 scope ce fp) rfl rfl rfl hc i [] s5 _ H5 (fun _ _ => False) I5 (own_stat I5 n5) st5 stop) fun r s6 z => ?_
    obtain ⟨rfl, I6⟩ := z
    exact fin H5 s6 I6 qq
  · refine thnF (T.item (X.blk s3 H3 scope ce fp) rfl rfl rfl hc i [] s5 _ H5 (fun _ _ => False) I5 (own_stat I5 n5) st5 go) fun r s6 z => ?_
    obtain ⟨u, rfl, h6⟩ := z
    refine thnF h6 fun _ s7 z => ?_
    obtain ⟨x, H7, I7, r7, y7, st7, n7⟩ := z
    -- what comes of a turn that keeps the iterator's objects
    have next : ∀ {σ8 : L2.St} {s' : Shared} {H' : Hp}, wipe σ8 vs = wipe σ vs → Inv (X.blk s3 H3 scope ce fp) ([] ++ pinsAt fp s7.heap) σ8 H' s' → Nx H' → ∃ m, m < n ∧ L m s' := fun {σ8 s' H'} hw I' nx => by
      obtain ⟨m', lt, w'⟩ := hNx H' nx
      have pin : ∀ b ∈ fp, ∀ o, s7.heap.get? b = some o → s'.heap.get? b = some o ∧ H' b = none := fun b hb o e => by
        obtain ⟨p1, p2, _⟩ := I'.pin (b, o) (List.mem_append_right _ (List.mem_append_right _ (mem_pinsAt hb e)))
        exact ⟨p1, p2⟩
      have ln : (wipe σ vs).length = σ8.length := by rw [← hw, wipe_length]
      have back : Inv (X.blk s3 H3 scope ce fp) [] (wipe σ vs) H' s' := (I'.unpinned (pins := [])).weak ln fun j v e => by
        rw [← hw] at e
        exact (wipe_some e).1
      refine ⟨m', lt, i + 1, H', back, T.keep _ _ _ st7 fun b hb o e => (pin b hb o e).1, fun b hb => ?_, w'⟩
      obtain ⟨o, e, _⟩ := T.obj _ _ st7 b hb
      exact (pin b hb o e).2
    refine thnF (pg.run _ s7 _ H7 x u _ (I7.pinned (own_stat I7 n7) (T.obj _ _ st7)) r7 (step x H7 y7)) fun _ s8 z => ?_
    obtain ⟨σ8, H8, I8, hw, q8⟩ := z
    refine thnF (pt.run _ s8 σ8 H8 _ I8 q8) fun b s9 z => ?_
    obtain ⟨H9, I9, q9⟩ := z
    cases b with
    | false =>
      rw [if_neg Bool.false_ne_true] at q9
      rw [if_neg Bool.false_ne_true]
      exact next hw I9 q9
    | true =>
      rw [if_pos rfl] at q9
      rw [if_pos rfl]
      refine thnF (pe.run _ s9 σ8 H9 _ I9 q9) fun z s10 w => ?_
      obtain ⟨yv, H10, I10, r10, c, S, k, rfl, hD, room, nx⟩ := w
      exact addI_ok (X := X.blk s3 H3 scope ce fp) I10 hD room r10 fun s11 I11 => next hw I11 nx
/-- {elt for target in iter if ..}: a set of whole numbers -/
theorem pe_si {elt tg iter : Expr} {ifs : List Expr} {scope : Scope} {own : List (Str × Nat)} {pos : Pos} {wi : TI} {g : TG} {tt : TT} {te : TE} (hc : X.calm = true) (hN : X.N.Nodup) (hi : PI X tg iter wi) (ok : BlkOk X.N X.env.scope scope own)
    (hg : ∀ (s : Shared) (H : Hp) (C : Addr) (cl : List (Str × Addr)) (fp : List Addr), PG (X.blk s H scope (compEnvC scope cl C X.env) fp) tg g) (ht : ∀ (s : Shared) (H : Hp) (C : Addr) (cl : List (Str × Addr)) (fp : List Addr), PTs (X.blk s H scope (compEnvC scope cl C X.env) fp) ifs tt)
    (he : ∀ (s : Shared) (H : Hp) (C : Addr) (cl : List (Str × Addr)) (fp : List Addr), PE (X.blk s H scope (compEnvC scope cl C X.env) fp) elt te) (hs : ∀ x, foldedSetIterable iter X.env x = pure x := by intro _; rfl) :
    PE X (.SetComp elt [⟨tg, iter, ifs, 0⟩] scope pos) (tSi X.w wi g tt te (own.map (·.2))) := by
  refine ⟨fun pins s σ H Q I h => ?_⟩
  rw [eval_SetComp]
  have outer : ∀ y ∈ scope.names, y.2 = .free → ∃ c, X.env.cells.lookup y.1 = some c := fun y hy e => (ok.free y hy e).elim (fun k => I.ok.has _ (.inl k)) fun k => I.ok.has _ (.inr k)
  refine wpAny_comprehension_free rfl hs (closure_ok outer) ok.kind (fun y hy e => by rw [ok.uniq y hy, e]) (thn (hi.run pins s σ H _ I h) fun xv s1 hx => thn hx fun itv s2 h2 => ?_)
  obtain ⟨it, fp, tn, J, H2, rfl, I2, T, st2, f2, q⟩ := h2
  refine newSet_ok (newEnv_comp ?_)
  obtain ⟨W, ⟨m0, w0⟩, turn⟩ := q s2.heap.objs.size I2.fresh
  have I3 : Inv X pins σ (upd H2 s2.heap.objs.size (SetO X.w s2.heap.objs.size (fun _ => false) 0)) { s2 with heap := s2.heap.push (set0 X.w) } := I2.laid (t' := s2.toks) (fun b o e => Heap.get?_push_of_some _ e) (Nat.le_refl _) (setO_new (setR_fresh X.w))
  have small : ∀ b ∈ fp, b < s2.heap.objs.size := fun b hb => let ⟨_, e, _⟩ := T.obj _ _ st2 b hb; Heap.lt_size e
  generalize hD : s2.heap.objs.size = D at *
  generalize hs3 : ({ s2 with heap := s2.heap.push (set0 X.w) } : Shared) = s3 at *
  have h3 : s3.heap = s2.heap.push (set0 X.w) := by rw [← hs3]
  generalize hH3 : upd H2 D (SetO X.w D (fun _ => false) 0) = H3 at *
  have f3 : ∀ b ∈ fp, FpOk X pins H3 b ∧ b < s3.heap.objs.size := fun b hb => by
    refine ⟨⟨?_, (f2 b hb).2⟩, by rw [h3, Heap.size_push, hD]; exact Nat.lt_succ_of_lt (small b hb)⟩
    rw [← hH3, upd_ne (Nat.ne_of_lt (small b hb))]
    exact (f2 b hb).1
  have I4 := block_start I3 ok hN f3
  have cL : (compEnvC scope (cellsFrom (s3.heap.objs.size + 1) scope.names (cloFrom X.env.cells scope.names [])) s3.heap.objs.size X.env).locals = s3.heap.objs.size := rfl
  have st4 : tn 0 (pushCells (s3.heap.push { cls := .type "dict", data := .dict #[] }) scope.names) := T.keep _ _ _ st2 fun b _ o e => pushCells_keeps _ _ _ _ (Heap.get?_push_of_some _ (by rw [h3]; exact Heap.get?_push_of_some _ e))
  have loop := si_loop (iter := iter) (pos := pos) (R := compPost (model X.prog X.w) X.A X.xe none (EP X pins σ Q) (.ref D) s3.heap.objs.size) hc T (hg s3 H3 _ _ fp) (ht s3 H3 _ _ fp) (he s3 H3 _ _ fp) turn (fun H' s' I' qq => by
    have I7 : Inv X pins σ H' s' := I3.call' (ch := fp) I'.os I'.base I'.hok I'.bare fun b hb => ⟨(f3 b hb).1.2.2.2.1, (f3 b hb).1.2.1, (f3 b hb).1.2.2.2.2.1, (f3 b hb).1.2.2.2.2.2⟩
    obtain ⟨m, hn, _⟩ := I'.loc
    have nC : H' s3.heap.objs.size = none := I'.free
    refine ⟨m, hn, fun h'' sb => ?_⟩
    obtain ⟨g0, g1, g2, g3, g4, g5⟩ := I3.fpOk (Nat.le_refl _) nC
    exact ⟨.ref D, H', I7.turned (t' := s'.toks) (fun b o hb e => (sb.2 b hb).trans e) g0 g1 g3 g4 g5, rfl, qq⟩) I4 st4 (fun b hb => (f3 b hb).1.1) w0
  exact codeAny_compStart_set loop (T.self X.A 0 _ _ _ st4 loop)
end
end MX

set_option Elab.async false
set_option linter.all false
set_option maxRecDepth 100000
set_option maxHeartbeats 4000000
/-! o(k = v), o of an own class with __call__. -/
namespace MX
open PySem PySem.Spec PyProof.Rows L2
theorem callO_kw {M : Model} {A : Around} {E : Value → Shared → Prop} {s : Shared} {a : Addr} {pos : Pos} {Q : Value → Shared → Prop} {kw : List (Option Str × Sem Value)} (some_ : kw.any (·.1.isNone) = false)
    (h : wpAny M A (evalArgs (.ref a) true [] kw) (fun z s₁ => (∃ C ox od, W.InstAt s₁.heap a ox C od ∧ ox.data = .plain) ∧ wpAny M A (call (.ref a) z.pos z.kw) Q E s₁) E s) : wpAny M A (callWith pos (.ref a) [] [] kw) Q E s := by
  unfold callWith
  refine wpAny_bind (wpAny_holding (wpAny_mono h (fun z s₁ w => ?_) fun _ _ y => y))
  obtain ⟨⟨C, ox, od, J, hd⟩, w⟩ := w
  refine wpAny_bind (wpAny_standAt ?_)
  simp only [show (([] : List (Bool × Sem Value)).any (·.1) || kw.any (·.1.isNone)) = false from some_]
  refine wpAny_bind ((W.kco_keeper (M := M) J hd).here ?_)
  exact wpAny_bind (wpAny_mono (wpAny_operateT (by simpa using w)) (fun r s₂ hr => wpAny_bind (wpAny_holding (wpAny_point (wpAny_pure hr)))) fun _ _ y => y)
section
variable {X : Cx} {k : Nat} {C g : Addr} {fd : FuncData} {ps ks : List Str} {sp : Sp} {E : XK} {fe : Expr} {kws : List Keyword} {tf : TE} {tk : TA} {pos : Pos} {gg : List Value → List Value → List Value} {gV : List V → List V → List V}
def tCallOK (X : Cx) (C : Addr) (sp : Sp) (gV : List V → List V → List V) (E : XK) (tf : TE) (tk : TA) : TE := fun σ H Q => tf σ H fun y H1 => ∃ a, y = V.ref a ∧ tk σ H1 fun zs H2 => StX.InsC X H2 a C ∧ sp (gV [V.ref a] zs) H2 Q E
theorem pe_callOK (hf : PE X fe tf) (c : StX.CallO X.K C g) (F : FnOk X.prog X.w X.K X.mg X.base CX0 k g fd ps sp) (hr : Room k X.A) (hb : KBinds X.K fd ps ks gg gV) (hkw : PK X kws tk)
    (hall : (backToKw pos (keywordEach kws X.env)).all (·.1.isSome) = true := by rfl) (hks : (backToKw pos (keywordEach kws X.env)).filterMap (·.1) = ks := by rfl) (hno : (backToKw pos (keywordEach kws X.env)).any (·.1.isNone) = false := by rfl)
    (ht : eval (.Call fe [] kws pos) X.env = (do callWith pos (← eval fe X.env) [] (backTo pos (starEach [] X.env)) (backToKw pos (keywordEach kws X.env))) := by rfl) : PE X (.Call fe [] kws pos) (tCallOK X C sp gV E tf tk) := by
  refine ⟨fun pins s σ H Q I h => ?_⟩
  rw [ht]
  refine wpAny_bind (thn (hf.run pins s σ H _ I h) fun u s1 z => ?_)
  obtain ⟨y, H1, I1, ry, a, rfl, q⟩ := z
  obtain rfl : u = Value.ref a := ry
  refine callO_kw hno (evalArgs_kw2_nil hall (thn (hkw.run pos pins s1 σ H1 _ I1 q) fun ws s2 z => ?_))
  obtain ⟨zs, H2, I2, rz, hi, q2⟩ := z
  obtain ⟨ox, od, J, hd⟩ := StX.insC_at I2 hi
  refine ⟨⟨C, ox, od, J, hd⟩, wpAny_call (W.kco_code I2.kIn J hd c.at_ c.fn c.fi ?_)⟩
  have r2 := hb.rel (vs := [V.ref a]) (us := [Value.ref a]) (.cons (show L2.RelV (V.ref a) (.ref a) from rfl) .nil) rz
  have hl : (gg [.ref a] ws).length = ps.length := by rw [← r2.length]; exact F.len _ _ _ _ q2
  rw [hks]
  refine codeAny_mono (F.run X.A X.stack s2 H2 ⟨[.ref a], ks.zip ws⟩ (gg [.ref a] ws) (gV [.ref a] zs) Q E hr I2.env0 (hb.to s2 [.ref a] ws I2.kIn hl) r2 q2) fun r s' hq => ?_
  cases r with
  | error e => exact False.elim hq
  | ok fl =>
    cases fl with
    | ret u => exact I2.after hq
    | next => exact False.elim hq
    | brk => exact False.elim hq
    | cont => exact False.elim hq
end
end MX

set_option Elab.async false
set_option linter.all false
set_option maxRecDepth 100000
set_option maxHeartbeats 4000000
/-! False in d, d a dict with keys of all kinds, 0 not among them. -/
namespace MX
open PySem PySem.Spec PyProof.Rows L2
section
variable {prog : Program} {w : World} {h : Heap} {A : Around} {E : Value → Shared → Prop} {s : Shared} {d : Addr} {xs : List (TK × Value × Value)}
theorem eqvF {k : TK} (n : k ≠ .inl (.inl 0)) : PyData.eqv (datT k) (.bool false) = false := by
  match k, n with
  | .inl (.inl i), n =>
    have : i ≠ 0 := fun e => n (by rw [e])
    simp [datT, dat1, PyData.eqv, this]
  | .inl (.inr x), _ => simp [datT, dat1, PyData.eqv]
  | .inr ks, _ => simp [datT, PyData.eqv]
theorem eqBoolF {k : TK} {u : Value} {Q : Bool → Shared → Prop} (hu : A.units + 64 < cLine) (ha : isT prog w s.heap k u) (oa : okT k = true) (n : k ≠ .inl (.inl 0)) (q : Q false s) : wpAny (model prog w) A (eqBool u (.bool false)) Q E s := by
  obtain ⟨as, ra⟩ := readsT ha
  have d := depthT k
  exact SeqAt.eqBoolOverData prog w A E s u (.bool false) _ (.bool false) as [] Q ra (.bool ..) (canT oa) rfl (by omega) (by rw [eqvF n]; exact q)
theorem tells_F {stored : List Value} {Q : Bool → Shared → Prop} (hst : ∀ v ∈ stored, ∃ k', isT prog w s.heap k' v) (q : Q false s) : wpAny (model prog w) A (tableMayTell (.bool false) stored) Q E s := by
  unfold tableMayTell
  split
  · exact wpAny_pure q
  · refine wpAny_bind (show wpAny _ _ (pure true) _ _ _ from wpAny_pure ?_)
    simp only [Bool.not_true, Bool.false_eq_true, if_false]
    refine wpAny_bind (wpAny_forIn_list _ (fun rest r s' => s' = s ∧ r = (none, ()) ∧ ∀ v ∈ rest, ∃ k', isT prog w s.heap k' v) _ ?_ ?_ _ _ ⟨rfl, rfl, hst⟩)
    · rintro v rest r s' ⟨rfl, rfl, al⟩
      obtain ⟨k', hv⟩ := al v List.mem_cons_self
      refine wpAny_bind (quietT hv ?_)
      simp only [Bool.not_true, Bool.false_eq_true, if_false]
      exact wpAny_pure ⟨rfl, rfl, fun u hm => al u (List.mem_cons_of_mem _ hm)⟩
    · rintro r s' ⟨rfl, rfl, _⟩
      exact wpAny_pure q
theorem find_F {o : Obj} {es : Array DictEntry} {ep : Nat} {hk : Int} {Q : Option Nat → Shared → Prop} (hu : A.units + 64 < cLine) (ho : s.heap.get? d = some o) (hd : o.data = .dict es ep)
    (he : es.toList = xs.map (entT prog w)) (his : ∀ x ∈ xs, isT prog w s.heap x.1 x.2.1 ∧ okT x.1 = true) (no : ∀ x ∈ xs, x.1 ≠ .inl (.inl 0)) (q : Q none s) : wpAny (model prog w) A (dictFind d (.bool false) hk) Q E s := by
  have atp : ∀ i, i ∈ plc es hk → ∃ x, x ∈ xs ∧ es[i]? = some (entT prog w x) ∧ hashT prog w x.1 = hk := fun i hi => by
    obtain ⟨lt, hh⟩ := plc_mem.mp hi
    have sz := ent_size he
    have hx : xs[i]? = some (xs[i]'(by omega)) := List.getElem?_eq_getElem _
    have hex := ent_at he i
    rw [hx] at hex
    rw [hex] at hh
    exact ⟨_, List.getElem_mem _, hex, Option.some.inj hh⟩
  have hst : ∀ v ∈ (plc es hk).filterMap (fun i => es[i]?.map (·.key)), ∃ k', isT prog w s.heap k' v := fun v hv => by
    obtain ⟨i, hi, e⟩ := List.mem_filterMap.mp hv
    obtain ⟨x, hm, hex, _⟩ := atp i hi
    rw [hex] at e
    cases e
    exact ⟨x.1, (his x hm).1⟩
  unfold dictFind
  try with_reducible refine wpAny_holding ?_
  refine wpAny_bind (wpAny_dictEntries ho hd ?_)
  dsimp only
  by_cases hp0 : ((Value.bool false :: (plc es hk).filterMap (fun i => es[i]?.map (·.key))).all carriedByValue) = true
  · rw [if_pos hp0]
    unfold dictWalkPlain
    refine wpAny_bind (wpAny_forIn_list _ (fun rest b s' => s' = s ∧ b = (none, ()) ∧ ∀ i ∈ rest, i ∈ plc es hk) _ ?_ ?_ _ _ ⟨rfl, rfl, fun _ h => h⟩)
    · rintro i rest b s' ⟨rfl, rfl, al⟩
      obtain ⟨x, hmem, hex, hh⟩ := atp i (al i List.mem_cons_self)
      rw [hex]
      dsimp only [entT]
      rw [if_pos (by rw [hh]; exact beq_self_eq_true _)]
      refine wpAny_bind (wpAny_dictEpoch ho hd (wpAny_bind (eqBoolF hu (his x hmem).1 (his x hmem).2 (no x hmem) (wpAny_bind (wpAny_dictEpoch ho hd ?_)))))
      show wpAny _ _ (if (ep != ep) = true then _ else _) _ E _
      rw [if_neg (by simp)]
      simp only [Bool.false_eq_true, if_false]
      refine wpAny_bind (wpAny_rule ?_)
      exact wpAny_pure ⟨rfl, rfl, fun j hj => al j (List.mem_cons_of_mem _ hj)⟩
    · rintro b s' ⟨rfl, rfl, _⟩
      exact wpAny_pure q
  · rw [if_neg hp0]
    by_cases hone : ((plc es hk).filterMap (fun i => es[i]?.map (·.key)) == [Value.bool false]) = true <;> (first | rw [if_pos hone] | rw [if_neg hone]) <;> (first | refine wpAny_bind (wpAny_pure ?_) | refine wpAny_bind (tells_F hst ?_)) <;> (
      rw [if_neg (by simp)]
      refine wpAny_bind (wpAny_forIn_list _ (fun rest b s' => s' = s ∧ b = (none, none) ∧ ∀ i ∈ rest, i ∈ plc es hk) _ ?_ ?_ _ _ ⟨rfl, rfl, fun _ h => h⟩)
      · rintro i rest b s' ⟨rfl, rfl, al⟩
        obtain ⟨x, hmem, hex, hh⟩ := atp i (al i List.mem_cons_self)
        rw [hex]
        dsimp only [entT]
        rw [if_pos (by rw [hh]; exact beq_self_eq_true _)]
        refine wpAny_bind (wpAny_dictEpoch ho hd (wpAny_bind (eqBoolF hu (his x hmem).1 (his x hmem).2 (no x hmem) (wpAny_bind (wpAny_dictEpoch ho hd ?_)))))
        show wpAny _ _ (if (ep != ep) = true then _ else _) _ E _
        rw [if_neg (by simp)]
        simp only [Bool.false_eq_true, if_false]
        refine wpAny_bind (wpAny_rule ?_)
        exact wpAny_pure ⟨rfl, rfl, fun j hj => al j (List.mem_cons_of_mem _ hj)⟩
      · rintro b s' ⟨rfl, rfl, _⟩
        exact wpAny_pure q)
theorem contains_F {Q : Bool → Shared → Prop} (hu : A.units + 100 < cLine) (hd : (d == sysModules) = false) (hm : TabIs prog w s.heap d xs) (no : ∀ x ∈ xs, x.1 ≠ .inl (.inl 0)) (q : Q false { s with toks := s.toks + 1 }) : wpAny (model prog w) A (contains (.ref d) (.bool false)) Q E s := by
  refine wpAny_contains_slot hm.typeIs F.slot_dict_contains ?_
  refine call_meetsIn F.slot_dict_contains hm.typeIs F.entry_dict_contains (F.args_dict_contains_2 _ _) (S := fun A' R s' => A' = A ∧ s' = s ∧ R (.ok (.ret (.bool false))) { s with toks := s.toks + 1 }) (fun A' R s' hS => ?_) ⟨rfl, rfl, wpAny_truthy_bool q⟩
  obtain ⟨rfl, rfl, hq⟩ := hS
  obtain ⟨o, es, ep, ho, _, hdd, he, his, hn⟩ := hm
  show wpAny _ _ (dictGet d (.bool false) >>= _) _ _ _
  refine wpAny_bind ?_
  unfold dictGet
  try with_reducible refine wpAny_holding ?_
  refine wpAny_bind (PpSet.pyHash_bool (wpAny_bind (find_F (s := { s' with toks := s'.toks + 1 }) (by show A'.units + 1 + 64 < cLine; omega) ho hdd he his no (wpAny_pure ?_))))
  exact wpAny_bind (wpAny_pendingKey_other hd (wpAny_pure hq))
end
section
variable {X : Cx}
/-- False in d -/
def rInF (P : Program) (w : World) : R2 := fun x y H Q => ∃ d kvs, x = .bl false ∧ y = .ref d ∧ MxAt P w H d kvs ∧ (∀ p ∈ kvs, p.1 ≠ .inl (.inl 0)) ∧ Q (.bl false) H
theorem op_inF (hu : X.A.units + 100 < cLine) : OpR X (compareOp .In) (rInF X.prog X.w) := by
  intro pins s σ H x y v u Q I rx ry h
  obtain ⟨d, kvs, rfl, rfl, ⟨m1, _, es0, pr, e⟩, no, q⟩ := h
  cases ry
  cases (show v = Value.bool false from rx)
  have ky := ents_keys pr
  refine wpAny_bind (contains_F hu m1 (MxAt.tab I.hok pr e) (fun x hx z => ?_) ?_)
  · have : x.1 ∈ kvs.map (·.1) := by rw [ky]; exact List.mem_map_of_mem hx
    obtain ⟨p, hp, ep⟩ := List.mem_map.mp this
    exact no p hp (ep.trans z)
  · exact wpAny_pure ⟨.bl false, H, I.tok _, rfl, q⟩
/-- x in d, x a key or False -/
def rInMF (P : Program) (w : World) : R2 := fun x y H Q => rInM P w x y H Q ∨ rInF P w x y H Q
theorem op_inMF (hu : X.A.units + 100 < cLine) : OpR X (compareOp .In) (rInMF X.prog X.w) := by
  intro pins s σ H x y v u Q I rx ry h
  rcases h with h | h
  · exact op_inM hu pins s σ H x y v u Q I rx ry h
  · exact op_inF hu pins s σ H x y v u Q I rx ry h
end
end MX

set_option Elab.async false
set_option linter.all false
set_option maxRecDepth 100000
set_option maxHeartbeats 1000000
/-! zip whose pairs are kept, enumerate of it and of tuples, at the library's level. -/
namespace NZ
open PySem
open PySem.Sem (wp)
/-- an iterator over the tuple (true) or the list (false) at l, at place i -/
def SIt (h : Heap) : Bool → Addr → Addr → Nat → Prop
  | true, it, l, i => h.IsTupleIter it l i
  | false, it, l, i => h.IsListIter it l i
def SSq (h : Heap) : Bool → Addr → Array Value → Prop
  | true, l, xs => h.IsTuple l xs
  | false, l, xs => h.IsList l xs
theorem SIt.ext {h h' : Heap} {tp : Bool} {it l b : Addr} {i : Nat} (x : SIt h tp it l i) (e : Heap.ExtBut b h h') (n : it ≠ b) : SIt h' tp it l i := by
  cases tp with
  | true => exact Heap.IsTupleIter.extBut x e n
  | false => exact Heap.IsListIter.extBut x e n
theorem SSq.ext {h h' : Heap} {tp : Bool} {l b : Addr} {xs : Array Value} (x : SSq h tp l xs) (e : Heap.ExtBut b h h') (n : l ≠ b) : SSq h' tp l xs := by
  cases tp with
  | true => exact Heap.IsTuple.extBut x e n
  | false => exact Heap.IsList.extBut x e n
theorem SIt.at_ {h h' : Heap} {tp : Bool} {it l : Addr} {i : Nat} (x : SIt h tp it l i) (e : ∀ o, h.get? it = some o → h'.get? it = some o) : SIt h' tp it l i := by
  cases tp with
  | true => exact Heap.IsTupleIter.at x e
  | false => exact Heap.IsListIter.at x e
theorem SIt.lt {h : Heap} {tp : Bool} {it l : Addr} {i : Nat} (x : SIt h tp it l i) : it < h.objs.size := by
  cases tp with
  | true => obtain ⟨_, e, _⟩ := x; exact Heap.lt_size e
  | false => obtain ⟨_, e, _⟩ := x; exact Heap.lt_size e
theorem SIt.obj {h : Heap} {tp : Bool} {it l : Addr} {i : Nat} (x : SIt h tp it l i) : ∃ o, h.get? it = some o ∧ ∀ v, o.data ≠ .cell v := by
  cases tp with
  | true => obtain ⟨o, e, _, d⟩ := x; exact ⟨o, e, fun v q => by rw [d] at q; cases q⟩
  | false => obtain ⟨o, e, _, d⟩ := x; exact ⟨o, e, fun v q => by rw [d] at q; cases q⟩
section
variable {prog : Program} {w : World} {A : Around} {E : Value → Shared → Prop} {s : Shared}
theorem next_item {tp : Bool} {it l : Addr} {i : Nat} {xs : Array Value} {x : Value} {Q : Value → Shared → Prop} (hit : SIt s.heap tp it l i) (hl : SSq s.heap tp l xs) (hx : xs[i]? = some x)
    (hQ : ∀ h', SIt h' tp it l (i + 1) → Heap.SameBut it s.heap h' → Q x { s with heap := h' }) : wpAny (model prog w) A (Builtin.SmallTypes.nextOf (.ref it)) Q E s := by
  cases tp with
  | true => exact RZ.nextOf_tuple_item hit hl hx hQ
  | false => exact wpAny_nextOf_list_item hit hl hx hQ
theorem next_end {tp : Bool} {it l : Addr} {i : Nat} {xs : Array Value} {Q : Value → Shared → Prop} (hh : A.handled = none) (hit : SIt s.heap tp it l i) (hl : SSq s.heap tp l xs) (hx : xs[i]? = none)
    (hE : ∀ h' e, Heap.ExtBut it s.heap h' → (∃ o, h'.get? e = some o ∧ o.cls = .type "StopIteration") → E (.ref e) { s with heap := h' }) : wpAny (model prog w) A (Builtin.SmallTypes.nextOf (.ref it)) Q E s := by
  cases tp with
  | true => exact RZ.nextOf_tuple_end hh hit hl hx hE
  | false => exact wpAny_nextOf_list_end hh hit hl hx hE
theorem alive {a : Addr} {Q : Option Obj → Shared → Prop} (h : Q (s.heap.get? a) s) : wpAny (model prog w) A (loadIfAlive a) Q E s := fun _ _ _ => h
/-- a zip: f0 tells the pair that it gave out, f1 that this is known to be kept -/
abbrev ZipO (h : Heap) (z TI TO : Addr) (f0 : Value) (f1 : Bool) : Prop := h.get? z = some { cls := .type "zip", dict := none, data := .fields #[f0, .bool f1, .bool false, .ref TI, .ref TO], slots := #[] }
def OkF (f0 : Value) : Prop := f0 = .none ∨ ∃ T : Addr, f0 = rawInt T
theorem isFree_zip {z TI TO : Addr} {f0 : Value} {f1 : Bool} {Q : Bool → Shared → Prop} (hz : ZipO s.heap z TI TO f0 f1) (ok : OkF f0)
    (h : ∀ b h' f1', ZipO h' z TI TO f0 f1' → Heap.SameBut z s.heap h' → Q b { s with heap := h' }) : wpAny (model prog w) A (Builtin.SmallTypes.ownedTupleIsFree (.ref z)) Q E s := by
  unfold Builtin.SmallTypes.ownedTupleIsFree
  rcases ok with rfl | ⟨T, rfl⟩
  · exact wpAny_bind (wpAny_field hz rfl (x := .none) rfl (wpAny_pure (h true s.heap f1 hz (Heap.SameBut.refl _ _))))
  · refine wpAny_bind (wpAny_field hz rfl (x := rawInt T) rfl ?_)
    show wpAny _ _ (loadIfAlive ((T : Int).toNat) >>= _) _ _ _
    refine wpAny_bind (alive ?_)
    cases e : s.heap.get? (T : Int).toNat with
    | none =>
      simp only [Option.isNone_none, if_true]
      exact wpAny_pure (h true s.heap f1 hz (Heap.SameBut.refl _ _))
    | some o =>
      simp only [Option.isNone_some, Bool.false_eq_true, if_false]
      refine wpAny_bind (wpAny_field hz rfl (x := .bool f1) rfl ?_)
      cases f1 with
      | true =>
        rw [if_neg (show ¬ ((Value.bool true != Value.bool true) = true) from Bool.false_ne_true)]
        exact wpAny_pure (h false s.heap true hz (Heap.SameBut.refl _ _))
      | false =>
        rw [if_pos (show (Value.bool false != Value.bool true) = true from rfl)]
        exact wpAny_bind (wpAny_setField_rec hz (by simp) fun h₁ hz₁ hs₁ => wpAny_pure (h false h₁ true hz₁ hs₁))
/-- zip's next pair, whatever became of the one before -/
theorem zip_item {ta tb : Bool} {z TI TO i1 i2 l1 l2 : Addr} {f0 : Value} {f1 : Bool} {k1 k2 : Nat} {xs ys : Array Value} {x y a b : Value} {Q : Value → Shared → Prop} (D : ZipApart z TI TO i1 i2 l1 l2)
    (hz : ZipO s.heap z TI TO f0 f1) (ok : OkF f0) (hTI : IsPair s.heap TI (.ref i1) (.ref i2)) (hTO : IsPair s.heap TO a b)
    (h1 : SIt s.heap ta i1 l1 k1) (h2 : SIt s.heap tb i2 l2 k2) (hl1 : SSq s.heap ta l1 xs) (hl2 : SSq s.heap tb l2 ys) (hx : xs[k1]? = some x) (hy : ys[k2]? = some y)
    (hQ : ∀ h' f0' f1', ZipO h' z TI TO f0' f1' → OkF f0' → (∃ a b, IsPair h' TO a b) → SIt h' ta i1 l1 (k1 + 1) → SIt h' tb i2 l2 (k2 + 1) → IsPair h' s.heap.objs.size x y → h'.objs.size = s.heap.objs.size + 1 →
      (∀ c o, c ≠ z → c ≠ TO → c ≠ i1 → c ≠ i2 → s.heap.get? c = some o → h'.get? c = some o) → Q (.ref s.heap.objs.size) { s with heap := h' }) :
    wpAny (model prog w) A (Builtin.«zip.__next__» ⟨[.ref z], []⟩) (fun fin s' => ∃ v, fin = .done (.ret v) ∧ Q v s') E s := by
  show wpAny _ _ (field (.ref z) 2 >>= _) _ _ _
  refine wpAny_bind (wpAny_field hz rfl (x := .bool false) rfl ?_)
  show wpAny _ _ (field (.ref z) 3 >>= _) _ _ _
  refine wpAny_bind (wpAny_field hz rfl (x := .ref TI) rfl ?_)
  refine wpAny_bind (wpAny_seqItems hTI rfl ?_)
  show wpAny _ _ (Builtin.SmallTypes.ownedTupleIsFree (.ref z) >>= _) _ _ _
  refine wpAny_bind (isFree_zip hz ok fun bf h₀ f1₀ hz₀ hs₀ => ?_)
  have hTO₀ : IsPair h₀ TO a b := hs₀.extBut _ _ D.TOz hTO
  have h1₀ := h1.ext hs₀.extBut D.i1z
  have h2₀ := h2.ext hs₀.extBut D.i2z
  have hl1₀ := hl1.ext hs₀.extBut D.l1z
  have hl2₀ := hl2.ext hs₀.extBut D.l2z
  have hsz₀ : h₀.objs.size = s.heap.objs.size := hs₀.1
  cases bf with
  | true =>
    simp only [if_true]
    refine wpAny_bind (wpAny_rule ?_)
    refine wpAny_bind (wpAny_field hz₀ rfl (x := .ref TO) rfl ?_)
    refine wpAny_bind (wpAny_setField_rec hz₀ (by simp) fun h₁ hz₁ hs₁ => ?_)
    replace hz₁ : ZipO h₁ z TI TO .ellipsis f1₀ := hz₁
    replace hs₁ : Heap.SameBut z h₀ h₁ := hs₁
    refine wpAny_bind ?_
    simp only [List.zipIdx_cons, List.zipIdx_nil, List.forIn_cons, List.forIn_nil]
    refine wpAny_bind (wpAny_bind (wpAny_onRaise ?_))
    show wpAny _ _ (Builtin.SmallTypes.nextOf (.ref i1) >>= _) _ _ _
    refine wpAny_bind (next_item (s := { s with heap := h₁ }) (h1₀.ext hs₁.extBut D.i1z) (hl1₀.ext hs₁.extBut D.l1z) hx fun h₂ h1₂ hs₂ => wpAny_pure ?_)
    have hTO₂ : IsPair h₂ TO a b := hs₂.extBut _ _ D.TOi1 (hs₁.extBut _ _ D.TOz hTO₀)
    refine wpAny_bind (wpAny_seqItems hTO₂ rfl ?_)
    refine wpAny_bind (wpAny_updateSeq_pair hTO₂ fun h₃ hTO₃ hs₃ => ?_)
    replace hTO₃ : IsPair h₃ TO x b := hTO₃
    refine wpAny_bind (wpAny_letGo (wpAny_pure ?_))
    refine wpAny_bind (wpAny_bind (wpAny_onRaise ?_))
    show wpAny _ _ (Builtin.SmallTypes.nextOf (.ref i2) >>= _) _ _ _
    refine wpAny_bind (next_item (s := { s with heap := h₃ }) (((h2₀.ext hs₁.extBut D.i2z).ext hs₂.extBut D.i12.symm).ext hs₃.extBut D.TOi2.symm)
      (((hl2₀.ext hs₁.extBut D.l2z).ext hs₂.extBut D.l2i1).ext hs₃.extBut D.l2TO) hy fun h₄ h2₄ hs₄ => wpAny_pure ?_)
    have hTO₄ : IsPair h₄ TO x b := hs₄.extBut _ _ D.TOi2 hTO₃
    refine wpAny_bind (wpAny_seqItems hTO₄ rfl ?_)
    refine wpAny_bind (wpAny_updateSeq_pair hTO₄ fun h₅ hTO₅ hs₅ => ?_)
    replace hTO₅ : IsPair h₅ TO x y := hTO₅
    refine wpAny_bind (wpAny_letGo (wpAny_pure (wpAny_pure ?_)))
    refine wpAny_bind (wpAny_seqItems hTO₅ rfl ?_)
    refine wpAny_bind (wpAny_newTuple ?_)
    have hsz : h₅.objs.size = s.heap.objs.size := by rw [hs₅.1, hs₄.1, hs₃.1, hs₂.1, hs₁.1, hsz₀]
    have hz₅ : ZipO h₅ z TI TO .ellipsis f1₀ := hs₅.extBut _ _ D.TOz.symm (hs₄.extBut _ _ D.i2z.symm (hs₃.extBut _ _ D.TOz.symm (hs₂.extBut _ _ D.i1z.symm hz₁)))
    have hk₅ : ∀ c o, c ≠ z → c ≠ TO → c ≠ i1 → c ≠ i2 → s.heap.get? c = some o → h₅.get? c = some o := fun c o c1 c2 c3 c4 e =>
      hs₅.extBut _ _ c2 (hs₄.extBut _ _ c4 (hs₃.extBut _ _ c2 (hs₂.extBut _ _ c3 (hs₁.extBut _ _ c1 (hs₀.extBut _ _ c1 e)))))
    have h1₅ : SIt h₅ ta i1 l1 (k1 + 1) := ((h1₂.ext hs₃.extBut D.TOi1.symm).ext hs₄.extBut D.i12).ext hs₅.extBut D.TOi1.symm
    have h2₅ : SIt h₅ tb i2 l2 (k2 + 1) := h2₄.ext hs₅.extBut D.TOi2.symm
    have hzlt : z < h₅.objs.size := Heap.lt_size hz₅
    have hTOlt : TO < h₅.objs.size := Heap.lt_size hTO₅
    show wpAny _ _ (Builtin.SmallTypes.ownedTupleHandOut (.ref z) (.ref h₅.objs.size) >>= _) _ _ _
    refine wpAny_bind ?_
    unfold Builtin.SmallTypes.ownedTupleHandOut
    have hz₆ : ZipO (h₅.push { cls := .type "tuple", data := .seq #[x, y] }) z TI TO .ellipsis f1₀ := Heap.get?_push_of_some _ hz₅
    refine wpAny_bind (wpAny_setField_rec hz₆ (by simp) fun h₇ hz₇ hs₇ => ?_)
    replace hz₇ : ZipO h₇ z TI TO (rawInt h₅.objs.size) f1₀ := hz₇
    refine wpAny_setField_rec hz₇ (by simp) fun h₈ hz₈ hs₈ => ?_
    replace hz₈ : ZipO h₈ z TI TO (rawInt h₅.objs.size) false := hz₈
    have up : ∀ c o, c ≠ z → h₅.get? c = some o → h₈.get? c = some o := fun c o c1 e => hs₈.extBut _ _ c1 (hs₇.extBut _ _ c1 (Heap.get?_push_of_some _ e))
    have hT₈ : IsPair h₈ h₅.objs.size x y := hs₈.extBut _ _ (Nat.ne_of_gt hzlt) (hs₇.extBut _ _ (Nat.ne_of_gt hzlt) (Heap.get?_push_size _ rfl))
    have hz8 : h₈.objs.size = h₅.objs.size + 1 := by rw [hs₈.1, hs₇.1, Heap.size_push]
    rw [hsz] at hz₈ hT₈ hz8
    refine wpAny_pure ⟨_, rfl, ?_⟩
    show Q (.ref h₅.objs.size) _
    rw [hsz]
    exact hQ h₈ _ _ hz₈ (.inr ⟨_, rfl⟩) ⟨_, _, up _ _ D.TOz hTO₅⟩ (h1₅.at_ fun o e => up _ o D.i1z e) (h2₅.at_ fun o e => up _ o D.i2z e) hT₈ hz8 fun c o c1 c2 c3 c4 e => up c o c1 (hk₅ c o c1 c2 c3 c4 e)
  | false =>
    simp only [Bool.false_eq_true, if_false]
    refine wpAny_bind ?_
    rw [← Array.forIn_toList]
    simp only [List.forIn_cons, List.forIn_nil]
    refine wpAny_bind (wpAny_bind (wpAny_holding ?_))
    show wpAny _ _ (Builtin.SmallTypes.nextOf (.ref i1) >>= _) _ _ _
    refine wpAny_bind (next_item (s := { s with heap := h₀ }) h1₀ hl1₀ hx fun h₂ h1₂ hs₂ => wpAny_pure ?_)
    refine wpAny_pure ?_
    refine wpAny_bind (wpAny_bind (wpAny_holding ?_))
    show wpAny _ _ (Builtin.SmallTypes.nextOf (.ref i2) >>= _) _ _ _
    refine wpAny_bind (next_item (s := { s with heap := h₂ }) (h2₀.ext hs₂.extBut D.i12.symm) (hl2₀.ext hs₂.extBut D.l2i1) hy fun h₃ h2₃ hs₃ => wpAny_pure ?_)
    refine wpAny_pure (wpAny_pure ?_)
    show wpAny _ _ (newTuple [x, y] >>= _) _ _ _
    refine wpAny_bind (wpAny_newTuple ?_)
    have hsz : h₃.objs.size = s.heap.objs.size := by rw [hs₃.1, hs₂.1, hsz₀]
    have hz₃ : ZipO h₃ z TI TO f0 f1₀ := hs₃.extBut _ _ D.i2z.symm (hs₂.extBut _ _ D.i1z.symm hz₀)
    have hTO₃ : IsPair h₃ TO a b := hs₃.extBut _ _ D.TOi2 (hs₂.extBut _ _ D.TOi1 hTO₀)
    have hk : ∀ c o, c ≠ z → c ≠ i1 → c ≠ i2 → s.heap.get? c = some o → h₃.get? c = some o := fun c o c1 c2 c3 e => hs₃.extBut _ _ c3 (hs₂.extBut _ _ c2 (hs₀.extBut _ _ c1 e))
    have h1₃ : SIt h₃ ta i1 l1 (k1 + 1) := h1₂.ext hs₃.extBut D.i12
    refine wpAny_pure ⟨_, rfl, ?_⟩
    show Q (.ref h₃.objs.size) _
    have hp : IsPair (h₃.push { cls := .type "tuple", data := .seq #[x, y] }) h₃.objs.size x y := Heap.get?_push_size _ rfl
    have hz4 : (h₃.push { cls := .type "tuple", data := .seq #[x, y] }).objs.size = h₃.objs.size + 1 := Heap.size_push ..
    rw [hsz] at hp hz4 ⊢
    exact hQ _ _ _ (Heap.get?_push_of_some _ hz₃) ok ⟨_, _, Heap.get?_push_of_some _ hTO₃⟩ (h1₃.at_ fun o e => Heap.get?_push_of_some _ e) (h2₃.at_ fun o e => Heap.get?_push_of_some _ e) hp hz4 fun c o c1 c2 c3 c4 e => Heap.get?_push_of_some _ (hk c o c1 c3 c4 e)
/-- zip at its end -/
theorem zip_end {ta tb : Bool} {z TI TO i1 i2 l1 l2 : Addr} {f0 : Value} {f1 : Bool} {k1 k2 : Nat} {xs ys : Array Value} {a b : Value} {Q : Fin → Shared → Prop} (hh : A.handled = none) (D : ZipApart z TI TO i1 i2 l1 l2)
    (hz : ZipO s.heap z TI TO f0 f1) (ok : OkF f0) (hTI : IsPair s.heap TI (.ref i1) (.ref i2)) (hTO : IsPair s.heap TO a b)
    (h1 : SIt s.heap ta i1 l1 k1) (h2 : SIt s.heap tb i2 l2 k2) (hl1 : SSq s.heap ta l1 xs) (hl2 : SSq s.heap tb l2 ys) (hend : xs[k1]? = none ∨ ys[k2]? = none)
    (hE : ∀ h' e, (∀ c o, c ≠ z → c ≠ TO → c ≠ i1 → c ≠ i2 → s.heap.get? c = some o → h'.get? c = some o) → (∃ o, h'.get? e = some o ∧ o.cls = .type "StopIteration") → E (.ref e) { s with heap := h' }) :
    wpAny (model prog w) A (Builtin.«zip.__next__» ⟨[.ref z], []⟩) Q E s := by
  show wpAny _ _ (field (.ref z) 2 >>= _) _ _ _
  refine wpAny_bind (wpAny_field hz rfl (x := .bool false) rfl ?_)
  show wpAny _ _ (field (.ref z) 3 >>= _) _ _ _
  refine wpAny_bind (wpAny_field hz rfl (x := .ref TI) rfl ?_)
  refine wpAny_bind (wpAny_seqItems hTI rfl ?_)
  show wpAny _ _ (Builtin.SmallTypes.ownedTupleIsFree (.ref z) >>= _) _ _ _
  refine wpAny_bind (isFree_zip hz ok fun bf h₀ f1₀ hz₀ hs₀ => ?_)
  have hTO₀ : IsPair h₀ TO a b := hs₀.extBut _ _ D.TOz hTO
  have h1₀ := h1.ext hs₀.extBut D.i1z
  have h2₀ := h2.ext hs₀.extBut D.i2z
  have hl1₀ := hl1.ext hs₀.extBut D.l1z
  have hl2₀ := hl2.ext hs₀.extBut D.l2z
  cases bf with
  | true =>
    simp only [if_true]
    refine wpAny_bind (wpAny_rule ?_)
    refine wpAny_bind (wpAny_field hz₀ rfl (x := .ref TO) rfl ?_)
    refine wpAny_bind (wpAny_setField_rec hz₀ (by simp) fun h₁ hz₁ hs₁ => ?_)
    replace hz₁ : ZipO h₁ z TI TO .ellipsis f1₀ := hz₁
    replace hs₁ : Heap.SameBut z h₀ h₁ := hs₁
    refine wpAny_bind ?_
    simp only [List.zipIdx_cons, List.zipIdx_nil, List.forIn_cons, List.forIn_nil]
    refine wpAny_bind (wpAny_bind (wpAny_onRaise ?_))
    show wpAny _ _ (Builtin.SmallTypes.nextOf (.ref i1) >>= _) _ _ _
    cases hx : xs[k1]? with
    | none =>
      refine wpAny_bind (next_end (s := { s with heap := h₁ }) hh (h1₀.ext hs₁.extBut D.i1z) (hl1₀.ext hs₁.extBut D.l1z) hx fun h₂ e hs₂ he => ?_)
      obtain ⟨oe, hoe, hce⟩ := he
      have hz₂ : ZipO h₂ z TI TO .ellipsis f1₀ := hs₂ _ _ D.i1z.symm hz₁
      have hez : e ≠ z := fun x => by subst x; rw [hz₂] at hoe; cases hoe; simp at hce
      refine wpAny_setField_rec hz₂ (by simp) fun h₃ _ hs₃ => hE h₃ e (fun c o c1 _ c3 _ x => hs₃.extBut _ _ c1 (hs₂ _ _ c3 (hs₁.extBut _ _ c1 (hs₀.extBut _ _ c1 x)))) ⟨oe, hs₃.extBut _ _ hez hoe, hce⟩
    | some x =>
      have hy : ys[k2]? = none := by rcases hend with h | h; rw [hx] at h; cases h; exact h
      refine wpAny_bind (next_item (s := { s with heap := h₁ }) (h1₀.ext hs₁.extBut D.i1z) (hl1₀.ext hs₁.extBut D.l1z) hx fun h₂ h1₂ hs₂ => wpAny_pure ?_)
      have hTO₂ : IsPair h₂ TO a b := hs₂.extBut _ _ D.TOi1 (hs₁.extBut _ _ D.TOz hTO₀)
      refine wpAny_bind (wpAny_seqItems hTO₂ rfl ?_)
      refine wpAny_bind (wpAny_updateSeq_pair hTO₂ fun h₃ hTO₃ hs₃ => ?_)
      refine wpAny_bind (wpAny_letGo (wpAny_pure ?_))
      refine wpAny_bind (wpAny_bind (wpAny_onRaise ?_))
      show wpAny _ _ (Builtin.SmallTypes.nextOf (.ref i2) >>= _) _ _ _
      refine wpAny_bind (next_end (s := { s with heap := h₃ }) hh (((h2₀.ext hs₁.extBut D.i2z).ext hs₂.extBut D.i12.symm).ext hs₃.extBut D.TOi2.symm)
        (((hl2₀.ext hs₁.extBut D.l2z).ext hs₂.extBut D.l2i1).ext hs₃.extBut D.l2TO) hy fun h₄ e hs₄ he => ?_)
      obtain ⟨oe, hoe, hce⟩ := he
      have hz₄ : ZipO h₄ z TI TO .ellipsis f1₀ := hs₄ _ _ D.i2z.symm (hs₃.extBut _ _ D.TOz.symm (hs₂.extBut _ _ D.i1z.symm hz₁))
      have hez : e ≠ z := fun x => by subst x; rw [hz₄] at hoe; cases hoe; simp at hce
      refine wpAny_setField_rec hz₄ (by simp) fun h₅ _ hs₅ => hE h₅ e (fun c o c1 c2 c3 c4 x => hs₅.extBut _ _ c1 (hs₄ _ _ c4 (hs₃.extBut _ _ c2 (hs₂.extBut _ _ c3 (hs₁.extBut _ _ c1 (hs₀.extBut _ _ c1 x)))))) ⟨oe, hs₅.extBut _ _ hez hoe, hce⟩
  | false =>
    simp only [Bool.false_eq_true, if_false]
    refine wpAny_bind ?_
    rw [← Array.forIn_toList]
    simp only [List.forIn_cons, List.forIn_nil]
    refine wpAny_bind (wpAny_bind (wpAny_holding ?_))
    show wpAny _ _ (Builtin.SmallTypes.nextOf (.ref i1) >>= _) _ _ _
    cases hx : xs[k1]? with
    | none =>
      refine wpAny_bind (next_end (s := { s with heap := h₀ }) hh h1₀ hl1₀ hx fun h₂ e hs₂ he => ?_)
      exact hE h₂ e (fun c o c1 _ c2 _ x => hs₂ _ _ c2 (hs₀.extBut _ _ c1 x)) he
    | some x =>
      have hy : ys[k2]? = none := by rcases hend with h | h; rw [hx] at h; cases h; exact h
      refine wpAny_bind (next_item (s := { s with heap := h₀ }) h1₀ hl1₀ hx fun h₂ h1₂ hs₂ => wpAny_pure ?_)
      refine wpAny_pure ?_
      refine wpAny_bind (wpAny_bind (wpAny_holding ?_))
      show wpAny _ _ (Builtin.SmallTypes.nextOf (.ref i2) >>= _) _ _ _
      refine wpAny_bind (next_end (s := { s with heap := h₂ }) hh (h2₀.ext hs₂.extBut D.i12.symm) (hl2₀.ext hs₂.extBut D.l2i1) hy fun h₃ e hs₃ he => ?_)
      exact hE h₃ e (fun c o c1 _ c2 c3 x => hs₃ _ _ c3 (hs₂.extBut _ _ c2 (hs₀.extBut _ _ c1 x))) he
end
end NZ

set_option Elab.async false
set_option linter.all false
set_option maxRecDepth 100000
set_option maxHeartbeats 1000000
namespace NZ
open PySem
open PySem.Sem (wp)
open AutoSeq1 (wpAny_loadPart')
section
variable {prog : Program} {w : World} {A : Around} {E : Value → Shared → Prop} {s : Shared}
/-- enumerate's next pair, over anything -/
theorem enum_item {e it : Addr} {i n : Nat} {x old : Value} {R : Heap → Prop} {Q : Value → Shared → Prop} (he : IsEnum s.heap e it i old)
    (hn : ∀ Q' : Value → Shared → Prop, (∀ h₁, IsEnum h₁ e it i old → h₁.objs.size = n → R h₁ → Q' x { s with heap := h₁ }) → wpAny (model prog w) A (Builtin.SmallTypes.nextOf (.ref it)) Q' E s)
    (hQ : ∀ h₁ h', R h₁ → h₁.objs.size = n → IsEnumOut h' e it ((i : Int) + 1) x n → h'.get? n = some { cls := .type "tuple", data := .seq #[.int i s.toks, x] } → h'.objs.size = n + 1 → (∀ b o, b ≠ e → h₁.get? b = some o → h'.get? b = some o) →
      Q (.ref n) { s with heap := h', toks := s.toks + 1 }) :
    wpAny (model prog w) A (Builtin.«enumerate.__next__» ⟨[.ref e], []⟩) (fun fin s' => ∃ v, fin = .done (.ret v) ∧ Q v s') E s := by
  obtain ⟨hp, g, d, tk, os⟩ := s
  show wpAny _ _ (field (.ref e) 2 >>= _) _ _ _
  refine wpAny_bind (wpAny_field he rfl (x := .ref it) rfl ?_)
  refine wpAny_bind (hn _ fun h₁ he₁ hz₁ r₁ => ?_)
  show wpAny _ _ (field (.ref e) 3 >>= _) _ _ ⟨h₁, g, d, tk, os⟩
  refine wpAny_bind (wpAny_field he₁ rfl (x := rawInt i) rfl ?_)
  show wpAny _ _ (field (.ref e) 4 >>= _) _ _ ⟨h₁, g, d, tk, os⟩
  refine wpAny_bind (wpAny_field he₁ rfl (x := .none) rfl ?_)
  show wpAny _ _ (mkInt i >>= _) _ _ ⟨h₁, g, d, tk, os⟩
  refine wpAny_bind (wpAny_mkInt ?_)
  show wpAny _ _ (setField (.ref e) 3 (rawInt ((i : Int) + 1)) >>= _) _ _ ⟨h₁, g, d, tk + 1, os⟩
  refine wpAny_bind (wpAny_setField_rec he₁ (by simp) fun h₂ he₂ hs₂ => ?_)
  replace hs₂ : Heap.SameBut e h₁ h₂ := hs₂
  replace he₂ : IsEnum h₂ e it ((i : Int) + 1) old := he₂
  show wpAny _ _ (setField (.ref e) 4 .none >>= _) _ _ ⟨h₂, g, d, tk + 1, os⟩
  refine wpAny_bind (wpAny_setField_rec he₂ (by simp) fun h₃ he₃ hs₃ => ?_)
  replace hs₃ : Heap.SameBut e h₂ h₃ := hs₃
  replace he₃ : IsEnum h₃ e it ((i : Int) + 1) old := he₃
  show wpAny _ _ (newTuple [.int i tk, x] >>= _) _ _ ⟨h₃, g, d, tk + 1, os⟩
  refine wpAny_bind (wpAny_newTuple ?_)
  have he₄ : IsEnum (h₃.push { cls := .type "tuple", data := .seq #[.int i tk, x] }) e it ((i : Int) + 1) old := Heap.get?_push_of_some _ he₃
  generalize hh₄ : h₃.push { cls := .type "tuple", data := .seq #[.int i tk, x] } = h₄ at he₄
  have hsz : h₃.objs.size = n := by rw [hs₃.1, hs₂.1, hz₁]
  have hel : e < n := by rw [← hsz]; exact Heap.lt_size he₃
  have ht₄ : h₄.get? n = some { cls := .type "tuple", data := .seq #[.int i tk, x] } := by rw [← hh₄, ← hsz]; exact Heap.get?_push_size _ rfl
  have hz₄ : h₄.objs.size = n + 1 := by rw [← hh₄, Heap.size_push, hsz]
  have hk₄ : ∀ b o, b ≠ e → h₁.get? b = some o → h₄.get? b = some o := fun b o hbe hb => by
    rw [← hh₄]; exact Heap.get?_push_of_some _ (hs₃.extBut b o hbe (hs₂.extBut b o hbe hb))
  show wpAny _ _ (Builtin.SmallTypes.ownedTupleIsFree (.ref e) >>= _) _ _ ⟨h₄, g, d, tk + 1, os⟩
  rw [hsz]
  clear hh₄ he₃ hs₃ he₂ hs₂ hsz h₃ h₂
  refine wpAny_bind ?_
  unfold Builtin.SmallTypes.ownedTupleIsFree
  refine wpAny_bind (wpAny_field he₄ rfl (x := .none) rfl (wpAny_pure ?_))
  simp only [if_true]
  refine wpAny_bind (wpAny_rule ?_)
  refine wpAny_bind (wpAny_field he₄ rfl (x := old) rfl ?_)
  refine wpAny_bind (wpAny_setField_rec he₄ (by simp) fun h₅ he₅ hs₅ => ?_)
  replace hs₅ : Heap.SameBut e h₄ h₅ := hs₅
  replace he₅ : IsEnum h₅ e it ((i : Int) + 1) x := he₅
  show wpAny _ _ (Builtin.SmallTypes.ownedTupleHandOut (.ref e) (.ref n) >>= _) _ _ ⟨h₅, g, d, tk + 1, os⟩
  refine wpAny_bind ?_
  unfold Builtin.SmallTypes.ownedTupleHandOut
  refine wpAny_bind (wpAny_setField_rec he₅ (by simp) fun h₆ he₆ hs₆ => ?_)
  replace hs₆ : Heap.SameBut e h₅ h₆ := hs₆
  replace he₆ : IsEnumOut h₆ e it ((i : Int) + 1) x n := he₆
  refine wpAny_setField_rec he₆ (by simp) fun h₇ he₇ hs₇ => ?_
  replace hs₇ : Heap.SameBut e h₆ h₇ := hs₇
  replace he₇ : IsEnumOut h₇ e it ((i : Int) + 1) x n := he₇
  refine wpAny_bind (wpAny_letGo (wpAny_pure ⟨_, rfl, hQ h₁ h₇ r₁ hz₁ he₇ ?_ ?_ ?_⟩))
  · exact hs₇.extBut _ _ (Nat.ne_of_gt hel) (hs₆.extBut _ _ (Nat.ne_of_gt hel) (hs₅.extBut _ _ (Nat.ne_of_gt hel) ht₄))
  · rw [hs₇.1, hs₆.1, hs₅.1, hz₄]
  · exact fun b o hbe hb => hs₇.extBut b o hbe (hs₆.extBut b o hbe (hs₅.extBut b o hbe (hk₄ b o hbe hb)))
theorem pyNext_enum {e it : Addr} {i n : Nat} {x old : Value} {R : Heap → Prop} {Q : Option Value → Shared → Prop} (he : IsEnum s.heap e it i old)
    (hn : ∀ (A' : Around) (E' : Value → Shared → Prop) (Q' : Value → Shared → Prop), (∀ h₁, IsEnum h₁ e it i old → h₁.objs.size = n → R h₁ → Q' x { s with heap := h₁ }) → wpAny (model prog w) A' (Builtin.SmallTypes.nextOf (.ref it)) Q' E' s)
    (hQ : ∀ h₁ h', R h₁ → h₁.objs.size = n → IsEnumOut h' e it ((i : Int) + 1) x n → h'.get? n = some { cls := .type "tuple", data := .seq #[.int i s.toks, x] } → h'.objs.size = n + 1 → (∀ b o, b ≠ e → h₁.get? b = some o → h'.get? b = some o) →
      Q (some (.ref n)) { s with heap := h', toks := s.toks + 1 }) : wpAny (model prog w) A (pyNext (.ref e)) Q E s := by
  have hT : s.TypeIs (.ref e) "enumerate" := ⟨_, he, rfl⟩
  unfold pyNext
  exact wpAny_bind (wpAny_attempt (wpAny_callSpecial?_slot (name := Str.ofString "__next__") hT F.slot_enumerate_next
    (wpAny_call_entry F.slot_enumerate_next hT F.entry_enumerate_next
      (enum_item he (hn _ _) fun h₁ h' a b c d k m => wpAny_pure (hQ h₁ h' a b c d k m)) (F.args_enumerate_next_1 _))))
theorem pyNext_enum_end {e it : Addr} {i : Nat} {old : Value} {R : Heap → Prop} {Q : Option Value → Shared → Prop} (hh : A.handled = none) (he : IsEnum s.heap e it i old)
    (hn : ∀ (A' : Around) (Q' : Value → Shared → Prop) (E' : Value → Shared → Prop), A'.handled = none → (∀ h₁ ex, R h₁ → (∃ o, h₁.get? ex = some o ∧ o.cls = .type "StopIteration") → E' (.ref ex) { s with heap := h₁ }) → wpAny (model prog w) A' (Builtin.SmallTypes.nextOf (.ref it)) Q' E' s)
    (hQ : ∀ h', R h' → Q none { s with heap := h' }) : wpAny (model prog w) A (pyNext (.ref e)) Q E s := by
  have hT : s.TypeIs (.ref e) "enumerate" := ⟨_, he, rfl⟩
  unfold pyNext
  refine wpAny_bind (wpAny_attempt (wpAny_callSpecial?_slot (name := Str.ofString "__next__") hT F.slot_enumerate_next
    (wpAny_call_entry F.slot_enumerate_next hT F.entry_enumerate_next ?_ (F.args_enumerate_next_1 _))))
  show wpAny _ _ (field (.ref e) 2 >>= _) _ _ _
  refine wpAny_bind (wpAny_field he rfl (x := .ref it) rfl ?_)
  refine wpAny_bind (hn _ _ _ hh fun h' x r hx' => ?_)
  obtain ⟨o, ho, hc⟩ := hx'
  refine wpAny_bind (wpAny_isInstance (T := "StopIteration") (b := true) ⟨o, ho, hc⟩ isSubtype_stop ?_)
  exact wpAny_pure (hQ _ r)
/-- next of a zip -/
theorem nextOf_zip {ta tb : Bool} {z TI TO i1 i2 l1 l2 : Addr} {f0 : Value} {f1 : Bool} {k1 k2 : Nat} {xs ys : Array Value} {x y a b : Value} {Q : Value → Shared → Prop} (D : ZipApart z TI TO i1 i2 l1 l2)
    (hz : ZipO s.heap z TI TO f0 f1) (ok : OkF f0) (hTI : IsPair s.heap TI (.ref i1) (.ref i2)) (hTO : IsPair s.heap TO a b)
    (h1 : SIt s.heap ta i1 l1 k1) (h2 : SIt s.heap tb i2 l2 k2) (hl1 : SSq s.heap ta l1 xs) (hl2 : SSq s.heap tb l2 ys) (hx : xs[k1]? = some x) (hy : ys[k2]? = some y)
    (hQ : ∀ h' f0' f1', ZipO h' z TI TO f0' f1' → OkF f0' → (∃ a b, IsPair h' TO a b) → SIt h' ta i1 l1 (k1 + 1) → SIt h' tb i2 l2 (k2 + 1) → IsPair h' s.heap.objs.size x y → h'.objs.size = s.heap.objs.size + 1 →
      (∀ c o, c ≠ z → c ≠ TO → c ≠ i1 → c ≠ i2 → s.heap.get? c = some o → h'.get? c = some o) → Q (.ref s.heap.objs.size) { s with heap := h' }) :
    wpAny (model prog w) A (Builtin.SmallTypes.nextOf (.ref z)) Q E s := by
  have hT : s.TypeIs (.ref z) "zip" := ⟨_, hz, rfl⟩
  unfold Builtin.SmallTypes.nextOf
  refine wpAny_bind (wpAny_callSpecial?_slot (name := Str.ofString "__next__") hT F.slot_zip_next
    (wpAny_call_entry F.slot_zip_next hT F.entry_zip_next
      (zip_item D hz ok hTI hTO h1 h2 hl1 hl2 hx hy fun h' f0' f1' a1 a2 a3 a4 a5 a6 a7 a8 => wpAny_pure (hQ h' f0' f1' a1 a2 a3 a4 a5 a6 a7 a8)) (F.args_zip_next_1 _)))
theorem nextOf_zip_end {ta tb : Bool} {z TI TO i1 i2 l1 l2 : Addr} {f0 : Value} {f1 : Bool} {k1 k2 : Nat} {xs ys : Array Value} {a b : Value} {Q : Value → Shared → Prop} (hh : A.handled = none) (D : ZipApart z TI TO i1 i2 l1 l2)
    (hz : ZipO s.heap z TI TO f0 f1) (ok : OkF f0) (hTI : IsPair s.heap TI (.ref i1) (.ref i2)) (hTO : IsPair s.heap TO a b)
    (h1 : SIt s.heap ta i1 l1 k1) (h2 : SIt s.heap tb i2 l2 k2) (hl1 : SSq s.heap ta l1 xs) (hl2 : SSq s.heap tb l2 ys) (hend : xs[k1]? = none ∨ ys[k2]? = none)
    (hE : ∀ h' e, (∀ c o, c ≠ z → c ≠ TO → c ≠ i1 → c ≠ i2 → s.heap.get? c = some o → h'.get? c = some o) → (∃ o, h'.get? e = some o ∧ o.cls = .type "StopIteration") → E (.ref e) { s with heap := h' }) :
    wpAny (model prog w) A (Builtin.SmallTypes.nextOf (.ref z)) Q E s := by
  have hT : s.TypeIs (.ref z) "zip" := ⟨_, hz, rfl⟩
  unfold Builtin.SmallTypes.nextOf
  exact wpAny_bind (wpAny_callSpecial?_slot (name := Str.ofString "__next__") hT F.slot_zip_next
    (wpAny_call_entry F.slot_zip_next hT F.entry_zip_next (zip_end hh D hz ok hTI hTO h1 h2 hl1 hl2 hend hE) (F.args_zip_next_1 _)))
theorem pyNext_zip {ta tb : Bool} {z TI TO i1 i2 l1 l2 : Addr} {f0 : Value} {f1 : Bool} {k1 k2 : Nat} {xs ys : Array Value} {x y a b : Value} {Q : Option Value → Shared → Prop} (D : ZipApart z TI TO i1 i2 l1 l2)
    (hz : ZipO s.heap z TI TO f0 f1) (ok : OkF f0) (hTI : IsPair s.heap TI (.ref i1) (.ref i2)) (hTO : IsPair s.heap TO a b)
    (h1 : SIt s.heap ta i1 l1 k1) (h2 : SIt s.heap tb i2 l2 k2) (hl1 : SSq s.heap ta l1 xs) (hl2 : SSq s.heap tb l2 ys) (hx : xs[k1]? = some x) (hy : ys[k2]? = some y)
    (hQ : ∀ h' f0' f1', ZipO h' z TI TO f0' f1' → OkF f0' → (∃ a b, IsPair h' TO a b) → SIt h' ta i1 l1 (k1 + 1) → SIt h' tb i2 l2 (k2 + 1) → IsPair h' s.heap.objs.size x y → h'.objs.size = s.heap.objs.size + 1 →
      (∀ c o, c ≠ z → c ≠ TO → c ≠ i1 → c ≠ i2 → s.heap.get? c = some o → h'.get? c = some o) → Q (some (.ref s.heap.objs.size)) { s with heap := h' }) :
    wpAny (model prog w) A (pyNext (.ref z)) Q E s := by
  have hT : s.TypeIs (.ref z) "zip" := ⟨_, hz, rfl⟩
  unfold pyNext
  exact wpAny_bind (wpAny_attempt (wpAny_callSpecial?_slot (name := Str.ofString "__next__") hT F.slot_zip_next
    (wpAny_call_entry F.slot_zip_next hT F.entry_zip_next
      (zip_item D hz ok hTI hTO h1 h2 hl1 hl2 hx hy fun h' f0' f1' a1 a2 a3 a4 a5 a6 a7 a8 => wpAny_pure (hQ h' f0' f1' a1 a2 a3 a4 a5 a6 a7 a8)) (F.args_zip_next_1 _))))
theorem pyNext_zip_end {ta tb : Bool} {z TI TO i1 i2 l1 l2 : Addr} {f0 : Value} {f1 : Bool} {k1 k2 : Nat} {xs ys : Array Value} {a b : Value} {Q : Option Value → Shared → Prop} (hh : A.handled = none) (D : ZipApart z TI TO i1 i2 l1 l2)
    (hz : ZipO s.heap z TI TO f0 f1) (ok : OkF f0) (hTI : IsPair s.heap TI (.ref i1) (.ref i2)) (hTO : IsPair s.heap TO a b)
    (h1 : SIt s.heap ta i1 l1 k1) (h2 : SIt s.heap tb i2 l2 k2) (hl1 : SSq s.heap ta l1 xs) (hl2 : SSq s.heap tb l2 ys) (hend : xs[k1]? = none ∨ ys[k2]? = none)
    (hQ : ∀ h', (∀ c o, c ≠ z → c ≠ TO → c ≠ i1 → c ≠ i2 → s.heap.get? c = some o → h'.get? c = some o) → Q none { s with heap := h' }) : wpAny (model prog w) A (pyNext (.ref z)) Q E s := by
  have hT : s.TypeIs (.ref z) "zip" := ⟨_, hz, rfl⟩
  unfold pyNext
  refine wpAny_bind (wpAny_attempt (wpAny_callSpecial?_slot (name := Str.ofString "__next__") hT F.slot_zip_next
    (wpAny_call_entry F.slot_zip_next hT F.entry_zip_next (zip_end hh D hz ok hTI hTO h1 h2 hl1 hl2 hend fun h' e hk he => ?_) (F.args_zip_next_1 _))))
  obtain ⟨o, ho, hc⟩ := he
  refine wpAny_bind (wpAny_isInstance (T := "StopIteration") (b := true) ⟨o, ho, hc⟩ isSubtype_stop ?_)
  exact wpAny_pure (hQ _ hk)
theorem pyIter_zip {z TI TO : Addr} {f0 : Value} {f1 : Bool} {Q : Value → Shared → Prop} (hz : ZipO s.heap z TI TO f0 f1) (h : Q (.ref z) s) : wpAny (model prog w) A (pyIter (.ref z)) Q E s := by
  have hT : s.TypeIs (.ref z) "zip" := ⟨_, hz, rfl⟩
  refine wpAny_pyIter_slot hT F.slot_zip_iter (wpAny_call_entry F.slot_zip_iter hT F.entry_zip_iter ?_ (F.args_zip_iter_1 _))
  show wpAny _ _ (ret (.ref z)) _ _ s
  exact wpAny_pure ⟨_, rfl, "zip", _, hT, F.slot_zip_next.lookup, h⟩
end
end NZ

set_option Elab.async false
set_option linter.all false
set_option maxRecDepth 100000
set_option maxHeartbeats 1000000
namespace NZ
open PySem
open PySem.Sem (wp)
open AutoSeq1 (wpAny_loadPart')
abbrev zH1 (h : Heap) (l1 : Addr) : Heap := h.push { cls := .type "tuple_iterator", data := .fields #[.ref l1, .int 0 0] }
abbrev zH2 (h : Heap) (l1 l2 : Addr) : Heap := (zH1 h l1).push { cls := .type "list_iterator", data := .fields #[.ref l2, .int 0 0] }
abbrev zH3 (h : Heap) (l1 l2 : Addr) : Heap := (zH2 h l1 l2).push { cls := .type "tuple", data := .seq #[.ref h.objs.size, .ref (zH1 h l1).objs.size] }
abbrev zH4 (h : Heap) (l1 l2 : Addr) : Heap := (zH3 h l1 l2).push { cls := .type "tuple", data := .seq #[.none, .none] }
abbrev zH5 (h : Heap) (l1 l2 : Addr) : Heap := (zH4 h l1 l2).push { cls := .type "zip", data := .fields #[.none, .bool false, .bool false, .ref (zH2 h l1 l2).objs.size, .ref (zH3 h l1 l2).objs.size] }
theorem meets_zipM_new (l1 l2 : Addr) (xs ys : Array Value) :
    Meets (Builtin.«zip.__new__» ⟨[.type "zip", .ref l1, .ref l2], []⟩) (fun _ R s => s.heap.IsTuple l1 xs ∧ s.heap.IsList l2 ys ∧
      R (.ok (.ret (.ref (zH4 s.heap l1 l2).objs.size))) { s with heap := zH5 s.heap l1 l2 }) :=
  .of_wp fun prog w A R s h => by
    obtain ⟨hp, g, d, tk, os⟩ := s; obtain ⟨hl1, hl2, h⟩ := h
    have hsub := sub_zip
    have hL1 : Heap.IsTuple (Shared.heap ⟨hp, g, d, tk, os⟩) l1 xs := hl1
    have hL2 : Heap.IsList (Shared.heap ⟨hp.push { cls := .type "tuple_iterator", data := .fields #[.ref l1, .int 0 0] }, g, d, tk, os⟩) l2 ys := Heap.IsList.push hl2 _
    wp_walk using wpAny_pyIter_tuple hL1, wpAny_pyIter_list hL2
    exact ⟨_, rfl, h⟩
section
variable {prog : Program} {w : World} {A : Around} {E : Value → Shared → Prop} {s : Shared}
theorem call_zipM {l1 l2 : Addr} {xs ys : Array Value} {Q : Value → Shared → Prop} (hl1 : s.heap.IsTuple l1 xs) (hl2 : s.heap.IsList l2 ys)
    (h : ∀ h', ZipO h' (s.heap.objs.size + 4) (s.heap.objs.size + 2) (s.heap.objs.size + 3) .none false → IsPair h' (s.heap.objs.size + 2) (.ref s.heap.objs.size) (.ref (s.heap.objs.size + 1)) →
      IsPair h' (s.heap.objs.size + 3) .none .none → SIt h' true s.heap.objs.size l1 0 → SIt h' false (s.heap.objs.size + 1) l2 0 → h'.objs.size = s.heap.objs.size + 5 →
      (∀ c o, s.heap.get? c = some o → h'.get? c = some o) → Q (.ref (s.heap.objs.size + 4)) { s with heap := h' }) :
    wpAny (model prog w) A (call (.type "zip") [.ref l1, .ref l2]) Q E s := by
  refine callType_new F.called_zip (by decide) (F.typeCall_zip_2 _ _) (F.newCall_zip_2 _ _) (fun obj => F.args_object_init_3 obj _ _) F.entry_zip_new
    (meets_zipM_new l1 l2 xs ys) ⟨hl1, hl2, ?_⟩
  have z1 : (zH1 s.heap l1).objs.size = s.heap.objs.size + 1 := Heap.size_push ..
  have z2 : (zH2 s.heap l1 l2).objs.size = s.heap.objs.size + 2 := by rw [Heap.size_push, z1]
  have z3 : (zH3 s.heap l1 l2).objs.size = s.heap.objs.size + 3 := by rw [Heap.size_push, z2]
  have z4 : (zH4 s.heap l1 l2).objs.size = s.heap.objs.size + 4 := by rw [Heap.size_push, z3]
  have z5 : (zH5 s.heap l1 l2).objs.size = s.heap.objs.size + 5 := by rw [Heap.size_push, z4]
  have g5 : (zH5 s.heap l1 l2).get? (zH4 s.heap l1 l2).objs.size = some _ := Heap.get?_push_size _ rfl
  have g4 : (zH5 s.heap l1 l2).get? (zH3 s.heap l1 l2).objs.size = some _ := Heap.get?_push_of_some _ (Heap.get?_push_size _ rfl)
  have g3 : (zH5 s.heap l1 l2).get? (zH2 s.heap l1 l2).objs.size = some _ := Heap.get?_push_of_some _ (Heap.get?_push_of_some _ (Heap.get?_push_size _ rfl))
  have g2 : (zH5 s.heap l1 l2).get? (zH1 s.heap l1).objs.size = some _ := Heap.get?_push_of_some _ (Heap.get?_push_of_some _ (Heap.get?_push_of_some _ (Heap.get?_push_size _ rfl)))
  have g1 : (zH5 s.heap l1 l2).get? s.heap.objs.size = some _ := Heap.get?_push_of_some _ (Heap.get?_push_of_some _ (Heap.get?_push_of_some _ (Heap.get?_push_of_some _ (Heap.get?_push_size _ rfl))))
  show _ ∧ _
  rw [z2, z3, z4] at g5
  rw [z1, z2] at g3
  rw [z3] at g4
  rw [z1] at g2
  rw [z4]
  exact ⟨⟨_, g5, rfl⟩, h _ g5 g3 g4 ⟨_, g1, rfl, rfl⟩ ⟨_, g2, rfl, rfl⟩ z5 fun c o x =>
    Heap.get?_push_of_some _ (Heap.get?_push_of_some _ (Heap.get?_push_of_some _ (Heap.get?_push_of_some _ (Heap.get?_push_of_some _ x))))⟩
theorem meets_enumT_new (l : Addr) (items : Array Value) (n : Nat) (dct : Option Addr) (sl : Array (Option Value)) :
    Meets (Builtin.«enumerate.__new__» ⟨[.type "enumerate", .ref l], []⟩) (fun _ R s => s.heap.get? l = some { cls := .type "tuple", dict := dct, data := .seq items n, slots := sl } ∧
      R (.ok (.ret (.ref (s.heap.push { cls := .type "tuple_iterator", data := .fields #[.ref l, .int 0 0] }).objs.size)))
        { s with heap := (s.heap.push { cls := .type "tuple_iterator", data := .fields #[.ref l, .int 0 0] }).push { cls := .type "enumerate", data := .fields #[.none, .bool false, .ref s.heap.objs.size, rawInt 0, .none, .none] } }) :=
  .of_wp fun prog w A R s h => by
    obtain ⟨hp, g, d, tk, os⟩ := s; obtain ⟨hl, h⟩ := h
    have hsub := sub_enumerate
    have hL : Heap.IsTuple (Shared.heap ⟨hp, g, d, tk, os⟩) l items := ⟨_, hl, rfl, n, rfl⟩
    wp_walk using wpAny_loadPart' hl
    refine wpAny_stack_any fun st => wpAny_pure ?_
    split
    · rename_i c _ _ _ _ _
      cases (c == Value.type "enumerate")
      · wp_walk using wpAny_loadPart' hl, wpAny_pyIter_tuple hL
        exact ⟨_, rfl, h⟩
      · wp_walk using wpAny_loadPart' hl, wpAny_pyIter_tuple hL
        exact ⟨_, rfl, h⟩
    · wp_walk using wpAny_loadPart' hl, wpAny_pyIter_tuple hL
      exact ⟨_, rfl, h⟩
theorem call_enumT {l : Addr} {items : Array Value} {Q : Value → Shared → Prop} (hL : s.heap.IsTuple l items)
    (h : ∀ h', IsEnum h' (s.heap.objs.size + 1) s.heap.objs.size 0 .none → h'.IsTupleIter s.heap.objs.size l 0 → h'.objs.size = s.heap.objs.size + 2 →
      (∀ b o, s.heap.get? b = some o → h'.get? b = some o) → Q (.ref (s.heap.objs.size + 1)) { s with heap := h' }) :
    wpAny (model prog w) A (call (.type "enumerate") [.ref l]) Q E s := by
  obtain ⟨⟨c, dct, dt, sl⟩, hl, hc, n, hd⟩ := hL
  replace hc : c = .type "tuple" := hc
  replace hd : dt = .seq items n := hd
  subst hc hd
  refine callType_new F.called_enumerate (by decide) (F.typeCall_enumerate_1 _) (F.newCall_enumerate_1 _) (fun obj => F.args_object_init_2 obj _) F.entry_enumerate_new
    (meets_enumT_new l items n dct sl) ⟨hl, ?_⟩
  have hz : (s.heap.push { cls := .type "tuple_iterator", data := .fields #[.ref l, .int 0 0] }).objs.size = s.heap.objs.size + 1 := Heap.size_push ..
  show _ ∧ _
  rw [hz]
  have he : IsEnum ((s.heap.push { cls := .type "tuple_iterator", data := .fields #[.ref l, .int 0 0] }).push
      { cls := .type "enumerate", data := .fields #[.none, .bool false, .ref s.heap.objs.size, rawInt 0, .none, .none] }) (s.heap.objs.size + 1) s.heap.objs.size 0 .none := by
    have := Heap.get?_push_size (s.heap.push { cls := .type "tuple_iterator", data := .fields #[.ref l, .int 0 0] })
      (o := { cls := .type "enumerate", data := .fields #[.none, .bool false, .ref s.heap.objs.size, rawInt 0, .none, .none] }) rfl
    rw [hz] at this; exact this
  refine ⟨⟨_, he, rfl⟩, h _ he ⟨_, Heap.get?_push_of_some _ (Heap.get?_push_size _ rfl), rfl, rfl⟩ (by rw [Heap.size_push, hz]) fun b o x => Heap.get?_push_of_some _ (Heap.get?_push_of_some _ x)⟩
theorem meets_enumZ_new (z TI TO : Addr) (f0 : Value) (f1 : Bool) :
    Meets (Builtin.«enumerate.__new__» ⟨[.type "enumerate", .ref z], []⟩) (fun _ R s => ZipO s.heap z TI TO f0 f1 ∧
      R (.ok (.ret (.ref s.heap.objs.size))) { s with heap := s.heap.push { cls := .type "enumerate", data := .fields #[.none, .bool false, .ref z, rawInt 0, .none, .none] } }) :=
  .of_wp fun prog w A R s h => by
    obtain ⟨hp, g, d, tk, os⟩ := s; obtain ⟨hl, h⟩ := h
    have hsub := sub_enumerate
    have hZ : ZipO (Shared.heap ⟨hp, g, d, tk, os⟩) z TI TO f0 f1 := hl
    wp_walk using wpAny_loadPart' hl
    refine wpAny_stack_any fun st => wpAny_pure ?_
    split
    · rename_i c _ _ _ _ _
      cases (c == Value.type "enumerate")
      · wp_walk using wpAny_loadPart' hl, pyIter_zip hZ
        exact ⟨_, rfl, h⟩
      · wp_walk using wpAny_loadPart' hl, pyIter_zip hZ
        exact ⟨_, rfl, h⟩
    · wp_walk using wpAny_loadPart' hl, pyIter_zip hZ
      exact ⟨_, rfl, h⟩
theorem call_enumZ {z TI TO : Addr} {f0 : Value} {f1 : Bool} {Q : Value → Shared → Prop} (hZ : ZipO s.heap z TI TO f0 f1)
    (h : ∀ h', IsEnum h' s.heap.objs.size z 0 .none → h'.objs.size = s.heap.objs.size + 1 →
      (∀ b o, s.heap.get? b = some o → h'.get? b = some o) → Q (.ref s.heap.objs.size) { s with heap := h' }) :
    wpAny (model prog w) A (call (.type "enumerate") [.ref z]) Q E s := by
  refine callType_new F.called_enumerate (by decide) (F.typeCall_enumerate_1 _) (F.newCall_enumerate_1 _) (fun obj => F.args_object_init_2 obj _) F.entry_enumerate_new
    (meets_enumZ_new z TI TO f0 f1) ⟨hZ, ?_⟩
  show _ ∧ _
  have he : IsEnum (s.heap.push { cls := .type "enumerate", data := .fields #[.none, .bool false, .ref z, rawInt 0, .none, .none] }) s.heap.objs.size z 0 .none := Heap.get?_push_size _ rfl
  exact ⟨⟨_, he, rfl⟩, h _ he (Heap.size_push ..) fun b o x => Heap.get?_push_of_some _ x⟩
end
end NZ

set_option Elab.async false
set_option linter.all false
set_option maxRecDepth 100000
set_option maxHeartbeats 2000000
/-! zip kept by a name, enumerate of a tuple, enumerate of a zip: over the layer. -/
namespace NZ
open PySem PySem.Spec PyProof.Rows L2
def SqS (K : PySem.W.Frag) (H : Hp) : Bool → Addr → List V → Prop
  | true, a, xs => SqT K H a xs
  | false, a, xs => SqL K H a xs
theorem sqs_ok {X : Cx} {pins : List (Addr × Obj)} {σ : L2.St} {H : Hp} {s : Shared} {tp : Bool} {a : Addr} {xs : List V} (I : Inv X pins σ H s) (h : SqS X.K H tp a xs) : ∃ its : List Value, Vals xs its ∧ SSq s.heap tp a its.toArray ∧ a < s.heap.objs.size := by
  cases tp with
  | true =>
    obtain ⟨its, r, p, _⟩ := I.tuple h
    obtain ⟨o, e, _⟩ := id p
    exact ⟨its, r, p, Heap.lt_size e⟩
  | false =>
    obtain ⟨its, r, p, _⟩ := I.list h
    exact ⟨its, r, p.isList, p.lt⟩
theorem sqs_inj {X : Cx} {pins : List (Addr × Obj)} {σ : L2.St} {H : Hp} {s : Shared} {tp : Bool} {a : Addr} {xs ys : List V} (I : Inv X pins σ H s) (h : SqS X.K H tp a xs) (h' : SqS X.K H tp a ys) : xs = ys := by
  cases tp with
  | true => exact I.tuple_inj h h'
  | false => exact I.list_inj h h'
/-- a target that is one name -/
def oneT : Expr → Bool
  | .Tuple .. => false
  | .List .. => false
  | _ => true
theorem let_one {M : Model} {A : Around} {E : Value → Shared → Prop} {s : Shared} {tg : Expr} {it u : Value} {Q : Unit → Shared → Prop} (h : oneT tg = true) (q : Q () s) : wpAny M A (letOwnedTupleGo tg it u) Q E s := by
  unfold letOwnedTupleGo
  cases tg <;> first | exact wpAny_pure q | cases h
/-- the sequences at a and b as they stand at each turn, the items in new pairs -/
def ItzS (K : PySem.W.Frag) (ta tb : Bool) (a b : Addr) : It :=
  ⟨fun i H => ∃ (xs ys : List V) (x y : V), SqS K H ta a xs ∧ SqS K H tb b ys ∧ xs[i]? = some x ∧ ys[i]? = some y,
    fun i H v H' => ∃ T x y, v = .ref T ∧ H T = none ∧ H' = upd H T (.tup [x, y]) ∧ (∀ xs, SqS K H ta a xs → xs[i]? = some x) ∧ ∀ ys, SqS K H tb b ys → ys[i]? = some y,
    fun i H => ∃ xs ys : List V, SqS K H ta a xs ∧ SqS K H tb b ys ∧ (xs.length ≤ i ∨ ys.length ≤ i)⟩
theorem in5 {c z TI TO i1 i2 : Addr} (h : c ∈ [z, TI, TO, i1, i2]) : c = z ∨ c = TI ∨ c = TO ∨ c = i1 ∨ c = i2 := by simpa using h
theorem turn_zipS {P : Program} {w : World} {K : PySem.W.Frag} {tg : Expr} {ta tb : Bool} {a b z TI TO i1 i2 : Addr} (ht : oneT tg = true) (D : ZipApart z TI TO i1 i2 a b) :
    Turn P w K tg (ItzS K ta tb a b) [z, TI, TO, i1, i2] z (fun i h => (∃ f0 f1, ZipO h z TI TO f0 f1 ∧ OkF f0) ∧ IsPair h TI (.ref i1) (.ref i2) ∧ (∃ x y, IsPair h TO x y) ∧ SIt h ta i1 a i ∧ SIt h tb i2 b i) where
  mem := by simp
  obj := fun i h st c hc => by
    obtain ⟨⟨f0, f1, hz, _⟩, hTI, ⟨x, y, hTO⟩, h1, h2⟩ := st
    rcases in5 hc with q | q | q | q | q
    · rw [q]; exact ⟨_, hz, fun v q => nomatch q⟩
    · rw [q]; exact ⟨_, hTI, fun v q => nomatch q⟩
    · rw [q]; exact ⟨_, hTO, fun v q => nomatch q⟩
    · rw [q]; exact h1.obj
    · rw [q]; exact h2.obj
  keep := fun i h h' st k => by
    obtain ⟨⟨f0, f1, hz, ok⟩, hTI, ⟨x, y, hTO⟩, h1, h2⟩ := st
    exact ⟨⟨f0, f1, k z (by simp) _ hz, ok⟩, k TI (by simp) _ hTI, ⟨x, y, k TO (by simp) _ hTO⟩, h1.at_ fun o q => k i1 (by simp) o q, h2.at_ fun o q => k i2 (by simp) o q⟩
  item := by
    intro X hP hw hK hc i pins s σ H E I hf st hg
    subst hP hw hK
    obtain ⟨⟨f0, f1, hz, ok⟩, hTI, ⟨x0, y0, hTO⟩, h1, h2⟩ := st
    obtain ⟨xs, ys, x, y, hqx, hqy, hx, hy⟩ := hg
    obtain ⟨its, rv, p, _⟩ := sqs_ok I hqx
    obtain ⟨its2, rv2, p2, _⟩ := sqs_ok I hqy
    obtain ⟨u, hu, ru⟩ := rv.get hx
    obtain ⟨u2, hu2, ru2⟩ := rv2.get hy
    have hzl : z < s.heap.objs.size := Heap.lt_size hz
    refine pyNext_zip D hz ok hTI hTO h1 h2 p p2 (x := u) (y := u2) (by simpa using hu) (by simpa using hu2) fun h' f0' f1' z' ok' TO' h1' h2' hT hsz hk => ?_
    refine ⟨_, rfl, let_one ht ?_⟩
    have new : ObjOk X.prog X.w (upd H s.heap.objs.size (.tup [x, y])) h' s.heap.objs.size (.tup [x, y]) :=
      ⟨by show 2 ≤ sizeLine; decide, [u, u2], .cons ru (.cons ru2 .nil), ⟨_, hT, rfl, _, rfl⟩⟩
    have I1 : Inv X pins σ (upd H s.heap.objs.size (.tup [x, y])) { s with heap := h' } :=
      I.turnedNew (t' := s.toks) (ch := [z, TI, TO, i1, i2]) (fun c o hb q => hk c o (fun q' => hb (by simp [q'])) (fun q' => hb (by simp [q'])) (fun q' => hb (by simp [q'])) (fun q' => hb (by simp [q'])) q) hf (Nat.le_refl _) new
    refine ⟨.ref s.heap.objs.size, _, I1, rfl, ⟨_, x, y, rfl, I.hok.fresh (Nat.le_refl _), rfl, fun l hl => by rw [sqs_inj I hl hqx]; exact hx, fun l hl => by rw [sqs_inj I hl hqy]; exact hy⟩, ⟨⟨_, _, z', ok'⟩, ?_, TO', h1', h2'⟩, fun c hcm => ?_⟩
    · exact hk _ _ D.TIz D.TITO D.TIi1 D.TIi2 hTI
    · have hlt : c < s.heap.objs.size := by
        rcases in5 hcm with q | q | q | q | q
        · rw [q]; exact hzl
        · rw [q]; exact Heap.lt_size hTI
        · rw [q]; exact Heap.lt_size hTO
        · rw [q]; exact h1.lt
        · rw [q]; exact h2.lt
      rw [upd_ne (Nat.ne_of_lt hlt)]
      exact (hf c hcm).1
  done := by
    intro X hP hw hK hc i pins s σ H E I hf st hg
    subst hP hw hK
    obtain ⟨⟨f0, f1, hz, ok⟩, hTI, ⟨x0, y0, hTO⟩, h1, h2⟩ := st
    obtain ⟨xs, ys, hqx, hqy, hend⟩ := hg
    obtain ⟨its, rv, p, _⟩ := sqs_ok I hqx
    obtain ⟨its2, rv2, p2, _⟩ := sqs_ok I hqy
    have l1 := rv.length
    have l2 := rv2.length
    have he : its.toArray[i]? = none ∨ its2.toArray[i]? = none := by
      rcases hend with q | q
      · exact .inl (by simp; omega)
      · exact .inr (by simp; omega)
    exact pyNext_zip_end (I.ok.hd hc) D hz ok hTI hTO h1 h2 p p2 he fun h' hk => ⟨rfl, I.turnedL (t' := s.toks) (ch := [z, TI, TO, i1, i2]) (fun c o hb q =>
      hk c o (fun q' => hb (by simp [q'])) (fun q' => hb (by simp [q'])) (fun q' => hb (by simp [q'])) (fun q' => hb (by simp [q'])) q) hf⟩
  self := fun A i s Q E st h => by
    obtain ⟨⟨f0, f1, hz, ok⟩, _⟩ := st
    exact pyIter_zip hz h
theorem zip_fresh {X : Cx} {pins : List (Addr × Obj)} {σ : L2.St} {H1 : Hp} {s1 : Shared} (I1 : Inv X pins σ H1 s1) : ∀ c, c ∈ [s1.heap.objs.size + 4, s1.heap.objs.size + 2, s1.heap.objs.size + 3, s1.heap.objs.size, s1.heap.objs.size + 1] → FpOk X pins H1 c := fun c hcm => by
  have hle : s1.heap.objs.size ≤ c := by
    rcases in5 hcm with z | z | z | z | z
    · rw [z]; exact Nat.le_add_right _ _
    · rw [z]; exact Nat.le_add_right _ _
    · rw [z]; exact Nat.le_add_right _ _
    · rw [z]; exact Nat.le_refl _
    · rw [z]; exact Nat.le_add_right _ _
  exact I1.fpOk hle (I1.hok.fresh hle)
/-- zip(x, y) of two tuples, its pairs kept by a name -/
def iZipN (K : PySem.W.Frag) (ta : TA) : TI := fun σ H R => ta σ H fun vs H1 => ∃ a b xs ys, vs = [.ref a, .ref b] ∧ SqT K H1 a xs ∧ SqT K H1 b ys ∧ R (ItzS K true true a b) H1
theorem pi_zipN {X : Cx} {e e2 tg : Expr} {ta : TA} {p pos : Pos} (ht : oneT tg = true) (hg : Gl X "zip") (hm : X.mg "zip" = none) (ha : PA X [e, e2] ta)
    (hs : starEach [e, e2] X.env = (false, eval e X.env) :: starEach [e2] X.env := by rfl) (hpl : (backTo pos (starEach [e2] X.env)).any (·.1) = false := by rfl) :
    PI X tg (.Call (.Name "zip" p) [e, e2] [] pos) (iZipN X.K ta) := by
  refine ⟨fun pins s σ H R I h => ?_⟩
  refine Call_ (ld_blt I hg hm PyProof.Rows.boot_zip (PyProof.Rows.callWith_type1 (thn (ha.run pos pins s σ H _ I h) fun us s1 ⟨vs, H1, I1, r1, q1⟩ => ?_) hs hpl))
  obtain ⟨a, b, xs, ys, ex, hqx, hqy, q⟩ := q1
  subst ex
  cases r1 with
  | cons r rr =>
    cases rr with
    | cons r' rr =>
      cases rr
      cases r
      cases r'
      obtain ⟨its, rv, p1, _⟩ := I1.tuple hqx
      obtain ⟨its2, rv2, p2, _⟩ := I1.tuple hqy
      obtain ⟨o1, ho1, _⟩ := id p1
      obtain ⟨o2, ho2, _⟩ := id p2
      refine RZ.call_zipT (show s1.heap.IsTuple a its.toArray from p1) (show s1.heap.IsTuple b its2.toArray from p2) fun h' hz hTI hTO h1 h2 hsz hk => pyIter_zip hz ?_
      have I2 : Inv X pins σ H1 { s1 with heap := h' } := I1.kept (t' := s1.toks) hk
      exact ⟨s1.heap.objs.size + 4, [s1.heap.objs.size + 4, s1.heap.objs.size + 2, s1.heap.objs.size + 3, s1.heap.objs.size, s1.heap.objs.size + 1], _, _, H1, rfl, I2, turn_zipS (ta := true) (tb := true) ht (PySem.W.ktu_apart s1.heap.objs.size a b (Heap.lt_size ho1) (Heap.lt_size ho2)),
        ⟨⟨_, _, hz, .inl rfl⟩, hTI, ⟨_, _, hTO⟩, h1, h2⟩, zip_fresh I1, q⟩
theorem walk_zipS {K : PySem.W.Frag} {ta tb : Bool} {a b : Addr} {xs ys : List V} {n : Nat} (hn : n = min xs.length ys.length) : Walk (ItzS K ta tb a b) n (fun H => SqS K H ta a xs ∧ SqS K H tb b ys) (YPair (fun i => xs[i]?) (fun i => ys[i]?)) := by
  subst hn
  refine ⟨fun i _ hi q => ?_, fun _ q => ⟨xs, ys, q.1, q.2, by omega⟩, fun i H v H' _ q y => ?_⟩
  · have h1 : i < xs.length := by omega
    have h2 : i < ys.length := by omega
    exact ⟨xs, ys, xs[i], ys[i], q.1, q.2, by simp [h1], by simp [h2]⟩
  · obtain ⟨T, x, z, h1, h2, h3, h4, h5⟩ := y
    exact ⟨T, x, z, h1, h2, h3, h4 xs q.1, h5 ys q.2⟩
/-- the sequence at a as it stands at each turn, each item in a new pair -/
def IteS (K : PySem.W.Frag) (tp : Bool) (a : Addr) : It :=
  ⟨fun i H => ∃ (xs : List V) (x : V), SqS K H tp a xs ∧ xs[i]? = some x, fun i H v H' => ∃ T x, v = .ref T ∧ H T = none ∧ H' = upd H T (.tup [.int (i : Nat), x]) ∧ ∀ xs, SqS K H tp a xs → xs[i]? = some x, fun i H => ∃ xs : List V, SqS K H tp a xs ∧ xs.length ≤ i⟩
theorem turn_enumS {P : Program} {w : World} {K : PySem.W.Frag} {elts : List Expr} {kk : Nat} {tpos : Pos} {tp : Bool} (a e it : Addr) :
    Turn P w K (.Tuple elts kk tpos) (IteS K tp a) [e, it] e (fun i h => (∃ old, IsEnum h e it ((i : Nat) : Int) old) ∧ SIt h tp it a i ∧ e ≠ it) where
  mem := by simp
  obj := fun i h st b hb => by
    obtain ⟨⟨old, he⟩, hi, _⟩ := st
    have e' : b = e ∨ b = it := by simpa using hb
    rcases e' with z | z
    · rw [z]; exact ⟨_, he, fun v q => nomatch q⟩
    · rw [z]; exact hi.obj
  keep := fun i h h' st k => let ⟨⟨old, he⟩, hi, hne⟩ := st; ⟨⟨old, k e (by simp) _ he⟩, hi.at_ fun o q => k it (by simp) o q, hne⟩
  item := by
    intro X hP hw hK hc i pins s σ H E I hf st hg
    subst hP hw hK
    obtain ⟨⟨old, he⟩, hit, hne⟩ := st
    obtain ⟨xs, x, hq, hx⟩ := hg
    obtain ⟨its, rv, p, hz⟩ := sqs_ok I hq
    obtain ⟨u, hu, ru⟩ := rv.get hx
    have hel : e < s.heap.objs.size := Heap.lt_size he
    have hil : it < s.heap.objs.size := hit.lt
    refine pyNext_enum (n := s.heap.objs.size) (x := u) (R := fun h₁ => SIt h₁ tp it a (i + 1) ∧ Heap.SameBut it s.heap h₁) he (fun A' E' Q' k => next_item hit p (by simpa using hu) fun h₁ hi₁ hs₁ => k h₁ ((hs₁.2 e hne).trans he) hs₁.1 ⟨hi₁, hs₁⟩) fun h₁ h' r₁ hz₁ ho hT hsz hk => ?_
    obtain ⟨hit₁, hs₁⟩ := r₁
    refine ⟨_, rfl, wpAny_letOwnedTupleGo_enum (s := { s with heap := h', toks := s.toks + 1 }) ho fun h'' he' sb => ?_⟩
    have hT2 : h''.get? s.heap.objs.size = some { cls := .type "tuple", data := .seq #[.int i s.toks, u] } := (sb.2 _ (Nat.ne_of_gt hel)).trans hT
    have new : ObjOk X.prog X.w (upd H s.heap.objs.size (.tup [.int (i : Nat), x])) h'' s.heap.objs.size (.tup [.int (i : Nat), x]) :=
      ⟨by show 2 ≤ sizeLine; decide, [.int i s.toks, u], .cons ⟨_, rfl⟩ (.cons ru .nil), ⟨_, hT2, rfl, _, rfl⟩⟩
    have I1 : Inv X pins σ (upd H s.heap.objs.size (.tup [.int (i : Nat), x])) { s with heap := h'', toks := s.toks + 1 } :=
      I.turnedNew (ch := [e, it]) (fun b ob hb q => (sb.2 b (fun z => hb (by simp [z]))).trans (hk b ob (fun z => hb (by simp [z])) (hs₁.extBut b ob (fun z => hb (by simp [z])) q))) hf (Nat.le_refl _) new
    refine ⟨.ref s.heap.objs.size, _, I1, rfl, ⟨_, x, rfl, I.hok.fresh (Nat.le_refl _), rfl, fun ys hy => by rw [sqs_inj I hy hq]; exact hx⟩, ⟨⟨u, ?_⟩, hit₁.at_ fun o q => (sb.2 it (Ne.symm hne)).trans (hk it o (Ne.symm hne) q), hne⟩, fun b hb => ?_⟩
    · have e1 : ((i + 1 : Nat) : Int) = (i : Int) + 1 := by omega
      rw [e1]; exact he'
    · have hb' : b < s.heap.objs.size := by
        have e' : b = e ∨ b = it := by simpa using hb
        rcases e' with z | z
        · rw [z]; exact hel
        · rw [z]; exact hil
      rw [upd_ne (Nat.ne_of_lt hb')]
      exact (hf b hb).1
  done := by
    intro X hP hw hK hc i pins s σ H E I hf st hg
    subst hP hw hK
    obtain ⟨⟨old, he⟩, hit, hne⟩ := st
    obtain ⟨xs, hq, hx⟩ := hg
    obtain ⟨its, rv, p, hz⟩ := sqs_ok I hq
    obtain ⟨f0, f1, f2, f3, f4, f5⟩ := hf it (by simp)
    have hl := rv.length
    exact pyNext_enum_end (R := fun h' => Heap.ExtBut it s.heap h') (I.ok.hd hc) he (fun A' Q' E' hh k => next_end hh hit p (by simp; omega) fun h' ex hs hx => k h' ex hs hx) fun h' eb => ⟨rfl, I.turned (t' := s.toks) (fun b o hb q => eb b o hb q) f0 f1 f3 f4 f5⟩
  self := fun A i s Q E st h => let ⟨⟨_, he⟩, _⟩ := st; wpAny_pyIter_enum he h
/-- enumerate(x), x a list or a tuple -/
def iEnumS (K : PySem.W.Frag) (ta : TA) : TI := fun σ H R => ta σ H fun vs H1 => ∃ a xs tp, vs = [.ref a] ∧ SqS K H1 tp a xs ∧ R (IteS K tp a) H1
theorem pi_enumS {X : Cx} {e : Expr} {ta : TA} {p pos tpos : Pos} {elts : List Expr} {kk : Nat} (hg : Gl X "enumerate") (hm : X.mg "enumerate" = none) (ha : PA X [e] ta) (hs : starEach [e] X.env = [(false, eval e X.env)] := by rfl) :
    PI X (.Tuple elts kk tpos) (.Call (.Name "enumerate" p) [e] [] pos) (iEnumS X.K ta) := by
  refine ⟨fun pins s σ H R I h => ?_⟩
  refine Call_ (ld_blt I hg hm boot_enumerate (PyProof.Rows.callWith_type1 (thn (ha.run pos pins s σ H _ I h) fun us s1 ⟨vs, H1, I1, r1, q1⟩ => ?_) hs rfl))
  obtain ⟨a, xs, tp, ex, hq, q⟩ := q1
  subst ex
  cases r1 with
  | cons r rr =>
    cases rr
    cases r
    have fin : ∀ h', IsEnum h' (s1.heap.objs.size + 1) s1.heap.objs.size 0 .none → SIt h' tp s1.heap.objs.size a 0 → (∀ b o, s1.heap.get? b = some o → h'.get? b = some o) →
        wpAny (model X.prog X.w) X.A (pyIter (.ref (s1.heap.objs.size + 1))) (PIE X pins σ (.Tuple elts kk tpos) R) X.xe { s1 with heap := h' } := fun h' he hit hk => wpAny_pyIter_enum he (by
      have I2 : Inv X pins σ H1 { s1 with heap := h' } := I1.kept (t' := s1.toks) hk
      refine ⟨s1.heap.objs.size + 1, [s1.heap.objs.size + 1, s1.heap.objs.size], _, _, H1, rfl, I2, turn_enumS a (s1.heap.objs.size + 1) s1.heap.objs.size, ⟨⟨.none, he⟩, hit, Nat.succ_ne_self _⟩, fun b hb => ?_, q⟩
      have e' : b = s1.heap.objs.size + 1 ∨ b = s1.heap.objs.size := by simpa using hb
      have hle : s1.heap.objs.size ≤ b := by
        rcases e' with z | z
        · rw [z]; exact Nat.le_add_right _ _
        · rw [z]; exact Nat.le_refl _
      exact I1.fpOk hle (I1.hok.fresh hle))
    cases tp with
    | false =>
      obtain ⟨its, rv, p', hz⟩ := I1.list hq
      exact call_enumerate_list p'.isList fun h' he hit hsz hk => fin h' he hit hk
    | true =>
      obtain ⟨its, rv, p', hz⟩ := I1.tuple hq
      exact call_enumT (show s1.heap.IsTuple a its.toArray from p') fun h' he hit hsz hk => fin h' he hit hk
theorem walk_enumS {K : PySem.W.Frag} {tp : Bool} {a : Addr} {xs : List V} : Walk (IteS K tp a) xs.length (fun H => SqS K H tp a xs) (YPair (fun i => some (.int (i : Nat))) (fun i => xs[i]?)) := by
  refine ⟨fun i _ hi q => ⟨xs, xs[i], q, by simp [hi]⟩, fun _ q => ⟨xs, q, Nat.le_refl _⟩, fun i H v H' _ q y => ?_⟩
  obtain ⟨T, x, h1, h2, h3, h4⟩ := y
  exact ⟨T, .int (i : Nat), x, h1, h2, h3, rfl, h4 xs q⟩
end NZ

set_option Elab.async false
set_option linter.all false
set_option maxRecDepth 100000
set_option maxHeartbeats 2000000
/-! enumerate(zip(tuple, list)). -/
namespace NZ
open PySem PySem.Spec PyProof.Rows L2
/-- the tuple at a and the list at b side by side, each pair in a new pair with its number -/
def IteZ (K : PySem.W.Frag) (a b : Addr) : It :=
  ⟨fun i H => ∃ (xs ys : List V) (x y : V), SqT K H a xs ∧ SqL K H b ys ∧ xs[i]? = some x ∧ ys[i]? = some y,
    fun i H v H' => ∃ T U x y, v = .ref U ∧ H T = none ∧ H U = none ∧ T ≠ U ∧ H' = upd (upd H T (.tup [x, y])) U (.tup [.int (i : Nat), .ref T]) ∧ (∀ xs, SqT K H a xs → xs[i]? = some x) ∧ ∀ ys, SqL K H b ys → ys[i]? = some y,
    fun i H => ∃ xs ys : List V, SqT K H a xs ∧ SqL K H b ys ∧ (xs.length ≤ i ∨ ys.length ≤ i)⟩
theorem in6 {c e z TI TO i1 i2 : Addr} (h : c ∈ [e, z, TI, TO, i1, i2]) : c = e ∨ c = z ∨ c = TI ∨ c = TO ∨ c = i1 ∨ c = i2 := by simpa using h
theorem turn_enumZ {P : Program} {w : World} {K : PySem.W.Frag} {elts : List Expr} {kk : Nat} {tpos : Pos} {a b e z TI TO i1 i2 : Addr} (D : ZipApart z TI TO i1 i2 a b) (ne : ∀ c ∈ [z, TI, TO, i1, i2], c ≠ e) :
    Turn P w K (.Tuple elts kk tpos) (IteZ K a b) [e, z, TI, TO, i1, i2] e (fun i h => (∃ old, IsEnum h e z ((i : Nat) : Int) old) ∧ (∃ f0 f1, ZipO h z TI TO f0 f1 ∧ OkF f0) ∧ IsPair h TI (.ref i1) (.ref i2) ∧ (∃ x y, IsPair h TO x y) ∧ SIt h true i1 a i ∧ SIt h false i2 b i) where
  mem := by simp
  obj := fun i h st c hc => by
    obtain ⟨⟨old, he⟩, ⟨f0, f1, hz, _⟩, hTI, ⟨x, y, hTO⟩, h1, h2⟩ := st
    rcases in6 hc with q | q | q | q | q | q
    · rw [q]; exact ⟨_, he, fun v q => nomatch q⟩
    · rw [q]; exact ⟨_, hz, fun v q => nomatch q⟩
    · rw [q]; exact ⟨_, hTI, fun v q => nomatch q⟩
    · rw [q]; exact ⟨_, hTO, fun v q => nomatch q⟩
    · rw [q]; exact h1.obj
    · rw [q]; exact h2.obj
  keep := fun i h h' st k => by
    obtain ⟨⟨old, he⟩, ⟨f0, f1, hz, ok⟩, hTI, ⟨x, y, hTO⟩, h1, h2⟩ := st
    exact ⟨⟨old, k e (by simp) _ he⟩, ⟨f0, f1, k z (by simp) _ hz, ok⟩, k TI (by simp) _ hTI, ⟨x, y, k TO (by simp) _ hTO⟩, h1.at_ fun o q => k i1 (by simp) o q, h2.at_ fun o q => k i2 (by simp) o q⟩
  item := by
    intro X hP hw hK hc i pins s σ H E I hf st hg
    subst hP hw hK
    obtain ⟨⟨old, he⟩, ⟨f0, f1, hz, ok⟩, hTI, ⟨x0, y0, hTO⟩, h1, h2⟩ := st
    obtain ⟨xs, ys, x, y, hqx, hqy, hx, hy⟩ := hg
    obtain ⟨its, rv, p, _⟩ := sqs_ok (tp := true) I hqx
    obtain ⟨its2, rv2, p2, _⟩ := sqs_ok (tp := false) I hqy
    obtain ⟨u, hu, ru⟩ := rv.get hx
    obtain ⟨u2, hu2, ru2⟩ := rv2.get hy
    have ez : e ≠ z := (ne z (by simp)).symm
    have eTI : e ≠ TI := (ne TI (by simp)).symm
    have eTO : e ≠ TO := (ne TO (by simp)).symm
    have e1 : e ≠ i1 := (ne i1 (by simp)).symm
    have e2 : e ≠ i2 := (ne i2 (by simp)).symm
    have lt6 : ∀ c ∈ [e, z, TI, TO, i1, i2], c < s.heap.objs.size := fun c hc => by
      rcases in6 hc with q | q | q | q | q | q
      · rw [q]; exact Heap.lt_size he
      · rw [q]; exact Heap.lt_size hz
      · rw [q]; exact Heap.lt_size hTI
      · rw [q]; exact Heap.lt_size hTO
      · rw [q]; exact h1.lt
      · rw [q]; exact h2.lt
    have hel := lt6 e (by simp)
    refine pyNext_enum (n := s.heap.objs.size + 1) (x := .ref s.heap.objs.size)
      (R := fun h₁ => (∃ f0 f1, ZipO h₁ z TI TO f0 f1 ∧ OkF f0) ∧ (∃ a b, IsPair h₁ TO a b) ∧ SIt h₁ true i1 a (i + 1) ∧ SIt h₁ false i2 b (i + 1) ∧ IsPair h₁ s.heap.objs.size u u2 ∧ ∀ c o, c ≠ z → c ≠ TO → c ≠ i1 → c ≠ i2 → s.heap.get? c = some o → h₁.get? c = some o) he
      (fun A' E' Q' k => nextOf_zip D hz ok hTI hTO h1 h2 p p2 (x := u) (y := u2) (by simpa using hu) (by simpa using hu2) fun h' f0' f1' z' ok' TO' h1' h2' hT hsz hk => k h' (hk e _ ez eTO e1 e2 he) hsz ⟨⟨f0', f1', z', ok'⟩, TO', h1', h2', hT, hk⟩)
      fun h₁ h' r₁ hz₁ ho hT hsz hk => ?_
    obtain ⟨⟨g0, g1, z', ok'⟩, ⟨a', b', TO'⟩, h1', h2', hP, hk₁⟩ := r₁
    refine ⟨_, rfl, wpAny_letOwnedTupleGo_enum (s := { s with heap := h', toks := s.toks + 1 }) ho fun h'' he' sb => ?_⟩
    have up : ∀ c o, c ≠ e → h₁.get? c = some o → h''.get? c = some o := fun c o c1 q => (sb.2 c c1).trans (hk c o c1 q)
    have hT2 : h''.get? (s.heap.objs.size + 1) = some { cls := .type "tuple", data := .seq #[.int i s.toks, .ref s.heap.objs.size] } := (sb.2 _ (Nat.ne_of_gt (Nat.lt_succ_of_lt hel))).trans hT
    have new1 : ObjOk X.prog X.w (upd H s.heap.objs.size (.tup [x, y])) h₁ s.heap.objs.size (.tup [x, y]) :=
      ⟨by show 2 ≤ sizeLine; decide, [u, u2], .cons ru (.cons ru2 .nil), ⟨_, hP, rfl, _, rfl⟩⟩
    have I1 : Inv X pins σ (upd H s.heap.objs.size (.tup [x, y])) { s with heap := h₁, toks := s.toks } :=
      I.turnedNew (ch := [e, z, TI, TO, i1, i2]) (fun c o hb q => hk₁ c o (fun q' => hb (by simp [q'])) (fun q' => hb (by simp [q'])) (fun q' => hb (by simp [q'])) (fun q' => hb (by simp [q'])) q) hf (Nat.le_refl _) new1
    have new2 : ObjOk X.prog X.w (upd (upd H s.heap.objs.size (.tup [x, y])) (s.heap.objs.size + 1) (.tup [.int (i : Nat), .ref s.heap.objs.size])) h'' (s.heap.objs.size + 1) (.tup [.int (i : Nat), .ref s.heap.objs.size]) :=
      ⟨by show 2 ≤ sizeLine; decide, [.int i s.toks, .ref s.heap.objs.size], .cons ⟨_, rfl⟩ (.cons rfl .nil), ⟨_, hT2, rfl, _, rfl⟩⟩
    have fe : FpOk X pins (upd H s.heap.objs.size (.tup [x, y])) e := by
      obtain ⟨q0, q1⟩ := hf e (by simp)
      exact ⟨by rw [upd_ne (Nat.ne_of_lt hel)]; exact q0, q1⟩
    have I2 : Inv X pins σ (upd (upd H s.heap.objs.size (.tup [x, y])) (s.heap.objs.size + 1) (.tup [.int (i : Nat), .ref s.heap.objs.size])) { s with heap := h'', toks := s.toks + 1 } :=
      I1.turnedNew (t' := s.toks + 1) (ch := [e]) (fun c o hb q => up c o (fun q' => hb (by simp [q'])) q) (fun c hc => by rw [List.mem_singleton.mp hc]; exact fe) (by show h₁.objs.size ≤ _; rw [hz₁]; exact Nat.le_refl _) new2
    refine ⟨.ref (s.heap.objs.size + 1), _, I2, rfl, ⟨s.heap.objs.size, s.heap.objs.size + 1, x, y, rfl, I.hok.fresh (Nat.le_refl _), I.hok.fresh (Nat.le_succ _), Nat.ne_of_lt (Nat.lt_succ_self _), rfl, fun l hl => by rw [I.tuple_inj hl hqx]; exact hx, fun l hl => by rw [I.list_inj hl hqy]; exact hy⟩, ⟨⟨.ref s.heap.objs.size, ?_⟩, ⟨g0, g1, up _ _ (Ne.symm ez) z', ok'⟩, up _ _ (Ne.symm eTI) (hk₁ _ _ D.TIz D.TITO D.TIi1 D.TIi2 hTI), ⟨a', b', up _ _ (Ne.symm eTO) TO'⟩, h1'.at_ fun o q => up _ o (Ne.symm e1) q, h2'.at_ fun o q => up _ o (Ne.symm e2) q⟩, fun c hcm => ?_⟩
    · have e1 : ((i + 1 : Nat) : Int) = (i : Int) + 1 := by omega
      rw [e1]; exact he'
    · have hlt := lt6 c hcm
      rw [upd_ne (Nat.ne_of_lt (Nat.lt_succ_of_lt hlt)), upd_ne (Nat.ne_of_lt hlt)]
      exact (hf c hcm).1
  done := by
    intro X hP hw hK hc i pins s σ H E I hf st hg
    subst hP hw hK
    obtain ⟨⟨old, he⟩, ⟨f0, f1, hz, ok⟩, hTI, ⟨x0, y0, hTO⟩, h1, h2⟩ := st
    obtain ⟨xs, ys, hqx, hqy, hend⟩ := hg
    obtain ⟨its, rv, p, _⟩ := sqs_ok (tp := true) I hqx
    obtain ⟨its2, rv2, p2, _⟩ := sqs_ok (tp := false) I hqy
    have l1 := rv.length
    have l2 := rv2.length
    have hn : its.toArray[i]? = none ∨ its2.toArray[i]? = none := by
      rcases hend with q | q
      · exact .inl (by simp; omega)
      · exact .inr (by simp; omega)
    exact pyNext_enum_end (R := fun h' => ∀ c o, c ≠ z → c ≠ TO → c ≠ i1 → c ≠ i2 → s.heap.get? c = some o → h'.get? c = some o) (I.ok.hd hc) he (fun A' Q' E' hh k => nextOf_zip_end hh D hz ok hTI hTO h1 h2 p p2 hn fun h' ex hs hx => k h' ex hs hx)
      fun h' hk => ⟨rfl, I.turnedL (t' := s.toks) (ch := [e, z, TI, TO, i1, i2]) (fun c o hb q =>
        hk c o (fun q' => hb (by simp [q'])) (fun q' => hb (by simp [q'])) (fun q' => hb (by simp [q'])) (fun q' => hb (by simp [q'])) q) hf⟩
  self := fun A i s Q E st h => let ⟨⟨_, he⟩, _⟩ := st; wpAny_pyIter_enum he h
/-- enumerate(zip(x, y)), x a tuple, y a list -/
def iEnumZ (K : PySem.W.Frag) (ta : TA) : TI := fun σ H R => ta σ H fun vs H1 => ∃ a b xs ys, vs = [.ref a, .ref b] ∧ SqT K H1 a xs ∧ SqL K H1 b ys ∧ R (IteZ K a b) H1
theorem pi_enumZ {X : Cx} {e e2 : Expr} {ta : TA} {p pos p2 pos2 tpos : Pos} {elts : List Expr} {kk : Nat} (hg : Gl X "enumerate") (hm : X.mg "enumerate" = none) (hg2 : Gl X "zip") (hm2 : X.mg "zip" = none) (ha : PA X [e, e2] ta)
    (hs : starEach [e, e2] X.env = (false, eval e X.env) :: starEach [e2] X.env := by rfl) (hpl : (backTo pos2 (starEach [e2] X.env)).any (·.1) = false := by rfl)
    (hz : starEach [.Call (.Name "zip" p2) [e, e2] [] pos2] X.env = [(false, eval (.Call (.Name "zip" p2) [e, e2] [] pos2) X.env)] := by rfl) :
    PI X (.Tuple elts kk tpos) (.Call (.Name "enumerate" p) [.Call (.Name "zip" p2) [e, e2] [] pos2] [] pos) (iEnumZ X.K ta) := by
  refine ⟨fun pins s σ H R I h => ?_⟩
  refine Call_ (ld_blt I hg hm boot_enumerate (PyProof.Rows.callWith_type1 ?_ hz rfl))
  rw [hz]
  show wpAny _ _ (spliced ((false, eval (.Call (.Name "zip" p2) [e, e2] [] pos2) X.env) :: backTo pos [])) _ _ s
  refine Calls.spliced_cons (Call_ (ld_blt I hg2 hm2 PyProof.Rows.boot_zip (PyProof.Rows.callWith_type1 (thn (ha.run pos2 pins s σ H _ I h) fun us s1 ⟨vs, H1, I1, r1, q1⟩ => ?_) hs hpl)))
  obtain ⟨a, b, xs, ys, ex, hqx, hqy, q⟩ := q1
  subst ex
  cases r1 with
  | cons r rr =>
    cases rr with
    | cons r' rr =>
      cases rr
      cases r
      cases r'
      obtain ⟨its, rv, p1, _⟩ := I1.tuple hqx
      obtain ⟨its2, rv2, p2', _⟩ := I1.list hqy
      obtain ⟨o1, ho1, _⟩ := id p1
      refine call_zipM (show s1.heap.IsTuple a its.toArray from p1) p2'.isList fun h' hZ hTI hTO h1 h2 hsz hk => ?_
      refine Calls.spliced_nil (call_enumZ hZ fun h'' he hsz' hk' => wpAny_pyIter_enum he ?_)
      have I2 : Inv X pins σ H1 { s1 with heap := h'', toks := s1.toks } := I1.kept fun b o q => hk' b o (hk b o q)
      have hn : (({ s1 with heap := h' } : Shared).heap.objs.size) = s1.heap.objs.size + 5 := hsz
      refine ⟨h'.objs.size, [h'.objs.size, s1.heap.objs.size + 4, s1.heap.objs.size + 2, s1.heap.objs.size + 3, s1.heap.objs.size, s1.heap.objs.size + 1], _, _, H1, rfl, I2, turn_enumZ (PySem.W.ktu_apart s1.heap.objs.size a b (Heap.lt_size ho1) p2'.lt) (fun c hc => ?_),
        ⟨⟨.none, he⟩, ⟨_, _, hk' _ _ hZ, .inl rfl⟩, hk' _ _ hTI, ⟨_, _, hk' _ _ hTO⟩, h1.at_ fun o q => hk' _ o q, h2.at_ fun o q => hk' _ o q⟩, fun c hc => ?_, q⟩
      · have hlt : c < s1.heap.objs.size + 5 := by
          rcases in5 hc with q | q | q | q | q
          · rw [q]; exact Nat.lt_succ_self _
          · rw [q]; exact Nat.add_lt_add_left (by decide) _
          · rw [q]; exact Nat.add_lt_add_left (by decide) _
          · rw [q]; exact Nat.lt_add_of_pos_right (by decide)
          · rw [q]; exact Nat.add_lt_add_left (by decide) _
        exact Nat.ne_of_lt (by rw [← hsz] at hlt; exact hlt)
      · have hle : s1.heap.objs.size ≤ c := by
          rcases in6 hc with q | q | q | q | q | q
          · rw [q, hsz]; exact Nat.le_add_right _ _
          · rw [q]; exact Nat.le_add_right _ _
          · rw [q]; exact Nat.le_add_right _ _
          · rw [q]; exact Nat.le_add_right _ _
          · rw [q]; exact Nat.le_refl _
          · rw [q]; exact Nat.le_add_right _ _
        exact I1.fpOk hle (I1.hok.fresh hle)
/-- a new pair of i and a new pair of the i-th ones -/
def YNum (xs ys : Nat → Option V) : Nat → Hp → V → Hp → Prop := fun i H v H' => ∃ T U x y, v = .ref U ∧ H T = none ∧ H U = none ∧ T ≠ U ∧ H' = upd (upd H T (.tup [x, y])) U (.tup [.int (i : Nat), .ref T]) ∧ xs i = some x ∧ ys i = some y
theorem walk_enumZ {K : PySem.W.Frag} {a b : Addr} {xs ys : List V} {n : Nat} (hn : n = min xs.length ys.length) : Walk (IteZ K a b) n (fun H => SqT K H a xs ∧ SqL K H b ys) (YNum (fun i => xs[i]?) (fun i => ys[i]?)) := by
  subst hn
  refine ⟨fun i _ hi q => ?_, fun _ q => ⟨xs, ys, q.1, q.2, by omega⟩, fun i H v H' _ q y => ?_⟩
  · have h1 : i < xs.length := by omega
    have h2 : i < ys.length := by omega
    exact ⟨xs, ys, xs[i], ys[i], q.1, q.2, by simp [h1], by simp [h2]⟩
  · obtain ⟨T, U, x, z, h1, h2, h3, h4, h5, h6, h7⟩ := y
    exact ⟨T, U, x, z, h1, h2, h3, h4, h5, h6 xs q.1, h7 ys q.2⟩
end NZ

set_option Elab.async false
set_option linter.all false
set_option maxRecDepth 100000
set_option maxHeartbeats 4000000
/-! Exceptions of the program's own as values: made (by position, by keywords), a field stored, read, isinstance. -/
namespace PySem
namespace XM
open PySem.W PySem.Calls PyProof.Rows PySem.HandSPX Builtin
/-- what the written part says of an exception class (with an `__init__` of its own or of a built-in's) -/
structure XC (K : Frag) (C : Addr) : Prop where
  base : ∃ (B nId iId : String) (mB : List Value), ExcBaseFacts B nId iId mB ∧ StoreFacts B mB "object.__setattr__" "object" ∧ excInitIn K C mB nId = true ∧ excOver K C mB = true
  sa : findIn K (.ref C) "__setattr__" = some (some (.builtin "object.__setattr__"))
  hd : hasDictIn K C = true
  ex : subIn K (.ref C) (.type "BaseException") = some true
  ty : typeIn K (.ref C) = some (.type "type")
  kp : keepIn K (.ref C) = true
  ga : findIn K (.ref C) "__getattribute__" = some (some (.builtin "BaseException.__getattribute__"))
  gg : findIn K (.ref C) "__getattr__" = some none
  cl : findIn K (.ref C) "__class__" = some (some (.builtin "object.__class__"))
  mo : mroIn K C (.type "object") = some true
  gt : specialIn K (.builtin "object.__class__") "__get__" = some (some (.builtin "getset_descriptor.__get__"))
  tk : takesIn K (.builtin "object.__class__") = some true
section
variable {prog : Program} {w : World} {A : Around} {E : Value → Shared → Prop} {R : Result → Shared → Prop} {hp : Heap} {gs : Array GenState} {dr : Drawn} {tk : Nat} {os : OsState} {K : Frag} {C fI : Addr} {rest : List Value} {kw : List (Str × Value)}
/-- the look ahead of `type.__call__` -/
theorem ck_type {M : Model} {nm qn : Str} {N : Addr} {bs bm : List Value} {hdc ab : Bool} {sn : List Str} {sub : List Value} {col : Option Bool} {dd : Option Addr} {k0 k1 k2 k3 k5 : Option Value} {nId : String} {Q : Unit → Shared → Prop}
    (cC : hp.get? C = some (excClassObj nm qn C N bs bm hdc sn sub ab col dd k0 k1 k2 k3 k5 nId)) (q : Q () ⟨hp, gs, dr, tk, os⟩) : wpAny M A (checkBuiltinCall "type.__call__" { pos := .ref C :: rest, kw := kw }) Q E ⟨hp, gs, dr, tk, os⟩ := by
  have f3 := tc_sub
  have ty : (⟨hp, gs, dr, tk, os⟩ : Shared).TypeIs (.ref C) "type" := ⟨_, cC, rfl⟩
  simp only [checkBuiltinCall, tc_kind, tc_split]
  repeat (any_goals (first | assumption | with_reducible refine wpAny_loadPart_at cC ?_ | with_reducible refine wpAny_onRaise ?_ | with_reducible refine wpAny_map ?_ | wp_step))
/-- C(.., k = v): the fresh object at the place behind its args, then `__init__` -/
theorem call_made (T : XC K C) (X : K.In hp) (hi : findIn K (.ref C) "__init__" = some (some (.ref fI))) (hf : isFn K (.ref fI) = true) (room : rest.length ≤ sizeLine)
    (q : codeAny (model prog w) (A.under (.builtin "type.__call__" ⟨.ref C :: rest, kw⟩)) (.call (.ref fI) ⟨.ref (hp.objs.size + 1) :: rest, kw⟩) (W.InitBack (hp.objs.size + 1) R)
      ⟨(hp.push (kdv_tup rest)).push (excO C hp.objs.size), gs, dr, tk, os⟩) :
    codeAny (model prog w) A (.call (.ref C) ⟨rest, kw⟩) R ⟨hp, gs, dr, tk, os⟩ := by
  obtain ⟨B, nId, iId, mB, FB, _, qi, _⟩ := T.base
  obtain ⟨nm, N', qn, bs, bm, hdct, sn, sub, ab, col, dd, k0, k1, k2, k3, k5, hC, hT⟩ := excInit_of X qi
  obtain ⟨oI, hoI, hcI⟩ : ∃ oI, hp.get? fI = some oI ∧ oI.cls = .type "function" := by
    obtain ⟨o, ho, hc⟩ := Option.map_eq_some_iff.mp (show (K.lookup fI).map (·.cls) = some (.type "function") from beq_iff_eq.mp hf)
    exact ⟨o, X _ _ ho, hc⟩
  have li : Looks (model prog w) hp (typeLookup (.ref C) "__init__") (some (.ref fI)) := looks_findIn X hi
  have lb : ∀ self, Looks (model prog w) hp (bindSpecial (.ref fI) self) (.ref fI, [self]) := fun self => exc_bind hoI hcI self
  have f1 := tc_lookup
  have f2 := tc_bind (.ref C)
  have f3 := tc_sub
  have ty : (⟨hp, gs, dr, tk, os⟩ : Shared).TypeIs (.ref C) "type" := ⟨_, hC, rfl⟩
  refine codeAny_of_tree ?_
  show wpAny _ _ (callAny (.ref C) _) _ _ _
  repeat (any_goals (first | assumption | with_reducible refine wpAny_loadPart_at hC ?_ | wp_step))
  refine ⟨rfl, ?_⟩
  refine codeAny_call_builtin_at (Code.quiet_builtin _ (by decide +kernel)) entry_typeCall ?_
  refine ck_type hC ?_
  refine run_type FB hT hC li lb room ?_
  refine codeAny_mono q fun r s' z => ?_
  rcases r with x | (v | _ | _ | _) <;> exact z
end
end XM
end PySem

set_option Elab.async false
set_option linter.all false
set_option maxRecDepth 100000
set_option maxHeartbeats 4000000
/-! The same over the hand layer. -/
namespace L2
open PySem PySem.Spec PyProof.Rows PySem.XM Builtin Builtin.ObjectAttr
theorem taker_none {K : PySem.W.Frag} {C : Addr} {f : Str} (h : PySem.W.findIn K (.ref C) f = some none) : PySem.W.takerIn K C f = some none := by
  unfold PySem.W.takerIn
  rw [h]
  rfl
section
variable {X : Cx} {pins : List (Addr × Obj)} {σ : St} {H : Hp} {s : Shared} {a C dx : Addr} {f : Str} {y : V} {u : Value} {fs : List (Str × V)} {Q : Unit → Shared → Prop} {E : Value → Shared → Prop} {A : Around}
/-- self.f = y: the first store lays the dict -/
theorem xst_first (T : XC X.K C) (I : Inv X pins σ H s) (e : H a = some (exo a C none)) (hno : PySem.W.findIn X.K (.ref C) f = some none) (ry : RelV y u)
    (h : ∀ dx s', H dx = none → dx ≠ a → Inv X pins σ (upd (upd H dx (exd dx [(f, y)])) a (exo a C (some dx))) s' → Q () s') : wpAny (model X.prog X.w) A (setAttr (.ref a) f u) Q E s := by
  obtain ⟨B, nId, iId, mB, FB, SB, qi, qo⟩ := T.base
  obtain ⟨t1, ho⟩ := exo_at I.hok e
  have KI := I.kIn
  obtain ⟨hp, g, d, t, os⟩ := s
  have J0 : PySem.W.InstAt hp a { cls := .ref C, dict := none, data := .fields #[.ref t1, .none, .none, .none, .bool false, .none] } C none := ⟨ho, rfl, rfl, trivial⟩
  refine PySem.W.set_plain KI (od := none) J0 T.sa ?_
  refine PySem.W.osa_openX (od := none) SB KI J0 qo (taker_none hno) fun b => ?_
  obtain ⟨cd, hc, hd'⟩ := PySem.W.any_some T.hd
  refine wpAny_bind (wpAny_pure (wpAny_bind (PySem.W.instanceDict_exc ho (PySem.W.looks_clsIn KI hc) hd' ?_)))
  have hxs : a ≠ hp.objs.size := Nat.ne_of_lt (Heap.lt_size ho)
  show wpAny _ _ (storeInDict hp.objs.size _ f u) _ _ _
  refine PySem.HandSPX.store_in_new ⟨_, #[], _, (Heap.get?_update_ne _ _ _ _ hxs.symm).trans (Heap.get?_push_at rfl rfl), rfl, fun e he => absurd he (by simp), fun _ => rfl⟩ fun h' tk' hn hs => ?_
  have ho1 : (hp.push { cls := .type "dict", data := .dict #[] }).get? a = some { cls := .ref C, dict := none, data := .fields #[.ref t1, .none, .none, .none, .bool false, .none] } := Heap.get?_push_of_some _ ho
  have hx : h'.get? a = some { cls := .ref C, dict := some hp.objs.size, data := .fields #[.ref t1, .none, .none, .none, .bool false, .none] } := (hs.2 a hxs).trans (Heap.get?_update_self _ ho1 rfl)
  have k : ∀ b o, b ≠ a → hp.get? b = some o → h'.get? b = some o := fun b o hb hbo =>
    (hs.2 b (Nat.ne_of_lt (Heap.lt_size hbo))).trans ((Heap.get?_update_ne _ _ _ _ hb).trans (Heap.get?_push_of_some _ hbo))
  have hnd : H hp.objs.size = none := I.hok.fresh (Nat.le_refl _)
  have old : ∀ {b : Addr} {o : Obj}, hp.get? b = some o → b ≠ hp.objs.size := fun {b o} q => Nat.ne_of_lt (Heap.lt_size q)
  have na : ∀ {b : Addr}, H b = none → b ≠ a := fun {b} n z => by
    rw [z, e] at n
    cases n
  have un : Un X.fs [] H (upd (upd H hp.objs.size (exd hp.objs.size [(f, y)])) a (exo a C (some hp.objs.size))) hp h' := by
    constructor
    · exact fun b o q n _ _ => k b o (na n) q
    · exact fun b o q n _ _ => ⟨o.slots, k b o (na n) q⟩
    · intro b o q n _
      rw [upd_ne (na n), upd_ne (old q), n]
    · intro b o q _
      by_cases hb : b = a
      · exact ⟨_, by rw [hb]; exact hx⟩
      · exact ⟨o, k b o hb q⟩
    · intro b xs q
      rw [upd_ne (at_ne e q exo_tup), upd_ne (ne_of_none q hnd), q]
    · intro b o v q
      rw [upd_ne (at_ne e q exo_frz), upd_ne (ne_of_none q hnd), q]
    · intro b ps q
      exact ⟨#[], by rw [upd_ne (at_ne e q exo_tbl), upd_ne (ne_of_none q hnd), q]; simp⟩
  refine h hp.objs.size _ hnd hxs.symm (I.un (t' := tk') un fun b o q => ?_)
  by_cases hb : b = a
  · subst hb
    rw [upd_same] at q
    cases q
    exact exo_ok hx
  · rw [upd_ne hb] at q
    by_cases hd : b = hp.objs.size
    · subst hd
      rw [upd_same] at q
      cases q
      exact exd_ok hn (relO_put (fs := []) ry fun g => True.intro)
    · rw [upd_ne hd] at q
      refine (I.hok b o q).stay (fun c v hc z => k c v ?_ z) (fun c hc => ?_) (fun c xs hc => ?_)
      · rcases hc with hc | hc
        · rw [hc]; exact hb
        · exact at_ne e hc exo_own
      · rw [upd_ne (at_ne e hc exo_own), upd_ne (ne_of_none hc hnd), hc]
      · rw [upd_ne (at_ne e hc exo_tup), upd_ne (ne_of_none hc hnd), hc]
/-- a further field -/
theorem xst_more (T : XC X.K C) (I : Inv X pins σ H s) (e : H a = some (exo a C (some dx))) (ed : H dx = some (exd dx fs)) (hl : fs.length ≤ 900) (hno : PySem.W.findIn X.K (.ref C) f = some none) (ry : RelV y u)
    (h : ∀ s', Inv X pins σ (upd H dx (exd dx ((f, y) :: fs))) s' → Q () s') : wpAny (model X.prog X.w) A (setAttr (.ref a) f u) Q E s := by
  obtain ⟨B, nId, iId, mB, FB, SB, qi, qo⟩ := T.base
  obtain ⟨t1, ho⟩ := exo_at I.hok e
  obtain ⟨mA, hns, rel⟩ := exd_at I.hok ed
  have hw := within_of rel
  have KI := I.kIn
  obtain ⟨hp, g, d, t, os⟩ := s
  obtain ⟨oD, _, _, hoD, _, _⟩ := hns.count hw
  have J0 : PySem.W.InstAt hp a { cls := .ref C, dict := some dx, data := .fields #[.ref t1, .none, .none, .none, .bool false, .none] } C (some oD) := ⟨ho, rfl, rfl, hoD⟩
  refine PySem.W.set_plain KI (od := some oD) J0 T.sa ?_
  refine PySem.W.osa_openX (od := some oD) SB KI J0 qo (taker_none hno) fun b => ?_
  obtain ⟨cd, hc, hd'⟩ := PySem.W.any_some T.hd
  refine wpAny_bind (wpAny_pure (wpAny_bind (wpAny_bind (wpAny_loadPart ho (wpAny_bind ((PySem.W.looks_clsIn KI hc).at ?_))))))
  rw [hd']
  refine wpAny_pure (a := some dx) ?_
  show wpAny _ _ (storeInDict dx _ f u) _ _ _
  refine PySem.OEX.store_in_old hns hw (by rw [List.length_map]; omega) fun h' tk' hn hs => ?_
  have k : ∀ b o, b ≠ dx → hp.get? b = some o → h'.get? b = some o := fun b o hb hbo => (hs.2 b hb).trans hbo
  have th : ∃ o, h'.get? dx = some o := by
    obtain ⟨o, _, _, e', _⟩ := hn
    exact ⟨o, e'⟩
  exact h _ (I.write (t' := tk') (x := dx) (e := dx) (o := exd dx ((f, y) :: fs)) (by rw [ed]; exact True.intro) (.inl rfl) k th (exd_ok hn (relO_put ry rel)))
end
end L2

set_option Elab.async false
set_option linter.all false
set_option maxRecDepth 100000
set_option maxHeartbeats 4000000
/-! Exceptions as values: the rules. -/
namespace L2
open PySem PySem.Spec PyProof.Rows PySem.XM Builtin Builtin.ObjectAttr
/-- at a stands an exception of the class at C with the fields fs -/
def ExnAt (H : Hp) (a C : Addr) (fs : List (Str × V)) : Prop := (fs = [] ∧ H a = some (exo a C none)) ∨ ∃ dx, H a = some (exo a C (some dx)) ∧ H dx = some (exd dx fs)
theorem ExnAt.same {H H' : Hp} {a C : Addr} {fs : List (Str × V)} (x : ExnAt H a C fs) (s : Same H H') : ExnAt H' a C fs := by
  rcases x with ⟨e, h⟩ | ⟨dx, h1, h2⟩
  · exact .inl ⟨e, s _ _ h⟩
  · exact .inr ⟨dx, s _ _ h1, s _ _ h2⟩
theorem ExnAt.there {H : Hp} {a C : Addr} {fs : List (Str × V)} (x : ExnAt H a C fs) : ∃ o, H a = some o := by
  rcases x with ⟨_, h⟩ | ⟨_, h, _⟩ <;> exact ⟨_, h⟩
theorem Same.new {H : Hp} {a : Addr} {o : HO} (h : H a = none) : Same H (upd H a o) := fun b u e => by
  rw [upd_ne (ne_of_none e h)]
  exact e
/-- C(e, .., k = v, ..) as a value, C's own `__init__` keeping sp -/
def tMkX (C : Addr) (n m : Nat) (sp : Sp) (gV : List V → List V → List V) (t tk : TA) : TE := fun σ H Q => t σ H fun vs H1 => tk σ H1 fun zs H2 => vs.length = n ∧ zs.length = m ∧ ∀ a, H2 a = none →
  sp (gV (.ref a :: vs) zs) (upd H2 a (exo a C none)) (fun v H3 => v = .non ∧ Q (.ref a) H3) E0
section
variable {X : Cx} {CX : CXT} {k n : Nat} {f C : Addr} {fd : FuncData} {ps ks : List Str} {sp : Sp} {x : Str} {p pos : Pos} {e : Expr} {es : List Expr} {kws : List Keyword} {t tk : TA} {g : List Value → List Value → List Value} {gV : List V → List V → List V}
theorem run_mkX {pins : List (Addr × Obj)} {σ : St} {H : Hp} {s : Shared} {Q : VK} {us ws : List Value} {vs zs : List V} (T : XC X.K C) (iC : PySem.W.findIn X.K (.ref C) "__init__" = some (some (.ref f))) (fI : PySem.W.isFn X.K (.ref f) = true)
    (F : FnOk X.prog X.w X.K X.mg X.base CX k f fd ps sp) (hr : Room (k + 1) X.A) (hb : KBn X.K fd ps (n + 1) ks g gV) (hx : Passes CX X E0) (I : Inv X pins σ H s) (r : Vals vs us) (rz : Vals zs ws) (l1 : vs.length = n) (l2 : zs.length = ks.length) (hn : n ≤ 1000)
    (h : ∀ a, H a = none → sp (gV (.ref a :: vs) zs) (upd H a (exo a C none)) (fun v H3 => v = .non ∧ Q (.ref a) H3) E0) :
    wpAny (model X.prog X.w) X.A (call (.ref C) us (ks.zip ws)) (EP X pins σ Q) X.xe s := by
  have KI := I.kIn
  obtain ⟨hp, gs, d, tk, os⟩ := s
  have sz : hp.objs.size ≤ hp.objs.size + 1 := Nat.le_succ _
  have hq := h (hp.objs.size + 1) (I.hok.fresh sz)
  have kk : ∀ b o, hp.get? b = some o → ((hp.push (PySem.W.kdv_tup us)).push (PySem.HandSPX.excO C hp.objs.size)).get? b = some o := fun b o z => Heap.get?_push_of_some _ (Heap.get?_push_of_some _ z)
  have hget : ((hp.push (PySem.W.kdv_tup us)).push (PySem.HandSPX.excO C hp.objs.size)).get? (hp.objs.size + 1) = some (PySem.HandSPX.excO C hp.objs.size) := by heap_get
  have I2 : Inv X pins σ (upd H (hp.objs.size + 1) (exo (hp.objs.size + 1) C none)) ⟨(hp.push (PySem.W.kdv_tup us)).push (PySem.HandSPX.excO C hp.objs.size), gs, d, tk, os⟩ := by
    exact I.laid (t' := tk) (h' := (hp.push (PySem.W.kdv_tup us)).push (PySem.HandSPX.excO C hp.objs.size)) kk sz (exo_ok hget)
  have r2 := hb.rel (Paired.cons (show RelV (V.ref (hp.objs.size + 1)) (Value.ref (hp.objs.size + 1)) from rfl) r) rz
  have n1 : (Value.ref (hp.objs.size + 1) :: us).length = n + 1 := by rw [List.length_cons, ← r.length, l1]
  have hus : us.length ≤ sizeLine := by
    rw [← r.length, l1, sizeLine_eq]
    omega
  refine wpAny_call (call_made T KI iC fI hus (codeAny_mono (F.run _ X.stack _ _ ⟨Value.ref (hp.objs.size + 1) :: us, ks.zip ws⟩ (g (Value.ref (hp.objs.size + 1) :: us) ws) _ _ E0 (hr.make C us (ks.zip ws)) (I2.env0.make C us (ks.zip ws))
    (hb.to _ (Value.ref (hp.objs.size + 1) :: us) ws I2.kIn n1 (rz.length.symm.trans l2)) r2 hq) fun r s' z => ?_))
  cases r with
  | error e => exact hx pins σ _ _ e s' I2 z
  | ok fl =>
    cases fl with
    | ret u =>
      obtain ⟨v, H', I3, rv, ev, q3⟩ := I2.after z
      subst ev
      exact ⟨rv, ⟨V.ref (hp.objs.size + 1), H', I3, rfl, q3⟩⟩
    | next => exact False.elim z
    | brk => exact False.elim z
    | cont => exact False.elim z
/-- C(e, ..) -/
theorem pe_mkX (T : XC X.K C) (iC : PySem.W.findIn X.K (.ref C) "__init__" = some (some (.ref f))) (fI : PySem.W.isFn X.K (.ref f) = true) (F : FnOk X.prog X.w X.K X.mg X.base CX k f fd ps sp) (hr : Room (k + 1) X.A) (hn : n ≤ 1000) (hg : Gl X x) (hm : X.mg x = some (.ref C))
    (hb : KBn X.K fd ps (n + 1) [] g gV) (hx : Passes CX X E0) (ha : PA X (e :: es) t) (hdb : (x == ("__debug__" : Str)) = false := by decide)
    (he : starEach (e :: es) X.env = (false, eval e X.env) :: starEach es X.env := by rfl) (hpl : (backTo pos (starEach es X.env)).any (·.1) = false := by rfl) : PE X (.Call (.Name x p) (e :: es) [] pos) (tMkX C n 0 sp gV t tNil) := by
  refine ⟨fun pins s σ H Q I h => wpAny_Call_Name_kw (ld_glob I hg hm ?_ hdb)⟩
  refine PySem.W.callWith_K (h₀ := X.base) I.ok.mod.kin T.kp (thn (ha.run pos pins s σ H _ I h) fun us s1 ⟨vs, H1, I1, r, l1, _, q⟩ => ⟨I1.kIn, ?_⟩) he hpl
  exact run_mkX (ks := []) (ws := []) (zs := []) T iC fI F hr hb hx I1 r .nil l1 rfl hn q
/-- C(k = v, ..) -/
theorem pe_mkXk (T : XC X.K C) (iC : PySem.W.findIn X.K (.ref C) "__init__" = some (some (.ref f))) (fI : PySem.W.isFn X.K (.ref f) = true) (F : FnOk X.prog X.w X.K X.mg X.base CX k f fd ps sp) (hr : Room (k + 1) X.A) (hg : Gl X x) (hm : X.mg x = some (.ref C))
    (hb : KBn X.K fd ps 1 ks g gV) (hx : Passes CX X E0) (hkw : PK X kws tk) (hall : (backToKw pos (keywordEach kws X.env)).all (·.1.isSome) = true := by rfl) (hks : (backToKw pos (keywordEach kws X.env)).filterMap (·.1) = ks := by rfl)
    (hdb : (x == ("__debug__" : Str)) = false := by decide) (hpl : ((backTo pos (starEach [] X.env)).any (·.1) || (backToKw pos (keywordEach kws X.env)).any (·.1.isNone)) = false := by rfl) :
    PE X (.Call (.Name x p) [] kws pos) (tMkX C 0 ks.length sp gV tNil tk) := by
  refine ⟨fun pins s σ H Q I h => wpAny_Call_Name_kw (ld_glob I hg hm ?_ hdb)⟩
  refine PySem.W.callWith_KW0 (h₀ := X.base) I.ok.mod.kin T.kp hall (thn (hkw.run pos pins s σ H _ I h) fun ws s2 ⟨zs, H2, I2, rz, l1, l2, q2⟩ => ⟨I2.kIn, ?_⟩) hpl
  rw [hks]
  exact run_mkX (us := []) (vs := []) T iC fI F hr hb hx I2 .nil rz rfl l2 (Nat.zero_le _) q2
end
/-- self.f = e in an `__init__` -/
def tXst (K : PySem.W.Frag) (f : Str) (to te : TE) : TS := fun D σ H => te σ H fun y H1 => to σ H1 fun x H2 => ∃ a C : Addr, x = .ref a ∧ XC K C ∧ PySem.W.findIn K (.ref C) f = some none ∧
  ((H2 a = some (exo a C none) ∧ ∀ dx, H2 dx = none → dx ≠ a → D.nx σ (upd (upd H2 dx (exd dx [(f, y)])) a (exo a C (some dx)))) ∨
    ∃ (dx : Addr) (fs : List (Str × V)), H2 a = some (exo a C (some dx)) ∧ H2 dx = some (exd dx fs) ∧ fs.length ≤ 900 ∧ D.nx σ (upd H2 dx (exd dx ((f, y) :: fs))))
/-- o.f, o an exception -/
def tXf (K : PySem.W.Frag) (f : Str) (te : TE) : TE := fun σ H Q => te σ H fun x H1 => ∃ (a C : Addr) (fs : List (Str × V)) (v : V), x = .ref a ∧ XC K C ∧ PySem.W.findIn K (.ref C) f = some none ∧ ExnAt H1 a C fs ∧ fs.lookup f = some v ∧ Q v H1
/-- isinstance(o, c), o an exception -/
def rIsX (K : PySem.W.Frag) : List V → Hp → VK → Prop := fun xs H Q => ∃ (a C : Addr) (fs : List (Str × V)) (c : V) (u : Value) (b : Bool), xs = [.ref a, c] ∧ XC K C ∧ ExnAt H a C fs ∧ ClsV c u ∧ PySem.W.kitOne K (.ref C) u = some b ∧ Q (.bl b) H
theorem ExnAt.inst {X : Cx} {pins : List (Addr × Obj)} {σ : St} {H : Hp} {s : Shared} {a C : Addr} {fs : List (Str × V)} (I : Inv X pins σ H s) (x : ExnAt H a C fs) :
    ∃ (ox : Obj) (od : Option Obj), PySem.W.InstAt s.heap a ox C od ∧ ∀ f v, fs.lookup f = some v → ∃ o u, od = some o ∧ PySem.W.lookIn f o = some (some u) ∧ RelV v u := by
  rcases x with ⟨rfl, h⟩ | ⟨dx, h1, h2⟩
  · obtain ⟨t1, ho⟩ := exo_at I.hok h
    exact ⟨_, none, ⟨ho, rfl, rfl, trivial⟩, fun f v z => nomatch z⟩
  · obtain ⟨t1, ho⟩ := exo_at I.hok h1
    obtain ⟨mA, hns, rel⟩ := exd_at I.hok h2
    obtain ⟨od, hod, hl⟩ := lookIn_ns hns
    refine ⟨_, some od, ⟨ho, rfl, rfl, hod⟩, fun f v z => ?_⟩
    obtain ⟨u, hu, ru⟩ := RelO.some_of (v := v) (o := mA f) (by rw [← z]; exact rel f)
    exact ⟨od, u, rfl, by rw [hl, hu], ru⟩
section
variable {X : Cx} {o e : Expr} {to te : TE} {f : Str} {p' pos : Pos}
theorem ps_xst (ho : PE X o to) (he : PE X e te) (hs : swapsWith e (some (.Attribute o f p')) pos.line X.env = pure false := by rfl) : PS X (.Assign [.Attribute o f p'] e pos) (tXst X.K f to te) := by
  refine ⟨fun pins s σ H D I h => ?_⟩
  refine plainObj_wpAny_Assign_Attribute (thn (he.run pins s σ H _ I h) fun v s1 ⟨y, H1, I1, r1, q1⟩ => thn (ho.run pins s1 σ H1 _ I1 q1) fun u s2 ⟨x, H2, I2, r2, a, C, ex, T, hno, q⟩ => ?_) hs
  subst ex
  cases r2
  rcases q with ⟨ea, q⟩ | ⟨dx, fs, ea, ed, hl, q⟩
  · exact xst_first T I2 ea hno r1 fun dx s' n ne J => ⟨σ, _, J, q dx n ne⟩
  · exact xst_more T I2 ea ed hl hno r1 fun s' J => ⟨σ, _, J, q⟩
theorem pe_xf (he : PE X e te) (hb : attributeBase e f X.env (eval e X.env) = eval e X.env := by rfl) : PE X (.Attribute e f pos) (tXf X.K f te) := by
  refine ⟨fun pins s σ H Q I h => attr_of hb (thn (he.run pins s σ H _ I h) fun u s1 ⟨x, H1, I1, rx, a, C, fs, v, ex, T, hno, xe, hl, q⟩ => ?_)⟩
  subst ex
  cases rx
  obtain ⟨ox, od, J, look⟩ := xe.inst I1
  obtain ⟨ob, u, rfl, lk, ru⟩ := look f v hl
  exact PySem.HandSPX.exc_get I1.kIn J T.ga T.gg T.ex (PySem.W.findObj_own T.hd hno rfl lk) (handed_of ru) ⟨v, H1, I1.tok _, ru, q⟩
theorem call_isX : CallR X (.builtin "isinstance") (rIsX X.K) := by
  intro pins s σ H xs us Q I r h
  obtain ⟨a, C, fs, c, u, b, rfl, T, xe, k, e, q⟩ := h
  obtain ⟨u1, u2, rfl, r1, r2⟩ := vals2 r
  have e2 := k.eq r2
  subst e2
  cases r1
  obtain ⟨ox, od, J, _⟩ := xe.inst I
  obtain ⟨cd, hc, _⟩ := PySem.W.any_some T.hd
  exact PySem.W.kia_one (PySem.W.kitx_exc (by rw [hc]; rfl) T.ga T.gg T.ex T.cl T.gt T.tk T.mo) I.kIn J e (fun z => nomatch z) fun tk => ⟨.bl b, H, I.tok tk, rfl, q⟩
end
end L2

set_option Elab.async false
set_option linter.all false
set_option maxRecDepth 100000
set_option maxHeartbeats 4000000
/-! Exceptions of the program's own: raised; without an `__init__` of their own. -/
namespace L2
open PySem PySem.Spec PyProof.Rows PySem.XM Builtin Builtin.ObjectAttr
/-- raise C(e, ..): what is wished of the exception that leaves -/
def tMkR (C : Addr) (n : Nat) (sp : Sp) (gV : List V → List V → List V) (t : TA) : St → Hp → XK → Prop := fun σ H Q => t σ H fun vs H1 => vs.length = n ∧ ∀ a, H1 a = none → sp (gV (.ref a :: vs) []) (upd H1 a (exo a C none))
  (fun v H2 => v = .non ∧ ∃ (d : Addr) (fs : List (Str × V)), H2 a = some (exo a C (some d)) ∧ H2 d = some (exd d fs) ∧ H1 d = none ∧ Q (.ref C) (some d) (upd (del H2 a) d (.xd fs))) E0
section
variable {X : Cx} {CX : CXT} {k n : Nat} {f C : Addr} {fd : FuncData} {ps : List Str} {sp : Sp} {x : Str} {p pos : Pos} {e : Expr} {es : List Expr} {t : TA} {g : List Value → List Value → List Value} {gV : List V → List V → List V}
theorem pmk_mkX (T : XC X.K C) (iC : PySem.W.findIn X.K (.ref C) "__init__" = some (some (.ref f))) (fI : PySem.W.isFn X.K (.ref f) = true) (F : FnOk X.prog X.w X.K X.mg X.base CX k f fd ps sp) (hr : Room (k + 1) X.A) (hn : n ≤ 1000) (hg : Gl X x) (hm : X.mg x = some (.ref C))
    (hb : KBn X.K fd ps (n + 1) [] g gV) (hx : Passes CX X E0) (ha : PA X (e :: es) t) (hdb : (x == ("__debug__" : Str)) = false := by decide)
    (he : starEach (e :: es) X.env = (false, eval e X.env) :: starEach es X.env := by rfl) (hpl : (backTo pos (starEach es X.env)).any (·.1) = false := by rfl) : PMk X (.Call (.Name x p) (e :: es) [] pos) (tMkR C n sp gV t) := by
  intro pins s σ H Q I h
  refine wpAny_Call_Name_kw (ld_glob I hg hm ?_ hdb)
  refine PySem.W.callWith_K (h₀ := X.base) I.ok.mod.kin T.kp (thn (ha.run pos pins s σ H _ I h) fun us s1 ⟨vs, H1, I1, r, l1, q1⟩ => ⟨I1.kIn, ?_⟩) he hpl
  show wpAny _ _ (call (.ref C) us) _ _ _
  have KI := I1.kIn
  obtain ⟨hp, gs, d, tk, os⟩ := s1
  have sz : hp.objs.size ≤ hp.objs.size + 1 := Nat.le_succ _
  have hq := q1 (hp.objs.size + 1) (I1.hok.fresh sz)
  have kk : ∀ b o, hp.get? b = some o → ((hp.push (PySem.W.kdv_tup us)).push (PySem.HandSPX.excO C hp.objs.size)).get? b = some o := fun b o z => Heap.get?_push_of_some _ (Heap.get?_push_of_some _ z)
  have hget : ((hp.push (PySem.W.kdv_tup us)).push (PySem.HandSPX.excO C hp.objs.size)).get? (hp.objs.size + 1) = some (PySem.HandSPX.excO C hp.objs.size) := by heap_get
  have I2 : Inv X pins σ (upd H1 (hp.objs.size + 1) (exo (hp.objs.size + 1) C none)) ⟨(hp.push (PySem.W.kdv_tup us)).push (PySem.HandSPX.excO C hp.objs.size), gs, d, tk, os⟩ := by
    exact I1.laid (t' := tk) (h' := (hp.push (PySem.W.kdv_tup us)).push (PySem.HandSPX.excO C hp.objs.size)) kk sz (exo_ok hget)
  have r2 := hb.rel (Paired.cons (show RelV (V.ref (hp.objs.size + 1)) (Value.ref (hp.objs.size + 1)) from rfl) r) (zs := []) (ws := []) .nil
  have n1 : (Value.ref (hp.objs.size + 1) :: us).length = n + 1 := by rw [List.length_cons, ← r.length, l1]
  have hus : us.length ≤ sizeLine := by
    rw [← r.length, l1, sizeLine_eq]
    omega
  refine wpAny_call (call_made T KI iC fI hus (codeAny_mono (F.run _ X.stack _ _ ⟨Value.ref (hp.objs.size + 1) :: us, []⟩ (g (Value.ref (hp.objs.size + 1) :: us) []) _ _ E0 (hr.make C us []) (I2.env0.make C us [])
    (hb.to _ (Value.ref (hp.objs.size + 1) :: us) [] I2.kIn n1 rfl) r2 hq) fun r s' z => ?_))
  cases r with
  | error e => exact hx pins σ _ _ e s' I2 z
  | ok fl =>
    cases fl with
    | ret u =>
      obtain ⟨v, H2, os2, bare2, un2, hok2, rv, ev, dd, fs, ea, ed, hd1, q2⟩ := z
      subst ev
      obtain ⟨h2, gg2, dd2, tt2, oo2⟩ := s'
      exact ⟨rv, mk_end (raises_own T.ex T.ty) I1 sz kk un2 hok2 os2 bare2 ea ed hd1 q2⟩
    | next => exact False.elim z
    | brk => exact False.elim z
    | cont => exact False.elim z
variable {mB : List Value} {B nId iId : String}
/-- C(), C without an `__init__` of its own -/
theorem pe_mkX0 (F : ExcBaseFacts B nId iId mB) (q : PySem.W.excIn X.K C mB nId = true) (kC : PySem.W.keepIn X.K (.ref C) = true) (hg : Gl X x) (hm : X.mg x = some (.ref C)) (hdb : (x == ("__debug__" : Str)) = false := by decide) :
    PE X (.Call (.Name x p) [] [] pos) (fun _ H Q => ∀ a, H a = none → Q (.ref a) (upd H a (exo a C none))) := by
  refine ⟨fun pins s σ H Q I h => wpAny_Call_Name_kw (ld_glob I hg hm ?_ hdb)⟩
  refine PySem.W.callWith_K0 I.kIn kC ?_
  show wpAny _ _ (call (.ref C) []) _ _ _
  obtain ⟨bm, N, nm, qn, bs, hdct, sn, sub, ab, col, dd, k0, k1, k2, k3, k5, mN, hC, hN, hni, T⟩ := exc_obj I.kIn q
  refine wpAny_call_exc_subT F T hC hN hni (fun h' a hm => ?_) (Nat.zero_le _)
  have hn : H a = none := I.hok.gone hm.new
  obtain ⟨t, ht, _, _⟩ := hm.there
  exact ⟨.ref a, upd H a (exo a C none), I.laidN hm.keeps hm.new hn (exo_ok ht), rfl, h a hn⟩
/-- raise C() of such a class -/
theorem pmk_mkX0 (F : ExcBaseFacts B nId iId mB) (q : PySem.W.excIn X.K C mB nId = true) (kC : PySem.W.keepIn X.K (.ref C) = true) (r : Raises X (.ref C)) (hg : Gl X x) (hm : X.mg x = some (.ref C)) (hdb : (x == ("__debug__" : Str)) = false := by decide) :
    PMk X (.Call (.Name x p) [] [] pos) (fun _ H Q => Q (.ref C) none H) := by
  intro pins s σ H Q I h
  refine wpAny_Call_Name_kw (ld_glob I hg hm ?_ hdb)
  refine PySem.W.callWith_K0 I.kIn kC ?_
  show wpAny _ _ (call (.ref C) []) _ _ _
  obtain ⟨bm, N, nm, qn, bs, hdct, sn, sub, ab, col, dd, k0, k1, k2, k3, k5, mN, hC, hN, hni, T⟩ := exc_obj I.kIn q
  exact wpAny_call_exc_subT F T hC hN hni (fun h' a hm => mk_of I hm r h (I.hok.gone hm.new)) (Nat.zero_le _)
end
end L2

set_option Elab.async false
set_option linter.all false
set_option maxRecDepth 100000
set_option maxHeartbeats 2000000
/-! Promises of defs that ask for repr: they are called where no repr is under way (guards empty), and call others so. -/
namespace L2
open PySem PySem.Spec PyProof.Rows
/-- no repr is under way -/
def Quiet (A : Around) : Prop := A.guards = some []
structure FnG (P : Program) (w : World) (K : PySem.W.Frag) (mg : Str → Option Value) (base : Heap) (CX : CXT) (k : Nat) (f : Addr) (fd : FuncData) (ps : List Str) (sp : Sp) : Prop where
  len : ∀ vs H Q E, sp vs H Q E → vs.length = ps.length
  run : ∀ (A : Around) (outer : List Env) (s : Shared) (H : Hp) (args : Args) (us : List Value) (vs : List V) (Q : VK) (E : XK), Quiet A → Room k A → Env0 P w K mg base A outer s H → BindsTo s fd args (ps.zip us) → Vals vs us → sp vs H Q E →
    codeAny (model P w) A (.call (.ref f) args) (CR CX outer P w H s Q E) s
theorem FnOk.quiet {P : Program} {w : World} {K : PySem.W.Frag} {mg : Str → Option Value} {base : Heap} {CX : CXT} {k : Nat} {f : Addr} {fd : FuncData} {ps : List Str} {sp : Sp} (F : FnOk P w K mg base CX k f fd ps sp) : FnG P w K mg base CX k f fd ps sp :=
  ⟨F.len, fun A outer s H args us vs Q E _ => F.run A outer s H args us vs Q E⟩
theorem Quiet.deeper {A : Around} (q : Quiet A) (env : Env) : Quiet (A.deeper env) := q
section
variable {CX : CXT} {P : Program} {w : World} {K : PySem.W.Frag} {mg : Str → Option Value} {base : Heap} {k : Nat} {f : Addr} {N ps : List Str} {sp : Sp}
/-- a def whose body keeps the promise where no repr is under way -/
theorem fn_ofG {name qual : Str} {params : Arguments} {body : List Stmt} {scope : Scope} {dV kV doc pm cdv ct oc : Value} {an od : Option Addr} {osl : Array (Option Value)}
    (lk : K.lookup f = some ⟨oc, od, .func (PySem.W.fnOf name qual params body scope dV kV doc pm an cdv ct), osl⟩) (hcd : PySem.W.codeIn K cdv qual = true) (S : FnScope N ps scope) (len : ∀ vs H Q E, sp vs H Q E → vs.length = ps.length)
    (hbody : ∀ (A : Around) (outer : List Env) (s : Shared) (H : Hp) (vs : List V) (Q : VK) (E : XK), Quiet A → Room k (A.deeper (envOfC qual scope s.heap.objs.size f cdv)) → sp vs H Q E →
      ∃ t, PSs (cxOf CX P w K mg base N qual scope f cdv A outer s H E) body t ∧ t { nx := fun _ H' => Q .non H', rt := Q } (start N vs) H) :
    FnG P w K mg base CX (k + 1) f (PySem.W.fnOf name qual params body scope dV kV doc pm an cdv ct) ps sp := by
  constructor
  · exact len
  intro A outer s H args us vs Q E hg hr e0 hb r hsp
  have hl := len _ _ _ _ hsp
  have kept : ∀ b o, base.get? b = some o → s.heap.get? b = some o := fun b o e => (e0.bs b o e).1
  have KX := e0.mod.kin.keeps kept
  have lim := e0.mod.nolimit.keeps kept
  have kinds : ∀ y ∈ ps.zip us, scope.names.lookup y.1 = some .local ∨ (scope.names.lookup y.1 = some .cell ∧ ((cellsFrom (s.heap.objs.size + 1) scope.names []).lookup y.1).isSome = true) := by
    rintro ⟨n, v⟩ hy
    rcases S.par n (List.of_mem_zip hy).1 with q | q
    · exact .inl q
    · exact .inr ⟨q, PySem.W.cellsFrom_some _ _ _ (.inl q)⟩
  refine codeAny_call_function hr.depth (KX _ _ lk) rfl S.co S.gen rfl (PySem.W.codeRec_of KX hcd) (hb _ _ _ _ (wpAny_newFunctionEnv_cells S.kind kinds fun env he s1 x => ?_))
  subst he
  obtain ⟨t, ht, hq⟩ := hbody A outer s H vs Q E hg (hr.deeper _) hsp
  refine ⟨lim.keeps x.toInCall.keep, codeAny_func (wpAny_mono (ht.run [] s1 (start N vs) H _ (inv_start S hr.hd e0 hl r x) hq) (fun fl s' hs => ?_) fun e s' hs => hs)⟩
  match fl, hs with
  | .ret u, ⟨v, σ', H', J, rv, q⟩ => exact ⟨v, H', J.os, J.bare, J.base, J.hok, rv, q⟩
  | .next, ⟨σ', H', J, q⟩ => exact ⟨V.non, H', J.os, J.bare, J.base, J.hok, rfl, q⟩
  | .brk, ⟨_, _, _, q⟩ => exact False.elim q
  | .cont, ⟨_, _, _, q⟩ => exact False.elim q
/-- the same by the text's places -/
theorem Fun.okG {x qual : Str} {st : Stmt} {fd : FuncData} (F : Fun K x qual st f fd) (S : FnScope N ps (defScope st)) (len : ∀ vs H Q E, sp vs H Q E → vs.length = ps.length)
    (hbody : ∀ (cdv : Value) (A : Around) (outer : List Env) (s : Shared) (H : Hp) (vs : List V) (Q : VK) (E : XK), Quiet A → Room k (A.deeper (envOfC qual (defScope st) s.heap.objs.size f cdv)) → sp vs H Q E →
      ∃ t, PSs (cxOf CX0 P w K mg base N qual (defScope st) f cdv A outer s H E).nox (defBody st) t ∧ t { nx := fun _ H' => Q .non H', rt := Q } (start N vs) H) : FnG P w K mg base CX0 (k + 1) f fd ps sp := by
  obtain ⟨oc, od, kV, doc, pm, an, cdv, ct, osl, rfl, lk, hcd⟩ := F.ex
  exact fn_ofG lk hcd S len fun A outer s H vs Q E hg hr hsp => let ⟨t, h, q⟩ := hbody cdv A outer s H vs Q E hg hr hsp; ⟨t, h.nox, q⟩
end
section
variable {X : Cx} {CX : CXT} {k : Nat} {f : Addr} {fd : FuncData} {ps : List Str} {sp : Sp} {E : XK} {x : Str} {p pos : Pos} {e : Expr} {es : List Expr} {t : TA} {ds : List Value} {dvs : List V}
theorem run_fnG {pins : List (Addr × Obj)} {σ : St} {H : Hp} {s : Shared} {Q : VK} {us : List Value} {vs : List V} (F : FnG X.prog X.w X.K X.mg X.base CX k f fd ps sp) (hg : Quiet X.A) (hr : Room k X.A) (hb : Binds X.K fd ps ds) (hd : Vals dvs ds) (hx : Passes CX X E)
    (I : Inv X pins σ H s) (r : Vals vs us) (h : sp (vs ++ dvs) H Q E) : wpAny (model X.prog X.w) X.A (call (.ref f) us) (EP X pins σ Q) X.xe s := by
  have r2 := r.append hd
  have hl := r2.length.symm.trans (F.len _ _ _ _ h)
  refine wpAny_call (codeAny_mono (F.run X.A X.stack s H ⟨us, []⟩ (us ++ ds) (vs ++ dvs) Q E hg hr I.env0 (hb s us I.kIn hl) r2 h) fun r s' hq => ?_)
  match r, hq with
  | .error e, hq => exact hx pins σ H s e s' I hq
  | .ok (.ret u), hq => exact I.after hq
  | .ok .next, hq => exact False.elim hq
  | .ok .brk, hq => exact False.elim hq
  | .ok .cont, hq => exact False.elim hq
/-- f(e, ..) -/
theorem pe_callG (F : FnG X.prog X.w X.K X.mg X.base CX k f fd ps sp) (hq : Quiet X.A) (hr : Room k X.A) (hg : Gl X x) (hm : X.mg x = some (.ref f)) (hk : PySem.W.keepIn X.K (.ref f) = true) (hb : Binds X.K fd ps ds) (hd : Vals dvs ds) (hx : Passes CX X E)
    (ha : PA X (e :: es) t) (hdb : (x == ("__debug__" : Str)) = false := by decide) (he : starEach (e :: es) X.env = (false, eval e X.env) :: starEach es X.env := by rfl) (hpl : (backTo pos (starEach es X.env)).any (·.1) = false := by rfl) :
    PE X (.Call (.Name x p) (e :: es) [] pos) (tCall sp dvs E t) :=
  ⟨fun pins s σ H Q I h => wpAny_Call_Name_kw (ld_glob I hg hm (PySem.W.callWith_K (h₀ := X.base) I.ok.mod.kin hk (thn (ha.run pos pins s σ H _ I h) fun us s1 ⟨vs, H1, I1, r, q⟩ => ⟨I1.kIn, run_fnG F hq hr hb hd hx I1 r q⟩) he hpl) hdb)⟩
theorem pe_callG0 (F : FnG X.prog X.w X.K X.mg X.base CX k f fd ps sp) (hq : Quiet X.A) (hr : Room k X.A) (hg : Gl X x) (hm : X.mg x = some (.ref f)) (hk : PySem.W.keepIn X.K (.ref f) = true) (hb : Binds X.K fd ps ds) (hd : Vals dvs ds) (hx : Passes CX X E)
    (hdb : (x == ("__debug__" : Str)) = false := by decide) : PE X (.Call (.Name x p) [] [] pos) (tCall sp dvs E tNil) :=
  ⟨fun pins s σ H Q I h => wpAny_Call_Name_kw (ld_glob I hg hm (PySem.W.callWith_K0 I.kIn hk (run_fnG (us := []) F hq hr hb hd hx I .nil h)) hdb)⟩
end
end L2

set_option Elab.async false
set_option linter.all false
set_option maxRecDepth 100000
set_option maxHeartbeats 2000000
/-! The end of a law row where the law's def asks for repr. -/
namespace L2
open PySem PySem.Spec PyProof.Rows
section
variable {P : Program} {w : World} {K : PySem.W.Frag} {mg mb : Str → Option Value} {CX : CXT} {k : Nat} {fa a : Addr} {fd : FuncData} {x : Str} {sp : Sp} {s1 : Shared} {vs : List Value} {ns : List Int}
/-- from an abstract heap that tracks the script at most -/
theorem law_coreG (KX : K.In s1.heap) (hns : s1.heap.Ns mainGlobals mg) (hb : s1.heap.Ns builtinsNs mb) (hbb : ∀ x : Str, x ≠ "__name__" → mb x = bootBuiltins x) (hlim : s1.heap.NoLimit) (hg : s1.gens = #[])
    (ha : s1.heap.get? a = some { cls := .type "list", data := .seq vs.toArray }) (hr : Room k callerA) (F : ∀ base : Heap, K.In base → base.Ns mainGlobals mg → FnG P w K mg base CX k fa fd [x] sp) (hbind : ∀ (s : Shared) (u : Value), BindsTo s fd ⟨[u], []⟩ [(x, u)])
    (hCX : ∀ H e s', CX [] H s1 (fun _ _ _ => False) e s' → False) (H : Hp) (hO : Only H) (hsp : sp [.ref a] H (fun v _ => v = .bl true) fun _ _ _ => False) (hok : HOk P w H s1.heap) (hA : ∀ b, H b ≠ none → b = a) (hK : H a ≠ none → K.lookup a = none) :
    codeAny (model P w) callerA (.call (.ref fa) ⟨[.ref a], []⟩) (fun r s' => r = .ok (.ret (.bool true)) ∧ OldK s1.heap s'.heap ∧ s'.os = s1.os ∧ AllBare s'.gens) s1 := by
  have away : ∀ {b : Addr}, b ≠ a → H b = none := fun {b} nb => by
    cases q : H b with
    | none => rfl
    | some u => exact absurd (hA b (by rw [q]; exact nofun)) nb
  have hid : ∀ {b : Addr} {o : Obj}, s1.heap.get? b = some o → H b = none → (hidT s1.heap H).get? b = some o := fun e n => hidT_get e n
  have nsK : ∀ {b : Addr} {m : Str → Option Value}, s1.heap.Ns b m → (hidT s1.heap H).Ns b m := by
    rintro b m ⟨o, es, ep, e, d, r⟩
    have nb : b ≠ a := fun z => by
      rw [z, ha] at e
      cases e
      exact nomatch (show Data.seq vs.toArray 0 = Data.dict es ep from d)
    exact ⟨o, es, ep, hid e (away nb), d, r⟩
  have kb : K.In (hidT s1.heap H) := fun b o e => hid (KX b o e) (by
    cases q : H b with
    | none => rfl
    | some u =>
      have z := hA b (by rw [q]; exact nofun)
      subst z
      rw [hK (by rw [q]; exact nofun)] at e
      cases e)
  have md : Mod K mg (hidT s1.heap H) := ⟨kb, nsK hns, ⟨mb, nsK hb, hbb⟩, hlim.elim fun mc z => ⟨mc, nsK z.1, z.2⟩⟩
  have e0 : Env0 P w K mg (hidT s1.heap H) callerA [] s1 H := ⟨rfl, md, fun b o e => of_hidT e, Nat.le_of_eq (hidT_size _ _), trivial, fun b hb => absurd (show b ∈ ([] : List Addr) from hb) (by simp), hok, .of_eq hg⟩
  refine codeAny_mono ((F _ kb (nsK hns)).run callerA [] s1 H ⟨[.ref a], []⟩ [.ref a] [.ref a] _ _ rfl hr e0 (hbind s1 (.ref a)) (.cons rfl .nil) hsp) fun r s' h => ?_
  match r, h with
  | .error e, h => exact (hCX H e s' h).elim
  | .ok .next, h => exact False.elim h
  | .ok .brk, h => exact False.elim h
  | .ok .cont, h => exact False.elim h
  | .ok (.ret u), ⟨v, H', os, bare, un, hok', r', q⟩ =>
    subst q
    cases (show u = Value.bool true from r')
    refine ⟨rfl, OldK.of_keep fun b o e => ?_, os, bare⟩
    cases q : H b with
    | none => exact un.keep b o e q (fun z => absurd (show b ∈ ([] : List Addr) from z) (by simp)) (by simp)
    | some u =>
      rcases hO b with z | ⟨ob, xs, z⟩
      · rw [q] at z
        cases z
      · obtain ⟨e1, _⟩ := hok b _ z
        obtain ⟨e2, _⟩ := hok' b _ (un.frzs b ob _ z)
        rw [e] at e1
        cases e1
        exact e2
theorem law_callG (KX : K.In s1.heap) (hns : s1.heap.Ns mainGlobals mg) (hb : s1.heap.Ns builtinsNs mb) (hbb : ∀ x : Str, x ≠ "__name__" → mb x = bootBuiltins x) (hlim : s1.heap.NoLimit) (hg : s1.gens = #[])
    (ha : s1.heap.get? a = some { cls := .type "list", data := .seq vs.toArray }) (hi : IntsAre vs ns) (hl : ns.length ≤ sizeLine) (hr : Room k callerA) (F : ∀ base : Heap, K.In base → base.Ns mainGlobals mg → FnG P w K mg base CX k fa fd [x] sp) (hbind : ∀ (s : Shared) (u : Value), BindsTo s fd ⟨[u], []⟩ [(x, u)])
    (hsp : ∀ H : Hp, Only H → SqL K H a (ns.map V.int) → sp [.ref a] H (fun v _ => v = .bl true) fun _ _ _ => False) (hCX : ∀ H e s', CX [] H s1 (fun _ _ _ => False) e s' → False) :
    codeAny (model P w) callerA (.call (.ref fa) ⟨[.ref a], []⟩) (fun r s' => r = .ok (.ret (.bool true)) ∧ OldK s1.heap s'.heap ∧ s'.os = s1.os ∧ AllBare s'.gens) s1 := by
  have rv := vals_ints hi
  have lv := hi.length
  cases hk : K.lookup a with
  | some o =>
    have e := KX a o hk
    rw [ha] at e
    cases e
    have only : Only fun _ => none := fun _ => .inl rfl
    exact law_coreG KX hns hb hbb hlim hg ha hr F hbind hCX (fun _ => none) only (hsp _ only (.inr ⟨_, vs.toArray, _, hk, rfl, rfl, rfl, by rw [List.size_toArray, lv]; exact hl, by simpa using rv⟩)) (fun b u z => nomatch (show (none : Option HO) = some u from z)) (fun b z => absurd rfl z) fun z => absurd rfl z
  | none =>
    let H : Hp := fun b => if b = a then some (.frz { cls := .type "list", data := .seq vs.toArray } (.lst (ns.map V.int))) else none
    have at_a : H a = some (.frz { cls := .type "list", data := .seq vs.toArray } (.lst (ns.map V.int))) := if_pos rfl
    have at_b : ∀ {b : Addr}, b ≠ a → H b = none := fun nb => if_neg nb
    have only : Only H := fun b => by
      by_cases e : b = a
      · exact .inr ⟨_, _, by rw [e]; exact at_a⟩
      · exact .inl (at_b e)
    refine law_coreG KX hns hb hbb hlim hg ha hr F hbind hCX H only (hsp _ only (.inl (.inr ⟨_, at_a⟩))) (fun b u z => ?_) (fun b z => ?_) fun _ => hk
    · by_cases e : b = a
      · subst e
        rw [at_a] at z
        cases z
        exact ⟨ha, by rw [List.length_map]; exact hl, vs, _, rv, ha⟩
      · rw [at_b e] at z
        cases z
    · by_cases e : b = a
      · exact e
      · exact absurd (at_b e) z
end
/-- what k_head leaves, from the law's promise -/
theorem walk_ofG {l : PySem.W.OpenLaw} {n k : Nat} {q : Program} {loose : List Str} {XP : (Str → Option Value) → Heap → Prop} {YP : World → Heap → Prop} {d : DefRec} {K : Params → PySem.W.Frag} {CX : World → CXT} {sp : World → Sp} {x : Str}
    (hn : l.most = some n) (hn2 : n ≤ sizeLine) (hdf : d.params.defaults = []) (hr : Room k callerA) (hY : ∀ (w : World) (h : Heap), YP w h → (K w.params).In h)
    (F : ∀ (w : World) (mg : Str → Option Value) (fa : Addr) (h : Heap), (K w.params).In h → h.Ns mainGlobals mg → mg d.name = some (.ref fa) → ∃ fd : FuncData, (∀ (s : Shared) (u : Value), BindsTo s fd ⟨[u], []⟩ [(x, u)]) ∧
      ∀ base : Heap, (K w.params).In base → base.Ns mainGlobals mg → FnG l.prog w (K w.params) mg base (CX w) k fa fd [x] (sp w))
    (hsp : ∀ (w : World) (H : Hp) (a : Addr) (ns : List Int), ns.length ≤ n → Only H → SqL (K w.params) H a (ns.map V.int) → sp w [.ref a] H (fun v _ => v = .bl true) fun _ _ _ => False)
    (hCX : ∀ (w : World) (H : Hp) (s : Shared) (e : Value) (s' : Shared), CX w [] H s (fun _ _ _ => False) e s' → False) : PySem.W.WalkO q loose XP YP l.row.toRowW d [] (fun f vs => PySem.call f vs) := by
  refine Att.attach_call hn hdf fun w s0 s1 mg mb fa o pm cd doc a vs ns G Y ho hd hcd hmg hobj hints hlen hg => ?_
  obtain ⟨fd, hb, hF⟩ := F w mg fa _ (hY w _ Y) G.T.g hmg
  exact law_callG (hY w _ Y) G.T.g G.T.b G.T.builtins G.T.nolimit hg hobj hints (Nat.le_trans hlen hn2) hr hF hb (fun H hO hS => hsp w H a ns hlen hO hS) fun H e s' => hCX w H s1 e s'
end L2

set_option Elab.async false
set_option linter.all false
set_option maxRecDepth 100000
set_option maxHeartbeats 4000000
/-! repr of a list of data of any depth (lists, tuples, dicts with int and text keys), where no repr is under way. -/
namespace L2
open PySem PySem.Spec PyProof.Rows
def keyD : Key → PyData
  | .inl i => .int i
  | .inr x => .str x
mutual
/-- what a value holds, as data -/
inductive Dq (H : Hp) : V → PyData → Prop
  | non : Dq H .non .none
  | bl (b : Bool) : Dq H (.bl b) (.bool b)
  | int (i : Int) : Dq H (.int i) (.int i)
  | str (x : Str) : Dq H (.str x) (.str x)
  | lst {a : Addr} {xs : List V} {ds : List PyData} : H a = some (.lst xs) → DqAll H xs ds → Dq H (.ref a) (.list ds)
  | tup {a : Addr} {xs : List V} {ds : List PyData} : H a = some (.tup xs) → DqAll H xs ds → Dq H (.ref a) (.tuple ds)
  | dic {a : Addr} {kvs : List (Key × V)} {kds : List (PyData × PyData)} : H a = some (.dK kvs) → DqKv H kvs kds → Dq H (.ref a) (.dict kds)
inductive DqAll (H : Hp) : List V → List PyData → Prop
  | nil : DqAll H [] []
  | cons {v : V} {vs : List V} {d : PyData} {ds : List PyData} : Dq H v d → DqAll H vs ds → DqAll H (v :: vs) (d :: ds)
inductive DqKv (H : Hp) : List (Key × V) → List (PyData × PyData) → Prop
  | nil : DqKv H [] []
  | cons {k : Key} {v : V} {kvs : List (Key × V)} {d : PyData} {kds : List (PyData × PyData)} : Dq H v d → DqKv H kvs kds → DqKv H ((k, v) :: kvs) ((keyD k, d) :: kds)
end
mutual
theorem Dq.same {H H' : Hp} (s : Same H H') : ∀ {v : V} {d : PyData}, Dq H v d → Dq H' v d
  | _, _, .non => .non
  | _, _, .bl b => .bl b
  | _, _, .int i => .int i
  | _, _, .str x => .str x
  | _, _, .lst h a => .lst (s _ _ h) (DqAll.same s a)
  | _, _, .tup h a => .tup (s _ _ h) (DqAll.same s a)
  | _, _, .dic h a => .dic (s _ _ h) (DqKv.same s a)
theorem DqAll.same {H H' : Hp} (s : Same H H') : ∀ {vs : List V} {ds : List PyData}, DqAll H vs ds → DqAll H' vs ds
  | _, _, .nil => .nil
  | _, _, .cons h t => .cons (Dq.same s h) (DqAll.same s t)
theorem DqKv.same {H H' : Hp} (s : Same H H') : ∀ {kvs : List (Key × V)} {kds : List (PyData × PyData)}, DqKv H kvs kds → DqKv H' kvs kds
  | _, _, .nil => .nil
  | _, _, .cons h t => .cons (Dq.same s h) (DqKv.same s t)
end
theorem DqAll.rep {H : Hp} {v : V} {d : PyData} (h : Dq H v d) : ∀ n, DqAll H (List.replicate n v) (List.replicate n d)
  | 0 => .nil
  | n + 1 => .cons h (DqAll.rep h n)
/-- the keys and the values of a dict's entries, side by side -/
theorem pairs_split {P : Program} {w : World} : ∀ {es : List DictEntry} {kvs : List (Key × V)} {vs : List (Key × Value)}, KV kvs vs → Pairs (mixKind P w) es vs →
    (∀ h : Heap, ReadsAll h (es.map (·.key)) (kvs.map fun p => keyD p.1) []) ∧ Vals (kvs.map (·.2)) (es.map (·.val))
  | _, _, _, .nil, .nil => ⟨fun _ => .nil, .nil⟩
  | e :: es, (k, v) :: kvs, (k', u) :: vs, .cons r rs, .cons hk hv ps => by
    obtain ⟨a, b⟩ := pairs_split rs ps
    obtain ⟨e1, ru⟩ := r
    dsimp only at e1 ru hv hk
    subst e1
    refine ⟨fun h => ?_, .cons (show RelV v e.val by rw [hv]; exact ru) b⟩
    have one : Reads h e.key (keyD k) [] := by
      rcases keyIs_shape (k := k) (v := e.key) hk with ⟨i, t, rfl, q⟩ | ⟨x, t, rfl, q⟩
      · rw [q]; exact .int i t
      · rw [q]; exact .str x t
    exact ReadsAll.cons (as := []) (bs := []) one (a h)
section
variable {X : Cx} {pins : List (Addr × Obj)} {σ : St} {H : Hp} {s : Shared} {prog : Program} {w : World}
theorem keys_of : ∀ {kvs : List (Key × V)} {kds : List (PyData × PyData)}, DqKv H kvs kds → (kvs.map fun p => keyD p.1) = kds.map (·.1) ∧ DqAll H (kvs.map (·.2)) (kds.map (·.2))
  | _, _, .nil => ⟨rfl, .nil⟩
  | _, _, .cons h t => by
    obtain ⟨a, b⟩ := keys_of t
    exact ⟨by rw [List.map_cons, List.map_cons, a], .cons h b⟩
mutual
theorem Dq.reads (I : Inv X pins σ H s) : ∀ {v : V} {d : PyData} {u : Value}, Dq H v d → RelV v u → ∃ as, Reads s.heap u d as
  | _, _, _, .non, r => by cases r; exact ⟨_, .none⟩
  | _, _, _, .bl b, r => by cases r; exact ⟨_, .bool b⟩
  | _, _, _, .int i, r => by obtain ⟨t, rfl⟩ := r; exact ⟨_, .int i t⟩
  | _, _, _, .str x, r => by obtain ⟨t, rfl⟩ := r; exact ⟨_, .str x t⟩
  | _, _, _, .lst h t, r => by
    cases r
    obtain ⟨_, its, n, rv, ho⟩ := I.hok _ _ h
    obtain ⟨as, ra⟩ := DqAll.reads I t rv
    exact ⟨_, .list ho rfl rfl ra⟩
  | _, _, _, .tup h t, r => by
    cases r
    obtain ⟨_, its, rv, o, ho, hc, n, hd⟩ := I.hok _ _ h
    obtain ⟨as, ra⟩ := DqAll.reads I t rv
    exact ⟨_, .tuple ho hc hd ra⟩
  | _, _, _, .dic h t, r => by
    cases r
    obtain ⟨_, _, vs, rk, o, es, ep, ho, hx, hd, _, ps, _⟩ := I.hok _ _ h
    obtain ⟨ka, va⟩ := pairs_split rk ps
    obtain ⟨bs, rb⟩ := DqKv.reads I t va
    exact ⟨_, .dict ho hx.1 hd (by rw [← (keys_of t).1]; exact ka s.heap) rb⟩
theorem DqAll.reads (I : Inv X pins σ H s) : ∀ {vs : List V} {ds : List PyData} {us : List Value}, DqAll H vs ds → Vals vs us → ∃ as, ReadsAll s.heap us ds as
  | _, _, _, .nil, .nil => ⟨_, .nil⟩
  | _, _, _, .cons h t, .cons r rs => by
    obtain ⟨as, a⟩ := Dq.reads I h r
    obtain ⟨bs, b⟩ := DqAll.reads I t rs
    exact ⟨_, .cons a b⟩
theorem DqKv.reads (I : Inv X pins σ H s) : ∀ {kvs : List (Key × V)} {kds : List (PyData × PyData)} {us : List Value}, DqKv H kvs kds → Vals (kvs.map (·.2)) us → ∃ as, ReadsAll s.heap us (kds.map (·.2)) as
  | _, _, _, .nil, .nil => ⟨_, .nil⟩
  | _, _, _, .cons h t, .cons r rs => by
    obtain ⟨as, a⟩ := Dq.reads I h r
    obtain ⟨bs, b⟩ := DqKv.reads I t rs
    exact ⟨_, .cons a b⟩
end
mutual
/-- the text of each, from the model -/
theorem Dq.shows (I : Inv X pins σ H s) : ∀ {v : V} {d : PyData} {u : Value}, Dq H v d → RelV v u → d.showable = true → d.shown.length ≤ sizeLine → ∃ bs, ReadAtMost s.heap d.depth bs ∧ ReprK prog w bs s.heap d.depth u d.shown
  | _, _, _, .non, r, _, _ => by
    cases r
    exact ⟨[], (fun _ h => nomatch h), by simp only [PyData.shown]; exact .of_is ReprIs.none _ _ _⟩
  | _, _, _, .bl b, r, _, _ => by
    cases r
    exact ⟨[], (fun _ h => nomatch h), by simp only [PyData.shown]; exact .of_is (ReprIs.bool b) _ _ _⟩
  | _, _, _, .int i, r, hs, _ => by
    obtain ⟨t, rfl⟩ := r
    exact ⟨[], (fun _ h => nomatch h), by simp only [PyData.shown]; exact .of_is (ReprIs.int t (by simpa [PyData.showable] using hs)) _ _ _⟩
  | _, _, _, .str x, r, _, hz => by
    obtain ⟨t, rfl⟩ := r
    exact ⟨[], (fun _ h => nomatch h), by simp only [PyData.shown]; exact .of_is (ReprIs.str x t (by simpa only [PyData.shown] using hz)) _ _ _⟩
  | _, _, _, .lst (a := a) (ds := ds) h t, r, hs, hz => by
    obtain ⟨as0, rd⟩ := Dq.reads I (.lst h t) r
    cases r
    have hz' : (listText (PyData.shownAll ds)).length ≤ sizeLine := by simpa only [PyData.shown] using hz
    obtain ⟨_, its, n, rv, ho⟩ := I.hok _ _ h
    obtain ⟨bs, hb, hk⟩ := DqAll.shows I t rv (by simpa [PyData.showable] using hs) (fun x hx => Nat.le_trans (listText_mem_le hx) hz')
    have hna : a ∉ bs := not_mem_of_deeper rd (by simp only [PyData.depth]; omega) hb
    refine ⟨a :: bs, .cons rd (by simp only [PyData.depth]; omega) hb, ?_⟩
    simp only [PyData.depth, PyData.shown]
    cases its with
    | nil =>
      rw [List.eq_nil_of_length_eq_zero hk.length_eq, listText_nil]
      exact ReprK.listEmpty ho rfl rfl
    | cons x l => exact ReprK.list ho rfl rfl hna (by simpa using hk.length_eq) (fun i y e => hk.item i y (by simpa using e))
  | _, _, _, .tup (a := a) (ds := ds) h t, r, hs, hz => by
    obtain ⟨as0, rd⟩ := Dq.reads I (.tup h t) r
    cases r
    have hz' : (tupleText (PyData.shownAll ds)).length ≤ sizeLine := by simpa only [PyData.shown] using hz
    obtain ⟨_, its, rv, o, ho, hc, n, hd⟩ := I.hok _ _ h
    obtain ⟨bs, hb, hk⟩ := DqAll.shows I t rv (by simpa [PyData.showable] using hs) (fun x hx => Nat.le_trans (tupleText_mem_le hx) hz')
    have hna : a ∉ bs := not_mem_of_deeper rd (by simp only [PyData.depth]; omega) hb
    refine ⟨a :: bs, .cons rd (by simp only [PyData.depth]; omega) hb, ?_⟩
    simp only [PyData.depth, PyData.shown]
    exact ReprK.tuple ho hc hd hna hk
  | _, _, _, .dic (a := a) (kvs := kvs) (kds := kds) h t, r, hs, hz => by
    obtain ⟨as0, rd⟩ := Dq.reads I (.dic h t) r
    cases r
    have hz' : (dictText (PyData.shownKv kds)).length ≤ sizeLine := by simpa only [PyData.shown] using hz
    obtain ⟨_, hsys, vs, rk, o, es, ep, ho, hx, hd, _, ps, _⟩ := I.hok _ _ h
    obtain ⟨ka, va⟩ := pairs_split rk ps
    obtain ⟨hs1, hs2⟩ := PyData.showableKv_split kds (by simpa [PyData.showable] using hs)
    have kr : ReadsAll s.heap (es.toList.map (·.key)) (kds.map (·.1)) [] := by rw [← (keys_of t).1]; exact ka s.heap
    obtain ⟨b1, hb1, k1⟩ := ReprAllK.of_readsAll (prog := prog) (w := w) kr hs1 (fun _ => by simp) (fun x hx => by
      obtain ⟨p, hp, hl⟩ := PyData.shownKv_key_le kds x hx
      exact Nat.le_trans hl (Nat.le_trans (dictText_mem_le hp) hz'))
    obtain ⟨b2, hb2, k2⟩ := DqKv.shows I t va hs2 (fun x hx => by
      obtain ⟨p, hp, hl⟩ := PyData.shownKv_val_le kds x hx
      exact Nat.le_trans hl (Nat.le_trans (dictText_mem_le hp) hz'))
    have hb : ReadAtMost s.heap (PyData.depthKv kds) (b1 ++ b2) := (hb1.mono (PyData.depthAll_keys_le kds)).append (hb2.mono (PyData.depthAll_vals_le kds))
    have hna : a ∉ b1 ++ b2 := not_mem_of_deeper rd (by simp only [PyData.depth]; omega) hb
    refine ⟨a :: (b1 ++ b2), .cons rd (by simp only [PyData.depth]; omega) hb, ?_⟩
    simp only [PyData.depth, PyData.shown, PyData.shownKv_eq]
    exact ReprK.dict ho hx.1 hd hsys hna (ReprEntriesK.of_two es.toList _ _ (k1.more_le (fun b hb => List.mem_append_left _ hb) (PyData.depthAll_keys_le kds)) (k2.more_le (fun b hb => List.mem_append_right _ hb) (PyData.depthAll_vals_le kds)))
theorem DqAll.shows (I : Inv X pins σ H s) : ∀ {vs : List V} {ds : List PyData} {us : List Value}, DqAll H vs ds → Vals vs us → PyData.showableAll ds = true → (∀ t ∈ PyData.shownAll ds, t.length ≤ sizeLine) →
    ∃ bs, ReadAtMost s.heap (PyData.depthAll ds) bs ∧ ReprAllK prog w bs s.heap (PyData.depthAll ds) us (PyData.shownAll ds)
  | _, _, _, .nil, .nil, _, _ => ⟨[], (fun _ h => nomatch h), by simp only [PyData.shownAll]; exact .nil⟩
  | _, _, _, .cons (d := d) (ds := ds) h t, .cons r rs, hs, hz => by
    have hs' : d.showable = true ∧ PyData.showableAll ds = true := by simpa [PyData.showableAll] using hs
    obtain ⟨b1, hb1, k1⟩ := Dq.shows I h r hs'.1 (hz _ (by simp only [PyData.shownAll]; exact List.mem_cons_self ..))
    obtain ⟨b2, hb2, k2⟩ := DqAll.shows I t rs hs'.2 (fun x hx => hz x (by simp only [PyData.shownAll]; exact List.mem_cons_of_mem _ hx))
    refine ⟨b1 ++ b2, (hb1.mono (by simp only [PyData.depthAll]; omega)).append (hb2.mono (by simp only [PyData.depthAll]; omega)), ?_⟩
    simp only [PyData.depthAll, PyData.shownAll]
    exact .cons ((k1.more fun b hb => List.mem_append_left _ hb).level_le (Nat.le_max_left _ _)) (k2.more_le (fun b hb => List.mem_append_right _ hb) (Nat.le_max_right _ _))
theorem DqKv.shows (I : Inv X pins σ H s) : ∀ {kvs : List (Key × V)} {kds : List (PyData × PyData)} {us : List Value}, DqKv H kvs kds → Vals (kvs.map (·.2)) us → PyData.showableAll (kds.map (·.2)) = true → (∀ t ∈ PyData.shownAll (kds.map (·.2)), t.length ≤ sizeLine) →
    ∃ bs, ReadAtMost s.heap (PyData.depthAll (kds.map (·.2))) bs ∧ ReprAllK prog w bs s.heap (PyData.depthAll (kds.map (·.2))) us (PyData.shownAll (kds.map (·.2)))
  | _, _, _, .nil, .nil, _, _ => ⟨[], (fun _ h => nomatch h), by simp only [List.map_nil, PyData.shownAll]; exact .nil⟩
  | _, _, _, .cons (d := d) (kds := kds) h t, .cons r rs, hs, hz => by
    have hs' : d.showable = true ∧ PyData.showableAll (kds.map (·.2)) = true := by simpa [PyData.showableAll] using hs
    obtain ⟨b1, hb1, k1⟩ := Dq.shows I h r hs'.1 (hz _ (by simp only [List.map_cons, PyData.shownAll]; exact List.mem_cons_self ..))
    obtain ⟨b2, hb2, k2⟩ := DqKv.shows I t rs hs'.2 (fun x hx => hz x (by simp only [List.map_cons, PyData.shownAll]; exact List.mem_cons_of_mem _ hx))
    refine ⟨b1 ++ b2, (hb1.mono (by simp only [List.map_cons, PyData.depthAll]; omega)).append (hb2.mono (by simp only [List.map_cons, PyData.depthAll]; omega)), ?_⟩
    simp only [List.map_cons, PyData.depthAll, PyData.shownAll]
    exact .cons ((k1.more fun b hb => List.mem_append_left _ hb).level_le (Nat.le_max_left _ _)) (k2.more_le (fun b hb => List.mem_append_right _ hb) (Nat.le_max_right _ _))
end
end
/-- repr of a list -/
def rReprL : List V → Hp → VK → Prop := fun xs H Q => ∃ (a : Addr) (vs : List V) (ds : List PyData), xs = [.ref a] ∧ H a = some (.lst vs) ∧ DqAll H vs ds ∧ PyData.showableAll ds = true ∧ PyData.depthAll ds ≤ 60 ∧ (listText (PyData.shownAll ds)).length ≤ sizeLine ∧
  Q (.str (listText (PyData.shownAll ds))) H
theorem call_reprL {X : Cx} (hg : Quiet X.A) (hu : X.A.units + 64 < cLine) : CallR X (.builtin "repr") rReprL := by
  intro pins s σ H xs us Q I r h
  obtain ⟨a, vs, ds, rfl, ha, dq, hs, hd, hz, q⟩ := h
  obtain ⟨u, rfl, ru⟩ := vals1 r
  obtain ⟨as0, rd⟩ := Dq.reads I (.lst ha dq) ru
  cases ru
  obtain ⟨_, its, n, rv, ho⟩ := I.hok _ _ ha
  obtain ⟨bs, hb, hk⟩ := DqAll.shows (prog := X.prog) (w := X.w) I dq rv hs (fun x hx => Nat.le_trans (listText_mem_le hx) hz)
  have hna : a ∉ bs := not_mem_of_deeper rd (by simp only [PyData.depth]; omega) hb
  refine call_repr_slot (by omega) ⟨_, ho, rfl⟩ F.slot_list_repr.toG ?_
  have fin : ∀ h' t tk, (∀ b o, s.heap.get? b = some o → h'.get? b = some o) → ∃ (x : Str) (t' : Tok), Value.str (listText (PyData.shownAll ds)) t = .str x t' ∧ EP X pins σ Q (.str (listText (PyData.shownAll ds)) t) { s with heap := h', toks := tk } :=
    fun h' t tk k => ⟨_, _, rfl, .str _, H, I.kept k, ⟨t, rfl⟩, q⟩
  cases its with
  | nil =>
    rw [List.eq_nil_of_length_eq_zero hk.length_eq, listText_nil] at fin
    exact call_list_repr_empty ⟨_, ho, rfl⟩ ho rfl (fin s.heap _ _ fun _ _ e => e)
  | cons x l => exact call_list_reprK ho rfl rfl hna (by simpa using hk.length_eq) (fun i y e => hk.item i y (by simpa using e)) (show X.A.in1.guards = some [] from hg) (fun b _ => Clear.nil b) (by show X.A.units + 1 + _ < cLine; omega) (fun b o e => e) fin hz
end L2

set_option Elab.async false
set_option linter.all false
set_option maxRecDepth 100000
set_option maxHeartbeats 4000000
/-! Exception classes whose `__init__` keeps one or two arguments under their own names: what the written part says of one, and its call. -/
namespace L2
open PySem PySem.Spec PyProof.Rows PySem.XM Builtin Builtin.ObjectAttr
/-- self.f = v -/
def spI1 (K : PySem.W.Frag) (f : Str) : Sp := fun vs H Q _ => ∃ (a C : Addr) (v : V), vs = [.ref a, v] ∧ XC K C ∧ PySem.W.findIn K (.ref C) f = some none ∧ H a = some (exo a C none) ∧
  ∀ dx, H dx = none → dx ≠ a → Q .non (upd (upd H dx (exd dx [(f, v)])) a (exo a C (some dx)))
/-- self.f = v; self.g = u -/
def spI2 (K : PySem.W.Frag) (f g : Str) : Sp := fun vs H Q _ => ∃ (a C : Addr) (v u : V), vs = [.ref a, v, u] ∧ XC K C ∧ PySem.W.findIn K (.ref C) f = some none ∧ PySem.W.findIn K (.ref C) g = some none ∧ H a = some (exo a C none) ∧
  ∀ dx, H dx = none → dx ≠ a → Q .non (upd (upd (upd H dx (exd dx [(f, v)])) a (exo a C (some dx))) dx (exd dx [(g, u), (f, v)]))
section
variable {P : Program} {w : World} {K : PySem.W.Frag} {mg : Str → Option Value} {base : Heap} {fI : Addr} {fd : FuncData} {q f g : Str} {st : Stmt} {p1 p2 p3 p4 q1 q2 q3 q4 : Pos}
theorem ok_init1 (F : Fun K "__init__" q st fI fd) (sc : FnScope ["self", f] ["self", f] (defScope st)) (hb : defBody st = [.Assign [.Attribute (.Name "self" p1) f p2] (.Name f p3) p4]) (v0 : Vis (defScope st) "self") (v1 : Vis (defScope st) f)
    (n1 : (f == ("__debug__" : Str)) = false := by decide +kernel) (n2 : (f == ("__classdict__" : Str)) = false := by decide +kernel) : FnOk P w K mg base CX0 1 fI fd ["self", f] (spI1 K f) := by
  refine F.ok sc (fun vs H Q E h => ?_) (fun cdv A outer s H vs Q E hr h => ?_)
  · obtain ⟨a, C, v, rfl, _⟩ := h
    rfl
  · obtain ⟨a, C, v, rfl, T, hn, ha, k⟩ := h
    rw [hb]
    exact ⟨_, pss_one (ps_xst (pv 0 rfl v0) (pv 1 rfl v1 n1 n2)), _, rfl, _, rfl, a, C, rfl, T, hn, .inl ⟨ha, fun dx hd ne => k dx hd ne⟩⟩
theorem ok_init2 (F : Fun K "__init__" q st fI fd) (sc : FnScope ["self", f, g] ["self", f, g] (defScope st)) (hb : defBody st = [.Assign [.Attribute (.Name "self" p1) f p2] (.Name f p3) p4, .Assign [.Attribute (.Name "self" q1) g q2] (.Name g q3) q4])
    (v0 : Vis (defScope st) "self") (v1 : Vis (defScope st) f) (v2 : Vis (defScope st) g) (n1 : (f == ("__debug__" : Str)) = false := by decide +kernel) (n2 : (f == ("__classdict__" : Str)) = false := by decide +kernel)
    (m1 : (g == ("__debug__" : Str)) = false := by decide +kernel) (m2 : (g == ("__classdict__" : Str)) = false := by decide +kernel) : FnOk P w K mg base CX0 1 fI fd ["self", f, g] (spI2 K f g) := by
  refine F.ok sc (fun vs H Q E h => ?_) (fun cdv A outer s H vs Q E hr h => ?_)
  · obtain ⟨a, C, v, u, rfl, _⟩ := h
    rfl
  · obtain ⟨a, C, v, u, rfl, T, hn, hm, ha, k⟩ := h
    rw [hb]
    refine ⟨_, pss_cons (ps_xst (pv 0 rfl v0) (pv 1 rfl v1 n1 n2)) (pss_one (ps_xst (pv 0 rfl v0) (pv 2 rfl v2 m1 m2))), _, rfl, _, rfl, a, C, rfl, T, hn, .inl ⟨ha, fun dx hd ne => ?_⟩⟩
    exact ⟨_, rfl, _, rfl, a, C, rfl, T, hm, .inr ⟨dx, _, upd_same, by rw [upd_ne ne, upd_same], by show 1 ≤ 900; decide, k dx hd ne⟩⟩
end
/-- a class over `__init__(self, f)` -/
structure New1 (P : Program) (w : World) (K : PySem.W.Frag) (mg : Str → Option Value) (base : Heap) (x f : Str) (C : Addr) : Prop where
  t : XC K C
  n : PySem.W.findIn K (.ref C) f = some none
  m : mg x = some (.ref C)
  i : ∃ fI fd, PySem.W.findIn K (.ref C) "__init__" = some (some (.ref fI)) ∧ PySem.W.isFn K (.ref fI) = true ∧ FnOk P w K mg base CX0 1 fI fd ["self", f] (spI1 K f) ∧ KBn K fd ["self", f] 2 [] (fun us _ => us) (fun vs _ => vs) ∧ KBn K fd ["self", f] 1 [f] (fun us ws => us ++ ws) (fun vs zs => vs ++ zs)
/-- a class over `__init__(self, f, g)` -/
structure New2 (P : Program) (w : World) (K : PySem.W.Frag) (mg : Str → Option Value) (base : Heap) (x f g : Str) (C : Addr) : Prop where
  t : XC K C
  n : PySem.W.findIn K (.ref C) f = some none
  o : PySem.W.findIn K (.ref C) g = some none
  m : mg x = some (.ref C)
  i : ∃ fI fd, PySem.W.findIn K (.ref C) "__init__" = some (some (.ref fI)) ∧ PySem.W.isFn K (.ref fI) = true ∧ FnOk P w K mg base CX0 1 fI fd ["self", f, g] (spI2 K f g) ∧ KBn K fd ["self", f, g] 3 [] (fun us _ => us) (fun vs _ => vs) ∧
    KBn K fd ["self", f, g] 1 [g, f] (fun us ws => us ++ ws.reverse) (fun vs zs => vs ++ zs.reverse)
def tNew1 (C : Addr) (f : Str) (te : TE) : TE := fun σ H Q => te σ H fun v H1 => ∀ a H2, Same H1 H2 → H1 a = none → ExnAt H2 a C [(f, v)] → Q (.ref a) H2
def tNew2 (C : Addr) (f g : Str) (ta tb : TE) : TE := fun σ H Q => ta σ H fun v H1 => tb σ H1 fun u H2 => ∀ a H3, Same H2 H3 → H2 a = none → ExnAt H3 a C [(g, u), (f, v)] → Q (.ref a) H3
/-- C(g = .., f = ..): the second field's value is reckoned first -/
def tNew2k (C : Addr) (f g : Str) (tb ta : TE) : TE := fun σ H Q => tb σ H fun u H1 => ta σ H1 fun v H2 => ∀ a H3, Same H2 H3 → H2 a = none → ExnAt H3 a C [(g, u), (f, v)] → Q (.ref a) H3
section
variable {X : Cx} {C : Addr} {x f g : Str} {p pos k1 k2 : Pos} {e e2 : Expr} {te ta tb : TE}
theorem same_made {H1 : Hp} {a dx C : Addr} {fs : List (Str × V)} (h : H1 a = none) (hd : upd H1 a (exo a C none) dx = none) (ne : dx ≠ a) : Same H1 (upd (upd (upd H1 a (exo a C none)) dx (exd dx fs)) a (exo a C (some dx))) := fun b o q => by
  have na : b ≠ a := ne_of_none q h
  have nd : b ≠ dx := fun z => by
    rw [z] at q
    rw [upd_ne ne, q] at hd
    cases hd
  rw [upd_ne na, upd_ne nd, upd_ne na, q]
theorem spI1_of {K : PySem.W.Frag} {H1 : Hp} {Q : VK} {a : Addr} {v : V} {E : XK} (T : XC K C) (n : PySem.W.findIn K (.ref C) f = some none) (h : H1 a = none) (q : ∀ a H2, Same H1 H2 → H1 a = none → ExnAt H2 a C [(f, v)] → Q (.ref a) H2) :
    spI1 K f [.ref a, v] (upd H1 a (exo a C none)) (fun z H3 => z = .non ∧ Q (.ref a) H3) E :=
  ⟨a, C, v, rfl, T, n, upd_same, fun dx hd ne => ⟨rfl, q a _ (same_made h hd ne) h (.inr ⟨dx, upd_same, by rw [upd_ne ne, upd_same]⟩)⟩⟩
theorem spI2_of {K : PySem.W.Frag} {H1 : Hp} {Q : VK} {a : Addr} {v u : V} {E : XK} (T : XC K C) (n : PySem.W.findIn K (.ref C) f = some none) (o : PySem.W.findIn K (.ref C) g = some none) (h : H1 a = none) (q : ∀ a H2, Same H1 H2 → H1 a = none → ExnAt H2 a C [(g, u), (f, v)] → Q (.ref a) H2) :
    spI2 K f g [.ref a, v, u] (upd H1 a (exo a C none)) (fun z H3 => z = .non ∧ Q (.ref a) H3) E :=
  ⟨a, C, v, u, rfl, T, n, o, upd_same, fun dx hd ne => ⟨rfl, q a _ (fun b ob z => by
    have nd : b ≠ dx := fun y => by
      rw [y] at z
      rw [upd_ne ne, z] at hd
      cases hd
    rw [upd_ne nd]
    exact same_made h hd ne b ob z) h (.inr ⟨dx, by rw [upd_ne (Ne.symm ne), upd_same], upd_same⟩)⟩⟩
theorem pe_new1 (O : New1 X.prog X.w X.K X.mg X.base x f C) (hr : Room 2 X.A) (hg : Gl X x) (he : PE X e te) (hdb : (x == ("__debug__" : Str)) = false := by decide) (hs : starEach (e :: []) X.env = (false, eval e X.env) :: starEach [] X.env := by rfl) :
    PE X (.Call (.Name x p) [e] [] pos) (tNew1 C f te) := by
  obtain ⟨fI, fd, i1, i2, F, b1, _⟩ := O.i
  refine ⟨fun pins s σ H Q I h => wpAny_Call_Name_kw (ld_glob I hg O.m ?_ hdb)⟩
  have hA : PA X [e] (tCons te tNil) := pa_cons (hs := hs) he pa_nil
  refine PySem.W.callWith_K (h₀ := X.base) I.ok.mod.kin O.t.kp (thn (hA.run pos pins s σ H (fun vs H1 => match vs with | [v] => ∀ a H2, Same H1 H2 → H1 a = none → ExnAt H2 a C [(f, v)] → Q (.ref a) H2 | _ => False) I h) fun us s1 ⟨vs, H1, I1, r, q⟩ => ⟨I1.kIn, ?_⟩) hs (by rfl)
  match vs, r, q with
  | [v], r, q => exact run_mkX (n := 1) (ks := []) (ws := []) (zs := []) O.t i1 i2 F hr b1 pass0 I1 r .nil rfl rfl (by decide) fun a ha => spI1_of O.t O.n ha q
theorem pe_new1k (O : New1 X.prog X.w X.K X.mg X.base x f C) (hr : Room 2 X.A) (hg : Gl X x) (he : PE X e te) (hdb : (x == ("__debug__" : Str)) = false := by decide) : PE X (.Call (.Name x p) [] [⟨some f, e, k1⟩] pos) (tNew1 C f te) := by
  obtain ⟨fI, fd, i1, i2, F, _, b1⟩ := O.i
  refine ⟨fun pins s σ H Q I h => wpAny_Call_Name_kw (ld_glob I hg O.m ?_ hdb)⟩
  have hK : PK X [⟨some f, e, k1⟩] (tCons te tNil) := pk_cons he pk_nil
  refine PySem.W.callWith_KW0 (h₀ := X.base) I.ok.mod.kin O.t.kp (by rfl) (thn (hK.run pos pins s σ H (fun vs H1 => match vs with | [v] => ∀ a H2, Same H1 H2 → H1 a = none → ExnAt H2 a C [(f, v)] → Q (.ref a) H2 | _ => False) I h) fun ws s1 ⟨vs, H1, I1, r, q⟩ => ⟨I1.kIn, ?_⟩) (by rfl)
  match vs, r, q with
  | [v], r, q => exact run_mkX (n := 0) (us := []) (vs := []) O.t i1 i2 F hr b1 pass0 I1 .nil r rfl rfl (by decide) fun a ha => spI1_of O.t O.n ha q
theorem pe_new2 (O : New2 X.prog X.w X.K X.mg X.base x f g C) (hr : Room 2 X.A) (hg : Gl X x) (ha : PE X e ta) (hb : PE X e2 tb) (hdb : (x == ("__debug__" : Str)) = false := by decide) (hs : starEach (e :: [e2]) X.env = (false, eval e X.env) :: starEach [e2] X.env := by rfl)
    (hs2 : starEach (e2 :: []) X.env = (false, eval e2 X.env) :: starEach [] X.env := by rfl) : PE X (.Call (.Name x p) [e, e2] [] pos) (tNew2 C f g ta tb) := by
  obtain ⟨fI, fd, i1, i2, F, b1, _⟩ := O.i
  refine ⟨fun pins s σ H Q I h => wpAny_Call_Name_kw (ld_glob I hg O.m ?_ hdb)⟩
  have hA : PA X [e, e2] (tCons ta (tCons tb tNil)) := pa_cons (hs := hs) ha (pa_cons (hs := hs2) hb pa_nil)
  refine PySem.W.callWith_K (h₀ := X.base) I.ok.mod.kin O.t.kp (thn (hA.run pos pins s σ H (fun vs H1 => match vs with | [v, u] => ∀ a H2, Same H1 H2 → H1 a = none → ExnAt H2 a C [(g, u), (f, v)] → Q (.ref a) H2 | _ => False) I h) fun us s1 ⟨vs, H1, I1, r, q⟩ => ⟨I1.kIn, ?_⟩) hs (by rw [hs2]; rfl)
  match vs, r, q with
  | [v, u], r, q => exact run_mkX (n := 2) (ks := []) (ws := []) (zs := []) O.t i1 i2 F hr b1 pass0 I1 r .nil rfl rfl (by decide) fun a ha => spI2_of O.t O.n O.o ha q
theorem pe_new2k (O : New2 X.prog X.w X.K X.mg X.base x f g C) (hr : Room 2 X.A) (hg : Gl X x) (hb : PE X e2 tb) (ha : PE X e ta) (hdb : (x == ("__debug__" : Str)) = false := by decide) : PE X (.Call (.Name x p) [] [⟨some g, e2, k1⟩, ⟨some f, e, k2⟩] pos) (tNew2k C f g tb ta) := by
  obtain ⟨fI, fd, i1, i2, F, _, b1⟩ := O.i
  refine ⟨fun pins s σ H Q I h => wpAny_Call_Name_kw (ld_glob I hg O.m ?_ hdb)⟩
  have hK : PK X [⟨some g, e2, k1⟩, ⟨some f, e, k2⟩] (tCons tb (tCons ta tNil)) := pk_cons hb (pk_cons ha pk_nil)
  refine PySem.W.callWith_KW0 (h₀ := X.base) I.ok.mod.kin O.t.kp (by rfl) (thn (hK.run pos pins s σ H (fun vs H1 => match vs with | [u, v] => ∀ a H2, Same H1 H2 → H1 a = none → ExnAt H2 a C [(g, u), (f, v)] → Q (.ref a) H2 | _ => False) I h) fun ws s1 ⟨vs, H1, I1, r, q⟩ => ⟨I1.kIn, ?_⟩) (by rfl)
  match vs, r, q with
  | [u, v], r, q => exact run_mkX (n := 0) (us := []) (vs := []) O.t i1 i2 F hr b1 pass0 I1 .nil r rfl rfl (by decide) fun a ha => spI2_of O.t O.n O.o ha q
end
end L2

set_option Elab.async false
set_option linter.all false
set_option maxRecDepth 100000
set_option maxHeartbeats 4000000
/-! What every law's own text draws by: a pot of two numbers. -/
namespace L2
open PySem PySem.Spec PyProof.Rows
/-- the built-in names that are not bound by the text -/
structure Bl (mg : Str → Option Value) : Prop where
  len : mg "len" = none
  abs : mg "abs" = none
  max : mg "max" = none
  min : mg "min" = none
  int : mg "int" = none
  divmod : mg "divmod" = none
  range : mg "range" = none
  repr : mg "repr" = none
  all : mg "all" = none
  any : mg "any" = none
  enumerate : mg "enumerate" = none
  isinstance : mg "isinstance" = none
/-- a pot at p -/
def Pot (H : Hp) (p : Addr) : Prop := ∃ a b : Int, H p = some (.lst [.int a, .int b]) ∧ 0 ≤ a ∧ 0 ≤ b ∧ b < 2147483648
/-- all but p is as it was -/
def But (p : Addr) (H H' : Hp) : Prop := ∀ b o, b ≠ p → H b = some o → H' b = some o
theorem But.refl (p : Addr) (H : Hp) : But p H H := fun _ _ _ h => h
theorem But.trans {p : Addr} {H H1 H2 : Hp} (a : But p H H1) (b : But p H1 H2) : But p H H2 := fun c o n h => b c o n (a c o n h)
theorem But.same {p : Addr} {H H1 H2 : Hp} (a : But p H H1) (b : Same H1 H2) : But p H H2 := fun c o n h => b c o (a c o n h)
theorem Same.but {p : Addr} {H H1 H2 : Hp} (a : Same H H1) (b : But p H1 H2) : But p H H2 := fun c o n h => b c o n (a c o h)
theorem Pot.same {H H' : Hp} {p : Addr} (x : Pot H p) (s : Same H H') : Pot H' p := by
  obtain ⟨a, b, h, r⟩ := x
  exact ⟨a, b, s _ _ h, r⟩
/-- draw(pot, sides): a digit below sides -/
def spDraw : Sp := fun vs H Q _ => ∃ (p : Addr) (n : Int), vs = [.ref p, .int n] ∧ Pot H p ∧ 1 ≤ n ∧ n < 1000000 ∧ ∀ H' i, But p H H' → Pot H' p → 0 ≤ i → i < n → Q (.int i) H'
/-- pot(script, k) -/
def spPot (K : PySem.W.Frag) : Sp := fun vs H Q _ => ∃ (a : Addr) (ns : List Int) (k : Nat), vs = [.ref a, .int (k : Int)] ∧ SqL K H a (ns.map V.int) ∧ k ≤ 100 ∧ ∀ H' p, Same H H' → H p = none → Pot H' p → Q (.ref p) H'
/-- pick(pot, some): one of a list -/
def spPick : Sp := fun vs H Q _ => ∃ (p l : Addr) (xs : List V), vs = [.ref p, .ref l] ∧ Pot H p ∧ l ≠ p ∧ H l = some (.lst xs) ∧ 1 ≤ xs.length ∧ xs.length ≤ 1000 ∧ ∀ (H' : Hp) (i : Nat) (x : V), But p H H' → Pot H' p → xs[i]? = some x → Q x H'
end L2

set_option Elab.async false
set_option linter.all false
set_option maxRecDepth 100000
set_option maxHeartbeats 4000000
/-! Walks of enumerate; data whose text is short. -/
namespace L2
open PySem PySem.Spec PyProof.Rows
section
variable {K : PySem.W.Frag} {a : Addr} {xs : List V} {g : TG}
/-- for i, x in enumerate(xs), xs left as it is -/
theorem for_enum {tb : TS} {D : Ends} {σ : St} {H : Hp} (Pv : Nat → St → Hp → Prop) (h0 : Pv 0 σ H) (hl : ∀ i σ H, i ≤ xs.length → Pv i σ H → SqL K H a xs)
    (hs : ∀ i x σ H T, xs[i]? = some x → Pv i σ H → H T = none → g (.ref T) σ (upd H T (.tup [.int (i : Nat), x])) fun σ2 H2 => tb { D with nx := Pv (i + 1), ct := Pv (i + 1), bk := D.nx } σ2 H2) (hd : ∀ σ H, Pv xs.length σ H → D.nx σ H) :
    ∃ W : Nat → Nat → St → Hp → Prop, (∃ m, W 0 m σ H) ∧ ∀ i m σ H, W i m σ H → ((Ite K a).stop i H ∧ D.nx σ H) ∨
      ((Ite K a).go i H ∧ ∃ N : St → Hp → Prop, (∀ σ' H', N σ' H' → ∃ m', m' < m ∧ W (i + 1) m' σ' H') ∧ ∀ x H', (Ite K a).yld i H x H' → g x σ H' fun σ2 H2 => tb { D with nx := N, ct := N, bk := D.nx } σ2 H2) := by
  refine ⟨fun i m σ H => m = xs.length - i ∧ i ≤ xs.length ∧ Pv i σ H, ⟨_, rfl, Nat.zero_le _, h0⟩, fun i m σ H ⟨em, hi, p⟩ => ?_⟩
  have q := hl i σ H hi p
  rcases Nat.lt_or_eq_of_le hi with lt | e
  · refine .inr ⟨⟨xs, xs[i], q, List.getElem?_eq_getElem lt⟩, Pv (i + 1), fun σ' H' p' => ⟨xs.length - (i + 1), by omega, rfl, lt, p'⟩, ?_⟩
    rintro _ _ ⟨T, x, rfl, hT, rfl, y⟩
    exact hs i x σ H T (y xs q) p hT
  · subst e
    exact .inl ⟨⟨xs, q, Nat.le_refl _⟩, hd σ H p⟩
/-- [.. for i, x in enumerate(xs) if ..] -/
theorem lc_enum {tt : TT} {te : TE} {vs : List Nat} {σ : St} {H1 : Hp} {D : Addr} {Qd : Hp → Prop} (Pv : Nat → Hp → Prop) (h0 : Pv 0 (upd H1 D (.lst []))) (hl : ∀ i H, i ≤ xs.length → Pv i H → SqL K H a xs)
    (hs : ∀ i x H T, xs[i]? = some x → Pv i H → H T = none → g (.ref T) (wipe σ vs) (upd H T (.tup [.int (i : Nat), x])) fun σ2 H2 => wipe σ2 vs = wipe σ vs ∧ tt σ2 H2 fun b H3 =>
      if b = true then te σ2 H3 fun y H4 => ∃ acc, H4 D = some (.lst acc) ∧ acc.length < sizeLine ∧ Pv (i + 1) (upd H4 D (.lst (acc ++ [y]))) else Pv (i + 1) H3) (hd : ∀ H, Pv xs.length H → Qd H) :
    ∃ W : Nat → Nat → Hp → Prop, (∃ m, W 0 m (upd H1 D (.lst []))) ∧ ∀ i m H, W i m H → ((Ite K a).stop i H ∧ Qd H) ∨
      ((Ite K a).go i H ∧ ∃ Nx : Hp → Prop, (∀ H', Nx H' → ∃ m', m' < m ∧ W (i + 1) m' H') ∧ ∀ x H', (Ite K a).yld i H x H' → g x (wipe σ vs) H' fun σ2 H2 => wipe σ2 vs = wipe σ vs ∧ tt σ2 H2 fun b H3 =>
        if b = true then te σ2 H3 fun y H4 => ∃ acc, H4 D = some (.lst acc) ∧ acc.length < sizeLine ∧ Nx (upd H4 D (.lst (acc ++ [y]))) else Nx H3) := by
  refine ⟨fun i m H => m = xs.length - i ∧ i ≤ xs.length ∧ Pv i H, ⟨_, rfl, Nat.zero_le _, h0⟩, fun i m H ⟨em, hi, p⟩ => ?_⟩
  have q := hl i H hi p
  rcases Nat.lt_or_eq_of_le hi with lt | e
  · refine .inr ⟨⟨xs, xs[i], q, List.getElem?_eq_getElem lt⟩, Pv (i + 1), fun H' p' => ⟨xs.length - (i + 1), by omega, rfl, lt, p'⟩, ?_⟩
    rintro _ _ ⟨T, x, rfl, hT, rfl, y⟩
    exact hs i x H T (y xs q) p hT
  · subst e
    exact .inl ⟨⟨xs, q, Nat.le_refl _⟩, hd H p⟩
end
/-- data whose text is short -/
structure Shw (z : PyData) : Prop where
  s : z.showable = true
  d : z.depth ≤ 10
  l : z.shown.length ≤ 1000
theorem shw_all : ∀ {ds : List PyData}, (∀ z ∈ ds, Shw z) → PyData.showableAll ds = true ∧ PyData.depthAll ds ≤ 10 ∧ ((PyData.shownAll ds).map (·.length)).sum ≤ 1000 * ds.length ∧ (PyData.shownAll ds).length = ds.length
  | [], _ => ⟨rfl, by simp only [PyData.depthAll]; omega, by simp [PyData.shownAll], rfl⟩
  | z :: ds, h => by
    obtain ⟨i1, i2, i3, i4⟩ := shw_all fun y hy => h y (List.mem_cons_of_mem _ hy)
    have q := h z List.mem_cons_self
    refine ⟨?_, ?_, ?_, ?_⟩
    · simp only [PyData.showableAll, q.s, i1, Bool.and_self]
    · simp only [PyData.depthAll]
      exact Nat.max_le.mpr ⟨q.d, i2⟩
    · simp only [PyData.shownAll, List.map_cons, List.sum_cons, List.length_cons]
      have := q.l
      omega
    · simp only [PyData.shownAll, List.length_cons, i4]
theorem shw_list {ds : List PyData} (h : ∀ z ∈ ds, Shw z) (n : ds.length ≤ 1000) : PyData.showableAll ds = true ∧ PyData.depthAll ds ≤ 60 ∧ (listText (PyData.shownAll ds)).length ≤ sizeLine := by
  obtain ⟨i1, i2, i3, i4⟩ := shw_all h
  have h2 := listText_len_le (PyData.shownAll ds)
  have e := sizeLine_eq
  exact ⟨i1, by omega, by omega⟩
theorem shw_pair {a b : PyData} (ha : Shw a) (hb : Shw b) (la : a.shown.length ≤ 400) (lb : b.shown.length ≤ 400) (da : a.depth ≤ 5) (db : b.depth ≤ 5) : Shw (.tuple [a, b]) := by
  refine ⟨?_, ?_, ?_⟩
  · simp only [PyData.showable, PyData.showableAll, ha.s, hb.s, Bool.and_self]
  · simp only [PyData.depth, PyData.depthAll]
    omega
  · have h2 := tupleText_len_le (PyData.shownAll [a, b])
    simp only [PyData.shown, PyData.shownAll, List.map_cons, List.map_nil, List.sum_cons, List.sum_nil, List.length_cons, List.length_nil] at h2 ⊢
    omega
/-- repr(xs), read -/
theorem rep_read {H : Hp} {a : Addr} {vs : List V} {ds : List PyData} {Q : VK} (ha : H a = some (.lst vs)) (q : DqAll H vs ds) (h : ∀ z ∈ ds, Shw z) (n : ds.length ≤ 1000) (k : Q (.str (listText (PyData.shownAll ds))) H) : rReprL [.ref a] H Q := by
  obtain ⟨i1, i2, i3⟩ := shw_list h n
  exact ⟨a, vs, ds, rfl, ha, q, i1, i2, i3, k⟩
end L2

set_option Elab.async false
set_option linter.all false
set_option maxRecDepth 100000
set_option maxHeartbeats 4000000
namespace K12
open PySem PySem.Spec PyProof.Rows L2 MX NZ
/-- more names of built-ins that the text leaves alone -/
structure Bl2 (mg : Str → Option Value) : Prop where
  bool : mg "bool" = none
  str : mg "str" = none
  list : mg "list" = none
  tuple : mg "tuple" = none
  zip : mg "zip" = none
  sorted : mg "sorted" = none
  iter : mg "iter" = none
theorem _root_.L2.TyX.same {K : W.Frag} {H H' : Hp} {x : V} {t : Value} (k : TyX K H x t) (s : Same H H') : TyX K H' x t := by
  cases k with
  | base h =>
    refine .base ?_
    cases h with
    | non => exact .non
    | bl x => exact .bl x
    | int i => exact .int i
    | str x => exact .str x
    | flt x => exact .flt x
    | lst e => exact .lst (s _ _ e)
    | frz e => exact .frz (s _ _ e)
    | tup e => exact .tup (s _ _ e)
    | dK e => exact .dK (s _ _ e)
    | dT e => exact .dT (s _ _ e)
    | ins e cl ha hn htk hm => exact .ins (s _ _ e) cl ha hn htk hm
  | byt b => exact .byt b
  | set e => exact .set (s _ _ e)
  | kList e c => exact .kList e c
  | kTuple e c => exact .kTuple e c
  | kDict e c => exact .kDict e c
  | fTuple e => exact .fTuple (s _ _ e)
  | fDict e => exact .fDict (s _ _ e)
theorem kit_int : ∀ U ∈ kinds, kitB U "int" = some (U == "int" || U == "bool") := by decide +kernel
theorem kit_bool : ∀ U ∈ kinds, kitB U "bool" = some (U == "bool") := by decide +kernel
theorem kit_list : ∀ U ∈ kinds, kitB U "list" = some (U == "list") := by decide +kernel
theorem kit_tuple : ∀ U ∈ kinds, kitB U "tuple" = some (U == "tuple") := by decide +kernel
theorem kit_str : ∀ U ∈ kinds, kitB U "str" = some (U == "str") := by decide +kernel
/-- a value of one of these kinds -/
def Kd (K : W.Frag) (H : Hp) (x : V) (U : String) : Prop := U ∈ kinds ∧ TyX K H x (.type U)
section
variable {P : Program} {w : World} {K : W.Frag} {mg : Str → Option Value} {base : Heap}
def len11 : V → Bool
  | .int i => decide (1 ≤ i ∧ i ≤ 11)
  | _ => false
theorem kd_int {H : Hp} {x : V} {U : String} (kd : Kd K H x U) (e : U = "int") : ∃ i, x = .int i := by
  subst e
  obtain ⟨_, ty⟩ := kd
  generalize q : Value.type "int" = t at ty
  cases ty with
  | base h => cases h <;> first | exact ⟨_, rfl⟩ | cases q | (exact absurd q (by decide))
  | _ => first | cases q | exact absurd q (by decide)
theorem kd_of_int {H : Hp} {i : Int} {U : String} (kd : Kd K H (.int i) U) : U = "int" := by
  obtain ⟨_, ty⟩ := kd
  cases ty with
  | base h => cases h; rfl
theorem kd_mk {H : Hp} {i : Int} : Kd K H (.int i) "int" := ⟨by decide, .base (.int i)⟩
/-- lo <= x <= hi -/
theorem chain2_goT {lo hi i : Int} {x : Nat} {σ : L2.St} {H : Hp} {Q : VK} {tc : TE} (hx : σ[x]? = some (some (.int i))) (hc : ∀ R : VK, R (.int hi) H → tc σ H R) (k : Q (.bl (decide (lo ≤ i ∧ i ≤ hi))) H) : tChain (rI0 fun i j => V.bl (decide (i ≤ j))) (rI0 fun i j => V.bl (decide (i ≤ j))) (tC (.int lo)) (tVar x) tc σ H Q := by
  refine ⟨.int i, hx, lo, i, rfl, rfl, _, rfl, ?_⟩
  by_cases h1 : lo ≤ i
  · rw [if_pos (decide_eq_true h1)]
    refine hc _ ⟨i, hi, rfl, rfl, ?_⟩
    show Q (.bl (decide (i ≤ hi))) H
    rw [show decide (i ≤ hi) = decide (lo ≤ i ∧ i ≤ hi) from by simp [h1]]
    exact k
  · rw [if_neg (by rw [decide_eq_false h1]; exact Bool.false_ne_true)]
    rw [show decide (lo ≤ i ∧ i ≤ hi) = false from decide_eq_false fun z => h1 z.1] at k
    exact k
theorem chain2_go {lo hi i : Int} {x : Nat} {σ : L2.St} {H : Hp} {Q : VK} (hx : σ[x]? = some (some (.int i))) (k : Q (.bl (decide (lo ≤ i ∧ i ≤ hi))) H) : tChain (rI0 fun i j => V.bl (decide (i ≤ j))) (rI0 fun i j => V.bl (decide (i ≤ j))) (tC (.int lo)) (tVar x) (tC (.int hi)) σ H Q :=
  chain2_goT hx (fun _ h => h) k
def spNum (K : W.Frag) : Sp := fun vs H Q _ => ∃ x U, vs = [x] ∧ Kd K H x U ∧ Q (.bl (U == "int")) H
def spIsList (K : W.Frag) : Sp := fun vs H Q _ => ∃ x U, vs = [x] ∧ Kd K H x U ∧ ∀ H', Same H H' → Q (.bl (U == "list" || U == "tuple")) H'
def spLen (K : W.Frag) : Sp := fun vs H Q _ => ∃ x U, vs = [x] ∧ Kd K H x U ∧ Q (.bl (len11 x)) H
theorem scNum : FnScope ["value"] ["value"] (defScope sNum) := ⟨rfl, rfl, rfl, by decide +kernel, rfl, by decide +kernel, by decide +kernel⟩
theorem is_go {U T : String} {b : Bool} {i : Nat} {x : V} {σ : L2.St} {H : Hp} {Q : VK} (hx : σ[i]? = some (some x)) (kd : Kd K H x U) (e : kitB U T = some b) (k : Q (.bl b) H) : tCB (rIsi K) (tCons (tVar i) (tCons (tC (.ty T)) tNil)) σ H Q :=
  ⟨x, hx, x, .ty T, .type U, .type T, b, rfl, .ty T, kd.2, kit_ty e, k⟩
theorem pe_isT {X : Cx} {T x : Str} {Ts : String} {p1 p2 pos p3 : Pos} (i : Nat) (hg : Gl X "isinstance") (hm : X.mg "isinstance" = none) (hT : Gl X T) (mT : X.mg T = none) (bT : bootBuiltins T = some (.type Ts)) (hX : X.N[i]? = some x := by rfl) (hv : Vis X.env.scope x := by first | exact Or.inl rfl | exact Or.inr (Or.inl rfl) | exact Or.inr (Or.inr rfl))
    (hd : (x == ("__debug__" : Str)) = false := by decide) (hcd : (x == ("__classdict__" : Str)) = false := by decide) (hn : T ≠ "__name__" := by decide) (hdT : (T == ("__debug__" : Str)) = false := by decide)
    (h1 : starEach [.Name x p2, .Name T p3] X.env = (false, eval (.Name x p2) X.env) :: starEach [.Name T p3] X.env := by rfl) (h2 : starEach [.Name T p3] X.env = (false, eval (.Name T p3) X.env) :: starEach [] X.env := by rfl) :
    PE X (.Call (.Name "isinstance" p1) [.Name x p2, .Name T p3] [] pos) (tCB (rIsi X.K) (tCons (tVar i) (tCons (tC (.ty Ts)) tNil))) :=
  pe_callB call_isi hg hm boot_isinstance (pa_cons (hs := h1) (pe_var hX hv hd hcd) (pa_cons (hs := h2) (pe_bltn (v := .ty Ts) hT mT bT rfl hn hdT) pa_nil)) (by decide) (by decide) h1 (by rw [h2]; rfl)
theorem bt_int : bootBuiltins "int" = some (.type "int") := by decide +kernel
theorem bt_bool : bootBuiltins "bool" = some (.type "bool") := by decide +kernel
theorem bt_str : bootBuiltins "str" = some (.type "str") := by decide +kernel
theorem bt_tuple : bootBuiltins "tuple" = some (.type "tuple") := by decide +kernel
theorem bt_list : bootBuiltins "list" = some (.type "list") := by decide +kernel
theorem ok_num {f : Addr} {fd : FuncData} (F : Fun K "is_number" "is_number" sNum f fd) (B : Bl mg) (B2 : Bl2 mg) : FnOk P w K mg base CX0 1 f fd ["value"] (spNum K) := by
  refine F.ok scNum (fun vs H Q E h => ?_) (fun cdv A outer s H vs Q E hr h => ?_)
  · obtain ⟨x, U, rfl, _⟩ := h
    rfl
  · obtain ⟨x, U, rfl, kd, k⟩ := h
    refine ⟨_, pss_one (ps_ret (pe_and (pe_isT 0 (by rfl) B.isinstance (by rfl) B.int bt_int) (pe_one (pe_not (pe_isT 0 (by rfl) B.isinstance (by rfl) B2.bool bt_bool))))), ?_⟩
    refine is_go rfl kd (kit_int U kd.1) ⟨_, rfl, ?_⟩
    by_cases e : (U == "int" || U == "bool") = true
    · rw [if_pos e]
      refine is_go rfl kd (kit_bool U kd.1) ⟨_, rfl, ?_⟩
      have : (!(U == "bool")) = (U == "int") := by
        rcases Bool.or_eq_true_iff.mp e with h | h
        · rw [beq_iff_eq.mp h]; rfl
        · rw [beq_iff_eq.mp h]; rfl
      rw [this]
      exact k
    · rw [if_neg e]
      have : (U == "int") = false := by
        cases q : (U == "int")
        · rfl
        · rw [q] at e; exact absurd rfl e
      rw [this] at k
      exact k
theorem scList : FnScope ["value"] ["value"] (defScope sList) := ⟨rfl, rfl, rfl, by decide +kernel, rfl, by decide +kernel, by decide +kernel⟩
theorem ok_list {f : Addr} {fd : FuncData} (F : Fun K "is_list" "is_list" sList f fd) (B : Bl mg) (B2 : Bl2 mg) : FnOk P w K mg base CX0 1 f fd ["value"] (spIsList K) := by
  refine F.ok scList (fun vs H Q E h => ?_) (fun cdv A outer s H vs Q E hr h => ?_)
  · obtain ⟨x, U, rfl, _⟩ := h
    rfl
  · obtain ⟨x, U, rfl, kd, k⟩ := h
    refine ⟨_, pss_one (ps_ret (pe_callB call_isiT (by rfl) B.isinstance boot_isinstance (pa_cons (pv 0) (pa_cons (pe_tup (pa_cons (pe_bltn (v := .ty "list") (by rfl) B2.list bt_list rfl) (pa_cons (pe_bltn (v := .ty "tuple") (by rfl) B2.tuple bt_tuple rfl) pa_nil))) pa_nil)))), ?_⟩
    refine ⟨x, rfl, by decide, fun t ht => ?_⟩
    have st : Same H (upd H t (.tup [.ty "list", .ty "tuple"])) := Same.new ht
    refine ⟨x, t, _, .type U, [.type "list", .type "tuple"], _, rfl, upd_same, .cons (.ty _) (.cons (.ty _) .nil), kd.2.same st, kitAny_cons (b := (U == "list")) (r := (U == "list" || U == "tuple")) (kit_ty (kit_list U kd.1)) (fun e => ?_) (fun e => by rw [e]; rfl), ?_⟩
    · rw [e]
      exact kitAny_cons (b := (U == "tuple")) (kit_ty (kit_tuple U kd.1)) (fun e2 => by rw [e2]; exact kitAny_nil) (fun e2 => by rw [e2]; rfl)
    · exact k _ st
theorem scLen : FnScope ["value"] ["value"] (defScope sLen) := ⟨rfl, rfl, rfl, by decide +kernel, rfl, by decide +kernel, by decide +kernel⟩
theorem ok_len {f fN : Addr} {fd fdN : FuncData} (F : Fun K "is_length" "is_length" sLen f fd) (B : Bl mg) (B2 : Bl2 mg) {tM : Nat} (mM : mg "MOST_LENGTH" = some (.int 11 tM))
    (GN : FnOk P w K mg base CX0 1 fN fdN ["value"] (spNum K)) (kN : W.keepIn K (.ref fN) = true) (bN : Binds K fdN ["value"] []) (mN : mg "is_number" = some (.ref fN)) : FnOk P w K mg base CX0 2 f fd ["value"] (spLen K) := by
  refine F.ok scLen (fun vs H Q E h => ?_) (fun cdv A outer s H vs Q E hr h => ?_)
  · obtain ⟨x, U, rfl, _⟩ := h
    rfl
  · obtain ⟨x, U, rfl, kd, k⟩ := h
    refine ⟨_, pss_one (ps_ret (pe_and (pe_call GN hr (by rfl) mN kN bN .nil pass0 (pa_cons (pv 0) pa_nil)) (pe_one (pe_chain op_le op_le pe_int (pv 0) (pe_glob (v := .int 11) (by rfl) mM ⟨_, rfl⟩))))), ?_⟩
    refine ⟨x, rfl, x, U, rfl, kd, _, rfl, ?_⟩
    by_cases e : (U == "int") = true
    · rw [if_pos e]
      obtain ⟨i, rfl⟩ := kd_int kd (beq_iff_eq.mp e)
      exact chain2_go rfl k
    · rw [if_neg e]
      have : len11 x = false := by
        match x, kd with
        | .int i, kd => exact absurd (by rw [kd_of_int kd]; rfl) e
        | .non, _ | .bl _, _ | .str _, _ | .byt _, _ | .flt _, _ | .ref _, _ | .ty _, _ => rfl
      rw [this] at k
      exact k
/-- what is known of the class Stair -/
structure StC (K : W.Frag) (mg : Str → Option Value) (C : Addr) : Prop where
  m : mg "Stair" = some (.ref C)
  cl : Cls K C
  cs : ∃ mc u1 u2, ClX.CRead K C mc ∧ ClX.CVal K C mc "MOST_STEPS" (.int 10) u1 ∧ ClX.CVal K C mc "MOST_JUMPS" (.int 40) u2
  nJ : W.findIn K (.ref C) "_jumps" = some none
  nS : W.findIn K (.ref C) "_steps" = some none
  nT : W.findIn K (.ref C) "_things" = some none
  nB : W.findIn K (.ref C) "_table" = some none
/-- check_steps(n), right -/
def spSteps : Sp := fun vs H Q _ => ∃ n : Int, vs = [.int n] ∧ 1 ≤ n ∧ n ≤ 10 ∧ Q .non H
theorem scSteps : FnScope ["steps"] ["steps"] (defScope sSteps) := ⟨rfl, rfl, rfl, by decide +kernel, rfl, by decide +kernel, by decide +kernel⟩
theorem ok_steps {f fN C : Addr} {fd fdN : FuncData} (F : Fun K "check_steps" "check_steps" sSteps f fd) (S : StC K mg C)
    (GN : FnOk P w K mg base CX0 1 fN fdN ["value"] (spNum K)) (kN : W.keepIn K (.ref fN) = true) (bN : Binds K fdN ["value"] []) (mN : mg "is_number" = some (.ref fN)) : FnOk P w K mg base CX0 2 f fd ["steps"] spSteps := by
  refine F.ok scSteps (fun vs H Q E h => ?_) (fun cdv A outer s H vs Q E hr h => ?_)
  · obtain ⟨n, rfl, _⟩ := h
    rfl
  · obtain ⟨n, rfl, n1, n2, k⟩ := h
    refine ⟨_, pss_one (ps_if (pw_or (pt_not (pt_val (pe_call GN hr (by rfl) mN kN bN .nil pass0 (pa_cons (pv 0) pa_nil)))) (pw_or1 (pt_not (pt_chain op_le op_le pe_int (pv 0) (ClX.pe_cval (pe_glob (v := .ref C) (by rfl) S.m rfl)))))).pt (pss_one ps_never) pss_nil), ?_⟩
    refine ⟨_, rfl, _, "int", rfl, kd_mk, true, rfl, ?_⟩
    obtain ⟨mc, u1, u2, r, c1, c2⟩ := S.cs
    show if (!true) = true then _ else _
    rw [if_neg (by decide)]
    refine chain2_goT (hi := 10) rfl (fun R h => ⟨C, mc, _, u1, rfl, r, c1, h⟩) ⟨_, rfl, ?_⟩
    rw [decide_eq_true (show (1 : Int) ≤ n ∧ n ≤ 10 from ⟨n1, n2⟩)]
    show if (!true) = true then _ else _
    rw [if_neg (by decide)]
    exact k
end
end K12

set_option linter.all false
set_option maxRecDepth 100000
/-! Strictly sorted lists: one for each set. -/
namespace SM
open SrtO
abbrev Pr := Int × Int
section
variable {α : Type} {lt : α → α → Prop}
theorem uniq_sorted (irr : ∀ a, ¬ lt a a) (tr : ∀ a b c, lt a b → lt b c → lt a c) : ∀ {as bs : List α}, as.Pairwise lt → bs.Pairwise lt → (∀ x, x ∈ as ↔ x ∈ bs) → as = bs
  | [], [], _, _, _ => rfl
  | [], b :: bs, _, _, h => absurd ((h b).mpr List.mem_cons_self) (by simp)
  | a :: as, [], _, _, h => absurd ((h a).mp List.mem_cons_self) (by simp)
  | a :: as, b :: bs, ha, hb, h => by
    obtain ⟨ha1, ha2⟩ := List.pairwise_cons.mp ha
    obtain ⟨hb1, hb2⟩ := List.pairwise_cons.mp hb
    have e : a = b := by
      rcases List.mem_cons.mp ((h a).mp List.mem_cons_self) with e | m
      · exact e
      · rcases List.mem_cons.mp ((h b).mpr List.mem_cons_self) with e | m'
        · exact e.symm
        · exact absurd (tr _ _ _ (hb1 a m) (ha1 b m')) (irr b)
    subst e
    have t : as = bs := uniq_sorted irr tr ha2 hb2 fun x => ⟨fun m => by
      rcases List.mem_cons.mp ((h x).mp (List.mem_cons_of_mem _ m)) with e | m'
      · rw [e] at m; exact absurd (ha1 a m) (irr a)
      · exact m', fun m => by
      rcases List.mem_cons.mp ((h x).mpr (List.mem_cons_of_mem _ m)) with e | m'
      · rw [e] at m; exact absurd (hb1 a m) (irr a)
      · exact m'⟩
    rw [t]
end
def ltP (p q : Pr) : Prop := p.1 < q.1 ∨ (p.1 = q.1 ∧ p.2 < q.2)
theorem ltP_irr (a : Pr) : ¬ ltP a a := fun h => by
  rcases h with h | ⟨_, h⟩ <;> omega
theorem ltP_tr (a b c : Pr) (h : ltP a b) (k : ltP b c) : ltP a c := by
  unfold ltP at *
  omega
theorem ltP_iff {p q : Pr} : lexB p q = true ↔ ltP p q := lexB_iff
theorem ltP_tot {p q : Pr} (h : ¬ ltP q p) (n : p ≠ q) : ltP p q := by
  obtain ⟨a, b⟩ := p
  obtain ⟨c, d⟩ := q
  unfold ltP at *
  by_cases e : a = c
  · by_cases e2 : b = d
    · exact absurd (by rw [e, e2]) n
    · simp only at *
      omega
  · simp only at *
    omega
/-- sorted, no two alike -/
def Sor (ps : List Pr) : Prop := ps.Pairwise ltP
theorem Sor.nodup {ps : List Pr} (h : Sor ps) : ps.Nodup := List.Pairwise.imp (S := fun a b => a ≠ b) (fun {a b} l (e : a = b) => ltP_irr a (by rw [← e] at l; exact l)) h
theorem sor_uniq {as bs : List Pr} (h : Sor as) (k : Sor bs) (e : ∀ x, x ∈ as ↔ x ∈ bs) : as = bs := uniq_sorted ltP_irr ltP_tr h k e
theorem sor_of {ys : List Pr} (h : ys.Pairwise fun p q => lexB q p = false) (n : ys.Nodup) : Sor ys := by
  induction ys with
  | nil => exact .nil
  | cons a r ih =>
    obtain ⟨h1, h2⟩ := List.pairwise_cons.mp h
    obtain ⟨n1, n2⟩ := List.nodup_cons.mp n
    refine List.pairwise_cons.mpr ⟨fun b hb => ltP_tot (fun l => ?_) fun e => n1 (e ▸ hb), ih h2 n2⟩
    have := h1 b hb
    rw [ltP_iff.mpr l] at this
    cases this
def insP (p : Pr) : List Pr → List Pr
  | [] => [p]
  | q :: r => if lexB p q = true then p :: q :: r else q :: insP p r
/-- sorted -/
def srt : List Pr → List Pr
  | [] => []
  | p :: r => insP p (srt r)
theorem insP_perm (p : Pr) : ∀ l, (insP p l).Perm (p :: l)
  | [] => .refl _
  | q :: r => by
    unfold insP
    by_cases h : lexB p q = true
    · rw [if_pos h]
    · rw [if_neg h]
      exact ((insP_perm p r).cons q).trans (.swap p q r)
theorem srt_perm : ∀ ps : List Pr, (srt ps).Perm ps
  | [] => .refl _
  | p :: r => (insP_perm p (srt r)).trans ((srt_perm r).cons p)
theorem srt_mem {ps : List Pr} {x : Pr} : x ∈ srt ps ↔ x ∈ ps := (srt_perm ps).mem_iff
theorem srt_len (ps : List Pr) : (srt ps).length = ps.length := (srt_perm ps).length_eq
theorem insP_sor {p : Pr} : ∀ {l : List Pr}, Sor l → p ∉ l → Sor (insP p l)
  | [], _, _ => List.pairwise_singleton _ _
  | q :: r, h, n => by
    obtain ⟨h1, h2⟩ := List.pairwise_cons.mp h
    unfold insP
    by_cases e : lexB p q = true
    · rw [if_pos e]
      refine List.pairwise_cons.mpr ⟨fun b hb => ?_, h⟩
      rcases List.mem_cons.mp hb with rfl | hb
      · exact ltP_iff.mp e
      · exact ltP_tr _ _ _ (ltP_iff.mp e) (h1 b hb)
    · rw [if_neg e]
      have l : ltP q p := ltP_tot (fun l => e (ltP_iff.mpr l)) fun z => n (by rw [← z]; exact List.mem_cons_self)
      refine List.pairwise_cons.mpr ⟨fun b hb => ?_, insP_sor h2 fun m => n (List.mem_cons_of_mem _ m)⟩
      rcases List.mem_cons.mp ((insP_perm p r).mem_iff.mp hb) with rfl | hb
      · exact l
      · exact h1 b hb
theorem srt_sor : ∀ {ps : List Pr}, ps.Nodup → Sor (srt ps)
  | [], _ => .nil
  | p :: r, n => by
    obtain ⟨n1, n2⟩ := List.nodup_cons.mp n
    exact insP_sor (srt_sor n2) fun m => n1 (srt_mem.mp m)
/-- any sorted arrangement is this one -/
theorem srt_eq {ps ys : List Pr} (n : ps.Nodup) (pm : ys.Perm ps) (h : ys.Pairwise fun p q => lexB q p = false) : ys = srt ps :=
  sor_uniq (sor_of h (pm.nodup_iff.mpr n)) (srt_sor n) fun x => by rw [srt_mem]; exact pm.mem_iff
theorem srt_same {ps qs : List Pr} (n : ps.Nodup) (m : qs.Nodup) (e : ∀ x, x ∈ ps ↔ x ∈ qs) : srt ps = srt qs := sor_uniq (srt_sor n) (srt_sor m) fun x => by rw [srt_mem, srt_mem]; exact e x
theorem srt_id {ps : List Pr} (h : Sor ps) : srt ps = ps := sor_uniq (srt_sor h.nodup) h fun x => srt_mem
end SM

set_option Elab.async false
set_option linter.all false
set_option maxRecDepth 100000
set_option maxHeartbeats 4000000
/-! a < b < c < d as a test. -/
namespace MX
open PySem PySem.Spec PyProof.Rows L2
def tChain3 (r r' r'' : R2) (ta tb tc td : TE) : TT := fun σ H Q => ta σ H fun x H1 => tb σ H1 fun y H2 => r x y H2 fun z H3 => ∃ k, z = .bl k ∧
  if k = true then tc σ H3 fun z' H4 => r' y z' H4 fun v H5 => ∃ k', v = .bl k' ∧ if k' = true then td σ H5 fun u H6 => r'' z' u H6 fun v' H7 => ∃ k'', v' = .bl k'' ∧ Q k'' H7 else Q false H5 else Q false H3
section
variable {X : Cx} {a b c d : Expr} {ta tb tc td : TE} {pos : Pos}
theorem pt_chain3 {op op' op'' : CmpOp} {r r' r'' : R2} (ho : OpR X (compareOp op) r) (ho' : OpR X (compareOp op') r') (ho'' : OpR X (compareOp op'') r'') (ha : PE X a ta) (hb : PE X b tb) (hc : PE X c tc) (hd : PE X d td)
    (hm : lastMarks [op, op', op''] [b, c, d] = false := by with_unfolding_all rfl) : PT X (.Compare a [op, op', op''] [b, c, d] pos) (tChain3 r r' r'' ta tb tc td) := by
  refine ⟨fun pins s σ H Q I h => ?_⟩
  refine isTrue_chain (thn (ha.run pins s σ H _ I h) fun v s1 z => ?_) hm
  obtain ⟨x, H1, I1, r1, q1⟩ := z
  refine test_link (thn (hb.run pins s1 σ H1 _ I1 q1) fun u s2 z => ?_)
  obtain ⟨y, H2, I2, r2, q2⟩ := z
  refine thn (ho pins s2 σ H2 x y v u _ I2 r1 r2 q2) fun e s3 z => ?_
  obtain ⟨z, H3, I3, r3, k, rfl, q3⟩ := z
  cases r3
  refine wpAny_truthy_bool ?_
  cases k with
  | false => exact ite_ff ⟨H3, I3, q3⟩
  | true =>
    refine ite_tt (test_link (thn (hc.run pins s3 σ H3 _ I3 q3) fun w4 s4 z => ?_))
    obtain ⟨y4, H4, I4, r4, q4⟩ := z
    refine thn (ho' pins s4 σ H4 y y4 u w4 _ I4 r2 r4 q4) fun e s5 z => ?_
    obtain ⟨z, H5, I5, r5, k, rfl, q5⟩ := z
    cases r5
    refine wpAny_truthy_bool ?_
    cases k with
    | false => exact ite_ff ⟨H5, I5, q5⟩
    | true =>
      refine ite_tt (test_last (thn (hd.run pins s5 σ H5 _ I5 q5) fun w6 s6 z => ?_))
      obtain ⟨y6, H6, I6, r6, q6⟩ := z
      refine thn (ho'' pins s6 σ H6 y4 y6 w4 w6 _ I6 r4 r6 q6) fun e s7 z => ?_
      obtain ⟨z, H7, I7, r7, k, rfl, q7⟩ := z
      cases r7
      exact wpAny_truthy_bool ⟨H7, I7, q7⟩
/-- 0 <= i < j <= m, whole numbers -/
theorem chain3_go {i j m : Int} {x y z : Nat} {σ : L2.St} {H : Hp} {Q : Bool → Hp → Prop} (hx : σ[x]? = some (some (.int i))) (hy : σ[y]? = some (some (.int j))) (hz : σ[z]? = some (some (.int m))) (k : Q (decide (0 ≤ i ∧ i < j ∧ j ≤ m)) H) :
    tChain3 (rI0 fun i j => V.bl (decide (i ≤ j))) (rI0 fun i j => V.bl (decide (i < j))) (rI0 fun i j => V.bl (decide (i ≤ j))) (tC (.int 0)) (tVar x) (tVar y) (tVar z) σ H Q := by
  refine ⟨.int i, hx, 0, i, rfl, rfl, _, rfl, ?_⟩
  by_cases h1 : 0 ≤ i
  · rw [if_pos (decide_eq_true h1)]
    refine ⟨.int j, hy, i, j, rfl, rfl, _, rfl, ?_⟩
    by_cases h2 : i < j
    · rw [if_pos (decide_eq_true h2)]
      refine ⟨.int m, hz, j, m, rfl, rfl, _, rfl, ?_⟩
      rw [show decide (j ≤ m) = decide (0 ≤ i ∧ i < j ∧ j ≤ m) from by simp [h1, h2]]
      exact k
    · rw [if_neg (by rw [decide_eq_false h2]; exact Bool.false_ne_true)]
      rw [show decide (0 ≤ i ∧ i < j ∧ j ≤ m) = false from decide_eq_false fun z => h2 z.2.1] at k
      exact k
  · rw [if_neg (by rw [decide_eq_false h1]; exact Bool.false_ne_true)]
    rw [show decide (0 ≤ i ∧ i < j ∧ j ≤ m) = false from decide_eq_false fun z => h1 z.1] at k
    exact k
end
end MX

set_option Elab.async false
set_option linter.all false
set_option maxRecDepth 100000
set_option maxHeartbeats 4000000
namespace K12
open PySem PySem.Spec PyProof.Rows L2 MX NZ SM
/-- the pair p stands as a tuple -/
def PrAt (H : Hp) (p : Pr) (v : V) : Prop := ∃ a, v = .ref a ∧ H a = some (.tup [.int p.1, .int p.2])
def PrsAt (H : Hp) (ps : List Pr) (vs : List V) : Prop := Paired (PrAt H) ps vs
theorem PrAt.same {H H' : Hp} {p : Pr} {v : V} (h : PrAt H p v) (s : Same H H') : PrAt H' p v := by
  obtain ⟨a, e, h⟩ := h
  exact ⟨a, e, s _ _ h⟩
theorem PrsAt.same {H H' : Hp} (s : Same H H') : ∀ {ps : List Pr} {vs : List V}, PrsAt H ps vs → PrsAt H' ps vs
  | _, _, .nil => .nil
  | _, _, .cons a t => .cons (a.same s) (PrsAt.same s t)
theorem PrsAt.len {H : Hp} {ps : List Pr} {vs : List V} (h : PrsAt H ps vs) : vs.length = ps.length := (Paired.length h).symm
theorem PrsAt.get {H : Hp} : ∀ {ps : List Pr} {vs : List V}, PrsAt H ps vs → ∀ {i : Nat} {v : V}, vs[i]? = some v → ∃ p, ps[i]? = some p ∧ PrAt H p v
  | _, _, .nil, i, v, h => by simp at h
  | p :: _, _, .cons a t, 0, v, h => by
    cases h
    exact ⟨p, rfl, a⟩
  | _, _, .cons a t, i + 1, v, h => PrsAt.get t h
theorem same_sqt {K : W.Frag} {H H' : Hp} {a : Addr} {xs : List V} (e : Same H H') (h : SqT K H a xs) : SqT K H' a xs := by
  rcases h with (h | ⟨o, h⟩) | h
  · exact .inl (.inl (e _ _ h))
  · exact .inl (.inr ⟨o, e _ _ h⟩)
  · exact .inr h
theorem same_sqs {K : W.Frag} {H H' : Hp} {tp : Bool} {a : Addr} {xs : List V} (e : Same H H') (h : SqS K H tp a xs) : SqS K H' tp a xs := by
  cases tp with
  | true => exact same_sqt e h
  | false => exact Same.seq e h
theorem prs_refs {H H' : Hp} (s : Same H H') : ∀ {ys : List Pr} {bs : List Addr}, Paired (fun (y : Int × Int) b => H b = some (.tup [.int y.1, .int y.2])) ys bs → PrsAt H' ys (bs.map V.ref)
  | _, _, .nil => .nil
  | _, _, .cons e t => .cons ⟨_, rfl, s _ _ e⟩ (prs_refs s t)
theorem take_succ_of {α : Type} {l : List α} {i : Nat} {x : α} (h : l[i]? = some x) : l.take (i + 1) = l.take i ++ [x] := by rw [List.take_succ, h]; rfl
/-- a jump between the places of a stair of n steps -/
def okJ (n : Int) (p : Pr) : Prop := 0 ≤ p.1 ∧ p.1 < p.2 ∧ p.2 ≤ n + 1
theorem kP_inj {p q : Pr} (h : kP p = kP q) : p = q := by
  obtain ⟨a, b⟩ := p
  obtain ⟨c, d⟩ := q
  simp only [kP, List.cons.injEq, Sum.inl.injEq, and_true] at h
  rw [h.1, h.2]
def kvsJ (ps : List Pr) : List (List Key × V) := ps.map fun p => (kP p, V.bl true)
theorem valV_new {p : Pr} : ∀ {ps : List Pr}, p ∉ ps → valV (kvsJ ps) (kP p) = none
  | [], _ => rfl
  | q :: r, h => by
    have n : kP q ≠ kP p := fun e => h (by rw [kP_inj e]; exact List.mem_cons_self)
    have t := valV_new (ps := r) fun m => h (List.mem_cons_of_mem _ m)
    simp only [kvsJ, List.map_cons] at t ⊢
    simp [valV, n] at t ⊢
    exact t
theorem putK_new {p : Pr} {ps : List Pr} (h : p ∉ ps) : putK (kvsJ ps) (kP p) (V.bl true) = kvsJ (ps ++ [p]) := by
  unfold putK
  rw [if_neg]
  · simp [kvsJ]
  · intro z
    obtain ⟨kv, hm, e⟩ := List.any_eq_true.mp z
    obtain ⟨q, hq, rfl⟩ := List.mem_map.mp hm
    exact h (by rw [← kP_inj (of_decide_eq_true e)]; exact hq)
section
variable {P : Program} {w : World} {K : W.Frag} {mg : Str → Option Value} {base : Heap}
theorem kt_tt : kitB "tuple" "tuple" = some true := by decide +kernel
theorem kt_ii : kitB "int" "int" = some true := by decide +kernel
theorem notis_go {U T : String} {i : Nat} {x : V} {σ : L2.St} {H : Hp} {Q : Bool → Hp → Prop} (hx : σ[i]? = some (some x)) (kd : Kd K H x U) (e : kitB U T = some true) (k : Q false H) : tNot (tB (tCB (rIsi K) (tCons (tVar i) (tCons (tC (.ty T)) tNil)))) σ H Q := is_go hx kd e ⟨true, rfl, k⟩
theorem isb_go {i : Nat} {x : V} {b neg : Bool} {σ : L2.St} {H : Hp} {Q : Bool → Hp → Prop} (hx : σ[i]? = some (some x)) (k : Q (isB x b != neg) H) : tTest (tOp (rIsBx neg) (tVar i) (tC (.bl b))) σ H Q := ⟨x, hx, b, rfl, _, rfl, k⟩
theorem seq_if {c : TT} {t u r : TS} {D : Ends} {σ : L2.St} {H : Hp} (h : c σ H fun b H1 => if b = true then t { D with nx := r D } σ H1 else u { D with nx := r D } σ H1) : tSeq (tIfS c t u) r D σ H := h
/-- a test that is not met, ahead of a raise -/
theorem guard {c : TT} {r : TS} {D : Ends} {σ : L2.St} {H : Hp} (h : c σ H fun b H1 => if b = true then False else r D σ H1) : tSeq (tIfS c tNever tNext) r D σ H := h
theorem or_go {a b : TT} {σ : L2.St} {H : Hp} {Q : Bool → Hp → Prop} (h : a σ H fun c H1 => if c = true then Q true H1 else b σ H1 Q) : tOr a b σ H Q := h
theorem kd_tup {H : Hp} {a : Addr} {xs : List V} (e : H a = some (.tup xs)) : Kd K H (.ref a) "tuple" := ⟨by decide, .base (.tup e)⟩
theorem kd_lst {H : Hp} {a : Addr} {xs : List V} (e : H a = some (.lst xs)) : Kd K H (.ref a) "list" := ⟨by decide, .base (.lst e)⟩
/-- sorted_jumps(n, jumps), right -/
def spSorted (K : W.Frag) : Sp := fun vs H Q _ => ∃ (n : Int) (a : Addr) (tp : Bool) (xs : List V) (ps : List Pr), vs = [.int n, .ref a] ∧ SqS K H tp a xs ∧ Kd K H (.ref a) (if tp then "tuple" else "list") ∧ PrsAt H ps xs ∧ (∀ p ∈ ps, okJ n p) ∧ ps.Nodup ∧ ps.length ≤ 1000 ∧
  ∀ H' l ys, Same H H' → H l = none → H' l = some (.lst ys) → PrsAt H' (srt ps) ys → Q (.ref l) H'
theorem scSorted : FnScope ["steps", "jumps", "head", "ahead", "at", "jump", "i", "j"] ["steps", "jumps"] (defScope sSorted) := ⟨rfl, rfl, rfl, by decide +kernel, rfl, by decide +kernel, by decide +kernel⟩
theorem ok_sorted {f fL : Addr} {fd fdL : FuncData} (F : Fun K "sorted_jumps" "sorted_jumps" sSorted f fd) (B : Bl mg) (B2 : Bl2 mg)
    (GL : FnOk P w K mg base CX0 1 fL fdL ["value"] (spIsList K)) (kL : W.keepIn K (.ref fL) = true) (bL : Binds K fdL ["value"] []) (mL : mg "is_list" = some (.ref fL)) : FnOk P w K mg base CX0 2 f fd ["steps", "jumps"] (spSorted K) := by
  refine F.ok scSorted (fun vs H Q E h => ?_) (fun cdv A outer s H vs Q E hr h => ?_)
  · obtain ⟨n, a, tp, xs, ps, rfl, _⟩ := h
    rfl
  · obtain ⟨n, a, tp, xs, ps, rfl, sq, kd, pr, ok, nd, ln, k⟩ := h
    have hu := hu_of hr
    refine ⟨_, pss_cons (ps_if (pt_not (pt_val (pe_call GL hr (by rfl) mL kL bL .nil pass0 (pa_cons (pv 1) pa_nil)))) pss_never pss_nil)
      (pss_cons (ps_set (i := 2) scSorted.nd rfl (.inl rfl) (pe_op op_add (pv 0) pe_int))
      (pss_cons (ps_set (i := 3) scSorted.nd rfl (.inl rfl) pe_dnewT)
      (pss_cons (ps_for PassesOwn.never rfl (pi_enumS (by rfl) B.enumerate (pa_cons (pv 1) pa_nil)) (pg_tup rfl (pgs_cons (pg_name (i := 4) scSorted.nd rfl (.inl rfl)) (pgs_cons (pg_name (i := 5) scSorted.nd rfl (.inl rfl)) pgs_nil)))
        (pss_cons (ps_if (pw_or (pt_not (pt_val (pe_isT 5 (by rfl) B.isinstance (by rfl) B2.tuple bt_tuple))) (pw_or1 (pt_cmpR op_ne (pe_callB call_len_seq (by rfl) B.len PySem.boot_len (pa_cons (pv 5) pa_nil)) pe_int (nomark _)))).pt pss_never pss_nil)
        (pss_cons (ps_asg (pv 5) (pg_tup rfl (pgs_cons (pg_name (i := 6) scSorted.nd rfl (.inl rfl)) (pgs_cons (pg_name (i := 7) scSorted.nd rfl (.inl rfl)) pgs_nil))))
        (pss_cons (ps_if (pw_or (pt_not (pt_val (pe_isT 6 (by rfl) B.isinstance (by rfl) B.int bt_int))) (pw_or (pt_not (pt_val (pe_isT 7 (by rfl) B.isinstance (by rfl) B.int bt_int))) (pw_or (pt_cmpR op_isBx (pv 6) pe_bl (nomark _)) (pw_or (pt_cmpR op_isBx (pv 6) pe_bl (nomark _)) (pw_or1 (pt_cmpR op_isBx (pv 7) pe_bl (nomark _))))))).pt pss_never pss_nil)
        (pss_cons (ps_if (pw_or (pt_not (pt_chain3 op_le op_lt op_le pe_int (pv 6) (pv 7) (pv 2))) (pw_or1 (pt_cmp (pc_din hu (pv 5) (pv 3))))).pt pss_never pss_nil)
        (pss_one (ps_dput hu (pv 3) (pe_tup (pa_cons (pv 6) (pa_cons (pv 7) pa_nil))) pe_bl rfl)))))))
      (pss_one (ps_ret (pe_callB (call_sortedDT rfl) (by rfl) B2.sorted (by decide +kernel) (pa_cons (pv 3) pa_nil))))))), ?_⟩
    refine ⟨_, rfl, _, _, rfl, kd, fun H1 s1 => ⟨true, by cases tp <;> rfl, ?_⟩⟩
    show if (!true) = true then _ else _
    rw [if_neg (by decide)]
    refine ⟨_, rfl, _, _, rfl, rfl, fun d hd => ?_⟩
    have sN : Same H (upd H1 d (.dT [])) := s1.trans (Same.new hd)
    have hd0 : H d = none := s1.free hd
    refine ⟨_, rfl, a, xs, tp, rfl, same_sqs sN sq, for_it walk_enumS (fun i σ H' => (∃ s4 s5 s6 s7, σ = [some (.int n), some (.ref a), some (.int (n + 1)), some (.ref d), s4, s5, s6, s7]) ∧ Same H H' ∧ H' d = some (.dT (kvsJ (ps.take i)))) ⟨⟨_, _, _, _, rfl⟩, sN, upd_same⟩
      (fun i σ H' _ h => same_sqs h.2.1 sq) (fun i v σ H2 H3 hi inv y => ?_) fun σ H' h => ?_⟩
    · obtain ⟨⟨s4, s5, s6, s7, rfl⟩, sm, hdi⟩ := inv
      obtain ⟨T, x1, x2, rfl, hT, rfl, hx1, hx2⟩ := y
      cases hx1
      obtain ⟨p, hp, b, rfl, hb⟩ := pr.get hx2
      have st : Same H2 (upd H2 T (.tup [.int (i : Nat), .ref b])) := Same.new hT
      have smT := sm.trans st
      have hlt : i < ps.length := by rw [← pr.len]; exact hi
      have hbT := smT _ _ hb
      obtain ⟨o1, o2, o3⟩ := ok p (List.mem_of_getElem? hp)
      refine ⟨T, _, rfl, SqT.of upd_same, rfl, _, _, rfl, _, _, rfl, rfl, ?_⟩
      refine guard (or_go ?_)
      refine notis_go (by rfl) (kd_tup hbT) kt_tt ?_
      refine iteF ?_
      refine ⟨_, rfl, b, _, rfl, .inr (SqT.of hbT), rfl, _, rfl, ?_⟩
      show if decide (V.int ((2 : Nat) : Int) ≠ V.int 2) = true then _ else _
      rw [if_neg (by simp)]
      refine ⟨_, rfl, b, _, rfl, SqT.of hbT, rfl, _, _, rfl, _, _, rfl, rfl, ?_⟩
      dsimp only
      refine guard (or_go ?_)
      refine notis_go (by rfl) kd_mk kt_ii ?_
      refine iteF (or_go ?_)
      refine notis_go (by rfl) kd_mk kt_ii ?_
      refine iteF (or_go ?_)
      refine isb_go (by rfl) ?_
      refine iteF (or_go ?_)
      refine isb_go (by rfl) ?_
      refine iteF ?_
      refine isb_go (by rfl) ?_
      refine iteF ?_
      refine guard (or_go ?_)
      refine chain3_go (i := p.1) (j := p.2) (m := n + 1) (by rfl) (by rfl) (by rfl) ?_
      rw [decide_eq_true (show 0 ≤ p.1 ∧ p.1 < p.2 ∧ p.2 ≤ n + 1 from ⟨o1, o2, o3⟩)]
      refine iteF ?_
      have np : p ∉ ps.take i := fun m => by
        obtain ⟨j, hj, e⟩ := List.getElem_of_mem m
        rw [List.getElem_take] at e
        have lj : j < i := by rw [List.length_take] at hj; omega
        have hp' := (List.getElem?_eq_some_iff.mp hp).2
        have := (List.getElem_inj nd (i := j) (j := i)).mp (by rw [e]; exact hp'.symm)
        omega
      have hdT := st _ _ hdi
      refine ⟨_, rfl, _, rfl, d, none, rfl, ?_, ?_⟩
      · have g := DGet.t (k := kP p) hdT hbT
        rw [valV_new np] at g
        exact g
      refine ⟨false, rfl, iteF ?_⟩
      refine ⟨_, rfl, _, rfl, _, rfl, Nat.le_of_lt (small1000 (show 2 ≤ 1000 by decide)), fun t ht => ⟨d, _, rfl, DPut.t (k := kP p) (Same.new ht _ _ hdT) upd_same (small1000 (by rw [kvsJ, List.length_map, List.length_take]; omega)), ⟨_, _, _, _, rfl⟩, fun c o e => ?_, ?_⟩⟩
      · rw [upd_ne (ne_of_none e hd0)]
        exact Same.new ht _ _ (smT _ _ e)
      · rw [upd_same, putK_new np, take_succ_of hp]
    · obtain ⟨⟨s4, s5, s6, s7, rfl⟩, sm, hdi⟩ := h
      rw [show xs.length = ps.length from pr.len, List.take_length] at hdi
      refine ⟨_, rfl, d, kvsJ ps, ps, rfl, .inl hdi, ?_, fun bs ys l pm so at_ nl => ?_⟩
      · simp [kvsJ, kP]
      · have sl : Same H' (upd H' l (.lst (bs.map V.ref))) := Same.new nl
        refine k _ l _ (sm.trans sl) (sm.free nl) upd_same ?_
        rw [← srt_eq nd pm (by exact so)]
        exact prs_refs sl at_
end
end K12

set_option Elab.async false
set_option linter.all false
set_option maxRecDepth 100000
set_option maxHeartbeats 4000000
namespace MX
open PySem PySem.Spec PyProof.Rows L2
/-- a comprehension of a dict with keys of all kinds, over a walk -/
theorem dm_it {P : Program} {w : World} {J : It} {n : Nat} {G : Hp → Prop} {Y : Nat → Hp → V → Hp → Prop} (wk : Walk J n G Y) {g : TG} {tt : TT} {tk tv : TE} {vs : List Nat} {σ : L2.St} {H1 : Hp} {D : Addr} {Qd : Hp → Prop} (Pv : Nat → Hp → Prop) (h0 : ∀ o, MxAt P w (upd H1 D o) D [] → Pv 0 (upd H1 D o)) (hG : ∀ i H, i ≤ n → Pv i H → G H)
    (hs : ∀ i x H H', i < n → Pv i H → Y i H x H' → g x (wipe σ vs) H' fun σ2 H2 => wipe σ2 vs = wipe σ vs ∧ tt σ2 H2 fun b H3 =>
      if b = true then tk σ2 H3 fun y H4 => tv σ2 H4 fun z H5 => ∃ kvs k, KeyV H5 k y ∧ MxAt P w H5 D kvs ∧ okT k = true ∧ MixV kvs k ∧ hasK kvs k = false ∧ kvs.length < sizeLine ∧ ∀ o, MxAt P w (upd H5 D o) D (kvs ++ [(k, z)]) → Pv (i + 1) (upd H5 D o) else Pv (i + 1) H3) (hd : ∀ H, Pv n H → Qd H) :
    ∃ W : Nat → Nat → Hp → Prop, (∀ o, MxAt P w (upd H1 D o) D [] → ∃ m, W 0 m (upd H1 D o)) ∧ ∀ i m H, W i m H →
      (J.stop i H ∧ Qd H) ∨ (J.go i H ∧ ∃ Nx : Hp → Prop, (∀ H', Nx H' → ∃ m', m' < m ∧ W (i + 1) m' H') ∧ ∀ x H', J.yld i H x H' → g x (wipe σ vs) H' fun σ2 H2 => wipe σ2 vs = wipe σ vs ∧ tt σ2 H2 fun b H3 =>
        if b = true then tk σ2 H3 fun y H4 => tv σ2 H4 fun z H5 => ∃ kvs k, KeyV H5 k y ∧ MxAt P w H5 D kvs ∧ okT k = true ∧ MixV kvs k ∧ hasK kvs k = false ∧ kvs.length < sizeLine ∧ ∀ o, MxAt P w (upd H5 D o) D (kvs ++ [(k, z)]) → Nx (upd H5 D o) else Nx H3) := by
  refine ⟨fun i m H => m = n - i ∧ i ≤ n ∧ Pv i H, fun o mx => ⟨n, by simp, Nat.zero_le _, h0 o mx⟩, ?_⟩
  rintro i m H ⟨rfl, hi, p⟩
  have q := hG i H hi p
  by_cases hlt : i < n
  · refine .inr ⟨wk.goes i H hlt q, Pv (i + 1), fun H' p' => ⟨n - (i + 1), by omega, rfl, hlt, p'⟩, fun x H' y => hs i x H H' hlt p (wk.yields i H x H' hlt q y)⟩
  · have e : i = n := by omega
    subst e
    exact .inl ⟨wk.stops H q, hd H p⟩
end MX
namespace MX
open PySem PySem.Spec PyProof.Rows L2
theorem KeyV.same' {H H' : Hp} {k : TK} {x : V} (e : KeyV H k x) (s : Same H H') : KeyV H' k x := by
  cases k with
  | inl k => exact e
  | inr ks =>
    obtain ⟨b, rfl, t⟩ := e
    exact ⟨b, rfl, s _ _ t⟩
theorem pat_ {α β : Type} {R : α → β → Prop} : ∀ {as : List α} {bs : List β}, Paired R as bs → ∀ {k : Nat} {b : β}, bs[k]? = some b → ∃ a, as[k]? = some a ∧ R a b
  | _, _, .nil, k, b, h => by simp at h
  | a :: _, _, .cons r t, 0, b, h => by
    cases h
    exact ⟨a, rfl, r⟩
  | _, _, .cons r t, k + 1, b, h => pat_ t h
end MX
namespace K12
open PySem PySem.Spec PyProof.Rows L2 MX NZ SM
def thV (n : Int) (ys : List V) : List V := .str "feet" :: (rgV 1 (n + 1) ++ ys)
/-- the things, as keys -/
def thK (n : Int) (ps : List Pr) : List TK := .inl (.inr "feet") :: ((List.range n.toNat).map (fun i => .inl (.inl (1 + (i : Nat)))) ++ ps.map fun p => .inr (kP p))
def tbK (n : Int) (ps : List Pr) : List (TK × V) := (thK n ps).map fun k => (k, V.bl true)
/-- a stair stands at s -/
def StairAt (P : Program) (w : World) (C : Addr) (H : Hp) (s : Addr) (n : Int) (ps : List Pr) : Prop := ∃ dx jl tl tb ys, H s = some (.ins C dx [("_jumps", .ref jl), ("_steps", .int n), ("_things", .ref tl), ("_table", .ref tb)]) ∧
  H jl = some (.lst ys) ∧ PrsAt H ps ys ∧ H tl = some (.lst (thV n ys)) ∧ MxAt P w H tb (tbK n ps)
/-- what a stair is made of -/
structure Parts (n : Int) (ps : List Pr) : Prop where
  n1 : 1 ≤ n
  n2 : n ≤ 10
  ok : ∀ p ∈ ps, okJ n p
  nd : ps.Nodup
  ln : ps.length ≤ 40
theorem Parts.srt {n : Int} {ps : List Pr} (h : Parts n ps) : Parts n (srt ps) := ⟨h.n1, h.n2, fun p m => h.ok p (srt_mem.mp m), (srt_sor h.nd).nodup, by rw [srt_len]; exact h.ln⟩
theorem StairAt.same {P : Program} {w : World} {C s : Addr} {H H' : Hp} {n : Int} {ps : List Pr} (h : StairAt P w C H s n ps) (e : Same H H') : StairAt P w C H' s n ps := by
  obtain ⟨dx, jl, tl, tb, ys, h1, h2, h3, h4, h5⟩ := h
  exact ⟨dx, jl, tl, tb, ys, e _ _ h1, e _ _ h2, h3.same e, e _ _ h4, h5.same e⟩
/-- the heap without the pot -/
def wo (p : Addr) (H : Hp) : Hp := fun b => if b = p then none else H b
theorem wo_ne {p b : Addr} {H : Hp} (h : b ≠ p) : wo p H b = H b := if_neg h
theorem wo_at {p : Addr} {H : Hp} : wo p H p = none := if_pos rfl
theorem wo_same {p : Addr} {H H' : Hp} (s : But p H H') : Same (wo p H) (wo p H') := fun b o e => by
  by_cases h : b = p
  · rw [h, wo_at] at e
    cases e
  · rw [wo_ne h] at e ⊢
    exact s b o h e
theorem wo_sub {p : Addr} {H : Hp} : Same (wo p H) H := fun b o e => by
  by_cases h : b = p
  · rw [h, wo_at] at e
    cases e
  · rw [wo_ne h] at e
    exact e
theorem wo_some {p b : Addr} {H : Hp} {o : HO} (h : H b = some o) (n : b ≠ p) : wo p H b = some o := by rw [wo_ne n]; exact h
/-- what is known of the class Ready -/
structure RdC (K : W.Frag) (mg : Str → Option Value) (R : Addr) : Prop where
  m : mg "Ready" = some (.ref R)
  ic : C8.InsC K R
  np : W.findIn K (.ref R) "part" = some none
  kl : W.kitOne K (.type "list") (.ref R) = some false
  kt : W.kitOne K (.type "tuple") (.ref R) = some false
section
variable {P : Program} {w : World} {K : W.Frag} {mg : Str → Option Value} {base : Heap}
theorem PrAt.but {s C dx : Addr} {fs : List (Str × V)} {H H' : Hp} {p : Pr} {v : V} (h : PrAt H p v) (hs : H s = some (.ins C dx fs)) (b : But s H H') : PrAt H' p v := by
  obtain ⟨a, e, h⟩ := h
  exact ⟨a, e, b _ _ (ne_of h hs nofun) h⟩
theorem PrsAt.but {s C dx : Addr} {fs : List (Str × V)} {H H' : Hp} (hs : H s = some (.ins C dx fs)) (b : But s H H') : ∀ {ps : List Pr} {vs : List V}, PrsAt H ps vs → PrsAt H' ps vs
  | _, _, .nil => .nil
  | _, _, .cons a t => .cons (a.but hs b) (PrsAt.but hs b t)
theorem mx_but {s C dx D : Addr} {fs : List (Str × V)} {H H' : Hp} {kvs : List (TK × V)} (m : MxAt P w H D kvs) (hs : H s = some (.ins C dx fs)) (b : But s H H') : MxAt P w H' D kvs := by
  obtain ⟨m1, m2, es0, pr, e⟩ := m
  refine ⟨m1, m2, es0, Paired.mapP pr fun p q x => ⟨x.1, ?_, x.2.2⟩, b _ _ (ne_of e hs nofun) e⟩
  have kx := x.2.1
  revert kx
  cases q.1 with
  | inl k => exact fun e => e
  | inr ks =>
    rintro ⟨c, e, t⟩
    exact ⟨c, e, b _ _ (ne_of t hs nofun) t⟩
theorem but_upd {s : Addr} {H : Hp} {o : HO} : But s H (upd H s o) := fun b u n e => by rw [upd_ne n]; exact e
def spReady (R : Addr) : Sp := fun vs H Q _ => ∃ r dr v, vs = [.ref r, v] ∧ H r = some (.ins R dr []) ∧ Q .non (upd H r (.ins R dr [("part", v)]))
theorem scReady : FnScope ["self", "part"] ["self", "part"] (defScope sReady) := ⟨rfl, rfl, rfl, by decide +kernel, rfl, by decide +kernel, by decide +kernel⟩
theorem ok_ready {f R : Addr} {fd : FuncData} (F : Fun K "__init__" "Ready.__init__" sReady f fd) (T : RdC K mg R) : FnOk P w K mg base CX0 1 f fd ["self", "part"] (spReady R) := by
  refine F.ok scReady (fun vs H Q E h => ?_) (fun cdv A outer s H vs Q E hr h => ?_)
  · obtain ⟨r, dr, v, rfl, _⟩ := h
    rfl
  · obtain ⟨r, dr, v, rfl, hR, k⟩ := h
    refine ⟨_, pss_one (ps_fld (pv 0) (pv 1) rfl), ?_⟩
    exact ⟨_, rfl, _, rfl, r, R, dr, [], rfl, hR, T.ic.cl, T.np, by decide, k⟩
/-- the pair that stands there -/
def kAt (H : Hp) : V → Int × Int
  | .ref t => match H t with
    | some (.tup [.int i, .int j]) => (i, j)
    | _ => (0, 0)
  | _ => (0, 0)
theorem kAt_pr {H : Hp} {p : Pr} {v : V} (h : PrAt H p v) : kAt H v = p := by
  obtain ⟨a, rfl, e⟩ := h
  simp [kAt, e]
theorem prs_k {H : Hp} : ∀ {ps : List Pr} {xs : List V}, PrsAt H ps xs → xs.map (kAt H) = ps
  | _, _, .nil => rfl
  | _, _, .cons a t => by rw [List.map_cons, kAt_pr a, prs_k t]
theorem prs_of {H : Hp} : ∀ {ys : List V}, (∀ y ∈ ys, ∃ p, PrAt H p y) → PrsAt H (ys.map (kAt H)) ys
  | [], _ => .nil
  | y :: r, h => by
    obtain ⟨p, hp⟩ := h y List.mem_cons_self
    refine .cons ?_ (prs_of fun z m => h z (List.mem_cons_of_mem _ m))
    rw [kAt_pr hp]
    exact hp
theorem PrsAt.mem {H : Hp} : ∀ {ps : List Pr} {xs : List V}, PrsAt H ps xs → ∀ x ∈ xs, ∃ p, PrAt H p x
  | _, _, .nil, x, m => nomatch m
  | _, _, .cons a t, x, m => by
    rcases List.mem_cons.mp m with rfl | m
    · exact ⟨_, a⟩
    · exact PrsAt.mem t x m
theorem sortedP_go {H : Hp} {a : Addr} {xs : List V} {ps : List Pr} {Q : VK} (sq : SqL K H a xs) (pr : PrsAt H ps xs) (nd : ps.Nodup) (k : ∀ ys p, PrsAt H (srt ps) ys → H p = none → Q (.ref p) (upd H p (.lst ys))) : rSortedPO K [.ref a] H Q := by
  refine ⟨a, xs, kAt H, rfl, sq, fun x m => ?_, fun ys p so st hn => k ys p ?_ hn⟩
  · obtain ⟨q, hq⟩ := pr.mem x m
    have e := kAt_pr hq
    obtain ⟨t, rfl, ht⟩ := hq
    exact ⟨t, rfl, by rw [e]; exact ht⟩
  · have pm : (ys.map (kAt H)).Perm ps := by rw [← prs_k pr]; exact st.perm.map _
    have e : ys.map (kAt H) = srt ps := srt_eq nd pm (List.pairwise_map.mpr so)
    rw [← e]
    exact prs_of fun y m => pr.mem y (st.perm.mem_iff.mp m)
theorem room100 {n : Nat} {A : Around} (r : Room n A) : A.units + 64 < cLine := r.units
theorem mem_rgK {n : Nat} {k : TK} : k ∈ (List.range n).map (fun i => (.inl (.inl (1 + (i : Nat))) : TK)) ↔ ∃ i, i < n ∧ k = .inl (.inl (1 + (i : Nat))) := by
  rw [List.mem_map]
  exact ⟨fun ⟨i, h, e⟩ => ⟨i, List.mem_range.mp h, e.symm⟩, fun ⟨i, h, e⟩ => ⟨i, List.mem_range.mpr h, e.symm⟩⟩
theorem mem_thK {n : Int} {ps : List Pr} {k : TK} : k ∈ thK n ps ↔ k = .inl (.inr "feet") ∨ (∃ i : Nat, i < n.toNat ∧ k = .inl (.inl (1 + (i : Nat)))) ∨ ∃ p ∈ ps, k = .inr (kP p) := by
  unfold thK
  rw [List.mem_cons, List.mem_append, mem_rgK, List.mem_map]
  refine or_congr Iff.rfl (or_congr Iff.rfl ⟨fun ⟨p, h, e⟩ => ⟨p, h, e.symm⟩, fun ⟨p, h, e⟩ => ⟨p, h, e.symm⟩⟩)
theorem nodup_rgK (n : Nat) : ((List.range n).map (fun i => (.inl (.inl (1 + (i : Nat))) : TK))).Nodup := by
  refine List.pairwise_map.mpr (List.Pairwise.imp (R := fun a b => a ≠ b) (S := fun a b => (.inl (.inl (1 + (a : Nat))) : TK) ≠ .inl (.inl (1 + (b : Nat)))) (fun {a b} h => fun e => h ?_) List.nodup_range)
  injection e with e
  injection e with e
  omega
theorem nodup_prK {ps : List Pr} (nd : ps.Nodup) : (ps.map (fun p => (.inr (kP p) : TK))).Nodup := by
  refine List.pairwise_map.mpr (List.Pairwise.imp (R := fun a b => a ≠ b) (S := fun a b => (.inr (kP a) : TK) ≠ .inr (kP b)) (fun {a b} h => fun e => h ?_) nd)
  injection e with e
  exact kP_inj e
theorem thK_nodup {n : Int} {ps : List Pr} (nd : ps.Nodup) : (thK n ps).Nodup := by
  unfold thK
  refine List.nodup_cons.mpr ⟨fun m => ?_, List.nodup_append.mpr ⟨nodup_rgK _, nodup_prK nd, fun a ha b hb e => ?_⟩⟩
  · rcases List.mem_append.mp m with m | m
    · obtain ⟨i, _, e⟩ := mem_rgK.mp m
      injection e with e
      cases e
    · obtain ⟨p, _, e⟩ := List.mem_map.mp m
      cases e
  · obtain ⟨i, _, rfl⟩ := mem_rgK.mp ha
    obtain ⟨p, _, e2⟩ := List.mem_map.mp hb
    rw [← e2] at e
    cases e
theorem feet_ok : okT (.inl (.inr "feet")) = true := by decide +kernel
theorem th_ok {n : Int} {ps : List Pr} {k : TK} (h : k ∈ thK n ps) : okT k = true := by
  rcases mem_thK.mp h with rfl | ⟨i, _, rfl⟩ | ⟨p, _, rfl⟩
  · exact feet_ok
  · rfl
  · rfl
theorem th_keys {H : Hp} {n : Int} {ps : List Pr} {ys : List V} (pr : PrsAt H ps ys) : Paired (KeyV H) (thK n ps) (thV n ys) := by
  refine .cons rfl (papp ?_ ?_)
  · have e : (n + 1 - 1).toNat = n.toNat := by congr 1; omega
    show Paired (KeyV H) _ (rgV 1 (n + 1))
    unfold rgV
    rw [e]
    generalize List.range n.toNat = l
    induction l with
    | nil => exact .nil
    | cons a r ih => exact .cons rfl ih
  · clear n
    induction pr with
    | nil => exact .nil
    | cons a t ih => exact .cons a ih
theorem th_mix {n : Int} {ps : List Pr} {i : Nat} {k : TK} (h : (thK n ps)[i]? = some k) : MixV ((tbK n ps).take i) k := fun tx => by
  cases i with
  | zero => exact .inl rfl
  | succ i =>
    exfalso
    have m : k ∈ (List.range n.toNat).map (fun i => (.inl (.inl (1 + (i : Nat))) : TK)) ++ ps.map (fun p => (.inr (kP p) : TK)) := List.mem_of_getElem? (i := i) (by simpa [thK] using h)
    rcases List.mem_append.mp m with m | m
    · obtain ⟨j, _, rfl⟩ := mem_rgK.mp m
      cases tx
    · obtain ⟨p, _, rfl⟩ := List.mem_map.mp m
      cases tx
theorem th_new {n : Int} {ps : List Pr} {i : Nat} {k : TK} (nd : ps.Nodup) (h : (thK n ps)[i]? = some k) : hasK ((tbK n ps).take i) k = false := by
  unfold hasK
  rw [List.any_eq_false]
  intro x hx
  unfold tbK at hx
  rw [← List.map_take] at hx
  obtain ⟨q, hq, rfl⟩ := List.mem_map.mp hx
  simp only [decide_eq_true_eq]
  intro e
  subst e
  obtain ⟨j, hj, e⟩ := List.getElem_of_mem hq
  rw [List.getElem_take] at e
  have lj : j < i := by rw [List.length_take] at hj; omega
  obtain ⟨hi, e2⟩ := List.getElem?_eq_some_iff.mp h
  have := (List.getElem_inj (thK_nodup (n := n) nd) (i := j) (j := i)).mp (by rw [e]; exact e2.symm)
  omega
theorem thK_len (n : Int) (ps : List Pr) : (thK n ps).length = n.toNat + ps.length + 1 := by
  simp [thK]
theorem stair_out {C s b jl tl : Addr} {dx : Addr} {fs : List (Str × V)} {H : Hp} {n : Int} {ps : List Pr} {xs : List V} (h : StairAt P w C H s n ps) (hb : H b = some (.lst xs)) (n1 : jl ≠ b) (n2 : tl ≠ b) (hs : H s = some (.ins C dx fs)) (e1 : fs.lookup ("_jumps" : Str) = some (.ref jl)) (e2 : fs.lookup ("_things" : Str) = some (.ref tl)) : StairAt P w C (wo b H) s n ps := by
  obtain ⟨dx2, jl2, tl2, tb, ys, h1, h2, h3, h4, m1, m2, es0, pr, e⟩ := h
  rw [hs] at h1
  injection h1 with h1
  injection h1 with _ _ h1
  subst h1
  injection e1 with e1
  injection e1 with e1
  injection e2 with e2
  injection e2 with e2
  subst e1 e2
  have t3 : ∀ {ps : List Pr} {vs : List V}, PrsAt H ps vs → PrsAt (wo b H) ps vs := fun {ps vs} pr => by
    induction pr with
    | nil => exact .nil
    | cons a t ih =>
      obtain ⟨c, e, t⟩ := a
      exact .cons ⟨c, e, wo_some t (ne_of t hb nofun)⟩ ih
  refine ⟨dx, jl2, tl2, tb, ys, wo_some hs (ne_of hs hb nofun), wo_some h2 n1, t3 h3, wo_some h4 n2, m1, m2, es0, Paired.mapP pr fun p q z => ⟨z.1, ?_, z.2.2⟩, wo_some e (ne_of e hb nofun)⟩
  have kx := z.2.1
  revert kx
  cases q.1 with
  | inl k => exact fun e => e
  | inr ks =>
    rintro ⟨c, e, t⟩
    exact ⟨c, e, wo_some t (ne_of t hb nofun)⟩
/-- the second argument of Stair(..): pairs, in a list or a tuple, or made ready -/
def ArgJ (K : W.Frag) (R : Addr) (H : Hp) (x : V) (ps : List Pr) : Prop := (∃ r dr l ys, x = .ref r ∧ H r = some (.ins R dr [("part", .ref l)]) ∧ H l = some (.lst ys) ∧ PrsAt H ps ys) ∨
  ∃ a tp xs, x = .ref a ∧ SqS K H tp a xs ∧ Kd K H (.ref a) (if tp then "tuple" else "list") ∧ PrsAt H ps xs
/-- Stair.__init__, right -/
def spInit (P : Program) (w : World) (K : W.Frag) (C R : Addr) : Sp := fun vs H Q _ => ∃ (s dx : Addr) (n : Int) (x : V) (ps : List Pr), vs = [.ref s, .int n, x] ∧ H s = some (.ins C dx []) ∧ ArgJ K R H x ps ∧ Parts n ps ∧
  ∀ H', (∀ b o, b ≠ s → H b = some o → H' b = some o) → StairAt P w C H' s n (srt ps) → (∀ b xs, H b = some (.lst xs) → StairAt P w C (wo b H') s n (srt ps)) → Q .non H'
theorem scInit : FnScope ["self", "steps", "jumps", "thing"] ["self", "steps", "jumps"] (defScope sInit) := ⟨rfl, rfl, rfl, by decide +kernel, rfl, by decide +kernel, by decide +kernel⟩
theorem same_sort {H H1 : Hp} {l : Addr} {o : HO} (s : Same H H1) (n : H1 l = none) : Same H (upd H1 l o) := s.trans (Same.new n)
theorem ok_init {f fS fJ C R : Addr} {fd fdS fdJ : FuncData} (F : Fun K "__init__" "Stair.__init__" sInit f fd) (B : Bl mg) (B2 : Bl2 mg) (S : StC K mg C) (T : RdC K mg R)
    (GS : FnOk P w K mg base CX0 2 fS fdS ["steps"] spSteps) (kS : W.keepIn K (.ref fS) = true) (bS : Binds K fdS ["steps"] []) (mS : mg "check_steps" = some (.ref fS))
    (GJ : FnOk P w K mg base CX0 2 fJ fdJ ["steps", "jumps"] (spSorted K)) (kJ : W.keepIn K (.ref fJ) = true) (bJ : Binds K fdJ ["steps", "jumps"] []) (mJ : mg "sorted_jumps" = some (.ref fJ)) : FnOk P w K mg base CX0 3 f fd ["self", "steps", "jumps"] (spInit P w K C R) := by
  refine F.ok scInit (fun vs H Q E h => ?_) (fun cdv A outer s H vs Q E hr h => ?_)
  · obtain ⟨s, dx, n, x, ps, rfl, _⟩ := h
    rfl
  · obtain ⟨s, dx, n, x, ps, rfl, hs, aj, pt, k⟩ := h
    have hu := hu_of hr
    refine ⟨_, C8.pss_cut (ps_if (pt_val (pe_callB call_isi (by rfl) B.isinstance boot_isinstance (pa_cons (pv 2) (pa_cons (pe_glob (v := .ref R) (by rfl) T.m rfl) pa_nil))))
        (pss_one (ps_fld (pv 0) (pe_callB cr_sortedPO (by rfl) B2.sorted (by decide +kernel) (pa_cons (pe_fld (pv 2) rfl) pa_nil)) rfl))
        (pss_cons (ps_expr (pe_call GS hr (by rfl) mS kS bS .nil pass0 (pa_cons (pv 1) pa_nil)))
        (pss_one (ps_fld (pv 0) (pe_call GJ hr (by rfl) mJ kJ bJ .nil pass0 (pa_cons (pv 1) (pa_cons (pv 2) pa_nil))) rfl))))
      (pss_cons (ps_if (pt_cmpR op_gt (pe_callB call_len_seq (by rfl) B.len PySem.boot_len (pa_cons (pe_fld (pv 0) rfl) pa_nil)) (ClX.pe_cval (pe_glob (v := .ref C) (by rfl) S.m rfl)) (nomark _)) pss_never pss_nil)
      (pss_cons (ps_fld (pv 0) (pv 1) rfl)
      (pss_cons (ps_fld (pv 0) (pe_op op_cat (pe_op op_cat (pe_lst (pa_cons pe_str pa_nil)) (pe_listRg rfl (by rfl) B2.list (prg_2 (by rfl) B.range pe_int (pe_op op_add (pv 1) pe_int)))) (pe_fld (pv 0) rfl)) rfl)
      (pss_one (ps_fld (pv 0) (pe_dm (own := [("thing", 3)]) (g := gName 3) (tt := tYes) hr.units rfl scInit.nd (pi_list (pe_fld (pv 0) rfl)) (blkOk_by (N := ["self", "steps", "jumps", "thing"]) (sc := defScope sInit) (by decide +kernel)) (fun _ _ _ _ _ => pg_name (i := 3) scInit.nd rfl (.inl rfl)) (fun _ _ _ _ _ => pts_nil) (fun _ _ _ _ _ => by exact pv 3) (fun _ _ _ _ _ => by exact pe_bl)) rfl))))), ?_⟩
    refine ⟨fun σ' H' => ∃ H1 jl ys, σ' = [some (.ref s), some (.int n), some x, none] ∧ H jl = none ∧ Same H H1 ∧ H1 jl = some (.lst ys) ∧ PrsAt H1 (srt ps) ys ∧ H1 s = some (.ins C dx []) ∧ H' = upd H1 s (.ins C dx [("_jumps", .ref jl)]), ?_, ?_⟩
    · rcases aj with ⟨r, dr, l, ys, rfl, hR, hl, pr⟩ | ⟨a, tp, xs, rfl, sq, kd, pr⟩
      · refine ⟨_, rfl, .ref r, .ref R, .ref R, .ref R, true, rfl, .own R, .base (.ins hR T.ic.cl T.ic.ha T.ic.hn T.ic.htk T.ic.hm), T.ic.me, true, rfl, iteT ?_⟩
        refine ⟨_, rfl, r, R, dr, _, _, rfl, hR, T.ic.cl, T.np, rfl, ?_⟩
        dsimp only [tNil]
        refine sortedP_go (K := K) (SqL.of hl) pr pt.nd fun ys p pr' hn => ?_
        have sn : Same H (upd H p (.lst ys)) := Same.new hn
        exact ⟨_, rfl, s, C, dx, [], rfl, sn _ _ hs, S.cl, S.nJ, by decide, _, p, ys, rfl, hn, sn, upd_same, pr'.same sn, sn _ _ hs, rfl⟩
      · refine ⟨_, rfl, .ref a, .ref R, _, .ref R, false, rfl, .own R, kd.2, by cases tp <;> first | exact T.kl | exact T.kt, false, rfl, iteF ?_⟩
        refine ⟨_, rfl, n, rfl, pt.n1, pt.n2, ?_⟩
        refine ⟨_, rfl, _, rfl, n, a, tp, xs, ps, rfl, sq, kd, pr, pt.ok, pt.nd, Nat.le_trans pt.ln (by decide), fun H' l ys sm hn hl pr' => ?_⟩
        exact ⟨_, rfl, s, C, dx, [], rfl, sm _ _ hs, S.cl, S.nJ, by decide, _, l, ys, rfl, hn, sm, hl, pr', sm _ _ hs, rfl⟩
    · rintro σ' _ ⟨H1, jl, ys, rfl, hj0, sm, hj, pr, hs1, rfl⟩
      have b1 : But s H (upd H1 s (.ins C dx [("_jumps", .ref jl)])) := Same.but sm but_upd
      have lj : jl ≠ s := ne_of hj hs1 nofun
      have ln : ys.length ≤ 40 := by rw [pr.len, srt_len]; exact pt.ln
      obtain ⟨mc, u1, u2, rd, c1, c2⟩ := S.cs
      refine guard ?_
      refine ⟨_, rfl, s, C, dx, _, _, rfl, upd_same, S.cl, S.nJ, rfl, jl, ys, rfl, .inl (SqL.of (by rw [upd_ne lj]; exact hj)), C, mc, _, u2, rfl, rd, c2, _, _, rfl, rfl, _, rfl, ?_⟩
      rw [decide_eq_false (by omega)]
      refine iteF ?_
      refine ⟨_, rfl, _, rfl, s, C, dx, _, rfl, upd_same, S.cl, S.nS, (by show 1 < 1000; decide), ?_⟩
      rw [upd_upd]
      generalize hH2 : upd H1 s _ = H2
      have b2 : But s H H2 := by rw [← hH2]; exact Same.but sm but_upd
      have b12 : But s H1 H2 := by rw [← hH2]; exact but_upd
      have hs2 : H2 s = some (.ins C dx [("_jumps", .ref jl), ("_steps", .int n)]) := by rw [← hH2, upd_same]; rfl
      have hj2 := b12 _ _ lj hj
      have pr2 : PrsAt H2 (srt ps) ys := pr.but hs1 b12
      refine ⟨by show 1 ≤ sizeLine; decide, fun p hp => ?_⟩
      refine ⟨_, rfl, n, 1, rfl, rfl, 1, n + 1, rfl, rfl, RgOk.of_le (by decide) (by have := pt.n2; omega) (by decide) (by have := pt.n1; omega), fun q hq => ?_⟩
      have sp := Same.new (o := .lst [V.str "feet"]) hp
      have sq := Same.new (o := .lst (rgV 1 (n + 1))) hq
      have rl : (rgV 1 (n + 1)).length ≤ 10 := by rw [rgV_length]; have := pt.n2; omega
      refine ⟨p, q, _, _, rfl, rfl, sq _ _ upd_same, upd_same, ?_, fun p2 hp2 => ?_⟩
      · exact Nat.le_of_lt (small1000 (by simp only [List.length_singleton]; omega))
      have sm2 := (sp.trans sq).trans (Same.new (o := .lst ([V.str "feet"] ++ rgV 1 (n + 1))) hp2)
      generalize hH3 : upd _ p2 _ = H3 at sm2
      have hp3 : H3 p2 = some (.lst ([V.str "feet"] ++ rgV 1 (n + 1))) := by rw [← hH3, upd_same]
      refine ⟨_, rfl, s, C, dx, _, _, rfl, sm2 _ _ hs2, S.cl, S.nJ, rfl, p2, jl, _, _, rfl, rfl, hp3, sm2 _ _ hj2, ?_, fun tl ht => ?_⟩
      · exact Nat.le_of_lt (small1000 (by simp only [List.length_append, List.length_singleton]; omega))
      have sm3 := sm2.trans (Same.new (o := .lst ([V.str "feet"] ++ rgV 1 (n + 1) ++ ys)) ht)
      generalize hH4 : upd H3 tl _ = H4 at sm3
      have ht4 : H4 tl = some (.lst (thV n ys)) := by rw [← hH4, upd_same]; simp [thV]
      have hs4 := sm3 _ _ hs2
      have lt : tl ≠ s := ne_of ht4 hs4 nofun
      refine ⟨_, rfl, s, C, dx, _, rfl, hs4, S.cl, S.nT, (by show 2 < 1000; decide), ?_⟩
      generalize hH5 : upd H4 s _ = H5
      have b5 : But s H4 H5 := by rw [← hH5]; exact but_upd
      have hs5 : H5 s = some (.ins C dx [("_jumps", .ref jl), ("_steps", .int n), ("_things", .ref tl)]) := by rw [← hH5, upd_same]; rfl
      have ht5 := b5 _ _ lt ht4
      have hj5 := b5 _ _ lj (sm3 _ _ hj2)
      have pr5 : PrsAt H5 (srt ps) ys := (pr2.same sm3).but hs4 b5
      have bAll : But s H H5 := (b2.same sm3).trans b5
      have tk := th_keys (n := n) pr5
      refine ⟨_, rfl, s, C, dx, _, _, rfl, hs5, S.cl, S.nT, rfl, tl, rfl, ⟨_, SqL.of ht5⟩, fun D hD => dm_it (walk_list (xs := thV n ys)) (fun i H' => Same H5 H' ∧ MxAt P w H' D ((tbK n (srt ps)).take i)) (fun o mx => ⟨Same.new hD, mx⟩) (fun i H' _ h => Same.seq h.1 (SqL.of ht5)) (fun i x H' H'' hi inv y => ?_) fun H' inv => ?_⟩
      · obtain ⟨sm', mx⟩ := inv
        obtain ⟨rfl, hx⟩ := y
        obtain ⟨kk, hk, kv⟩ := pat_ tk hx
        refine ⟨rfl, ?_⟩
        dsimp only [tYes]
        rw [if_pos rfl]
        refine ⟨x, rfl, _, kk, kv.same' sm', mx, th_ok (List.mem_of_getElem? hk), th_mix hk, th_new (srt_sor pt.nd).nodup hk, ?_, fun o mo => ⟨fun b u e => ?_, ?_⟩⟩
        · rw [List.length_take]
          exact small1000 (by unfold tbK; rw [List.length_map, thK_len, srt_len]; have := pt.n2; have := pt.ln; omega)
        · rw [upd_ne (ne_of_none e hD)]
          exact sm' _ _ e
        · have hk2 : (tbK n (srt ps))[i]? = some (kk, V.bl true) := by unfold tbK; rw [List.getElem?_map, hk]; rfl
          rw [take_succ_of hk2]
          exact mo
      · obtain ⟨sm', mx⟩ := inv
        have el : (thV n ys).length = (tbK n (srt ps)).length := by unfold tbK; rw [List.length_map]; exact (Paired.length tk).symm
        rw [el, List.take_length] at mx
        have hs6 := sm' _ _ hs5
        refine ⟨_, rfl, s, C, dx, _, rfl, hs6, S.cl, S.nB, (by show 3 < 1000; decide), ?_⟩
        have b6 : But s H' (upd H' s (.ins C dx (putF "_table" (.ref D) [("_jumps", .ref jl), ("_steps", .int n), ("_things", .ref tl)]))) := but_upd
        have stN : StairAt P w C (upd H' s (.ins C dx (putF "_table" (.ref D) [("_jumps", .ref jl), ("_steps", .int n), ("_things", .ref tl)]))) s n (srt ps) := ⟨dx, jl, tl, D, ys, upd_same, b6 _ _ lj (sm' _ _ hj5), (pr5.same sm').but hs6 b6, b6 _ _ lt (sm' _ _ ht5), mx_but mx hs6 b6⟩
        refine k _ ((bAll.same sm').trans b6) stN fun b xs hb => ?_
        have nbs : b ≠ s := ne_of hb hs nofun
        have hb6 := (bAll.same sm').trans b6 _ _ nbs hb
        have njb : jl ≠ b := (ne_of_none hb hj0).symm
        have hH3 : H3 b = some (.lst xs) := sm2 _ _ (b2 _ _ nbs hb)
        have ntb : tl ≠ b := (ne_of_none hH3 ht).symm
        exact stair_out stN hb6 njb ntb upd_same rfl rfl
end
end K12

set_option Elab.async false
set_option linter.all false
set_option maxRecDepth 100000
set_option maxHeartbeats 4000000
namespace MX
open PySem PySem.Spec PyProof.Rows L2
/-- a comprehension of a set of ints, over a walk -/
theorem si_it {w : World} {J : It} {n : Nat} {G : Hp → Prop} {Y : Nat → Hp → V → Hp → Prop} (wk : Walk J n G Y) {g : TG} {tt : TT} {te : TE} {vs : List Nat} {σ : L2.St} {H1 : Hp} {D : Addr} {Qd : Hp → Prop} (Pv : Nat → Hp → Prop) (h0 : Pv 0 (upd H1 D (SetO w D (fun _ => false) 0))) (hG : ∀ i H, i ≤ n → Pv i H → G H)
    (hs : ∀ i x H H', i < n → Pv i H → Y i H x H' → g x (wipe σ vs) H' fun σ2 H2 => wipe σ2 vs = wipe σ vs ∧ tt σ2 H2 fun b H3 =>
      if b = true then te σ2 H3 fun y H4 => ∃ (c : Int) (S : Int → Bool) (n : Nat), y = .int c ∧ H4 D = some (SetO w D S n) ∧ n + 1 < scanBound ∧ Pv (i + 1) (upd H4 D (SetO w D (fun j => S j || decide (j = c)) (if S c = true then n else n + 1))) else Pv (i + 1) H3) (hd : ∀ H, Pv n H → Qd H) :
    ∃ W : Nat → Nat → Hp → Prop, (∃ m, W 0 m (upd H1 D (SetO w D (fun _ => false) 0))) ∧ ∀ i m H, W i m H →
      (J.stop i H ∧ Qd H) ∨ (J.go i H ∧ ∃ Nx : Hp → Prop, (∀ H', Nx H' → ∃ m', m' < m ∧ W (i + 1) m' H') ∧ ∀ x H', J.yld i H x H' → g x (wipe σ vs) H' fun σ2 H2 => wipe σ2 vs = wipe σ vs ∧ tt σ2 H2 fun b H3 =>
        if b = true then te σ2 H3 fun y H4 => ∃ (c : Int) (S : Int → Bool) (n : Nat), y = .int c ∧ H4 D = some (SetO w D S n) ∧ n + 1 < scanBound ∧ Nx (upd H4 D (SetO w D (fun j => S j || decide (j = c)) (if S c = true then n else n + 1))) else Nx H3) := by
  refine ⟨fun i m H => m = n - i ∧ i ≤ n ∧ Pv i H, ⟨n, by simp, Nat.zero_le _, h0⟩, ?_⟩
  rintro i m H ⟨rfl, hi, p⟩
  have q := hG i H hi p
  by_cases hlt : i < n
  · exact .inr ⟨wk.goes i H hlt q, Pv (i + 1), fun H' p' => ⟨n - (i + 1), by omega, rfl, hlt, p'⟩, fun x H' y => hs i x H H' hlt p (wk.yields i H x H' hlt q y)⟩
  · have e : i = n := by omega
    subst e
    exact .inl ⟨wk.stops H q, hd H p⟩
end MX
namespace K12
open PySem PySem.Spec PyProof.Rows L2 MX NZ SM
section
variable {P : Program} {w : World} {K : W.Frag} {mg : Str → Option Value} {base : Heap} {C s : Addr} {n : Int} {ps : List Pr} {H : Hp} {σ : L2.St} {i : Nat} {Q : VK}
theorem fld_j (S : StC K mg C) (h : StairAt P w C H s n ps) (hx : σ[i]? = some (some (.ref s))) (k : ∀ jl ys, H jl = some (.lst ys) → PrsAt H ps ys → Q (.ref jl) H) : tFld K (tVar i) "_jumps" σ H Q := by
  obtain ⟨dx, jl, tl, tb, ys, h1, h2, h3, h4, h5⟩ := h
  exact ⟨_, hx, s, C, dx, _, _, rfl, h1, S.cl, S.nJ, rfl, k jl ys h2 h3⟩
theorem fld_s (S : StC K mg C) (h : StairAt P w C H s n ps) (hx : σ[i]? = some (some (.ref s))) (k : Q (.int n) H) : tFld K (tVar i) "_steps" σ H Q := by
  obtain ⟨dx, jl, tl, tb, ys, h1, h2, h3, h4, h5⟩ := h
  exact ⟨_, hx, s, C, dx, _, _, rfl, h1, S.cl, S.nS, rfl, k⟩
theorem fld_t (S : StC K mg C) (h : StairAt P w C H s n ps) (hx : σ[i]? = some (some (.ref s))) (k : ∀ tl ys, H tl = some (.lst (thV n ys)) → PrsAt H ps ys → Q (.ref tl) H) : tFld K (tVar i) "_things" σ H Q := by
  obtain ⟨dx, jl, tl, tb, ys, h1, h2, h3, h4, h5⟩ := h
  exact ⟨_, hx, s, C, dx, _, _, rfl, h1, S.cl, S.nT, rfl, k tl ys h4 h3⟩
theorem fld_b (S : StC K mg C) (h : StairAt P w C H s n ps) (hx : σ[i]? = some (some (.ref s))) (k : ∀ tb, MxAt P w H tb (tbK n ps) → Q (.ref tb) H) : tFld K (tVar i) "_table" σ H Q := by
  obtain ⟨dx, jl, tl, tb, ys, h1, h2, h3, h4, h5⟩ := h
  exact ⟨_, hx, s, C, dx, _, _, rfl, h1, S.cl, S.nB, rfl, k tb h5⟩
def spLen0 (P : Program) (w : World) (C : Addr) : Sp := fun vs H Q _ => ∃ s n ps, vs = [.ref s] ∧ StairAt P w C H s n ps ∧ Q (.int (ps.length : Nat)) H
def spStp (P : Program) (w : World) (C : Addr) : Sp := fun vs H Q _ => ∃ s n ps, vs = [.ref s] ∧ StairAt P w C H s n ps ∧ Q (.int n) H
def spHead (P : Program) (w : World) (C : Addr) : Sp := fun vs H Q _ => ∃ s n ps, vs = [.ref s] ∧ StairAt P w C H s n ps ∧ Q (.int (n + 1)) H
def spJumps (P : Program) (w : World) (C : Addr) : Sp := fun vs H Q _ => ∃ s n ps, vs = [.ref s] ∧ StairAt P w C H s n ps ∧ ∀ l ys, H l = none → PrsAt H ps ys → Q (.ref l) (upd H l (.lst ys))
def spThings (P : Program) (w : World) (C : Addr) : Sp := fun vs H Q _ => ∃ s n ps, vs = [.ref s] ∧ StairAt P w C H s n ps ∧ ∀ l ys, H l = none → PrsAt H ps ys → Q (.ref l) (upd H l (.lst (thV n ys)))
/-- the lengths of jumps, each once -/
def lensOf (ps : List Pr) : List Int := ((List.range 11).map fun k => ((k + 1 : Nat) : Int)).filter fun k => ps.any fun p => decide (p.2 - p.1 = k)
def spLens (P : Program) (w : World) (C : Addr) : Sp := fun vs H Q _ => ∃ s n ps, vs = [.ref s] ∧ StairAt P w C H s n ps ∧ Parts n ps ∧ ∀ H' l, Same H H' → H l = none → H' l = some (.lst ((lensOf ps).map V.int)) → Q (.ref l) H'
def spIter (C : Addr) : Nat → Sp := fun n0 vs H Q _ => ∃ s dx fs jl ys, vs = [.ref s] ∧ H s = some (.ins C dx fs) ∧ fs.lookup ("_jumps" : Str) = some (.ref jl) ∧ H jl = some (.lst ys) ∧ ∀ it, H it = none → n0 ≤ it → Q (.ref it) (upd H it (ItO jl it 0))
abbrev sLen0 : Stmt := mth 13
abbrev sStp : Stmt := mth 3
theorem sc0 {N : List Str} {st : Stmt} (h : FnScope N ["self"] (defScope st)) : FnScope N ["self"] (defScope st) := h
theorem scLen0 : FnScope ["self"] ["self"] (defScope (mth 13)) := ⟨rfl, rfl, rfl, by decide +kernel, rfl, by decide +kernel, by decide +kernel⟩
theorem scStp : FnScope ["self"] ["self"] (defScope (mth 4)) := ⟨rfl, rfl, rfl, by decide +kernel, rfl, by decide +kernel, by decide +kernel⟩
theorem scHead : FnScope ["self"] ["self"] (defScope (mth 5)) := ⟨rfl, rfl, rfl, by decide +kernel, rfl, by decide +kernel, by decide +kernel⟩
theorem scJumps : FnScope ["self"] ["self"] (defScope (mth 6)) := ⟨rfl, rfl, rfl, by decide +kernel, rfl, by decide +kernel, by decide +kernel⟩
theorem scThings : FnScope ["self"] ["self"] (defScope (mth 7)) := ⟨rfl, rfl, rfl, by decide +kernel, rfl, by decide +kernel, by decide +kernel⟩
theorem scLens : FnScope ["self", "i", "j"] ["self"] (defScope (mth 8)) := ⟨rfl, rfl, rfl, by decide +kernel, rfl, by decide +kernel, by decide +kernel⟩
theorem scIter : FnScope ["self"] ["self"] (defScope (mth 15)) := ⟨rfl, rfl, rfl, by decide +kernel, rfl, by decide +kernel, by decide +kernel⟩
theorem ok_len0 {f : Addr} {fd : FuncData} (F : Fun K "__len__" "Stair.__len__" (mth 13) f fd) (B : Bl mg) (S : StC K mg C) : FnOk P w K mg base CX0 1 f fd ["self"] (spLen0 P w C) := by
  refine F.ok scLen0 (fun vs H Q E h => ?_) (fun cdv A outer s0 H vs Q E hr h => ?_)
  · obtain ⟨s, n, ps, rfl, _⟩ := h
    rfl
  · obtain ⟨s, n, ps, rfl, h, k⟩ := h
    refine ⟨_, pss_one (ps_ret (pe_callB call_len_seq (by rfl) B.len PySem.boot_len (pa_cons (pe_fld (pv 0) rfl) pa_nil))), ?_⟩
    refine fld_j S h (by rfl) fun jl ys hl pr => ⟨jl, ys, rfl, .inl (SqL.of hl), ?_⟩
    rw [pr.len]
    exact k
theorem ok_stp {f : Addr} {fd : FuncData} (F : Fun K "steps" "Stair.steps" (mth 4) f fd) (S : StC K mg C) : FnOk P w K mg base CX0 1 f fd ["self"] (spStp P w C) := by
  refine F.ok scStp (fun vs H Q E h => ?_) (fun cdv A outer s0 H vs Q E hr h => ?_)
  · obtain ⟨s, n, ps, rfl, _⟩ := h
    rfl
  · obtain ⟨s, n, ps, rfl, h, k⟩ := h
    refine ⟨_, pss_one (ps_ret (pe_fld (pv 0) rfl)), ?_⟩
    exact fld_s S h (by rfl) k
theorem ok_head {f : Addr} {fd : FuncData} (F : Fun K "head" "Stair.head" (mth 5) f fd) (S : StC K mg C) : FnOk P w K mg base CX0 1 f fd ["self"] (spHead P w C) := by
  refine F.ok scHead (fun vs H Q E h => ?_) (fun cdv A outer s0 H vs Q E hr h => ?_)
  · obtain ⟨s, n, ps, rfl, _⟩ := h
    rfl
  · obtain ⟨s, n, ps, rfl, h, k⟩ := h
    refine ⟨_, pss_one (ps_ret (pe_op op_add (pe_fld (pv 0) rfl) pe_int)), ?_⟩
    dsimp only [tRet, tOp]
    exact fld_s S h (by rfl) ⟨_, _, rfl, rfl, k⟩
theorem ok_jumps {f : Addr} {fd : FuncData} (F : Fun K "jumps" "Stair.jumps" (mth 6) f fd) (B2 : Bl2 mg) (S : StC K mg C) : FnOk P w K mg base CX0 1 f fd ["self"] (spJumps P w C) := by
  refine F.ok scJumps (fun vs H Q E h => ?_) (fun cdv A outer s0 H vs Q E hr h => ?_)
  · obtain ⟨s, n, ps, rfl, _⟩ := h
    rfl
  · obtain ⟨s, n, ps, rfl, h, k⟩ := h
    refine ⟨_, pss_one (ps_ret (pe_callTy call_list_of (by rfl) B2.list bt_list (pa_cons (pe_fld (pv 0) rfl) pa_nil))), ?_⟩
    exact fld_j S h (by rfl) fun jl ys hl pr => ⟨jl, _, rfl, .inl (SqL.of hl), fun l hn => k l ys hn pr⟩
theorem ok_things {f : Addr} {fd : FuncData} (F : Fun K "things" "Stair.things" (mth 7) f fd) (B2 : Bl2 mg) (S : StC K mg C) : FnOk P w K mg base CX0 1 f fd ["self"] (spThings P w C) := by
  refine F.ok scThings (fun vs H Q E h => ?_) (fun cdv A outer s0 H vs Q E hr h => ?_)
  · obtain ⟨s, n, ps, rfl, _⟩ := h
    rfl
  · obtain ⟨s, n, ps, rfl, h, k⟩ := h
    refine ⟨_, pss_one (ps_ret (pe_callTy call_list_of (by rfl) B2.list bt_list (pa_cons (pe_fld (pv 0) rfl) pa_nil))), ?_⟩
    exact fld_t S h (by rfl) fun jl ys hl pr => ⟨jl, _, rfl, .inl (SqL.of hl), fun l hn => k l ys hn pr⟩
theorem mem_lensOf {ps : List Pr} {k : Int} : k ∈ lensOf ps ↔ (1 ≤ k ∧ k ≤ 11) ∧ ∃ p ∈ ps, p.2 - p.1 = k := by
  unfold lensOf
  rw [List.mem_filter, List.any_eq_true]
  refine and_congr ⟨fun h => ?_, fun h => ?_⟩ ⟨fun ⟨p, h, e⟩ => ⟨p, h, of_decide_eq_true e⟩, fun ⟨p, h, e⟩ => ⟨p, h, decide_eq_true e⟩⟩
  · obtain ⟨j, hj, rfl⟩ := List.mem_map.mp h
    have := List.mem_range.mp hj
    omega
  · exact List.mem_map.mpr ⟨(k - 1).toNat, List.mem_range.mpr (by omega), by omega⟩
theorem lensOf_sor (ps : List Pr) : (lensOf ps).Pairwise (· < ·) := by
  unfold lensOf
  refine List.Pairwise.filter _ (List.pairwise_map.mpr (List.Pairwise.imp (R := fun a b => a < b) (S := fun a b => ((a + 1 : Nat) : Int) < ((b + 1 : Nat) : Int)) (fun {a b} h => by omega) List.pairwise_lt_range))
theorem lens_uniq {ps : List Pr} {ns : List Int} (h : ns.Pairwise (· < ·)) (e : ∀ k, k ∈ ns ↔ k ∈ lensOf ps) : ns = lensOf ps := uniq_sorted (lt := fun a b : Int => a < b) (fun a => Int.lt_irrefl a) (fun a b c => Int.lt_trans) h (lensOf_sor ps) e
theorem len_ok {n : Int} {ps : List Pr} (pt : Parts n ps) {p : Pr} (h : p ∈ ps) : 1 ≤ p.2 - p.1 ∧ p.2 - p.1 ≤ 11 := by
  obtain ⟨a, b, c⟩ := pt.ok p h
  have := pt.n2
  omega
theorem ok_lens {f : Addr} {fd : FuncData} (F : Fun K "lengths" "Stair.lengths" (mth 8) f fd) (B2 : Bl2 mg) (S : StC K mg C) : FnOk P w K mg base CX0 1 f fd ["self"] (spLens P w C) := by
  refine F.ok scLens (fun vs H Q E h => ?_) (fun cdv A outer s0 H vs Q E hr h => ?_)
  · obtain ⟨s, n, ps, rfl, _⟩ := h
    rfl
  · obtain ⟨s, n, ps, rfl, h, pt, k⟩ := h
    refine ⟨_, pss_one (ps_ret (pe_callB (cr_sortedSet rfl) (by rfl) B2.sorted (by decide +kernel) (pa_cons (pe_si (own := [("i", 1), ("j", 2)]) (tt := tYes) rfl scLens.nd (pi_list (pe_fld (pv 0) rfl)) (blkOk_by (N := ["self", "i", "j"]) (sc := defScope (mth 8)) (by decide +kernel))
      (g := gTup K 2 (gCons (gName 1) (gCons (gName 2) gNil))) (fun _ _ _ _ _ => by exact pg_tup rfl (pgs_cons (pg_name (i := 1) scLens.nd rfl (.inl rfl)) (pgs_cons (pg_name (i := 2) scLens.nd rfl (.inl rfl)) pgs_nil))) (fun _ _ _ _ _ => pts_nil) (fun _ _ _ _ _ => by exact pe_op op_sub (pv 2) (pv 1))) pa_nil))), ?_⟩
    dsimp only [tRet, tCB, tCons, tNil, tSi, iList]
    refine fld_j S h (by rfl) fun jl ys hl pr => ⟨jl, rfl, ⟨_, SqL.of hl⟩, fun D hD => si_it (walk_list (xs := ys)) (fun i H' => Same H H' ∧ ∃ T m, H' D = some (SetO w D T m) ∧ m ≤ i ∧ (∀ z : Int, T z = true ↔ ∃ p ∈ ps.take i, p.2 - p.1 = z)) ⟨Same.new hD, _, 0, upd_same, Nat.le_refl _, fun z => by simp⟩ (fun i H' _ h => Same.seq h.1 (SqL.of hl)) (fun i x H' H'' hi inv y => ?_) fun H' inv => ?_⟩
    · obtain ⟨sm, T, m, hT, hm, sp⟩ := inv
      obtain ⟨rfl, hx⟩ := y
      obtain ⟨p, hp, a, rfl, ha⟩ := pr.get hx
      have hlt : i < ps.length := by rw [← pr.len]; exact hi
      refine ⟨a, _, rfl, SqT.of (sm _ _ ha), rfl, _, _, rfl, _, _, rfl, rfl, rfl, ?_⟩
      dsimp only [tYes]
      rw [if_pos rfl]
      refine ⟨_, rfl, _, rfl, _, _, rfl, rfl, _, T, m, rfl, hT, ?_, fun b u e => ?_, _, _, upd_same, ?_, fun z => ?_⟩
      · have := pt.ln
        show m + 1 < 4096
        omega
      · rw [upd_ne (ne_of_none e hD)]
        exact sm _ _ e
      · split <;> omega
      · rw [Bool.or_eq_true, sp, decide_eq_true_eq, take_succ_of hp]
        constructor
        · rintro (⟨q, hq, e⟩ | e)
          · exact ⟨q, List.mem_append_left _ hq, e⟩
          · exact ⟨p, List.mem_append_right _ List.mem_cons_self, e.symm⟩
        · rintro ⟨q, hq, e⟩
          rcases List.mem_append.mp hq with hq | hq
          · exact .inl ⟨q, hq, e⟩
          · rw [List.mem_singleton.mp hq] at e
            exact .inr e.symm
    · obtain ⟨sm, T, m, hT, hm, sp⟩ := inv
      have el : ys.length = ps.length := pr.len
      have lm : m < 64 := by have := pt.ln; omega
      refine ⟨D, T, m, rfl, hT, lm, fun ns p so mem ln hp => ?_⟩
      have e : ns = lensOf ps := lens_uniq so fun z => by
        rw [mem, sp, el, List.take_length, mem_lensOf]
        exact ⟨fun ⟨p, h, e⟩ => ⟨by rw [← e]; exact len_ok pt h, p, h, e⟩, fun h => h.2⟩
      rw [e]
      exact k _ p (sm.trans (Same.new hp)) (sm.free hp) upd_same
theorem ok_iter {f : Addr} {fd : FuncData} (F : Fun K "__iter__" "Stair.__iter__" (mth 15) f fd) (hb : Binds K fd ["self"] []) (B2 : Bl2 mg) (S : StC K mg C) : FnN P w K mg base CX0 1 f (spIter C) := by
  refine okN F scIter hb (fun n0 vs H Q E h => ?_) (fun cdv A outer s0 H vs Q E hr h => ?_)
  · obtain ⟨s, dx, fs, jl, ys, rfl, _⟩ := h
    rfl
  · obtain ⟨s, dx, fs, jl, ys, rfl, h1, h2, h3, k⟩ := h
    exact ⟨_, pss_one (ps_ret (pe_callB ItX.call_iterN (by rfl) B2.iter (by decide +kernel) (pa_cons (pe_fld (pv 0) rfl) pa_nil))), _, rfl, s, C, dx, fs, _, rfl, h1, S.cl, S.nJ, h2, jl, ys, rfl, SqL.of h3, k⟩
end
end K12

set_option Elab.async false
set_option linter.all false
set_option maxRecDepth 100000
set_option maxHeartbeats 4000000
namespace K12
open PySem PySem.Spec PyProof.Rows L2 MX NZ SM
/-! ### data, and their kinds -/
def kindD : PyData → String
  | .none => "NoneType"
  | .bool _ => "bool"
  | .int _ => "int"
  | .str _ => "str"
  | .list _ => "list"
  | .tuple _ => "tuple"
  | .dict _ => "dict"
def isI : PyData → Bool
  | .int _ => true
  | _ => false
/-- an int, or a bool -/
def kI : PyData → Bool
  | .int _ => true
  | .bool _ => true
  | _ => false
def kB : PyData → Bool
  | .bool _ => true
  | _ => false
def kS : PyData → Bool
  | .str _ => true
  | _ => false
def kT : PyData → Bool
  | .tuple _ => true
  | _ => false
theorem kind_mem (d : PyData) : kindD d ∈ kinds := by cases d <;> simp [kindD, kinds]
theorem kit_intD : ∀ d, kitB (kindD d) "int" = some (kI d)
  | .none => (kit_int "NoneType" (by decide)).trans (by first | (show _ = some true; decide) | (show _ = some false; decide))
  | .bool _ => (kit_int "bool" (by decide)).trans (by first | (show _ = some true; decide) | (show _ = some false; decide))
  | .int _ => (kit_int "int" (by decide)).trans (by first | (show _ = some true; decide) | (show _ = some false; decide))
  | .str _ => (kit_int "str" (by decide)).trans (by first | (show _ = some true; decide) | (show _ = some false; decide))
  | .list _ => (kit_int "list" (by decide)).trans (by first | (show _ = some true; decide) | (show _ = some false; decide))
  | .tuple _ => (kit_int "tuple" (by decide)).trans (by first | (show _ = some true; decide) | (show _ = some false; decide))
  | .dict _ => (kit_int "dict" (by decide)).trans (by first | (show _ = some true; decide) | (show _ = some false; decide))
theorem kit_boolD : ∀ d, kitB (kindD d) "bool" = some (kB d)
  | .none => (kit_bool "NoneType" (by decide)).trans (by first | (show _ = some true; decide) | (show _ = some false; decide))
  | .bool _ => (kit_bool "bool" (by decide)).trans (by first | (show _ = some true; decide) | (show _ = some false; decide))
  | .int _ => (kit_bool "int" (by decide)).trans (by first | (show _ = some true; decide) | (show _ = some false; decide))
  | .str _ => (kit_bool "str" (by decide)).trans (by first | (show _ = some true; decide) | (show _ = some false; decide))
  | .list _ => (kit_bool "list" (by decide)).trans (by first | (show _ = some true; decide) | (show _ = some false; decide))
  | .tuple _ => (kit_bool "tuple" (by decide)).trans (by first | (show _ = some true; decide) | (show _ = some false; decide))
  | .dict _ => (kit_bool "dict" (by decide)).trans (by first | (show _ = some true; decide) | (show _ = some false; decide))
theorem kit_strD : ∀ d, kitB (kindD d) "str" = some (kS d)
  | .none => (kit_str "NoneType" (by decide)).trans (by first | (show _ = some true; decide) | (show _ = some false; decide))
  | .bool _ => (kit_str "bool" (by decide)).trans (by first | (show _ = some true; decide) | (show _ = some false; decide))
  | .int _ => (kit_str "int" (by decide)).trans (by first | (show _ = some true; decide) | (show _ = some false; decide))
  | .str _ => (kit_str "str" (by decide)).trans (by first | (show _ = some true; decide) | (show _ = some false; decide))
  | .list _ => (kit_str "list" (by decide)).trans (by first | (show _ = some true; decide) | (show _ = some false; decide))
  | .tuple _ => (kit_str "tuple" (by decide)).trans (by first | (show _ = some true; decide) | (show _ = some false; decide))
  | .dict _ => (kit_str "dict" (by decide)).trans (by first | (show _ = some true; decide) | (show _ = some false; decide))
theorem kit_tupD : ∀ d, kitB (kindD d) "tuple" = some (kT d)
  | .none => (kit_tuple "NoneType" (by decide)).trans (by first | (show _ = some true; decide) | (show _ = some false; decide))
  | .bool _ => (kit_tuple "bool" (by decide)).trans (by first | (show _ = some true; decide) | (show _ = some false; decide))
  | .int _ => (kit_tuple "int" (by decide)).trans (by first | (show _ = some true; decide) | (show _ = some false; decide))
  | .str _ => (kit_tuple "str" (by decide)).trans (by first | (show _ = some true; decide) | (show _ = some false; decide))
  | .list _ => (kit_tuple "list" (by decide)).trans (by first | (show _ = some true; decide) | (show _ = some false; decide))
  | .tuple _ => (kit_tuple "tuple" (by decide)).trans (by first | (show _ = some true; decide) | (show _ = some false; decide))
  | .dict _ => (kit_tuple "dict" (by decide)).trans (by first | (show _ = some true; decide) | (show _ = some false; decide))
theorem dq_kd {K : W.Frag} {H : Hp} {v : V} {d : PyData} (h : Dq H v d) : Kd K H v (kindD d) := by
  refine ⟨kind_mem d, ?_⟩
  cases h with
  | non => exact .base .non
  | bl b => exact .base (.bl b)
  | int i => exact .base (.int i)
  | str x => exact .base (.str x)
  | lst e _ => exact .base (.lst e)
  | tup e _ => exact .base (.tup e)
  | dic e _ => exact .base (.dK e)
theorem dqa_get {H : Hp} : ∀ {vs : List V} {ds : List PyData}, DqAll H vs ds → ∀ {i : Nat} {v : V}, vs[i]? = some v → ∃ d, ds[i]? = some d ∧ Dq H v d
  | _, _, .nil, i, v, h => by simp at h
  | _, d :: _, .cons a t, 0, v, h => by
    cases h
    exact ⟨d, rfl, a⟩
  | _, _, .cons a t, i + 1, v, h => dqa_get t h
theorem dqa_len {H : Hp} : ∀ {vs : List V} {ds : List PyData}, DqAll H vs ds → vs.length = ds.length
  | _, _, .nil => rfl
  | _, _, .cons a t => by rw [List.length_cons, List.length_cons, dqa_len t]
def isBD : PyData → Bool → Bool
  | .bool c, b => c == b
  | _, _ => false
theorem dq_isB {H : Hp} {v : V} {d : PyData} (h : Dq H v d) (b : Bool) : isB v b = isBD d b := by
  cases h <;> rfl
theorem dq_int {H : Hp} {v : V} {d : PyData} (h : Dq H v d) (e : isI d = true) : ∃ i, v = .int i ∧ d = .int i := by
  cases h <;> first | exact ⟨_, rfl, rfl⟩ | cases e
section
variable {P : Program} {w : World} {K : W.Frag} {mg : Str → Option Value} {base : Heap} {C : Addr}
theorem isD_go {T : String} {b : Bool} {i : Nat} {x : V} {d : PyData} {σ : L2.St} {H : Hp} {Q : VK} (hx : σ[i]? = some (some x)) (dq : Dq H x d) (e : kitB (kindD d) T = some b) (k : Q (.bl b) H) : tCB (rIsi K) (tCons (tVar i) (tCons (tC (.ty T)) tNil)) σ H Q := is_go hx (dq_kd dq) e k
theorem tB_go {t : TE} {σ : L2.St} {H : Hp} {Q : Bool → Hp → Prop} (h : t σ H fun v H1 => ∃ b, v = .bl b ∧ Q b H1) : tB t σ H Q := h
theorem isT_go {T : String} {b : Bool} {i : Nat} {x : V} {d : PyData} {σ : L2.St} {H : Hp} {Q : Bool → Hp → Prop} (hx : σ[i]? = some (some x)) (dq : Dq H x d) (e : kitB (kindD d) T = some b) (k : Q b H) : tB (tCB (rIsi K) (tCons (tVar i) (tCons (tC (.ty T)) tNil))) σ H Q := isD_go hx dq e ⟨b, rfl, k⟩
theorem nisT_go {T : String} {b : Bool} {i : Nat} {x : V} {d : PyData} {σ : L2.St} {H : Hp} {Q : Bool → Hp → Prop} (hx : σ[i]? = some (some x)) (dq : Dq H x d) (e : kitB (kindD d) T = some b) (k : Q (!b) H) : tNot (tB (tCB (rIsi K) (tCons (tVar i) (tCons (tC (.ty T)) tNil)))) σ H Q := isT_go hx dq e k
/-- not isinstance(x, int) or x is True or x is False -/
theorem plain_go {i : Nat} {x : V} {d : PyData} {σ : L2.St} {H : Hp} {Q : Bool → Hp → Prop} (hx : σ[i]? = some (some x)) (dq : Dq H x d) (k : Q (!isI d) H) :
    tOr (tNot (tB (tCB (rIsi K) (tCons (tVar i) (tCons (tC (.ty "int")) tNil))))) (tOr (tTest (tOp (rIsBx false) (tVar i) (tC (.bl true)))) (tTest (tOp (rIsBx false) (tVar i) (tC (.bl false))))) σ H Q := by
  refine or_go (nisT_go hx dq (kit_intD d) ?_)
  have e : (!isI d) = (!kI d || (isBD d true || isBD d false)) := by
    cases d with
    | bool b => cases b <;> rfl
    | _ => rfl
  rw [e] at k
  cases q : (!kI d)
  · refine iteF (or_go (isb_go hx ?_))
    rw [q, Bool.false_or] at k
    rw [dq_isB dq]
    cases q2 : isBD d true
    · refine iteF (isb_go hx ?_)
      rw [q2, Bool.false_or] at k
      rw [dq_isB dq]
      cases q3 : isBD d false <;> rw [q3] at k <;> exact k
    · rw [q2] at k
      exact iteT k
  · rw [q] at k
    exact iteT k
/-! ### runs -/
def intsOf : List PyData → Option (List Int)
  | [] => some []
  | .int i :: r => (intsOf r).map (i :: ·)
  | _ :: _ => none
def hops : List Int → List Pr
  | a :: b :: r => (a, b) :: hops (b :: r)
  | _ => []
def runB (ps : List Pr) (ds : List PyData) : Bool := match intsOf ds with
  | some is => (hops is).all fun p => decide (p ∈ ps)
  | none => false
def isRun (ps : List Pr) : PyData → Bool
  | .tuple ds => decide (2 ≤ ds.length) && runB ps ds
  | _ => false
theorem run_tup {ps : List Pr} {ds : List PyData} : isRun ps (.tuple ds) = (decide (2 ≤ ds.length) && runB ps ds) := rfl
theorem ints_none {ds : List PyData} {i : Nat} {d : PyData} (h : ds[i]? = some d) (n : isI d = false) : intsOf ds = none := by
  induction ds generalizing i with
  | nil => simp at h
  | cons a r ih =>
    cases i with
    | zero =>
      cases h
      cases d <;> first | rfl | cases n
    | succ i =>
      have t := ih (i := i) (by simpa using h)
      cases a <;> first | rfl | (unfold intsOf; rw [t]; rfl)
theorem ints_some : ∀ {ds : List PyData}, (∀ d ∈ ds, isI d = true) → ∃ is, intsOf ds = some is ∧ ds = is.map PyData.int
  | [], _ => ⟨[], rfl, rfl⟩
  | d :: r, h => by
    obtain ⟨is, e1, e2⟩ := ints_some fun x m => h x (List.mem_cons_of_mem _ m)
    have hd := h d List.mem_cons_self
    cases d with
    | int i => exact ⟨i :: is, by unfold intsOf; rw [e1]; rfl, by rw [List.map_cons, ← e2]⟩
    | _ => cases hd
theorem run_short {ps : List Pr} {ds : List PyData} (h : ds.length < 2) : isRun ps (.tuple ds) = false := by
  rw [run_tup, decide_eq_false (by omega), Bool.false_and]
theorem run_odd {ps : List Pr} {ds : List PyData} (h : intsOf ds = none) : isRun ps (.tuple ds) = false := by
  rw [run_tup]
  unfold runB
  rw [h, Bool.and_false]
theorem run_ints {ps : List Pr} {ds : List PyData} {is : List Int} (h2 : 2 ≤ ds.length) (h : intsOf ds = some is) : isRun ps (.tuple ds) = (hops is).all fun p => decide (p ∈ ps) := by
  rw [run_tup, decide_eq_true h2, Bool.true_and]
  unfold runB
  rw [h]
theorem dqa_ints {H : Hp} : ∀ {vs : List V} {is : List Int}, DqAll H vs (is.map PyData.int) → vs = is.map V.int
  | [], [], _ => rfl
  | _, _ :: _, .cons a t => by
    cases a
    rw [List.map_cons, ← dqa_ints t]
theorem hops_get : ∀ {is : List Int} {j : Nat} {a b : Int}, is[j]? = some a → is[j + 1]? = some b → (hops is)[j]? = some (a, b)
  | [], j, a, b, h, _ => by simp at h
  | [x], j, a, b, _, h => by simp at h
  | x :: y :: r, 0, a, b, h, g => by
    cases h
    cases g
    rfl
  | x :: y :: r, j + 1, a, b, h, g => by
    show (hops (y :: r))[j]? = _
    exact hops_get (by simpa using h) (by simpa using g)
theorem hops_len : ∀ {is : List Int}, (hops is).length = is.length - 1
  | [] => rfl
  | [x] => rfl
  | x :: y :: r => by
    show (hops (y :: r)).length + 1 = _
    rw [hops_len]
    simp
theorem has_pair {n : Int} {ps : List Pr} {p : Pr} : hasK (tbK n ps) (.inr (kP p)) = decide (p ∈ ps) := by
  unfold hasK tbK
  rw [List.any_map]
  by_cases h : p ∈ ps
  · rw [decide_eq_true h, List.any_eq_true]
    exact ⟨.inr (kP p), mem_thK.mpr (.inr (.inr ⟨p, h, rfl⟩)), decide_eq_true rfl⟩
  · rw [decide_eq_false h, List.any_eq_false]
    intro k hk e
    have e := of_decide_eq_true e
    change k = _ at e
    subst e
    rcases mem_thK.mp hk with e | ⟨i, _, e⟩ | ⟨q, hq, e⟩
    · cases e
    · cases e
    · injection e with e
      rw [kP_inj e] at h
      exact h hq
theorem has_int {n : Int} {ps : List Pr} {i : Int} : hasK (tbK n ps) (.inl (.inl i)) = decide (1 ≤ i ∧ i ≤ n) := by
  unfold hasK tbK
  rw [List.any_map]
  by_cases h : 1 ≤ i ∧ i ≤ n
  · rw [decide_eq_true h, List.any_eq_true]
    refine ⟨.inl (.inl i), mem_thK.mpr (.inr (.inl ⟨(i - 1).toNat, by omega, ?_⟩)), decide_eq_true rfl⟩
    congr
    omega
  · rw [decide_eq_false h, List.any_eq_false]
    intro k hk e
    have e := of_decide_eq_true e
    change k = _ at e
    subst e
    rcases mem_thK.mp hk with e | ⟨j, hj, e⟩ | ⟨q, hq, e⟩
    · injection e with e
      cases e
    · injection e with e
      injection e with e
      omega
    · cases e
theorem has_str {n : Int} {ps : List Pr} {x : Str} : hasK (tbK n ps) (.inl (.inr x)) = decide (x = "feet") := by
  unfold hasK tbK
  rw [List.any_map]
  by_cases h : x = "feet"
  · rw [decide_eq_true h, List.any_eq_true]
    exact ⟨.inl (.inr x), mem_thK.mpr (.inl (by rw [h])), decide_eq_true rfl⟩
  · rw [decide_eq_false h, List.any_eq_false]
    intro k hk e
    have e := of_decide_eq_true e
    change k = _ at e
    subst e
    rcases mem_thK.mp hk with e | ⟨j, hj, e⟩ | ⟨q, hq, e⟩
    · injection e with e
      injection e with e
      exact h e
    · injection e with e
      cases e
    · cases e
theorem sIx1 {L d : Nat} (h : 1 ≤ L) : HT.sIx L d (some 1) = 1 := by
  rw [show (1 : Int) = ((1 : Nat) : Int) from rfl, HT.sIx_nat]
  omega
theorem cut1 {is : List Int} (h : 1 ≤ is.length) : cutV (is.map V.int) (some 1) none = (is.drop 1).map V.int := by
  unfold cutV
  rw [List.length_map, sIx1 h, HT.sIx_none, ← List.map_drop, List.take_of_length_le (by simp)]
def spRun (P : Program) (w : World) (C : Addr) : Sp := fun vs H Q _ => ∃ s n ps x d, vs = [.ref s, x] ∧ StairAt P w C H s n ps ∧ Dq H x d ∧ ∀ H', Same H H' → Q (.bl (isRun ps d)) H'
theorem scRun : FnScope ["self", "value", "place", "known", "jump"] ["self", "value"] (defScope (mth 9)) := ⟨rfl, rfl, rfl, by decide +kernel, rfl, by decide +kernel, by decide +kernel⟩
theorem hu100 {k : Nat} {A : Around} (r : Room k A) : A.units + 100 < cLine := by have := r.un; omega
theorem ok_run {f : Addr} {fd : FuncData} (F : Fun K "is_run" "Stair.is_run" (mth 9) f fd) (B : Bl mg) (B2 : Bl2 mg) (S : StC K mg C) : FnOk P w K mg base CX0 1 f fd ["self", "value"] (spRun P w C) := by
  refine F.ok scRun (fun vs H Q E h => ?_) (fun cdv A outer s0 H vs Q E hr h => ?_)
  · obtain ⟨s, n, ps, x, d, rfl, _⟩ := h
    rfl
  · obtain ⟨s, n, ps, x, d, rfl, h, dq, k⟩ := h
    refine ⟨_, pss_cons (ps_if (pw_or (pt_not (pt_val (pe_isT 1 (by rfl) B.isinstance (by rfl) B2.tuple bt_tuple))) (pw_or1 (pt_cmpR op_lt (pe_callB call_len_seq (by rfl) B.len PySem.boot_len (pa_cons (pv 1) pa_nil)) pe_int (nomark _)))).pt (pss_one (ps_ret pe_bl)) pss_nil)
      (pss_cons (ps_for PassesOwn.never rfl (pi_tup (pv 1)) (pg_name (i := 2) scRun.nd rfl (.inl rfl))
        (pss_one (ps_if (pw_or (pt_not (pt_val (pe_isT 2 (by rfl) B.isinstance (by rfl) B.int bt_int))) (pw_or (pt_cmpR op_isBx (pv 2) pe_bl (nomark _)) (pw_or1 (pt_cmpR op_isBx (pv 2) pe_bl (nomark _))))).pt (pss_one (ps_ret pe_bl)) pss_nil)))
      (pss_cons (ps_set (i := 3) scRun.nd rfl (.inl rfl) (pe_fld (pv 0) rfl))
      (pss_cons (ps_for PassesOwn.never rfl (pi_zipN rfl (by rfl) B2.zip (pa_cons (pv 1) (pa_cons (pe_slice sl_tup (pv 1) (po_some pe_int) po_none) pa_nil))) (pg_name (i := 4) scRun.nd rfl (.inl rfl))
        (pss_one (ps_if (pt_cmpR (op_ninM (hu100 hr)) (pv 4) (pv 3) rfl) (pss_one (ps_ret pe_bl)) pss_nil)))
      (pss_one (ps_ret pe_bl))))), ?_⟩
    refine or_go (nisT_go (by rfl) dq (kit_tupD d) ?_)
    dsimp only [tNext, tRet, tC]
    cases hT : kT d with
    | false =>
      refine iteT (iteT ?_)
      have e : isRun ps d = false := by cases d <;> first | rfl | cases hT
      rw [← e]
      exact k _ fun _ _ e => e
    | true =>
      refine iteF ?_
      cases dq <;> try cases hT
      rename_i a xs ds ha al
      have ln := dqa_len al
      refine ⟨_, rfl, a, xs, rfl, .inr (SqT.of ha), _, _, rfl, rfl, _, rfl, ?_⟩
      rcases Nat.lt_or_ge ds.length 2 with h2 | h2
      · rw [decide_eq_true (show ((xs.length : Nat) : Int) < 2 by omega)]
        refine iteT ?_
        rw [← run_short (ps := ps) h2]
        exact k _ fun _ _ e => e
      rw [decide_eq_false (show ¬ ((xs.length : Nat) : Int) < 2 by omega)]
      refine iteF ?_
      refine ⟨_, rfl, a, rfl, ⟨_, SqT.of ha⟩, for_it walk_tup (fun i σ H' => (∃ p3, σ = [some (.ref s), some (.ref a), p3, none, none]) ∧ H' = H ∧ ∀ j d, j < i → ds[j]? = some d → isI d = true) ⟨⟨_, rfl⟩, rfl, fun j d h => absurd h (Nat.not_lt_zero _)⟩ (fun i σ H' _ h => by rw [h.2.1]; exact SqT.of ha) (fun i v σ H2 H3 hi inv y => ?_) fun σ H' inv => ?_⟩
      · obtain ⟨⟨p3, rfl⟩, rfl, al2⟩ := inv
        obtain ⟨rfl, hx⟩ := y
        obtain ⟨e, he, dqe⟩ := dqa_get al hx
        refine plain_go (by rfl) dqe ?_
        dsimp only [tNext, tRet, tC]
        cases hI : isI e with
        | false =>
          refine iteT ?_
          rw [← run_odd (ps := ps) (ints_none he hI)]
          exact k _ fun _ _ e => e
        | true =>
          refine iteF ⟨⟨_, rfl⟩, rfl, fun j d hj hd => ?_⟩
          rcases Nat.lt_or_ge j i with lt | ge
          · exact al2 j d lt hd
          · have : j = i := by omega
            subst this
            rw [he] at hd
            cases hd
            exact hI
      · obtain ⟨⟨p3, rfl⟩, rfl, al2⟩ := inv
        obtain ⟨is, e1, e2⟩ := ints_some (ds := ds) fun d m => by
          obtain ⟨j, hj, e⟩ := List.getElem_of_mem m
          exact al2 j d (by omega) (List.getElem?_eq_some_iff.mpr ⟨hj, e⟩)
        rw [e2] at al
        have ex := dqa_ints al
        have er := run_ints (ps := ps) h2 e1
        have li : is.length = ds.length := by rw [e2, List.length_map]
        rw [er] at k
        refine fld_b S h (by rfl) fun tb mx => ?_
        subst ex
        have l1 : (is.map V.int).length = is.length := List.length_map _
        refine ⟨_, rfl, _, rfl, _, rfl, a, _, rfl, SqT.of ha, ?_, fun b hb => ?_⟩
        · rw [l1]
          exact fun z => absurd z.1 (by rw [sIx1 (by omega)]; decide)
        have sb := Same.new (o := .tup (cutV (is.map V.int) (some 1) none)) hb
        have ec : cutV (is.map V.int) (some 1) none = (is.drop 1).map V.int := cut1 (by omega)
        rw [ec] at sb ⊢
        refine ⟨a, b, is.map V.int, (is.drop 1).map V.int, rfl, SqT.of (sb _ _ ha), SqT.of upd_same, for_it (walk_zipS (K := K) (ta := true) (tb := true) (xs := is.map V.int) (ys := (is.drop 1).map V.int) (n := is.length - 1) (by simp <;> omega)) (fun i σ H'' => (∃ p3 p4, σ = [some (.ref s), some (.ref a), p3, some (.ref tb), p4]) ∧ Same (upd H' b (.tup ((is.drop 1).map V.int))) H'' ∧ ∀ j p, j < i → (hops is)[j]? = some p → p ∈ ps) ⟨⟨_, _, rfl⟩, fun _ _ e => e, fun j d h => absurd h (Nat.not_lt_zero _)⟩ (fun i σ H'' _ h => ⟨SqT.of (h.2.1 _ _ (sb _ _ ha)), SqT.of (h.2.1 _ _ upd_same)⟩) (fun i v σ H2 H3 hi inv y => ?_) fun σ H'' inv => ?_⟩
        · obtain ⟨⟨p3, p4, rfl⟩, sm, al3⟩ := inv
          obtain ⟨T, x1, x2, rfl, hT, rfl, hx1, hx2⟩ := y
          have hx1 : (is.map V.int)[i]? = some x1 := hx1
          have hx2 : ((is.drop 1).map V.int)[i]? = some x2 := hx2
          rw [List.getElem?_map] at hx1 hx2
          obtain ⟨k1, q1, rfl⟩ := Option.map_eq_some_iff.mp hx1
          obtain ⟨k2, q2, rfl⟩ := Option.map_eq_some_iff.mp hx2
          have hp := hops_get q1 (by rw [List.getElem?_drop] at q2; rw [← q2]; congr 1; omega)
          have sT := Same.new (o := .tup [V.int k1, V.int k2]) hT
          refine ⟨_, rfl, _, rfl, tb, _, .inr (kP (k1, k2)), rfl, mx.same ((sb.trans sm).trans sT), ⟨T, rfl, upd_same⟩, rfl, nofun, _, rfl, ?_⟩
          rw [has_pair]
          dsimp only [tNext, tRet, tC]
          by_cases hm : (k1, k2) ∈ ps
          · rw [decide_eq_true hm]
            refine iteF ⟨⟨_, _, rfl⟩, sm.trans sT, fun j p hj hp2 => ?_⟩
            rcases Nat.lt_or_ge j i with lt | ge
            · exact al3 j p lt hp2
            · have : j = i := by omega
              subst this
              rw [hp] at hp2
              cases hp2
              exact hm
          · rw [decide_eq_false hm]
            refine iteT ?_
            have e : ((hops is).all fun p => decide (p ∈ ps)) = false := List.all_eq_false.mpr ⟨_, List.mem_of_getElem? hp, by simpa using hm⟩
            rw [← e]
            exact k _ ((sb.trans sm).trans sT)
        · obtain ⟨⟨p3, p4, rfl⟩, sm, al3⟩ := inv
          have e : ((hops is).all fun p => decide (p ∈ ps)) = true := List.all_eq_true.mpr fun p m => by
            obtain ⟨j, hj, e⟩ := List.getElem_of_mem m
            exact decide_eq_true (al3 j p (by rw [hops_len] at hj; exact hj) (List.getElem?_eq_some_iff.mpr ⟨hj, e⟩))
          show Q (.bl true) _
          rw [← e]
          exact k _ (sb.trans sm)
/-! ### things -/
/-- what a stair has: its things -/
def isIn (n : Int) (ps : List Pr) : PyData → Bool
  | .str x => decide (x = "feet")
  | .int i => decide (1 ≤ i ∧ i ≤ n)
  | .tuple [.int i, .int j] => decide ((i, j) ∈ ps)
  | _ => false
/-- what is asked here: texts of characters, no pair of an int and False -/
structure OkD (d : PyData) : Prop where
  s : ∀ x, d = .str x → PyData.strOk x = true
  f : ∀ i, d ≠ .tuple [.int i, .bool false]
def spHas (P : Program) (w : World) (C : Addr) : Sp := fun vs H Q _ => ∃ s n ps x d, vs = [.ref s, x] ∧ StairAt P w C H s n ps ∧ 1 ≤ n ∧ Dq H x d ∧ OkD d ∧ ∀ H', Same H H' → Q (.bl (isIn n ps d)) H'
theorem scHas : FnScope ["self", "x", "i", "j"] ["self", "x"] (defScope (mth 14)) := ⟨rfl, rfl, rfl, by decide +kernel, rfl, by decide +kernel, by decide +kernel⟩
theorem ok_has {f : Addr} {fd : FuncData} (F : Fun K "__contains__" "Stair.__contains__" (mth 14) f fd) (B : Bl mg) (B2 : Bl2 mg) (S : StC K mg C) : FnOk P w K mg base CX0 1 f fd ["self", "x"] (spHas P w C) := by
  refine F.ok scHas (fun vs H Q E h => ?_) (fun cdv A outer s0 H vs Q E hr h => ?_)
  · obtain ⟨s, n, ps, x, d, rfl, _⟩ := h
    rfl
  · obtain ⟨s, n, ps, x, d, rfl, h, n1, dq, ok, k⟩ := h
    refine ⟨_, pss_cons (ps_if (pt_not (pt_val (pe_isT 1 (by rfl) B.isinstance (by rfl) B2.tuple bt_tuple)))
        (pss_one (ps_ret (pe_and (pe_callB call_isiT (by rfl) B.isinstance boot_isinstance (pa_cons (pv 1) (pa_cons (pe_tup (pa_cons (pe_bltn (v := .ty "int") (by rfl) B.int bt_int rfl) (pa_cons (pe_bltn (v := .ty "str") (by rfl) B2.str bt_str rfl) pa_nil))) pa_nil)))
          (pe_and (pe_cmpR op_isnotBx (pv 1) pe_bl (nomark _)) (pe_one (pe_cmpR (op_inMF (hu100 hr)) (pv 1) (pe_fld (pv 0) rfl) rfl)))))) pss_nil)
      (pss_cons (ps_if (pt_cmpR op_ne (pe_callB call_len_seq (by rfl) B.len PySem.boot_len (pa_cons (pv 1) pa_nil)) pe_int (nomark _)) (pss_one (ps_ret pe_bl)) pss_nil)
      (pss_cons (ps_asg (pv 1) (pg_tup rfl (pgs_cons (pg_name (i := 2) scHas.nd rfl (.inl rfl)) (pgs_cons (pg_name (i := 3) scHas.nd rfl (.inl rfl)) pgs_nil))))
      (pss_cons (ps_if (pw_or (pt_not (pt_val (pe_isT 2 (by rfl) B.isinstance (by rfl) B.int bt_int))) (pw_or (pt_not (pt_val (pe_isT 3 (by rfl) B.isinstance (by rfl) B.int bt_int))) (pw_or (pt_cmpR op_isBx (pv 2) pe_bl (nomark _)) (pw_or (pt_cmpR op_isBx (pv 2) pe_bl (nomark _)) (pw_or1 (pt_cmpR op_isBx (pv 3) pe_bl (nomark _))))))).pt (pss_one (ps_ret pe_bl)) pss_nil)
      (pss_one (ps_ret (pe_cmpR (op_inM (hu100 hr)) (pv 1) (pe_fld (pv 0) rfl) rfl)))))), ?_⟩
    refine seq_if (nisT_go (by rfl) dq (kit_tupD d) ?_)
    cases hT : kT d with
    | false =>
      refine iteT ?_
      refine ⟨x, rfl, by decide, fun t ht => ?_⟩
      have st : Same H (upd H t (.tup [.ty "int", .ty "str"])) := Same.new ht
      refine ⟨x, t, _, .type (kindD d), [.type "int", .type "str"], _, rfl, upd_same, .cons (.ty _) (.cons (.ty _) .nil), (dq_kd dq).2.same st, kitAny_cons (b := kI d) (r := (kI d || kS d)) (kit_ty (kit_intD d)) (fun e => ?_) (fun e => by rw [e]; rfl), _, rfl, ?_⟩
      · rw [e]
        exact kitAny_cons (b := kS d) (kit_ty (kit_strD d)) (fun e2 => by rw [e2]; exact kitAny_nil) (fun e2 => by rw [e2]; rfl)
      have hs := h.same st
      have k2 := k _ st
      cases dq with
      | non => exact iteF k2
      | lst _ _ => exact iteF k2
      | dic _ _ => exact iteF k2
      | tup _ _ => cases hT
      | bl b =>
        refine iteT ⟨_, rfl, _, rfl, _, rfl, ?_⟩
        cases b with
        | true => exact iteF k2
        | false =>
          refine iteT ⟨_, rfl, ?_⟩
          refine fld_b S hs (by rfl) fun tb mx => .inr ⟨tb, _, rfl, rfl, mx, fun p hp e => ?_, k2⟩
          obtain ⟨kk, hk, rfl⟩ := List.mem_map.mp hp
          change kk = _ at e
          subst e
          rcases mem_thK.mp hk with e | ⟨j, hj, e⟩ | ⟨q, hq, e⟩
          · injection e with e
            cases e
          · injection e with e
            injection e with e
            omega
          · cases e
      | int i =>
        refine iteT ⟨_, rfl, _, rfl, _, rfl, iteT ⟨_, rfl, ?_⟩⟩
        refine fld_b S hs (by rfl) fun tb mx => .inl ⟨tb, _, .inl (.inl i), rfl, mx, rfl, rfl, nofun, ?_⟩
        rw [has_int]
        exact k2
      | str z =>
        refine iteT ⟨_, rfl, _, rfl, _, rfl, iteT ⟨_, rfl, ?_⟩⟩
        refine fld_b S hs (by rfl) fun tb mx => .inl ⟨tb, _, .inl (.inr z), rfl, mx, rfl, ok.s z rfl, fun _ => .inr ⟨(.inl (.inl 1), .bl true), List.mem_map.mpr ⟨.inl (.inl 1), mem_thK.mpr (.inr (.inl ⟨0, by omega, rfl⟩)), rfl⟩, rfl⟩, ?_⟩
        rw [has_str]
        exact k2
    | true =>
      refine iteF ?_
      cases dq <;> try cases hT
      rename_i a xs ds ha al
      dsimp only [tNext]
      have k2 := k _ (fun _ _ e => e)
      refine ⟨_, rfl, a, xs, rfl, .inr (SqT.of ha), rfl, _, rfl, ?_⟩
      have ln := dqa_len al
      by_cases h2 : ds.length = 2
      · match ds, al, h2 with
        | [d1, d2], .cons (v := x1) dq1 (.cons (v := x2) dq2 .nil), _ =>
          rw [decide_eq_true (show V.int ((([x1, x2] : List V).length : Nat) : Int) = V.int 2 from rfl)]
          refine iteF ?_
          dsimp only [tNext]
          refine ⟨_, rfl, a, _, rfl, SqT.of ha, rfl, _, _, rfl, _, _, rfl, rfl, ?_⟩
          dsimp only
          have odd : (isI d1 && isI d2) = false → isIn n ps (.tuple [d1, d2]) = false := fun e => by
            cases d1 <;> first | rfl | (cases d2 <;> first | rfl | cases e)
          refine seq_if (or_go (nisT_go (by rfl) dq1 (kit_intD d1) ?_))
          cases h1 : kI d1 with
          | false =>
            refine iteT (iteT ?_)
            show Q (.bl false) H
            rw [← odd (by cases d1 <;> first | rfl | cases h1)]
            exact k2
          | true =>
            refine iteF (or_go (nisT_go (by rfl) dq2 (kit_intD d2) ?_))
            cases h3 : kI d2 with
            | false =>
              refine iteT (iteT ?_)
              show Q (.bl false) H
              rw [← odd (by cases d1 <;> first | rfl | (cases d2 <;> first | rfl | cases h3))]
              exact k2
            | true =>
              refine iteF (or_go (isb_go (by rfl) ?_))
              rw [dq_isB dq1]
              cases h4 : isBD d1 true with
              | true =>
                refine iteT (iteT ?_)
                show Q (.bl false) H
                rw [← odd (by cases d1 <;> first | rfl | cases h4)]
                exact k2
              | false =>
                refine iteF (or_go (isb_go (by rfl) ?_))
                rw [dq_isB dq1]
                cases h5 : isBD d1 false with
                | true =>
                  refine iteT (iteT ?_)
                  show Q (.bl false) H
                  rw [← odd (by cases d1 <;> first | rfl | cases h5)]
                  exact k2
                | false =>
                  refine iteF (isb_go (by rfl) ?_)
                  rw [dq_isB dq2]
                  cases h6 : isBD d2 true with
                  | true =>
                    refine iteT ?_
                    show Q (.bl false) H
                    rw [← odd (by cases d1 <;> first | rfl | (cases d2 <;> first | rfl | cases h6))]
                    exact k2
                  | false =>
                    refine iteF ?_
                    dsimp only [tNext]
                    have e1 : ∃ i, d1 = .int i := by
                      cases d1 with
                      | int i => exact ⟨i, rfl⟩
                      | bool b =>
                        cases b with
                        | true => cases h4
                        | false => cases h5
                      | _ => cases h1
                    obtain ⟨i, rfl⟩ := e1
                    have e2 : ∃ j, d2 = .int j := by
                      cases d2 with
                      | int i => exact ⟨i, rfl⟩
                      | bool b =>
                        cases b with
                        | true => cases h6
                        | false => exact absurd rfl (ok.f i)
                      | _ => cases h3
                    obtain ⟨j, rfl⟩ := e2
                    cases dq1
                    cases dq2
                    refine ⟨_, rfl, ?_⟩
                    refine fld_b S h (by rfl) fun tb mx => ⟨tb, _, .inr (kP (i, j)), rfl, mx, ⟨a, rfl, ha⟩, rfl, nofun, ?_⟩
                    rw [has_pair]
                    exact k2
      · rw [decide_eq_false (fun e => h2 (by injection e with e; omega))]
        refine iteT ?_
        show Q (.bl false) H
        have e : isIn n ps (.tuple ds) = false := by
          match ds, h2 with
          | [], _ => rfl
          | [d], _ => cases d <;> rfl
          | [d1, d2], h2 => exact absurd rfl h2
          | d1 :: d2 :: d3 :: r, _ => cases d1 <;> first | rfl | (cases d2 <;> rfl)
        rw [← e]
        exact k2
end
end K12

set_option Elab.async false
set_option linter.all false
set_option maxRecDepth 100000
set_option maxHeartbeats 4000000
namespace K12
open PySem PySem.Spec PyProof.Rows L2 MX NZ SM
theorem pr_dq {H : Hp} {p : Pr} {v : V} (h : PrAt H p v) : Dq H v (pairD p) := by
  obtain ⟨a, rfl, e⟩ := h
  exact .tup e (.cons (.int _) (.cons (.int _) .nil))
theorem prs_dq {H : Hp} : ∀ {ps : List Pr} {vs : List V}, PrsAt H ps vs → DqAll H vs (ps.map pairD)
  | _, _, .nil => .nil
  | _, _, .cons a t => .cons (pr_dq a) (prs_dq t)
mutual
/-- data without dicts -/
def noDict : PyData → Bool
  | .list xs => noDicts xs
  | .tuple xs => noDicts xs
  | .dict _ => false
  | _ => true
def noDicts : List PyData → Bool
  | [] => true
  | x :: xs => noDict x && noDicts xs
end
mutual
theorem Dq.dp {K : W.Frag} {H : Hp} : ∀ {v : V} {d : PyData}, Dq H v d → noDict d = true → Dp K H v d
  | _, _, .non, _ => .non
  | _, _, .bl b, _ => .bl b
  | _, _, .int i, _ => .int i
  | _, _, .str x, _ => .str x
  | _, _, .lst h a, n => .lst (SqL.of h) (DqAll.dp a (by simpa [noDict] using n))
  | _, _, .tup h a, n => .tup (SqT.of h) (DqAll.dp a (by simpa [noDict] using n))
  | _, _, .dic h a, n => by simp [noDict] at n
theorem DqAll.dp {K : W.Frag} {H : Hp} : ∀ {vs : List V} {ds : List PyData}, DqAll H vs ds → noDicts ds = true → DpAll K H vs ds
  | _, _, .nil, _ => .nil
  | _, _, .cons h t, n => .cons (Dq.dp h (by simp [noDicts] at n; exact n.1)) (DqAll.dp t (by simp [noDicts] at n; exact n.2))
end
theorem noDicts_prs : ∀ ps : List Pr, noDicts (ps.map pairD) = true
  | [] => rfl
  | p :: r => by simp [noDicts, noDict, pairD, noDicts_prs r]
theorem eqv_pair {p q : Pr} : PyData.eqv (pairD p) (pairD q) = decide (p = q) := by
  obtain ⟨a, b⟩ := p
  obtain ⟨c, d⟩ := q
  simp only [pairD, PyData.eqv, PyData.eqvAll, Bool.and_true, Prod.mk.injEq]
  by_cases h1 : a = c <;> by_cases h2 : b = d <;> simp [h1, h2]
theorem eqv_prs : ∀ {ps qs : List Pr}, PyData.eqv (.list (ps.map pairD)) (.list (qs.map pairD)) = decide (ps = qs)
  | [], [] => by simp [PyData.eqv, PyData.eqvAll]
  | [], q :: r => by simp [PyData.eqv, PyData.eqvAll]
  | p :: r, [] => by simp [PyData.eqv, PyData.eqvAll]
  | p :: r, q :: s => by
    have ih := eqv_prs (ps := r) (qs := s)
    simp only [PyData.eqv] at ih
    simp only [List.map_cons, PyData.eqv, PyData.eqvAll, eqv_pair, ih]
    by_cases h1 : p = q <;> by_cases h2 : r = s <;> simp [h1, h2]
theorem shaped_prs : ∀ ps : List Pr, SeqAt.shaped (.list (ps.map pairD)) = true := fun ps => by
  have c : ∀ ps : List Pr, PyData.canLayAll0 (ps.map pairD) = true := fun ps => by
    induction ps with
    | nil => rfl
    | cons p r ih => simp [PyData.canLayAll0, PyData.canLay0, pairD, ih]
  have d : ∀ ps : List Pr, PyData.depthAll (ps.map pairD) ≤ 5 := fun ps => by
    induction ps with
    | nil => simp [PyData.depthAll]
    | cons p r ih =>
      simp only [List.map_cons, PyData.depthAll]
      exact Nat.max_le.mpr ⟨by simp [pairD, PyData.depth, PyData.depthAll], ih⟩
  unfold SeqAt.shaped
  rw [Bool.and_eq_true]
  refine ⟨by simp only [PyData.canLay0, c], decide_eq_true ?_⟩
  have := d ps
  simp only [PyData.depth]
  omega
/-! ### ways -/
def endsB (n : Int) : PyData → Bool
  | .tuple ds => match intsOf ds with
    | some is => decide (is[0]? = some 0) && decide (is[is.length - 1]? = some (n + 1))
    | none => false
  | _ => false
def isWay (n : Int) (ps : List Pr) (d : PyData) : Bool := isRun ps d && endsB n d
theorem run_true {ps : List Pr} {d : PyData} (h : isRun ps d = true) : ∃ ds is, d = .tuple ds ∧ 2 ≤ ds.length ∧ intsOf ds = some is := by
  cases d with
  | tuple ds =>
    rw [run_tup, Bool.and_eq_true, decide_eq_true_eq] at h
    refine ⟨ds, ?_⟩
    have h2 := h.2
    unfold runB at h2
    cases e : intsOf ds with
    | none => rw [e] at h2; cases h2
    | some is => exact ⟨is, rfl, h.1, rfl⟩
  | _ => cases h
theorem ends_ints {n : Int} {ds : List PyData} {is : List Int} (h : intsOf ds = some is) : endsB n (.tuple ds) = (decide (is[0]? = some 0) && decide (is[is.length - 1]? = some (n + 1))) := by
  show (match intsOf ds with | some is => decide (is[0]? = some 0) && decide (is[is.length - 1]? = some (n + 1)) | none => false) = _
  rw [h]
theorem at_last {xs : List V} {v : V} (h : xs[xs.length - 1]? = some v) : atI xs (-1) = some v := by
  have l : xs.length - 1 < xs.length := (List.getElem?_eq_some_iff.mp h).1
  unfold atI ixN
  rw [if_neg (by decide), if_pos (by omega)]
  show xs[(-1 + (xs.length : Int)).toNat]? = some v
  rw [show (-1 + (xs.length : Int)).toNat = xs.length - 1 from by omega]
  exact h
theorem ints_map : ∀ {ds : List PyData} {is : List Int}, intsOf ds = some is → ds = is.map PyData.int
  | [], is, h => by
    cases h
    rfl
  | d :: r, is, h => by
    cases d with
    | int i =>
      unfold intsOf at h
      obtain ⟨js, e, rfl⟩ := Option.map_eq_some_iff.mp h
      rw [List.map_cons, ← ints_map e]
    | _ => cases h
section
variable {P : Program} {w : World} {K : W.Frag} {mg : Str → Option Value} {base : Heap} {C : Addr}
def spWay (P : Program) (w : World) (C : Addr) : Sp := fun vs H Q _ => ∃ s n ps x d, vs = [.ref s, x] ∧ StairAt P w C H s n ps ∧ Dq H x d ∧ ∀ H', Same H H' → Q (.bl (isWay n ps d)) H'
theorem scWay : FnScope ["stair", "value"] ["stair", "value"] (defScope (top 18)) := ⟨rfl, rfl, rfl, by decide +kernel, rfl, by decide +kernel, by decide +kernel⟩
theorem StairAt.ins {H : Hp} {s : Addr} {n : Int} {ps : List Pr} (h : StairAt P w C H s n ps) : ∃ dx fs, H s = some (.ins C dx fs) ∧ ∀ m : Str, m ≠ "_jumps" → m ≠ "_steps" → m ≠ "_things" → m ≠ "_table" → fs.lookup m = none := by
  obtain ⟨dx, jl, tl, tb, ys, h1, _⟩ := h
  refine ⟨dx, _, h1, fun m a b c d => ?_⟩
  have ne : ∀ {x y : Str}, x ≠ y → (x == y) = false := fun h => beq_eq_false_iff_ne.mpr h
  simp only [List.lookup, ne a, ne b, ne c, ne d]
theorem ok_way {f fR gH pH : Addr} {fd fdR fdH : FuncData} (F : Fun K "is_way" "is_way" (top 18) f fd) (S : StC K mg C)
    (GR : FnOk P w K mg base CX0 1 fR fdR ["self", "value"] (spRun P w C)) (mR : Meth K C "is_run" fR) (bR : Binds K fdR ["self", "value"] [])
    (GH : FnOk P w K mg base CX0 1 gH fdH ["self"] (spHead P w C)) (hp : PropOf K C "head" pH gH) (bH : Binds K fdH ["self"] []) : FnOk P w K mg base CX0 3 f fd ["stair", "value"] (spWay P w C) := by
  refine F.ok scWay (fun vs H Q E h => ?_) (fun cdv A outer s0 H vs Q E hr h => ?_)
  · obtain ⟨s, n, ps, x, d, rfl, _⟩ := h
    rfl
  · obtain ⟨s, n, ps, x, d, rfl, h, dq, k⟩ := h
    refine ⟨_, pss_one (ps_ret (pe_and (pe_meth (pv 0) S.cl mR GR (hr.mono (by decide)) bR .nil pass0 (pa_cons (pv 1) pa_nil))
      (pe_and (pe_cmpR op_eq (pe_ix ix_tup (pv 1) pe_int (fun _ _ => rfl)) pe_int (nomark _))
        (pe_one (pe_cmpR op_eq (pe_ix ix_tup (pv 1) (pe_un un_neg pe_int) (fun _ _ => rfl)) (pe_prop (pv 0) S.cl hp GH hr bH .nil pass0 rfl) (nomark _)))))), ?_⟩
    obtain ⟨dx, fs, hs, nl⟩ := h.ins
    refine ⟨_, rfl, s, dx, fs, rfl, hs, nl _ (by decide) (by decide) (by decide) (by decide), x, rfl, s, n, ps, x, d, rfl, h, dq, fun H' sm => ⟨_, rfl, ?_⟩⟩
    have k2 := k H' sm
    cases hR : isRun ps d with
    | false =>
      unfold isWay at k2
      rw [hR] at k2
      exact iteF k2
    | true =>
      refine iteT ?_
      obtain ⟨ds, is, rfl, l2, ei⟩ := run_true hR
      have em := ints_map ei
      cases dq with
      | tup ha al =>
        rename_i a xs
        rw [em] at al
        have ex := dqa_ints al
        subst ex
        have li : ds.length = is.length := by rw [em, List.length_map]
        unfold isWay at k2
        rw [hR, Bool.true_and] at k2
        rw [ends_ints ei] at k2
        have h0 : (is.map V.int)[0]? = some (.int (is[0]'(by omega))) := by
          rw [List.getElem?_map, List.getElem?_eq_getElem (by omega)]
          rfl
        have hl : (is.map V.int)[is.length - 1]? = some (.int (is[is.length - 1]'(by omega))) := by
          rw [List.getElem?_map, List.getElem?_eq_getElem (by omega)]
          rfl
        refine ⟨_, rfl, a, _, 0, _, rfl, rfl, SqT.of (sm _ _ ha), atI_nat h0, rfl, _, rfl, ?_⟩
        rw [List.getElem?_eq_getElem (show 0 < is.length by omega), List.getElem?_eq_getElem (show is.length - 1 < is.length by omega)] at k2
        by_cases e0 : is[0]'(by omega) = 0
        · rw [decide_eq_true (by rw [e0])]
          rw [decide_eq_true (by rw [e0]), Bool.true_and] at k2
          refine iteT ?_
          obtain ⟨dx2, fs2, hs2, _⟩ := (h.same sm).ins
          refine ⟨_, rfl, 1, rfl, a, _, -1, _, rfl, rfl, SqT.of (sm _ _ ha), at_last (by rw [List.length_map]; exact hl), _, rfl, s, dx2, fs2, rfl, hs2, s, n, ps, rfl, h.same sm, rfl, ?_⟩
          have e : decide (V.int (is[is.length - 1]'(by omega)) = V.int (n + 1)) = decide (some (is[is.length - 1]'(by omega)) = some (n + 1)) := by
            congr 1
            simp
          rw [e]
          exact k2
        · rw [decide_eq_false (by intro z; injection z with z; exact e0 z)]
          rw [decide_eq_false (by intro z; injection z with z; exact e0 z), Bool.false_and] at k2
          exact iteF k2
end
end K12

set_option Elab.async false
set_option linter.all false
set_option maxRecDepth 100000
set_option maxHeartbeats 4000000
namespace K12
open PySem PySem.Spec PyProof.Rows L2 MX NZ SM
/-- more of the class Stair -/
structure StD (K : W.Frag) (C : Addr) : Prop where
  ic : C8.InsC K C
  no : ∀ U ∈ kinds, W.kitOne K (.type U) (.ref C) = some false
/-- the texts of jumps -/
structure TxC (P : Program) (w : World) (K : W.Frag) (mg : Str → Option Value) : Prop where
  ex : ∃ td xs, mg "TEXTS" = some (.ref td) ∧ KMx P w K td xs ∧ (∃ x ∈ xs, isExactStrKey x.2.1 = false) ∧ ∀ p : Pr, okJ 10 p → ∃ z, atT xs (.inr (kP p)) = some z ∧ RelV (.str (pairD p).shown) z
section
variable {P : Program} {w : World} {K : W.Frag} {mg : Str → Option Value} {base : Heap} {C : Addr}
theorem scCall : FnScope ["self", "value"] ["self", "value"] (defScope (mth 16)) := ⟨rfl, rfl, rfl, by decide +kernel, rfl, by decide +kernel, by decide +kernel⟩
theorem ok_call {f fW : Addr} {fd fdW : FuncData} (F : Fun K "__call__" "Stair.__call__" (mth 16) f fd)
    (GW : FnOk P w K mg base CX0 3 fW fdW ["stair", "value"] (spWay P w C)) (kW : W.keepIn K (.ref fW) = true) (bW : Binds K fdW ["stair", "value"] []) (mW : mg "is_way" = some (.ref fW)) : FnOk P w K mg base CX0 4 f fd ["self", "value"] (spWay P w C) := by
  refine F.ok scCall (fun vs H Q E h => ?_) (fun cdv A outer s0 H vs Q E hr h => ?_)
  · obtain ⟨s, n, ps, x, d, rfl, _⟩ := h
    rfl
  · obtain ⟨s, n, ps, x, d, rfl, h⟩ := h
    exact ⟨_, pss_one (ps_ret (pe_call GW hr (by rfl) mW kW bW .nil pass0 (pa_cons (pv 0) (pa_cons (pv 1) pa_nil)))), _, rfl, _, rfl, s, n, ps, x, d, rfl, h⟩
/-- what a stair is compared with -/
def spEq (P : Program) (w : World) (K : W.Frag) (C : Addr) : Sp := fun vs H Q _ => ∃ s n ps x, vs = [.ref s, x] ∧ StairAt P w C H s n ps ∧
  ((∃ s2 m qs, x = .ref s2 ∧ StairAt P w C H s2 m qs ∧ Q (.bl (decide (n = m ∧ ps = qs))) H) ∨ ∃ U, Kd K H x U ∧ Q (.bl false) H)
theorem scEq : FnScope ["self", "other"] ["self", "other"] (defScope (mth 21)) := ⟨rfl, rfl, rfl, by decide +kernel, rfl, by decide +kernel, by decide +kernel⟩
theorem prs_dp {H : Hp} {a : Addr} {ps : List Pr} {ys : List V} (h : H a = some (.lst ys)) (pr : PrsAt H ps ys) : Dp K H (.ref a) (.list (ps.map pairD)) := Dq.dp (.lst h (prs_dq pr)) (by simp [noDict, noDicts_prs])
theorem room64 {k : Nat} {A : Around} (r : Room k A) : A.units + 64 < cLine := by have := r.un; omega
theorem ok_eq {f : Addr} {fd : FuncData} (F : Fun K "__eq__" "Stair.__eq__" (mth 21) f fd) (B : Bl mg) (S : StC K mg C) (D : StD K C) : FnOk P w K mg base CX0 1 f fd ["self", "other"] (spEq P w K C) := by
  refine F.ok scEq (fun vs H Q E h => ?_) (fun cdv A outer s0 H vs Q E hr h => ?_)
  · obtain ⟨s, n, ps, x, rfl, _⟩ := h
    rfl
  · obtain ⟨s, n, ps, x, rfl, h, o⟩ := h
    refine ⟨_, pss_one (ps_ret (pe_and (pe_callB call_isi (by rfl) B.isinstance boot_isinstance (pa_cons (pv 1) (pa_cons (pe_glob (v := .ref C) (by rfl) S.m rfl) pa_nil)))
      (pe_and (pe_cmpR op_eq (pe_fld (pv 0) rfl) (pe_fld (pv 1) rfl) (nomark _)) (pe_one (pe_cmpR (op_eqD (room64 hr)) (pe_fld (pv 0) rfl) (pe_fld (pv 1) rfl) (nomark _)))))), ?_⟩
    rcases o with ⟨s2, m, qs, rfl, h2, k⟩ | ⟨U, kd, k⟩
    · obtain ⟨dx, fs, hs, _⟩ := h2.ins
      refine ⟨_, rfl, .ref s2, .ref C, .ref C, .ref C, true, rfl, .own C, .base (.ins hs D.ic.cl D.ic.ha D.ic.hn D.ic.htk D.ic.hm), D.ic.me, true, rfl, iteT ?_⟩
      dsimp only [tAndV, tOp]
      refine fld_s S h (by rfl) ?_
      refine fld_s S h2 (by rfl) ?_
      refine ⟨rfl, _, rfl, ?_⟩
      by_cases e : n = m
      · rw [decide_eq_true (by rw [e])]
        refine iteT ?_
        refine fld_j S h (by rfl) fun jl ys hl pr => fld_j S h2 (by rfl) fun jl2 ys2 hl2 pr2 => ⟨_, _, prs_dp hl pr, prs_dp hl2 pr2, shaped_prs _, shaped_prs _, ?_⟩
        rw [eqv_prs]
        simpa [e] using k
      · rw [decide_eq_false (fun z => e (by injection z))]
        refine iteF ?_
        rw [decide_eq_false (fun z => e z.1)] at k
        exact k
    · exact ⟨_, rfl, x, .ref C, .type U, .ref C, false, rfl, .own C, kd.2, D.no U kd.1, false, rfl, iteF k⟩
/-! ### texts -/
theorem small_txt : ∀ k : Nat, k < 100 → ((toString ((k : Nat) : Int) : String) : Str).length ≤ 2 := by decide +kernel
theorem int_txt {i : Int} (a : 0 ≤ i) (b : i < 100) : (PyData.int i).shown.length ≤ 2 := by
  obtain ⟨k, rfl⟩ := Int.eq_ofNat_of_zero_le a
  rw [PyData.shown_int]
  exact small_txt k (by omega)
theorem pair_txt {p : Pr} (h : okJ 10 p) : (pairD p).shown.length ≤ 11 := by
  obtain ⟨a, b, c⟩ := h
  have h1 := int_txt (i := p.1) a (by omega)
  have h2 := int_txt (i := p.2) (by omega) (by omega)
  have h3 := tupleText_len_le (PyData.shownAll [.int p.1, .int p.2])
  simp only [pairD, PyData.shown] at h3 ⊢
  simp only [PyData.shown] at h1 h2
  simp only [PyData.shownAll, PyData.shown, List.map_cons, List.map_nil, List.sum_cons, List.sum_nil, List.length_cons, List.length_nil] at h3 ⊢
  omega
theorem okJ10 {n : Int} {p : Pr} (h : okJ n p) (b : n ≤ 10) : okJ 10 p := ⟨h.1, h.2.1, by have := h.2.2; omega⟩
/-- the texts of jumps -/
def txts (ps : List Pr) : List Str := ps.map fun p => (pairD p).shown
theorem shownAll_prs : ∀ ps : List Pr, PyData.shownAll (ps.map pairD) = txts ps
  | [] => PyData.shownAll_nil
  | p :: r => by rw [List.map_cons, PyData.shownAll_cons, shownAll_prs r]; rfl
theorem txts_sum {ps : List Pr} (h : ∀ p ∈ ps, okJ 10 p) : ((txts ps).map (·.length)).sum ≤ 11 * ps.length := by
  induction ps with
  | nil => simp [txts]
  | cons p r ih =>
    have := ih fun q m => h q (List.mem_cons_of_mem _ m)
    have h1 := pair_txt (h p List.mem_cons_self)
    simp only [txts, List.map_cons, List.sum_cons, List.length_cons] at this ⊢
    omega
theorem join_len : ∀ ts : List Str, (Str.join ", " ts).length ≤ (ts.map (·.length)).sum + 2 * ts.length
  | [] => Nat.zero_le _
  | [x] => by simp [Str.join]
  | x :: y :: r => by
    have ih := join_len (y :: r)
    have e2 : ((", " : String) : Str).length = 2 := rfl
    show (x ++ ", " ++ Str.join ", " (y :: r)).length ≤ _
    rw [strLen_append, strLen_append, e2]
    simp only [List.map_cons, List.sum_cons, List.length_cons] at ih ⊢
    omega
theorem le1000 {a : Str} (h : a.length ≤ 1000) : a.length ≤ sizeLine := Nat.le_of_lt (small1000 h)
theorem log_small : ∀ k : Nat, k < 100 → ((k : Nat) : Int).natAbs.log2 < 1920 := by decide +kernel
/-- repr of a stair -/
def stairTxt (n : Int) (ps : List Pr) : Str := Str.empty ++ "Stair(" ++ (PyData.int n).shown ++ ", [" ++ Str.join ", " (txts ps) ++ "])"
def spRepr (P : Program) (w : World) (C : Addr) : Sp := fun vs H Q _ => ∃ s n ps, vs = [.ref s] ∧ StairAt P w C H s n ps ∧ Parts n ps ∧ ∀ H', Same H H' → Q (.str (stairTxt n ps)) H'
theorem scRepr : FnScope ["self", "jump"] ["self"] (defScope (mth 22)) := ⟨rfl, rfl, rfl, by decide +kernel, rfl, by decide +kernel, by decide +kernel⟩
theorem ok_repr {f : Addr} {fd : FuncData} (F : Fun K "__repr__" "Stair.__repr__" (mth 22) f fd) (S : StC K mg C) (T : TxC P w K mg) : FnOk P w K mg base CX0 1 f fd ["self"] (spRepr P w C) := by
  refine F.ok scRepr (fun vs H Q E h => ?_) (fun cdv A outer s0 H vs Q E hr h => ?_)
  · obtain ⟨s, n, ps, rfl, _⟩ := h
    rfl
  · obtain ⟨s, n, ps, rfl, h, pt, k⟩ := h
    obtain ⟨td, xs, mT, km, mix, tx⟩ := T.ex
    have hu1 := hu100 hr
    refine ⟨_, pss_one (ps_ret (pe_joined (.cons pe_str (.cons (pe_fmt (pe_fld (pv 0) rfl)) (.cons pe_str (.cons (pe_fmt (pe_join pe_str (pe_lc (te := tOp (rIxKM P w K) (tC (.ref td)) (tVar 1)) (own := [("jump", 1)]) (g := gName 1) (tt := tYes) rfl scRepr.nd (pi_list (pe_fld (pv 0) rfl)) (blkOk_by (N := ["self", "jump"]) (sc := defScope (mth 22)) (by decide +kernel))
      (fun _ _ _ _ _ => pg_name (i := 1) scRepr.nd rfl (.inl rfl)) (fun _ _ _ _ _ => pts_nil) (fun _ _ _ _ _ => by exact pe_ix (ix_KM hu1) (pe_glob (v := .ref td) (by rfl) mT rfl) (pv 1) (fun _ _ => rfl))))) (.cons pe_str .nil))))))), ?_⟩
    dsimp only [tRet, tJs, tFmt, tM1, tLc, iList]
    have l1 : (Str.empty ++ "Stair(" : Str).length = 6 := by decide +kernel
    have l2 : ((", [" : String) : Str).length = 3 := rfl
    have l3 : (("])" : String) : Str).length = 2 := rfl
    have l4 : ((", " : String) : Str).length = 2 := rfl
    have l5 := int_txt (i := n) (by have := pt.n1; omega) (by have := pt.n2; omega)
    have okp : ∀ p ∈ ps, okJ 10 p := fun p m => okJ10 (pt.ok p m) pt.n2
    have l6 := join_len (txts ps)
    have l7 := txts_sum okp
    have l8 : (txts ps).length = ps.length := List.length_map _
    have l9 := pt.ln
    refine ⟨_, rfl, le1000 (by rw [l1]; decide), ?_⟩
    refine fld_s S h (by rfl) (.inr ⟨n, rfl, ?_, _, rfl, ?_, _, rfl, ?_, ?_⟩)
    · have := pt.n2
      have := pt.n1
      rw [show n = ((n.toNat : Nat) : Int) from by omega]
      exact log_small n.toNat (by omega)
    · rw [← PyData.shown_int]
      exact le1000 (by rw [strLen_append, l1]; omega)
    · rw [← PyData.shown_int]
      exact le1000 (by rw [strLen_append, strLen_append, l1, l2]; omega)
    rw [← PyData.shown_int]
    refine ⟨⟨_, rfl⟩, ?_⟩
    refine fld_j S h (by rfl) fun jl ys hl pr => ⟨jl, rfl, ⟨_, SqL.of hl⟩, fun D hD => lc_it (walk_list (xs := ys)) (fun i H' => Same H H' ∧ H' D = some (.lst ((txts (ps.take i)).map V.str))) ⟨Same.new hD, upd_same⟩ (fun i H' _ h => Same.seq h.1 (SqL.of hl)) (fun i x H' H'' hi inv y => ?_) fun H' inv => ?_⟩
    · obtain ⟨sm, hT⟩ := inv
      obtain ⟨rfl, hx⟩ := y
      obtain ⟨p, hp, a, rfl, ha⟩ := pr.get hx
      have hlt : i < ps.length := by rw [← pr.len]; exact hi
      obtain ⟨z, hz, rz⟩ := tx p (okp p (List.mem_of_getElem? hp))
      refine ⟨rfl, ?_⟩
      dsimp only [tYes]
      rw [if_pos rfl]
      refine ⟨_, rfl, td, xs, .inr (kP p), _, z, rfl, km, ⟨a, rfl, sm _ _ ha⟩, rfl, mix, hz, rz, _, hT, ?_, fun b u e => ?_, ?_⟩
      · exact small1000 (by rw [List.length_map]; unfold txts; rw [List.length_map, List.length_take]; omega)
      · rw [upd_ne (ne_of_none e hD)]
        exact sm _ _ e
      · rw [upd_same, take_succ_of hp]
        unfold txts
        rw [List.map_append, List.map_append]
        rfl
    · obtain ⟨sm, hT⟩ := inv
      have el : ys.length = ps.length := pr.len
      rw [el, List.take_length] at hT
      refine ⟨_, D, txts ps, rfl, rfl, .inl (SqL.of hT), ?_, .inl ⟨_, rfl, ?_, _, rfl, ?_, _, rfl, ?_, ?_⟩⟩
      · rw [l4]
        omega
      · rw [TL.join_eq]
        exact le1000 (by omega)
      · rw [TL.join_eq]
        exact le1000 (by rw [strLen_append, strLen_append, strLen_append, l1, l2]; omega)
      · rw [TL.join_eq]
        exact le1000 (by rw [strLen_append, strLen_append, strLen_append, strLen_append, l1, l2, l3]; omega)
      · rw [TL.join_eq]
        exact k _ sm
end
end K12

set_option Elab.async false
set_option linter.all false
set_option maxRecDepth 100000
set_option maxHeartbeats 4000000
namespace MX
open PySem PySem.Spec PyProof.Rows L2
section
variable {J : It} {n : Nat} {G : Hp → Prop} {Y : Nat → Hp → V → Hp → Prop}
/-- the outer walk of [e for .. for ..] -/
theorem lc2_out (wk : Walk J n G Y) {g g1 : TG} {tt tt1 : TT} {wi1 : TI} {te : TE} {vs vs1 : List Nat} {σ : L2.St} {H1 : Hp} {D : Addr} {Qd : Hp → Prop} (Pv : Nat → Hp → Prop) (h0 : Pv 0 (upd H1 D (.lst []))) (hG : ∀ i H, i ≤ n → Pv i H → G H)
    (hs : ∀ i x H H', i < n → Pv i H → Y i H x H' → g x (wipe σ vs) H' fun σ2 H2 => wipe σ2 vs = wipe σ vs ∧ tt σ2 H2 fun b H3 =>
      if b = true then wi1 σ2 H3 fun J1 H4 => ∃ W1 : Nat → Nat → Hp → Prop, (∃ m, W1 0 m H4) ∧ ∀ j k H, W1 j k H →
        (J1.stop j H ∧ Pv (i + 1) H) ∨ (J1.go j H ∧ ∃ Nx1 : Hp → Prop, (∀ H', Nx1 H' → ∃ k', k' < k ∧ W1 (j + 1) k' H') ∧ ∀ x H', J1.yld j H x H' → g1 x (wipe σ2 vs1) H' fun σ3 H5 => wipe σ3 vs1 = wipe σ2 vs1 ∧ tt1 σ3 H5 fun b H6 =>
          if b = true then te σ3 H6 fun y H7 => ∃ acc, H7 D = some (.lst acc) ∧ acc.length < sizeLine ∧ Nx1 (upd H7 D (.lst (acc ++ [y]))) else Nx1 H6)
      else Pv (i + 1) H3) (hd : ∀ H, Pv n H → Qd H) :
    ∃ W : Nat → Nat → Hp → Prop, (∃ m, W 0 m (upd H1 D (.lst []))) ∧ ∀ i m H, W i m H →
      (J.stop i H ∧ Qd H) ∨ (J.go i H ∧ ∃ Nx : Hp → Prop, (∀ H', Nx H' → ∃ m', m' < m ∧ W (i + 1) m' H') ∧ ∀ x H', J.yld i H x H' → g x (wipe σ vs) H' fun σ2 H2 => wipe σ2 vs = wipe σ vs ∧ tt σ2 H2 fun b H3 =>
        if b = true then wi1 σ2 H3 fun J1 H4 => ∃ W1 : Nat → Nat → Hp → Prop, (∃ m, W1 0 m H4) ∧ ∀ j k H, W1 j k H →
          (J1.stop j H ∧ Nx H) ∨ (J1.go j H ∧ ∃ Nx1 : Hp → Prop, (∀ H', Nx1 H' → ∃ k', k' < k ∧ W1 (j + 1) k' H') ∧ ∀ x H', J1.yld j H x H' → g1 x (wipe σ2 vs1) H' fun σ3 H5 => wipe σ3 vs1 = wipe σ2 vs1 ∧ tt1 σ3 H5 fun b H6 =>
            if b = true then te σ3 H6 fun y H7 => ∃ acc, H7 D = some (.lst acc) ∧ acc.length < sizeLine ∧ Nx1 (upd H7 D (.lst (acc ++ [y]))) else Nx1 H6)
        else Nx H3) := by
  refine ⟨fun i m H => m = n - i ∧ i ≤ n ∧ Pv i H, ⟨n, by simp, Nat.zero_le _, h0⟩, ?_⟩
  rintro i m H ⟨rfl, hi, p⟩
  have q := hG i H hi p
  by_cases hlt : i < n
  · exact .inr ⟨wk.goes i H hlt q, Pv (i + 1), fun H' p' => ⟨n - (i + 1), by omega, rfl, hlt, p'⟩, fun x H' y => hs i x H H' hlt p (wk.yields i H x H' hlt q y)⟩
  · have e : i = n := by omega
    subst e
    exact .inl ⟨wk.stops H q, hd H p⟩
/-- the inner walk -/
theorem lc2_in (wk : Walk J n G Y) {g : TG} {tt : TT} {te : TE} {vs : List Nat} {σ : L2.St} {H1 : Hp} {D : Addr} {Qd : Hp → Prop} (Pv : Nat → Hp → Prop) (h0 : Pv 0 H1) (hG : ∀ i H, i ≤ n → Pv i H → G H)
    (hs : ∀ i x H H', i < n → Pv i H → Y i H x H' → g x (wipe σ vs) H' fun σ2 H2 => wipe σ2 vs = wipe σ vs ∧ tt σ2 H2 fun b H3 =>
      if b = true then te σ2 H3 fun y H4 => ∃ acc, H4 D = some (.lst acc) ∧ acc.length < sizeLine ∧ Pv (i + 1) (upd H4 D (.lst (acc ++ [y]))) else Pv (i + 1) H3) (hd : ∀ H, Pv n H → Qd H) :
    ∃ W : Nat → Nat → Hp → Prop, (∃ m, W 0 m H1) ∧ ∀ i m H, W i m H →
      (J.stop i H ∧ Qd H) ∨ (J.go i H ∧ ∃ Nx : Hp → Prop, (∀ H', Nx H' → ∃ m', m' < m ∧ W (i + 1) m' H') ∧ ∀ x H', J.yld i H x H' → g x (wipe σ vs) H' fun σ2 H2 => wipe σ2 vs = wipe σ vs ∧ tt σ2 H2 fun b H3 =>
        if b = true then te σ2 H3 fun y H4 => ∃ acc, H4 D = some (.lst acc) ∧ acc.length < sizeLine ∧ Nx (upd H4 D (.lst (acc ++ [y]))) else Nx H3) := by
  refine ⟨fun i m H => m = n - i ∧ i ≤ n ∧ Pv i H, ⟨n, by simp, Nat.zero_le _, h0⟩, ?_⟩
  rintro i m H ⟨rfl, hi, p⟩
  have q := hG i H hi p
  by_cases hlt : i < n
  · exact .inr ⟨wk.goes i H hlt q, Pv (i + 1), fun H' p' => ⟨n - (i + 1), by omega, rfl, hlt, p'⟩, fun x H' y => hs i x H H' hlt p (wk.yields i H x H' hlt q y)⟩
  · have e : i = n := by omega
    subst e
    exact .inl ⟨wk.stops H q, hd H p⟩
end
end MX
namespace K12
open PySem PySem.Spec PyProof.Rows L2 MX NZ SM
section
variable {P : Program} {w : World} {K : W.Frag} {mg : Str → Option Value} {base : Heap} {C : Addr}
theorem yes_go {σ : L2.St} {H : Hp} {Q : Bool → Hp → Prop} (h : Q true H) : tYes σ H Q := h
theorem PrsAt.lst {H : Hp} {D : Addr} {xs : List V} {o : HO} (h : H D = some (.lst xs)) : ∀ {ps : List Pr} {vs : List V}, PrsAt H ps vs → PrsAt (upd H D o) ps vs
  | _, _, .nil => .nil
  | _, _, .cons ⟨a, e, t⟩ r => .cons ⟨a, e, by rw [upd_ne (ne_of t h nofun)]; exact t⟩ (PrsAt.lst h r)
/-- a dict's entries: the ints so far -/
def kvsI (ns : List Int) : List (Key × V) := ns.map fun k => (Sum.inl k, V.bl true)
theorem valI_new {k : Int} : ∀ {ns : List Int}, k ∉ ns → valV (kvsI ns) (Sum.inl k) = none
  | [], _ => rfl
  | q :: r, h => by
    have n : (Sum.inl q : Key) ≠ Sum.inl k := fun e => h (by injection e with e; rw [e]; exact List.mem_cons_self)
    have t := valI_new (ns := r) fun m => h (List.mem_cons_of_mem _ m)
    simp only [kvsI, List.map_cons] at t ⊢
    simp [valV, n] at t ⊢
    exact t
theorem putI_new {k : Int} {ns : List Int} (h : k ∉ ns) : putK (kvsI ns) (Sum.inl k) (V.bl true) = kvsI (ns ++ [k]) := by
  unfold putK
  rw [if_neg]
  · simp [kvsI]
  · intro z
    obtain ⟨kv, hm, e⟩ := List.any_eq_true.mp z
    obtain ⟨q, hq, rfl⟩ := List.mem_map.mp hm
    have := of_decide_eq_true e
    injection this with this
    exact h (by rw [← this]; exact hq)
def spFirst (K : W.Frag) : Sp := fun vs H Q _ => ∃ (a b : Addr) (ns : List Int), vs = [.ref a, .ref b] ∧ SqT K H a (ns.map V.int) ∧ SqL K H b (ns.map fun _ => V.bl true) ∧ ns.Nodup ∧ ns.length ≤ 1000 ∧ ∀ H', Same H H' → Q .non H'
theorem scFirst : FnScope ["row", "right", "ahead", "at", "value", "is_right"] ["row", "right"] (defScope (top 19)) := ⟨rfl, rfl, rfl, by decide +kernel, rfl, by decide +kernel, by decide +kernel⟩
theorem ok_first {f : Addr} {fd : FuncData} (F : Fun K "first_wrong" "first_wrong" (top 19) f fd) (B : Bl mg) (B2 : Bl2 mg) : FnOk P w K mg base CX0 1 f fd ["row", "right"] (spFirst K) := by
  refine F.ok scFirst (fun vs H Q E h => ?_) (fun cdv A outer s0 H vs Q E hr h => ?_)
  · obtain ⟨a, b, ns, rfl, _⟩ := h
    rfl
  · obtain ⟨a, b, ns, rfl, ha, hb, nd, ln, k⟩ := h
    have hu := hu_of hr
    refine ⟨_, pss_cons (ps_set (i := 2) scFirst.nd rfl (.inl rfl) pe_dnewK)
      (pss_cons (ps_for PassesOwn.never rfl (pi_enumZ (by rfl) B.enumerate (by rfl) B2.zip (pa_cons (pv 0) (pa_cons (pv 1) pa_nil))) (pg_tup rfl (pgs_cons (pg_name (i := 3) scFirst.nd rfl (.inl rfl)) (pgs_cons (pg_tup rfl (pgs_cons (pg_name (i := 4) scFirst.nd rfl (.inl rfl)) (pgs_cons (pg_name (i := 5) scFirst.nd rfl (.inl rfl)) pgs_nil))) pgs_nil)))
        (pss_cons (ps_if (pw_or (pt_not (pt_val (pv 5))) (pw_or1 (pt_cmp (pc_din hu (pv 4) (pv 2))))).pt (pss_one (ps_ret (pv 3))) pss_nil)
        (pss_one (ps_dput hu (pv 2) (pv 4) pe_bl rfl))))
      (pss_one (ps_ret pe_non))), ?_⟩
    refine fun d hd => ?_
    have sN : Same H (upd H d (.dK [])) := Same.new hd
    refine ⟨_, rfl, _, rfl, a, b, ns.map V.int, ns.map (fun _ => V.bl true), rfl, same_sqt sN ha, Same.seq sN hb, for_it (walk_enumZ (n := ns.length) (by simp)) (fun i σ H' => (∃ s3 s4 s5, σ = [some (.ref a), some (.ref b), some (.ref d), s3, s4, s5]) ∧ Same H H' ∧ H' d = some (.dK (kvsI (ns.take i)))) ⟨⟨_, _, _, rfl⟩, sN, upd_same⟩ (fun i σ H' _ h => ⟨same_sqt h.2.1 ha, Same.seq h.2.1 hb⟩) (fun i v σ H2 H3 hi inv y => ?_) fun σ H' inv => ?_⟩
    · obtain ⟨⟨s3, s4, s5, rfl⟩, sm, hD⟩ := inv
      obtain ⟨T, U, x1, x2, rfl, hT, hU, ne, rfl, hx1, hx2⟩ := y
      have hx1 : (ns.map V.int)[i]? = some x1 := hx1
      have hx2 : (ns.map fun _ => V.bl true)[i]? = some x2 := hx2
      rw [List.getElem?_map] at hx1 hx2
      obtain ⟨k1, q1, rfl⟩ := Option.map_eq_some_iff.mp hx1
      obtain ⟨k2, q2, rfl⟩ := Option.map_eq_some_iff.mp hx2
      have s1 : Same H2 (upd H2 T (.tup [.int k1, .bl true])) := Same.new hT
      have s2 : Same H2 (upd (upd H2 T (.tup [.int k1, .bl true])) U (.tup [.int (i : Nat), .ref T])) := s1.trans (Same.new (by rw [upd_ne (Ne.symm ne)]; exact hU))
      have hT2 : upd (upd H2 T (.tup [.int k1, .bl true])) U (.tup [.int (i : Nat), .ref T]) T = some (.tup [.int k1, .bl true]) := by rw [upd_ne ne, upd_same]
      refine ⟨U, _, rfl, SqT.of upd_same, rfl, _, _, rfl, _, _, rfl, T, _, rfl, SqT.of hT2, rfl, _, _, rfl, _, _, rfl, rfl, rfl, ?_⟩
      dsimp only
      have np : k1 ∉ ns.take i := fun m => by
        obtain ⟨j, hj, e⟩ := List.getElem_of_mem m
        rw [List.getElem_take] at e
        have lj : j < i := by rw [List.length_take] at hj; omega
        obtain ⟨_, hp'⟩ := List.getElem?_eq_some_iff.mp q1
        have := (List.getElem_inj nd (i := j) (j := i)).mp (by rw [e]; exact hp'.symm)
        omega
      refine seq_if (or_go ⟨_, rfl, true, rfl, iteF ⟨_, rfl, _, rfl, d, none, rfl, ?_, false, rfl, iteF ?_⟩⟩)
      · have g := DGet.k (k := Sum.inl k1) (s2 _ _ hD)
        rw [valI_new np] at g
        exact g
      · dsimp only [tNext]
        refine ⟨_, rfl, _, rfl, d, _, rfl, DPut.k (k := Sum.inl k1) (s2 _ _ hD) (small1000 (by rw [kvsI, List.length_map, List.length_take]; omega)), ⟨_, _, _, rfl⟩, fun c o e => ?_, ?_⟩
        · rw [upd_ne (ne_of_none e hd)]
          exact s2 _ _ (sm _ _ e)
        · rw [upd_same, putI_new np, take_succ_of q1]
    · obtain ⟨_, sm, _⟩ := inv
      exact k _ sm
/-- the jumps of some lengths -/
def ofList (n : Int) (ls : List Int) : List Pr := ls.flatMap fun l => (List.range (n + 2 - l).toNat).map fun (i : Nat) => (((i : Int), (i : Int) + l) : Pr)
def spCheckL (K : W.Frag) : Sp := fun vs H Q _ => ∃ (a : Addr) (ls : List Int), vs = [.ref a] ∧ SqT K H a (ls.map V.int) ∧ ls.Nodup ∧ (∀ l ∈ ls, 1 ≤ l ∧ l ≤ 11) ∧ ls.length ≤ 100 ∧ ∀ H', Same H H' → Q .non H'
theorem scCheckL : FnScope ["lengths", "wrong", "length"] ["lengths"] (defScope (top 20)) := ⟨rfl, rfl, rfl, by decide +kernel, rfl, by decide +kernel, by decide +kernel⟩
theorem ok_checkL {f fF fL : Addr} {fd fdF fdL : FuncData} (F : Fun K "check_lengths" "check_lengths" (top 20) f fd)
    (GF : FnOk P w K mg base CX0 1 fF fdF ["row", "right"] (spFirst K)) (kF : W.keepIn K (.ref fF) = true) (bF : Binds K fdF ["row", "right"] []) (mF : mg "first_wrong" = some (.ref fF))
    (GL : FnOk P w K mg base CX0 2 fL fdL ["value"] (spLen K)) (kL : W.keepIn K (.ref fL) = true) (bL : Binds K fdL ["value"] []) (mL : mg "is_length" = some (.ref fL)) : FnOk P w K mg base CX0 3 f fd ["lengths"] (spCheckL K) := by
  refine F.ok scCheckL (fun vs H Q E h => ?_) (fun cdv A outer s0 H vs Q E hr h => ?_)
  · obtain ⟨a, ls, rfl, _⟩ := h
    rfl
  · obtain ⟨a, ls, rfl, ha, nd, hl, ln, k⟩ := h
    refine ⟨_, pss_cons (ps_set (i := 1) scCheckL.nd rfl (.inl rfl) (pe_call GF (hr.mono (by decide)) (by rfl) mF kF bF .nil pass0 (pa_cons (pv 0) (pa_cons
        (pe_lc (te := tCall (spLen K) [] E0 (tCons (tVar 2) tNil)) (own := [("length", 2)]) (g := gName 2) (tt := tYes) rfl scCheckL.nd (pi_tup (pv 0)) (blkOk_by (N := ["lengths", "wrong", "length"]) (sc := defScope (top 20)) (by decide +kernel))
          (fun _ _ _ _ _ => pg_name (i := 2) scCheckL.nd rfl (.inl rfl)) (fun _ _ _ _ _ => pts_nil) (fun _ _ _ _ _ => by exact pe_call GL hr (by rfl) mL kL bL .nil pass0 (pa_cons (pv 2) pa_nil))) pa_nil))))
      (pss_one (ps_if (pt_cmp (pc_notN (pv 1))) pss_never pss_nil)), ?_⟩
    refine ⟨_, rfl, _, rfl, a, rfl, ⟨_, ha⟩, fun D hD => lc_it (walk_tup (xs := ls.map V.int)) (fun i H' => Same H H' ∧ H' D = some (.lst ((ls.take i).map fun _ => V.bl true))) ⟨Same.new hD, upd_same⟩ (fun i H' _ h => same_sqt h.1 ha) (fun i x H' H'' hi inv y => ?_) fun H' inv => ?_⟩
    · obtain ⟨sm, hT⟩ := inv
      obtain ⟨rfl, hx⟩ := y
      rw [List.getElem?_map] at hx
      obtain ⟨l, q1, rfl⟩ := Option.map_eq_some_iff.mp hx
      obtain ⟨l1, l2⟩ := hl l (List.mem_of_getElem? q1)
      refine ⟨rfl, ?_⟩
      dsimp only [tYes]
      rw [if_pos rfl]
      refine ⟨_, rfl, _, "int", rfl, kd_mk, _, hT, ?_, fun b u e => ?_, ?_⟩
      · exact small1000 (by rw [List.length_map, List.length_take]; omega)
      · rw [upd_ne (ne_of_none e hD)]
        exact sm _ _ e
      · rw [upd_same, take_succ_of q1, List.map_append, show len11 (.int l) = true from decide_eq_true ⟨l1, l2⟩]
        rfl
    · obtain ⟨sm, hT⟩ := inv
      rw [List.length_map, List.take_length] at hT
      refine ⟨a, D, ls, rfl, same_sqt sm ha, SqL.of hT, nd, Nat.le_trans ln (by decide), fun H2 s2 => ?_⟩
      refine ⟨_, rfl, _, rfl, ?_⟩
      show if (!decide (V.non = V.non)) = true then _ else _
      rw [decide_eq_true rfl]
      exact iteF (k _ (sm.trans s2))
theorem mem_of {n : Int} {ls : List Int} {p : Pr} : p ∈ ofList n ls ↔ ∃ l ∈ ls, 0 ≤ p.1 ∧ p.1 < n + 2 - l ∧ p.2 = p.1 + l := by
  unfold ofList
  rw [List.mem_flatMap]
  refine exists_congr fun l => and_congr_right fun _ => ?_
  rw [List.mem_map]
  constructor
  · rintro ⟨i, hi, rfl⟩
    have := List.mem_range.mp hi
    exact ⟨Int.natCast_nonneg i, by show (i : Int) < _; omega, rfl⟩
  · rintro ⟨a, b, c⟩
    refine ⟨p.1.toNat, List.mem_range.mpr (by omega), ?_⟩
    obtain ⟨x, y⟩ := p
    simp only at a b c ⊢
    rw [c, Int.toNat_of_nonneg a]
theorem of_ok {n : Int} {ls : List Int} (hl : ∀ l ∈ ls, 1 ≤ l ∧ l ≤ 11) {p : Pr} (h : p ∈ ofList n ls) : okJ n p := by
  obtain ⟨l, m, a, b, c⟩ := mem_of.mp h
  have := hl l m
  exact ⟨a, by omega, by omega⟩
theorem of_nodup {n : Int} {ls : List Int} (nd : ls.Nodup) : (ofList n ls).Nodup := by
  unfold ofList
  refine List.pairwise_flatMap.mpr ⟨fun l _ => List.pairwise_map.mpr (List.Pairwise.imp (R := fun a b => a ≠ b) (S := fun a b : Nat => (((a : Int), (a : Int) + l) : Pr) ≠ (((b : Int), (b : Int) + l) : Pr)) (fun {a b} h => fun e => h ?_) List.nodup_range), List.Pairwise.imp (R := fun a b => a ≠ b) (fun {a b} h => ?_) nd⟩
  · injection e with e
    omega
  · intro x hx y hy e
    subst e
    obtain ⟨i, _, rfl⟩ := List.mem_map.mp hx
    obtain ⟨j, _, e⟩ := List.mem_map.mp hy
    injection e with e1 e2
    omega
theorem of_len {n : Int} (n2 : n ≤ 10) : ∀ {ls : List Int}, (∀ l ∈ ls, 1 ≤ l ∧ l ≤ 11) → (ofList n ls).length ≤ 11 * ls.length
  | [], _ => Nat.zero_le _
  | l :: r, h => by
    have ih := of_len n2 (ls := r) fun x m => h x (List.mem_cons_of_mem _ m)
    have := h l List.mem_cons_self
    unfold ofList at ih ⊢
    rw [List.flatMap_cons, List.length_append, List.length_map, List.length_range, List.length_cons]
    omega
theorem of_snoc {n : Int} {ls : List Int} {l : Int} : ofList n (ls ++ [l]) = ofList n ls ++ (List.range (n + 2 - l).toNat).map fun (i : Nat) => (((i : Int), (i : Int) + l) : Pr) := by
  unfold ofList
  rw [List.flatMap_append, List.flatMap_cons, List.flatMap_nil, List.append_nil]
/-- Stair.of(n, *ls), right -/
def spOf (P : Program) (w : World) (K : W.Frag) (C : Addr) : Sp := fun vs H Q _ => ∃ (n : Int) (a : Addr) (ls : List Int), vs = [.int n, .ref a] ∧ SqT K H a (ls.map V.int) ∧ ls.Nodup ∧ (∀ l ∈ ls, 1 ≤ l ∧ l ≤ 11) ∧ ls.length ≤ 20 ∧ 1 ≤ n ∧ n ≤ 10 ∧ (ofList n ls).length ≤ 40 ∧
  ∀ H' s, Same H H' → H s = none → StairAt P w C H' s n (srt (ofList n ls)) → Q (.ref s) H'
theorem scOf : FnScope ["steps", "lengths", "length", "i"] ["steps", "lengths"] (defScope (mth 3)) := ⟨rfl, rfl, rfl, by decide +kernel, rfl, by decide +kernel, by decide +kernel⟩
theorem ok_of {f fS fL fI fR C R : Addr} {fd fdS fdL fdI fdR : FuncData} (F : Fun K "of" "Stair.of" (mth 3) f fd) (B : Bl mg) (S : StC K mg C) (T : RdC K mg R)
    (GS : FnOk P w K mg base CX0 2 fS fdS ["steps"] spSteps) (kS : W.keepIn K (.ref fS) = true) (bS : Binds K fdS ["steps"] []) (mS : mg "check_steps" = some (.ref fS))
    (GL : FnOk P w K mg base CX0 3 fL fdL ["lengths"] (spCheckL K)) (kL : W.keepIn K (.ref fL) = true) (bL : Binds K fdL ["lengths"] []) (mL : mg "check_lengths" = some (.ref fL))
    (MI : Mk K C fI) (GI : FnOk P w K mg base CX0 3 fI fdI ["self", "steps", "jumps"] (spInit P w K C R)) (bI : Binds K fdI ["self", "steps", "jumps"] [])
    (MR : Mk K R fR) (GR : FnOk P w K mg base CX0 1 fR fdR ["self", "part"] (spReady R)) (bR : Binds K fdR ["self", "part"] []) :
    FnR P w K mg base CX0 5 f (fun vs H Q E => ∃ ws rest, vs = ws ++ rest ∧ ws.length = 1 ∧ rest.length ≤ sizeLine ∧ ∀ p, H p = none → spOf P w K C (ws ++ [V.ref p]) (upd H p (.tup rest)) Q E) := by
  obtain ⟨oc, od, kV, doc, pm, an, cdv, ct, osl, rfl, lk, hcd⟩ := F.ex
  refine StX.fn_star (ps := ["steps"]) (pv := "lengths") lk hcd scOf StX.cxUp_none (StX.bind_star1 (B := fun us => bindArgs (W.fnOf "of" "Stair.of" (defArgs (mth 3)) (defBody (mth 3)) (defScope (mth 3)) .none kV doc pm an cdv ct) ⟨us, []⟩) (fun a => rfl) (fun a r rs => rfl)) fun A outer s0 H vs Q E hr h => ?_
  obtain ⟨n, a, ls, rfl, ha, nd, hl, ln, n1, n2, l40, k⟩ := h
  have main : ∃ t, PSs (cxOf CX0 P w K mg base ["steps", "lengths", "length", "i"] "Stair.of" (defScope (mth 3)) f cdv A outer s0 H E).nox (defBody (mth 3)) t ∧ t { nx := fun _ H' => Q .non H', rt := Q } (start ["steps", "lengths", "length", "i"] [.int n, .ref a]) H := by
    refine ⟨_, pss_cons (ps_expr (pe_call GS (hr.mono (by decide)) (by rfl) mS kS bS .nil pass0 (pa_cons (pv 0) pa_nil)))
      (pss_cons (ps_expr (pe_call GL (hr.mono (by decide)) (by rfl) mL kL bL .nil pass0 (pa_cons (pv 1) pa_nil)))
      (pss_one (ps_ret (pe_make MI GI hr (by rfl) S.m bI .nil pass0 (pa_cons (pv 0) (pa_cons (pe_make MR GR (hr.mono (by decide)) (by rfl) T.m bR .nil pass0 (pa_cons
        (pe_lc2 (te := tTup (tCons (tVar 3) (tCons (tOp (rI0 fun i j => .int (i + j)) (tVar 3) (tVar 2)) tNil))) (own := [("length", 2), ("i", 3)]) (vs1 := [3]) (g := gName 2) (tt := tYes) (g1 := gName 3) (tt1 := tYes) (wi1 := iRng1 (tCons (tOp (rI0 fun i j => .int (i - j)) (tOp (rI0 fun i j => .int (i + j)) (tVar 0) (tC (.int 2))) (tVar 2)) tNil)) rfl scOf.nd (pi_tup (pv 1)) (blkOk_by (N := ["steps", "lengths", "length", "i"]) (sc := defScope (mth 3)) (by decide +kernel)) (by decide)
          (fun _ _ _ _ _ => pg_name (i := 2) scOf.nd rfl (.inl rfl)) (fun _ _ _ _ _ => pts_nil)
          (fun _ _ _ _ _ => by exact pi_range1 (by rfl) B.range (pa_cons (pe_op op_sub (pe_op op_add (pv 0) pe_int) (pv 2)) pa_nil))
          (fun _ _ _ _ _ => pg_name (i := 3) scOf.nd rfl (.inl rfl)) (fun _ _ _ _ _ => pts_nil)
          (fun _ _ _ _ _ => by exact pe_tup (pa_cons (pv 3) (pa_cons (pe_op op_add (pv 3) (pv 2)) pa_nil)))) pa_nil)) pa_nil)))))), ?_⟩
    refine ⟨_, rfl, n, rfl, n1, n2, ?_⟩
    refine ⟨_, rfl, a, ls, rfl, ha, nd, hl, Nat.le_trans ln (by decide), fun H1 s1 => ?_⟩
    have ha1 := same_sqt s1 ha
    refine ⟨_, rfl, _, rfl, a, rfl, ⟨_, ha1⟩, fun D hD => lc2_out (walk_tup (xs := ls.map V.int)) (fun i H' => Same H1 H' ∧ ∃ vs, H' D = some (.lst vs) ∧ PrsAt H' (ofList n (ls.take i)) vs) ⟨Same.new hD, _, upd_same, .nil⟩ (fun i H' _ h => same_sqt h.1 ha1) (fun i x H' H'' hi inv y => ?_) fun H2 inv => ?_⟩
    · obtain ⟨sm, vs, hT, pr⟩ := inv
      obtain ⟨rfl, hx⟩ := y
      rw [List.length_map] at hi
      rw [List.getElem?_map] at hx
      obtain ⟨l, q1, rfl⟩ := Option.map_eq_some_iff.mp hx
      obtain ⟨l1, l2⟩ := hl l (List.mem_of_getElem? q1)
      have lo := of_len (n := n) n2 (ls := ls.take i) fun x m => hl x (List.mem_of_mem_take m)
      rw [List.length_take] at lo
      refine ⟨rfl, ?_⟩
      refine yes_go (iteT ?_)
      refine ⟨_, rfl, _, _, rfl, rfl, _, rfl, _, _, rfl, rfl, n + 2 - l, rfl, by omega, by omega, lc2_in (walk_range (lo := 0) (n := (n + 2 - l).toNat)) (fun j H' => Same H1 H' ∧ ∃ vs, H' D = some (.lst vs) ∧ PrsAt H' (ofList n (ls.take i) ++ (List.range j).map fun (t : Nat) => (((t : Int), (t : Int) + l) : Pr)) vs) ⟨sm, vs, hT, by rw [List.range_zero, List.map_nil, List.append_nil]; exact pr⟩ (fun _ _ _ _ => trivial) (fun j x2 H3 H4 hj inv2 y2 => ?_) fun H3 inv2 => ?_⟩
      · obtain ⟨sm2, vs2, hT2, pr2⟩ := inv2
        obtain ⟨rfl, rfl⟩ := y2
        refine ⟨rfl, ?_⟩
        dsimp only [tYes]
        rw [if_pos rfl]
        refine ⟨_, rfl, _, rfl, _, rfl, _, _, rfl, rfl, Nat.le_of_lt (small1000 (show 2 ≤ 1000 by decide)), fun t ht => ⟨vs2, ?_, ?_, fun b u e => ?_, _, upd_same, ?_⟩⟩
        · exact Same.new ht _ _ hT2
        · have := pr2.len
          rw [List.length_append, List.length_map, List.length_range] at this
          exact small1000 (by omega)
        · rw [upd_ne (ne_of_none e hD)]
          exact Same.new ht _ _ (sm2 _ _ e)
        · have e0 : (0 : Int) + (j : Int) = (j : Int) := Int.zero_add _
          have pr3 : PrsAt (upd (upd H4 t (.tup [V.int (0 + (j : Int)), V.int (0 + (j : Int) + l)])) D (.lst (vs2 ++ [.ref t]))) (ofList n (ls.take i) ++ (List.range j).map fun (t : Nat) => (((t : Int), (t : Int) + l) : Pr)) vs2 := by
            exact PrsAt.lst (Same.new ht _ _ hT2) (pr2.same (Same.new ht))
          rw [List.range_succ, List.map_append, ← List.append_assoc]
          refine papp pr3 (.cons ⟨t, rfl, ?_⟩ .nil)
          rw [upd_ne (ne_of_none hT2 ht).symm, upd_same, e0]
      · obtain ⟨sm2, vs2, hT2, pr2⟩ := inv2
        refine ⟨sm2, vs2, hT2, ?_⟩
        rw [take_succ_of q1, of_snoc]
        exact pr2
    · obtain ⟨sm, vs, hT, pr⟩ := inv
      rw [List.length_map, List.take_length] at pr
      intro r dr hr0 hdr ne
      refine ⟨r, dr, .ref D, rfl, upd_same, rfl, ?_⟩
      rw [upd_upd]
      generalize hH3 : upd (upd H2 dr (.own r)) r _ = H3
      have sm3 : Same H2 H3 := by rw [← hH3]; exact (Same.new hdr).trans (Same.new (by rw [upd_ne (Ne.symm ne)]; exact hr0))
      have hr3 : H3 r = some (.ins R dr [("part", .ref D)]) := by rw [← hH3, upd_same]
      intro s dx hs hdx ne2
      have sm4 : Same H3 (upd (upd H3 dx (.own s)) s (.ins C dx [])) := (Same.new hdx).trans (Same.new (by rw [upd_ne (Ne.symm ne2)]; exact hs))
      refine ⟨s, dx, n, .ref r, ofList n ls, rfl, upd_same, .inl ⟨r, dr, D, vs, rfl, sm4 _ _ hr3, sm4 _ _ (sm3 _ _ hT), (pr.same sm3).same sm4⟩, ⟨n1, n2, fun p m => of_ok hl m, of_nodup nd, l40⟩, fun H4 hb st _ => ⟨rfl, k H4 s ?_ ?_ st⟩⟩
      · intro b o e
        have e3 := sm3 _ _ (sm _ _ (s1 _ _ e))
        exact hb b o (ne_of_none e3 hs) (sm4 _ _ e3)
      · exact (s1.trans (sm.trans sm3)).free hs
  obtain ⟨t, ht, hq⟩ := main
  exact ⟨t, ht.nox, hq⟩
end
end K12

set_option Elab.async false
set_option linter.all false
set_option maxRecDepth 100000
set_option maxHeartbeats 4000000
namespace K12
open PySem PySem.Spec PyProof.Rows L2 MX NZ SM
section
variable {P : Program} {w : World} {K : PySem.W.Frag} {mg : Str → Option Value} {base : Heap}
theorem scPot : FnScope ["_law_script", "_law_k", "_law_cell"] ["_law_script", "_law_k"] (defScope (top 28)) := ⟨rfl, rfl, rfl, by decide +kernel, rfl, by decide +kernel, by decide +kernel⟩
theorem scDraw : FnScope ["_law_pot_here", "_law_sides", "_law_digit"] ["_law_pot_here", "_law_sides"] (defScope (top 29)) := ⟨rfl, rfl, rfl, by decide +kernel, rfl, by decide +kernel, by decide +kernel⟩
theorem scPick : FnScope ["_law_pot_here", "_law_some"] ["_law_pot_here", "_law_some"] (defScope (top 30)) := ⟨rfl, rfl, rfl, by decide +kernel, rfl, by decide +kernel, by decide +kernel⟩
theorem ok_draw {f : Addr} {fd : FuncData} (F : Fun K "_law_draw" "_law_draw" (top 29) f fd) (B : Bl mg) : FnOk P w K mg base CX0 1 f fd ["_law_pot_here", "_law_sides"] spDraw := by
  refine F.ok scDraw (fun vs H Q E h => ?_) (fun cdv A outer s H vs Q E hr h => ?_)
  · obtain ⟨p, n, rfl, _⟩ := h
    rfl
  · obtain ⟨p, n, rfl, ⟨a, b, hp, ha, hb, hb2⟩, n1, n2, k⟩ := h
    refine ⟨_, pss_cons (ps_if (pt_cmpR op_gt (pe_ix ix_list (pv 0) pe_int (fun _ _ => rfl)) pe_int (nomark _))
        (pss_cons (ps_asg (pe_callB call_divmod (by rfl) B.divmod boot_divmod (pa_cons (pe_ix ix_list (pv 0) pe_int (fun _ _ => rfl)) (pa_cons (pv 1) pa_nil)))
            (pg_tup rfl (pgs_cons (pg_sub (pv 0) pe_int set_list (fun _ => rfl)) (pgs_cons (pg_name (i := 2) scDraw.nd rfl (.inl rfl)) pgs_nil))))
          (pss_one (ps_ret (pv 2)))) pss_nil)
      (pss_cons (ps_asg (pe_op op_mod (pe_callTy call_int1 (by rfl) B.int boot_int (pa_cons (pe_op op_add (pe_op op_mul (pe_ix ix_list (pv 0) pe_int (fun _ _ => rfl)) pe_int) pe_int) pa_nil)) pe_int)
          (pg_sub (pv 0) pe_int set_list (fun _ => rfl)))
      (pss_one (ps_ret (pe_op op_mod (pe_callTy call_int1 (by rfl) B.int boot_int (pa_cons (pe_op op_fdiv (pe_op op_mod (pe_callTy call_int1 (by rfl) B.int boot_int (pa_cons (pe_op op_mul (pe_ix ix_list (pv 0) pe_int (fun _ _ => rfl)) (pe_ix ix_list (pv 0) pe_int (fun _ _ => rfl))) pa_nil)) pe_int) pe_int) pa_nil)) (pv 1))))), ?_⟩
    refine ⟨_, rfl, p, _, 0, _, rfl, rfl, SqL.of hp, rfl, _, _, rfl, rfl, _, rfl, ?_⟩
    refine ite2 (fun c => ?_) (fun c => ?_)
    · refine ⟨_, rfl, p, _, 0, _, rfl, rfl, SqL.of hp, rfl, _, rfl, a, n, rfl, ⟨by omega, by omega⟩, fun t ht => ?_⟩
      have ntp : p ≠ t := ne_of_none hp ht
      refine ⟨t, _, rfl, SqT.of upd_same, rfl, ?_⟩
      refine ⟨_, _, rfl, _, rfl, p, _, 0, 0, rfl, rfl, (by rw [upd_ne ntp]; exact hp), rfl, _, _, rfl, rfl, ?_⟩
      refine ⟨_, rfl, k _ _ (fun c o nc e => ?_) ⟨a / n, b, upd_same, Int.ediv_nonneg ha (by omega), hb, hb2⟩ (Int.emod_nonneg _ (by omega)) (Int.emod_lt_of_pos _ (by omega))⟩
      rw [upd_ne nc, upd_ne (ne_of_none e ht)]
      exact e
    · refine ⟨_, rfl, p, _, 1, _, rfl, rfl, SqL.of hp, rfl, _, _, rfl, rfl, .inr ⟨by decide, by decide⟩, _, _, rfl, rfl, .inl ⟨_, rfl, _, _, rfl, rfl, (by show (0 : Int) < 2147483563; decide), ?_⟩⟩
      have e0 : 0 ≤ (b * 39971 + 11041) % 2147483563 := Int.emod_nonneg _ (by decide)
      have e1 : (b * 39971 + 11041) % 2147483563 < 2147483563 := Int.emod_lt_of_pos _ (by decide)
      refine ⟨_, rfl, p, _, 1, 1, rfl, rfl, hp, rfl, ?_⟩
      refine ⟨_, rfl, p, _, 1, _, rfl, rfl, SqL.of upd_same, rfl, _, rfl, p, _, 1, _, rfl, rfl, SqL.of upd_same, rfl, _, _, rfl, rfl, .inl ⟨by omega, by omega⟩, .inl ⟨_, rfl, _, _, rfl, rfl, (by show (0 : Int) < 2147483543; decide), ?_⟩⟩
      refine ⟨_, _, rfl, rfl, ⟨by decide, by decide⟩, .inl ⟨_, rfl, _, rfl, _, _, rfl, rfl, (by omega), ?_⟩⟩
      exact k _ _ (fun c o nc e => by rw [upd_ne nc]; exact e) ⟨a, _, upd_same, ha, e0, by omega⟩ (Int.emod_nonneg _ (by omega)) (Int.emod_lt_of_pos _ (by omega))
theorem ok_pot {f : Addr} {fd : FuncData} (F : Fun K "_law_pot" "_law_pot" (top 28) f fd) (B : Bl mg) : FnOk P w K mg base CX0 1 f fd ["_law_script", "_law_k"] (spPot K) := by
  refine F.ok scPot (fun vs H Q E h => ?_) (fun cdv A outer s H vs Q E hr h => ?_)
  · obtain ⟨a, ns, n, rfl, _⟩ := h
    rfl
  · obtain ⟨a, ns, n, rfl, hS, hn, k⟩ := h
    refine ⟨_, pss_cons (ps_set (i := 2) scPot.nd rfl (.inl rfl) (pe_ifExp (pt_cmpR op_lt (pv 1) (pe_callB call_len_seq (by rfl) B.len PySem.boot_len (pa_cons (pv 0) pa_nil)) (nomark _))
        (pe_callB call_abs (by rfl) B.abs boot_abs (pa_cons (pe_ix ix_list (pv 0) (pv 1) (fun _ _ => rfl)) pa_nil)) (pe_op op_add (pe_op op_mul pe_int (pv 1)) pe_int)))
      (pss_one (ps_ret (pe_lst (pa_cons (pe_callB (call_max2 rfl) (by rfl) B.max boot_max (pa_cons pe_int (pa_cons (pe_op op_sub (pv 2) (pe_op op_pow pe_int pe_int)) pa_nil)))
        (pa_cons (pe_op op_add (pe_op op_mod (pe_callTy call_int1 (by rfl) B.int boot_int (pa_cons (pe_op op_add (pe_op op_add (pe_op op_mul (pe_op op_mod (pe_callTy call_int1 (by rfl) B.int boot_int (pa_cons (pv 2) pa_nil)) pe_int) pe_int) (pe_op op_mul pe_int (pv 1))) pe_int) pa_nil)) pe_int) pe_int) pa_nil))))), ?_⟩
    have fin : ∀ z : Int, (tRet (tLst (tCons (tCB (fun xs H Q => ∃ i j, xs = [.int i, .int j] ∧ Q (.int (if j > i then j else i)) H) (tCons (tC (.int 0)) (tCons (tOp (rI0 fun i j => .int (i - j)) (tVar 2) (tOp (rI CPow fun i j => .int (i ^ j.toNat)) (tC (.int 10)) (tC (.int 18)))) tNil)))
        (tCons (tOp (rI0 fun i j => .int (i + j)) (tOp (rI (fun _ j => 0 < j) fun i j => .int (i % j)) (tCB (fun xs H Q => (∃ i, xs = [.int i] ∧ Q (.int i) H) ∨ ∃ k, xs = [.bl k] ∧ Q (.int (if k then 1 else 0)) H)
          (tCons (tOp (rI0 fun i j => .int (i + j)) (tOp (rI0 fun i j => .int (i + j)) (tOp (rI CMul fun i j => .int (i * j)) (tOp (rI (fun _ j => 0 < j) fun i j => .int (i % j)) (tCB (fun xs H Q => (∃ i, xs = [.int i] ∧ Q (.int i) H) ∨ ∃ k, xs = [.bl k] ∧ Q (.int (if k then 1 else 0)) H) (tCons (tVar 2) tNil)) (tC (.int 2147483549))) (tC (.int 40019)))
            (tOp (rI CMul fun i j => .int (i * j)) (tC (.int 5397)) (tVar 1))) (tC (.int 41))) tNil)) (tC (.int 2147483579))) (tC (.int 1))) tNil)))) { nx := fun _ H' => Q .non H', rt := Q } [some (.ref a), some (.int (n : Int)), some (.int z)] H := by
      intro z
      refine ⟨_, rfl, _, _, rfl, rfl, ⟨by decide, by decide, by decide⟩, _, _, rfl, rfl, _, _, rfl, ?_⟩
      refine ⟨_, rfl, .inl ⟨_, rfl, _, _, rfl, rfl, (by show (0 : Int) < 2147483549; decide), _, _, rfl, rfl, .inr ⟨by decide, by decide⟩, _, rfl, _, _, rfl, rfl, .inl ⟨by decide, by decide⟩, _, _, rfl, rfl, _, _, rfl, rfl, .inl ⟨_, rfl, _, _, rfl, rfl, (by show (0 : Int) < 2147483579; decide), ?_⟩⟩⟩
      refine ⟨_, _, rfl, rfl, Nat.le_of_lt (small1000 (show 2 ≤ 1000 by decide)), fun p hp => ?_⟩
      have m0 := Int.emod_nonneg (z % 2147483549 * 40019 + 5397 * (n : Int) + 41) (show (2147483579 : Int) ≠ 0 by decide)
      have m1 := Int.emod_lt_of_pos (z % 2147483549 * 40019 + 5397 * (n : Int) + 41) (show (0 : Int) < 2147483579 by decide)
      refine k _ p (Same.new hp) hp ⟨_, _, upd_same, ?_, by omega, by omega⟩
      split <;> omega
    refine ⟨_, rfl, _, rfl, a, _, rfl, .inl hS, _, _, rfl, rfl, _, rfl, ?_⟩
    refine ite2 (fun c => ?_) (fun c => ?_)
    · have c' := of_decide_eq_true c
      rw [List.length_map] at c'
      have hlt : n < ns.length := by omega
      refine ⟨_, rfl, _, rfl, a, _, (n : Int), .int ns[n], rfl, rfl, hS, atI_nat (by rw [List.getElem?_map, List.getElem?_eq_getElem hlt]; rfl), ns[n], rfl, fin _⟩
    · exact ⟨_, rfl, _, _, rfl, rfl, .inl ⟨by decide, by decide⟩, _, _, rfl, rfl, fin _⟩
theorem ok_pick {f fD : Addr} {fd fdD : FuncData} (F : Fun K "_law_pick" "_law_pick" (top 30) f fd) (B : Bl mg) (FD : Fun K "_law_draw" "_law_draw" (top 29) fD fdD) (bD : Binds K fdD ["_law_pot_here", "_law_sides"] []) (mD : mg "_law_draw" = some (.ref fD)) :
    FnOk P w K mg base CX0 2 f fd ["_law_pot_here", "_law_some"] spPick := by
  have GD : FnOk P w K mg base CX0 1 fD fdD ["_law_pot_here", "_law_sides"] spDraw := ok_draw FD B
  refine F.ok scPick (fun vs H Q E h => ?_) (fun cdv A outer s H vs Q E hr h => ?_)
  · obtain ⟨p, l, xs, rfl, _⟩ := h
    rfl
  · obtain ⟨p, l, xs, rfl, hP, nlp, hl, l1, l2, k⟩ := h
    refine ⟨_, pss_one (ps_ret (pe_ix ix_list (pv 1) (pe_call GD hr rfl mD FD.kp bD .nil pass0 (pa_cons (pv 0) (pa_cons (pe_callB call_len_seq (by rfl) B.len PySem.boot_len (pa_cons (pv 1) pa_nil)) pa_nil))) (fun _ _ => rfl))), ?_⟩
    refine ⟨_, rfl, _, rfl, _, rfl, l, _, rfl, .inl (SqL.of hl), p, _, rfl, hP, by omega, by omega, fun H' i bt pt i0 i1 => ?_⟩
    obtain ⟨j, rfl⟩ := Int.eq_ofNat_of_zero_le i0
    have hj : j < xs.length := by omega
    exact ⟨l, xs, _, _, rfl, rfl, SqL.of (bt _ _ nlp hl), atI_nat (List.getElem?_eq_getElem hj), k H' j _ bt pt (List.getElem?_eq_getElem hj)⟩

/-- where a def of the text stands -/
structure Dn (K : W.Frag) (mg : Str → Option Value) (x : Str) (st : Stmt) (ps : List Str) (f : Addr) (fd : FuncData) : Prop where
  F : Fun K x x st f fd
  b : Binds K fd ps []
  m : mg x = some (.ref f)
/-- the length of a list or a tuple -/
abbrev rLenS (K : W.Frag) : List V → Hp → VK → Prop := fun xs H Q => ∃ p ys, xs = [V.ref p] ∧ (SqL K H p ys ∨ SqT K H p ys) ∧ Q (.int ys.length) H
/-- mixed(pot, some): the same in some turn -/
def spMixed : Sp := fun vs H Q _ => ∃ (p l : Addr) (xs : List V), vs = [.ref p, .ref l] ∧ Pot H p ∧ H l = some (.lst xs) ∧ xs.length ≤ 1000 ∧ ∀ (H' : Hp) (D : Addr) (ys : List V), But p H H' → Pot H' p → H D = none → H' D = some (.lst ys) → ys.Perm xs → Q (.ref D) H'
theorem scMixed : FnScope ["_law_pot_here", "_law_some", "_law_pack", "_law_turn"] ["_law_pot_here", "_law_some"] (defScope (top 31)) := ⟨rfl, rfl, rfl, by decide +kernel, rfl, by decide +kernel, by decide +kernel⟩
theorem pot_ne {H : Hp} {p b : Addr} (h : Pot H p) (n : H b = none) : b ≠ p := by
  obtain ⟨x, y, h, _⟩ := h
  exact (ne_of_none h n).symm
theorem ok_mixed {f fD : Addr} {fd fdD : FuncData} (D : Dn K mg "_law_mixed" (top 31) ["_law_pot_here", "_law_some"] f fd) (B : Bl mg) (B2 : Bl2 mg) (DD : Dn K mg "_law_draw" (top 29) ["_law_pot_here", "_law_sides"] fD fdD) :
    FnOk P w K mg base CX0 2 f fd ["_law_pot_here", "_law_some"] spMixed := by
  have GD : FnOk P w K mg base CX0 1 fD fdD ["_law_pot_here", "_law_sides"] spDraw := ok_draw DD.F B
  refine D.F.ok scMixed (fun vs H Q E h => ?_) (fun cdv A outer s H vs Q E hr h => ?_)
  · obtain ⟨p, l, xs, rfl, _⟩ := h
    rfl
  · obtain ⟨p, l, xs, rfl, hP, hl, ln, k⟩ := h
    refine ⟨_, pss_cons (ps_set (i := 2) scMixed.nd rfl (.inr rfl) (pe_callTy call_list_of (by rfl) B2.list bt_list (pa_cons (pv 1) pa_nil)))
      (pss_one (ps_ret (pe_lc (te := tBM K "list" rPopAt (tVar 2) (tCons (tCall spDraw [] E0 (tCons (tVar 0) (tCons (tCB (rLenS K) (tCons (tVar 2) tNil)) tNil))) tNil)) (own := [("_law_turn", 3)]) (g := gName 3) (tt := tYes) rfl scMixed.nd (pi_range1 (by rfl) B.range (pa_cons (pe_callB call_len_seq (by rfl) B.len PySem.boot_len (pa_cons (pv 1) pa_nil)) pa_nil)) (blkOk_by (N := ["_law_pot_here", "_law_some", "_law_pack", "_law_turn"]) (sc := defScope (top 31)) (by decide +kernel))
        (fun _ _ _ _ _ => pg_name (i := 3) scMixed.nd rfl (.inl rfl)) (fun _ _ _ _ _ => pts_nil) (fun _ _ _ _ _ => by exact pe_bm PySem.F.plainAttrs_list PySem.F.slot_list_pop PySem.F.type_list_pop mt_popAt (pv 2) (pa_cons (pe_call GD hr (by rfl) DD.m DD.F.kp DD.b .nil pass0 (pa_cons (pv 0) (pa_cons (pe_callB call_len_seq (by rfl) B.len PySem.boot_len (pa_cons (pv 2) pa_nil)) pa_nil))) pa_nil))))), ?_⟩
    refine ⟨_, rfl, l, _, rfl, .inl (SqL.of hl), fun pk hpk => ?_⟩
    have s1 : Same H (upd H pk (.lst xs)) := Same.new hpk
    refine ⟨_, rfl, l, _, rfl, .inl (SqL.of (s1 _ _ hl)), xs.length, rfl, by omega, by omega, fun D hD => lc_it (walk_range (lo := 0) (n := xs.length)) (fun i H' => ∃ acc rest, H' D = some (.lst acc) ∧ H' pk = some (.lst rest) ∧ Pot H' p ∧ (acc ++ rest).Perm xs ∧ acc.length = i ∧ But p H H') ?_ (fun _ _ _ _ => trivial) (fun i x H2 H3 hi inv y => ?_) fun H2 inv => ?_⟩
    · have s2 := Same.new (o := .lst []) hD
      exact ⟨[], xs, upd_same, s2 _ _ upd_same, (hP.same s1).same s2, by simp, rfl, fun b o _ e => s2 _ _ (s1 _ _ e)⟩
    · obtain ⟨acc, rest, hD2, hpk2, hP2, pm, la, bt⟩ := inv
      obtain ⟨rfl, rfl⟩ := y
      have pl := pm.length_eq
      rw [List.length_append] at pl
      have npD : D ≠ p := fun z => by
        obtain ⟨a, b, e, _⟩ := hP.same s1
        rw [← z, hD] at e
        cases e
      have npk : pk ≠ p := pot_ne hP hpk
      have nDk : D ≠ pk := fun z => by rw [z, upd_same] at hD; cases hD
      refine ⟨rfl, yes_go (iteT ?_)⟩
      refine ⟨_, rfl, .inl ⟨rfl, _, SqL.of hpk2⟩, _, rfl, _, rfl, pk, _, rfl, .inl (SqL.of hpk2), p, _, rfl, hP2, by omega, by omega, fun H4 j b4 p4 j0 j1 => ?_⟩
      have hpk4 := b4 _ _ npk hpk2
      have hD4 := b4 _ _ npD hD2
      have hj : j.toNat < rest.length := by omega
      have hy : rest[j.toNat]? = some (rest[j.toNat]'hj) := List.getElem?_eq_getElem hj
      refine ⟨pk, rest, j, j.toNat, _, rfl, rfl, hpk4, by omega, by omega, seqIndex_of j0 j1, hy, acc, by rw [upd_ne nDk]; exact hD4, small1000 (by omega), acc ++ [rest[j.toNat]'hj], rest.eraseIdx j.toNat, upd_same, by rw [upd_ne (Ne.symm nDk), upd_same], ?_, ?_, by rw [List.length_append, la]; rfl, fun b o nb e => ?_⟩
      · obtain ⟨a, b, e, r⟩ := p4
        exact ⟨a, b, by rw [upd_ne (Ne.symm npD), upd_ne (Ne.symm npk)]; exact e, r⟩
      · rw [List.append_assoc]
        exact ((erase_perm rest j.toNat _ hy).append_left acc).trans pm
      · have e1 := s1 _ _ e
        rw [upd_ne (ne_of_none e1 hD), upd_ne (ne_of_none e hpk)]
        exact b4 _ _ nb (bt _ _ nb e)
    · obtain ⟨acc, rest, hD2, hpk2, hP2, pm, la, bt⟩ := inv
      have pl := pm.length_eq
      rw [List.length_append] at pl
      have r0 : rest = [] := List.eq_nil_of_length_eq_zero (by omega)
      subst r0
      rw [List.append_nil] at pm
      exact k _ D acc bt hP2 (s1.free hD) hD2 pm
end
end K12

set_option Elab.async false
set_option linter.all false
set_option maxRecDepth 100000
set_option maxHeartbeats 4000000
namespace K12
open PySem PySem.Spec PyProof.Rows L2 MX NZ SM
theorem prs_but {p : Addr} {H H' : Hp} (hp : Pot H p) (b : But p H H') : ∀ {ps : List Pr} {vs : List V}, PrsAt H ps vs → PrsAt H' ps vs
  | _, _, .nil => .nil
  | _, _, .cons ⟨a, e, t⟩ r => .cons ⟨a, e, by
    obtain ⟨x, y, hp', _⟩ := hp
    exact b _ _ (ne_of t hp' nofun) t⟩ (prs_but hp b r)
/-- the jumps from the place i on -/
def rowL (n : Int) (i : Nat) : List Pr := (List.range (n + 2 - (i + 1)).toNat).map fun (j : Nat) => ((((i : Nat) : Int), ((i : Nat) : Int) + 1 + ((j : Nat) : Int)) : Pr)
/-- all jumps -/
def everyL (n : Int) : List Pr := (List.range (n + 1).toNat).flatMap (rowL n)
theorem mem_row {n : Int} {i : Nat} {p : Pr} : p ∈ rowL n i ↔ p.1 = i ∧ p.1 < p.2 ∧ p.2 ≤ n + 1 := by
  unfold rowL
  rw [List.mem_map]
  constructor
  · rintro ⟨j, hj, rfl⟩
    have := List.mem_range.mp hj
    exact ⟨rfl, by show (i : Int) < _; omega, by show _ + (j : Int) ≤ _; omega⟩
  · rintro ⟨a, b, c⟩
    refine ⟨(p.2 - (i + 1)).toNat, List.mem_range.mpr (by omega), ?_⟩
    obtain ⟨x, y⟩ := p
    simp only at a b c ⊢
    rw [a]
    congr 1
    omega
theorem mem_every {n : Int} {p : Pr} : p ∈ everyL n ↔ okJ n p := by
  unfold everyL
  rw [List.mem_flatMap]
  constructor
  · rintro ⟨i, hi, h⟩
    obtain ⟨a, b, c⟩ := mem_row.mp h
    exact ⟨by omega, b, c⟩
  · rintro ⟨a, b, c⟩
    exact ⟨p.1.toNat, List.mem_range.mpr (by omega), mem_row.mpr ⟨by omega, b, c⟩⟩
theorem row_nodup (n : Int) (i : Nat) : (rowL n i).Nodup := by
  unfold rowL
  refine List.pairwise_map.mpr (List.Pairwise.imp (R := fun a b => a ≠ b) (S := fun a b : Nat => ((((i : Nat) : Int), ((i : Nat) : Int) + 1 + (a : Int)) : Pr) ≠ ((((i : Nat) : Int), ((i : Nat) : Int) + 1 + (b : Int)) : Pr)) (fun {a b} h => fun e => h ?_) List.nodup_range)
  injection e with _ e
  omega
theorem every_nodup (n : Int) : (everyL n).Nodup := by
  unfold everyL
  refine List.pairwise_flatMap.mpr ⟨fun i _ => row_nodup n i, List.Pairwise.imp (R := fun a b => a ≠ b) (fun {a b} h => ?_) List.nodup_range⟩
  intro x hx y hy e
  subst e
  have h1 := (mem_row.mp hx).1
  have h2 := (mem_row.mp hy).1
  omega
theorem row_len {n : Int} {i : Nat} (n2 : n ≤ 10) : (rowL n i).length ≤ 11 := by
  unfold rowL
  rw [List.length_map, List.length_range]
  omega
theorem rows_len {n : Int} (n2 : n ≤ 10) : ∀ l : List Nat, (l.flatMap (rowL n)).length ≤ 11 * l.length
  | [] => Nat.zero_le _
  | a :: r => by
    have := rows_len n2 r
    have := row_len (i := a) n2
    rw [List.flatMap_cons, List.length_append, List.length_cons]
    omega
theorem rg_v {v : V} {i : Nat} (h : v = (fun i : Nat => V.int (0 + (i : Int))) i) : v = .int (i : Int) := by
  rw [h]
  show V.int (0 + (i : Int)) = _
  rw [Int.zero_add]
section
variable {P : Program} {w : World} {K : PySem.W.Frag} {mg : Str → Option Value} {base : Heap}
def spEvery : Sp := fun vs H Q _ => ∃ n : Int, vs = [.int n] ∧ 1 ≤ n ∧ n ≤ 10 ∧ ∀ H' l ys, Same H H' → H l = none → H' l = some (.lst ys) → PrsAt H' (everyL n) ys → Q (.ref l) H'
theorem scEvery : FnScope ["_law_top", "_law_found", "_law_i", "_law_j"] ["_law_top"] (defScope (top 32)) := ⟨rfl, rfl, rfl, by decide +kernel, rfl, by decide +kernel, by decide +kernel⟩
theorem ok_every {f : Addr} {fd : FuncData} (F : Fun K "_law_every" "_law_every" (top 32) f fd) (B : Bl mg) : FnOk P w K mg base CX0 1 f fd ["_law_top"] spEvery := by
  refine F.ok scEvery (fun vs H Q E h => ?_) (fun cdv A outer s H vs Q E hr h => ?_)
  · obtain ⟨n, rfl, _⟩ := h
    rfl
  · obtain ⟨n, rfl, n1, n2, k⟩ := h
    refine ⟨_, pss_cons (ps_set (i := 1) scEvery.nd rfl (.inl rfl) (pe_lst pa_nil))
      (pss_cons (ps_for PassesOwn.never rfl (pi_range1 (by rfl) B.range (pa_cons (pe_op op_add (pv 0) pe_int) pa_nil)) (pg_name (i := 2) scEvery.nd rfl (.inr rfl))
        (pss_one (ps_expr (pe_bm PySem.F.plainAttrs_list PySem.F.slot_list_extend PySem.F.type_list_extend mt_extend (pv 1) (pa_cons
          (pe_lc (te := tTup (tCons (tVar 2) (tCons (tVar 3) tNil))) (own := [("_law_j", 3)]) (g := gName 3) (tt := tYes) rfl scEvery.nd (pi_range2 (by rfl) B.range (pa_cons (pe_op op_add (pv 2) pe_int) (pa_cons (pe_op op_add (pv 0) pe_int) pa_nil))) (blkOk_by (N := ["_law_top", "_law_found", "_law_i", "_law_j"]) (sc := defScope (top 32)) (by decide +kernel))
            (fun _ _ _ _ _ => pg_name (i := 3) scEvery.nd rfl (.inl rfl)) (fun _ _ _ _ _ => pts_nil) (fun _ _ _ _ _ => by exact pe_tup (pa_cons (pv 2) (pa_cons (pv 3) pa_nil)))) pa_nil)))))
      (pss_one (ps_ret (pv 1)))), ?_⟩
    refine ⟨Nat.zero_le _, fun fl hfl => ?_⟩
    refine ⟨_, rfl, n, 1, rfl, rfl, n + 1, rfl, by omega, by omega, for_it (walk_range (lo := 0) (n := (n + 1).toNat)) (fun i σ H' => (∃ s2, σ = [some (.int n), some (.ref fl), s2, none]) ∧ Same H H' ∧ ∃ ys, H' fl = some (.lst ys) ∧ PrsAt H' ((List.range i).flatMap (rowL n)) ys) ⟨⟨_, rfl⟩, Same.new hfl, _, upd_same, .nil⟩ (fun _ _ _ _ _ => trivial) (fun i v σ H2 H3 hi inv y => ?_) fun σ H' inv => ?_⟩
    · obtain ⟨⟨s2, rfl⟩, sm, ys, hy, pr⟩ := inv
      obtain ⟨rfl, hv⟩ := y
      have hv := rg_v hv
      subst hv
      have lr := rows_len n2 (List.range i)
      rw [List.length_range] at lr
      have ly := pr.len
      refine ⟨_, rfl, .inl ⟨rfl, _, SqL.of hy⟩, ?_⟩
      refine ⟨_, rfl, _, _, rfl, rfl, _, rfl, _, _, rfl, rfl, (i : Int) + 1, n + 2, rfl, ⟨by omega, by omega, by omega, by omega⟩, fun D hD => lc_it (walk_range (lo := (i : Int) + 1) (n := (n + 2 - ((i : Int) + 1)).toNat)) (fun j H' => Same H3 H' ∧ ∃ zs, H' D = some (.lst zs) ∧ PrsAt H' ((List.range j).map fun (j : Nat) => ((((i : Nat) : Int), ((i : Nat) : Int) + 1 + ((j : Nat) : Int)) : Pr)) zs) ⟨Same.new hD, _, upd_same, .nil⟩ (fun _ _ _ _ => trivial) (fun j x H4 H5 hj inv2 y2 => ?_) fun H4 inv2 => ?_⟩
      · obtain ⟨sm2, zs, hz, pz⟩ := inv2
        obtain ⟨rfl, rfl⟩ := y2
        have lz := pz.len
        rw [List.length_map, List.length_range] at lz
        refine ⟨rfl, yes_go (iteT ⟨_, rfl, _, rfl, Nat.le_of_lt (small1000 (show 2 ≤ 1000 by decide)), fun t ht => ⟨zs, ?_, small1000 (by omega), fun b u e => ?_, _, upd_same, ?_⟩⟩)⟩
        · exact Same.new ht _ _ hz
        · rw [upd_ne (ne_of_none e hD)]
          exact Same.new ht _ _ (sm2 _ _ e)
        · rw [List.range_succ, List.map_append]
          refine papp (PrsAt.lst (Same.new ht _ _ hz) (pz.same (Same.new ht))) (.cons ⟨t, rfl, ?_⟩ .nil)
          rw [upd_ne (ne_of_none hz ht).symm, upd_same]
      · obtain ⟨sm2, zs, hz, pz⟩ := inv2
        have lz := pz.len
        rw [List.length_map, List.length_range] at lz
        have hy4 := sm2 _ _ hy
        refine ⟨fl, D, ys, zs, rfl, rfl, hy4, hz, Nat.le_of_lt (small1000 (by omega)), ⟨_, rfl⟩, fun b u e => ?_, _, upd_same, ?_⟩
        · rw [upd_ne (ne_of_none e hfl)]
          exact sm2 _ _ (sm _ _ e)
        · rw [List.range_succ, List.flatMap_append, List.flatMap_cons, List.flatMap_nil, List.append_nil]
          exact PrsAt.lst hy4 (papp (pr.same sm2) pz)
    · obtain ⟨⟨s2, rfl⟩, sm, ys, hy, pr⟩ := inv
      exact ⟨_, rfl, k _ fl ys sm hfl hy pr⟩
end
end K12

set_option Elab.async false
set_option linter.all false
set_option maxRecDepth 100000
set_option maxHeartbeats 4000000
namespace K12
open PySem PySem.Spec PyProof.Rows L2 MX NZ SM
/-- some of these, by a test that answers so -/
inductive Flt {α : Type} (R : α → Bool → Prop) : List α → List α → Prop
  | nil : Flt R [] []
  | keep {x : α} {xs ys : List α} : R x true → Flt R xs ys → Flt R (x :: xs) (x :: ys)
  | drop {x : α} {xs ys : List α} : R x false → Flt R xs ys → Flt R (x :: xs) ys
section
variable {α : Type} {R : α → Bool → Prop}
theorem Flt.snoc {x : α} {b : Bool} (r : R x b) : ∀ {xs ys : List α}, Flt R xs ys → Flt R (xs ++ [x]) (ys ++ if b then [x] else [])
  | _, _, .nil => by
    cases b with
    | true => exact .keep r .nil
    | false => exact .drop r .nil
  | _, _, .keep q t => .keep q (Flt.snoc r t)
  | _, _, .drop q t => .drop q (Flt.snoc r t)
theorem Flt.sub : ∀ {xs ys : List α}, Flt R xs ys → ys.Sublist xs
  | _, _, .nil => .slnil
  | _, _, .keep _ t => (Flt.sub t).cons₂ _
  | _, _, .drop _ t => (Flt.sub t).cons _
theorem Flt.eq {f : α → Bool} (h : ∀ x b, R x b → b = f x) : ∀ {xs ys : List α}, Flt R xs ys → ys = xs.filter f
  | _, _, .nil => rfl
  | x :: _, _, .keep q t => by rw [List.filter_cons, ← h x _ q, if_pos rfl, ← Flt.eq h t]
  | x :: _, _, .drop q t => by rw [List.filter_cons, ← h x _ q, if_neg Bool.false_ne_true, ← Flt.eq h t]
end
section
variable {K : W.Frag}
/-- [x for x in pairs if test] -/
theorem sub_go {s i : Nat} {a p : Addr} {ps : List Pr} {ys : List V} {σ : L2.St} {H : Hp} {Q : VK} {tt : TT} (R : Pr → Bool → Prop) (hs : σ[s]? = some (some (.ref a))) (hi : i < σ.length) (ha : H a = some (.lst ys)) (pr : PrsAt H ps ys) (hP : Pot H p) (nap : a ≠ p) (ln : ys.length ≤ 1000)
    (ht : ∀ H' q v, q ∈ ps → PrAt H' q v → But p H H' → Pot H' p → ∀ Q' : Bool → Hp → Prop, (∀ b H2, R q b → But p H' H2 → Pot H2 p → Q' b H2) → tt ((wipe σ [i]).set i (some v)) H' Q')
    (k : ∀ H' D zs qs, But p H H' → Pot H' p → H D = none → H' D = some (.lst zs) → PrsAt H' qs zs → Flt R ps qs → Q (.ref D) H') : tLc (iList K (tVar s)) (gName i) tt (tVar i) [i] σ H Q := by
  refine ⟨_, hs, a, rfl, ⟨_, SqL.of ha⟩, fun D hD => lc_it (walk_list (xs := ys)) (fun j H' => But p H H' ∧ Pot H' p ∧ ∃ zs qs, H' D = some (.lst zs) ∧ zs.length ≤ j ∧ PrsAt H' qs zs ∧ Flt R (ps.take j) qs) ?_ (fun j H' _ h => SqL.of (h.1 _ _ nap ha)) (fun j x H2 H3 hj inv y => ?_) fun H2 inv => ?_⟩
  · have sn := Same.new (o := .lst []) hD
    exact ⟨fun b o _ e => sn _ _ e, hP.same sn, _, _, upd_same, Nat.le_refl _, .nil, .nil⟩
  · obtain ⟨bt, hP2, zs, qs, hz, lz, pz, fl⟩ := inv
    obtain ⟨rfl, hx⟩ := y
    obtain ⟨q, hq, hv⟩ := pr.get hx
    have hv3 : PrAt H3 q x := by
      obtain ⟨b, e, t⟩ := hv
      obtain ⟨c, d, hp, _⟩ := hP
      exact ⟨b, e, bt _ _ (ne_of t hp nofun) t⟩
    have npD : D ≠ p := pot_ne hP hD
    show (fun σ2 H2 => _) ((wipe σ [i]).set i (some x)) H3
    refine ⟨by simp [wipe], ht _ q x (List.mem_of_getElem? hq) hv3 bt hP2 _ fun b H4 rb b4 p4 => ?_⟩
    have hz4 := b4 _ _ npD hz
    have pz4 := prs_but hP2 b4 pz
    have hv4 : PrAt H4 q x := by
      obtain ⟨b', e, t⟩ := hv3
      obtain ⟨c, d, hp, _⟩ := hP2
      exact ⟨b', e, b4 _ _ (ne_of t hp nofun) t⟩
    have fl2 := Flt.snoc rb fl
    rw [← take_succ_of hq] at fl2
    cases b with
    | true =>
      refine iteT ⟨x, by simp [wipe, hi], zs, hz4, small1000 (by omega), fun b' o nb e => ?_, ?_, _, _, upd_same, by rw [List.length_append]; simp; omega, PrsAt.lst hz4 (papp pz4 (.cons hv4 .nil)), fl2⟩
      · rw [upd_ne (ne_of_none e hD)]
        exact b4 _ _ nb (bt _ _ nb e)
      · obtain ⟨c, d, e, r⟩ := p4
        exact ⟨c, d, by rw [upd_ne (Ne.symm npD)]; exact e, r⟩
    | false =>
      refine iteF ⟨bt.trans b4, p4, zs, qs, hz4, by omega, pz4, ?_⟩
      rw [show (if false = true then [q] else []) = ([] : List Pr) from rfl, List.append_nil] at fl2
      exact fl2
  · obtain ⟨bt, hP2, zs, qs, hz, lz, pz, fl⟩ := inv
    rw [show ys.length = ps.length from pr.len, List.take_length] at fl
    exact k _ D zs qs bt hP2 hD hz pz fl
end
section
variable {P : Program} {w : World} {K : PySem.W.Frag} {mg : Str → Option Value} {base : Heap}
abbrev nParts : List Str := ["_law_pot_here", "_law_low", "_law_high", "_law_top", "_law_every_here", "_law_sort", "_law_lens", "_law_pairs", "_law_turn", "_law_pair"]
def spParts : Sp := fun vs H Q _ => ∃ p : Addr, vs = [.ref p, .int 1, .int 10] ∧ Pot H p ∧ ∀ H' t l n ps ys, But p H H' → Pot H' p → H t = none → H l = none → H' t = some (.tup [.int n, .ref l]) → H' l = some (.lst ys) → PrsAt H' ps ys → Parts n ps → Q (.ref t) H'
theorem scParts : FnScope nParts ["_law_pot_here", "_law_low", "_law_high"] (defScope (top 33)) := ⟨rfl, rfl, rfl, by decide +kernel, rfl, by decide +kernel, by decide +kernel⟩
/-- pair[1] - pair[0] -/
abbrev tLenP (K : W.Frag) (i : Nat) : TE := tOp (rI0 fun i j => V.int (i - j)) (tOp (rIxT K) (tVar i) (tC (.int 1))) (tOp (rIxT K) (tVar i) (tC (.int 0)))
abbrev tDraw (n : TE) : TE := tCall spDraw [] E0 (tCons (tVar 0) (tCons n tNil))
theorem lenP_go {i : Nat} {v : V} {q : Pr} {σ : L2.St} {H : Hp} {Q : VK} (hx : σ[i]? = some (some v)) (h : PrAt H q v) (k : Q (.int (q.2 - q.1)) H) : tLenP K i σ H Q := by
  obtain ⟨a, rfl, e⟩ := h
  exact ⟨_, hx, a, _, 1, _, rfl, rfl, SqT.of e, rfl, _, hx, a, _, 0, _, rfl, rfl, SqT.of e, rfl, _, _, rfl, rfl, k⟩
theorem flat_ints (ns : List Int) : (ns.map V.int).all flatV = true := by
  rw [List.all_map]
  exact List.all_eq_true.mpr fun _ _ => rfl
theorem parts_sub {n : Int} {qs : List Pr} (n1 : 1 ≤ n) (n2 : n ≤ 10) (h : qs.Sublist (everyL n)) (l : qs.length ≤ 40) : Parts n qs := ⟨n1, n2, fun p m => mem_every.mp (h.subset m), h.nodup (every_nodup n), l⟩
theorem but_free {p l : Addr} {H H' : Hp} (b : But p H H') (hP : Pot H' p) (h : H' l = none) : H l = none := by
  cases e : H l with
  | none => rfl
  | some o =>
    have t := b l o (pot_ne hP h) e
    rw [h] at t
    cases t
theorem prs_erase {H : Hp} : ∀ {qs : List Pr} {zs : List V} (k : Nat), PrsAt H qs zs → PrsAt H (qs.eraseIdx k) (zs.eraseIdx k)
  | _, _, k, .nil => by
    rw [List.eraseIdx_nil, List.eraseIdx_nil]
    exact .nil
  | _, _, 0, .cons a t => t
  | _, _, k + 1, .cons a t => .cons a (prs_erase k t)
theorem pot_upd {p b : Addr} {H : Hp} {o : HO} (hP : Pot H p) (n : b ≠ p) : Pot (upd H b o) p := by
  obtain ⟨x, y, e, r⟩ := hP
  exact ⟨x, y, by rw [upd_ne (Ne.symm n)]; exact e, r⟩
theorem ok_parts {f fD fE : Addr} {fd fdD fdE : FuncData} (D : Dn K mg "_law_parts" (top 33) ["_law_pot_here", "_law_low", "_law_high"] f fd) (B : Bl mg) (DD : Dn K mg "_law_draw" (top 29) ["_law_pot_here", "_law_sides"] fD fdD) (DE : Dn K mg "_law_every" (top 32) ["_law_top"] fE fdE) :
    FnOk P w K mg base CX0 2 f fd ["_law_pot_here", "_law_low", "_law_high"] spParts := by
  have GD : FnOk P w K mg base CX0 1 fD fdD ["_law_pot_here", "_law_sides"] spDraw := ok_draw DD.F B
  have GE : FnOk P w K mg base CX0 1 fE fdE ["_law_top"] spEvery := ok_every DE.F B
  refine D.F.ok scParts (fun vs H Q E h => ?_) (fun cdv A outer s H vs Q E hr h => ?_)
  · obtain ⟨p, rfl, _⟩ := h
    rfl
  · obtain ⟨p, rfl, hP, k⟩ := h
    refine ⟨_, pss_cons (ps_set (i := 3) scParts.nd rfl (.inl rfl) (pe_op op_add (pv 1) (pe_call GD hr (by rfl) DD.m DD.F.kp DD.b .nil pass0 (pa_cons (pv 0) (pa_cons (pe_op op_add (pe_op op_sub (pv 2) (pv 1)) pe_int) pa_nil)))))
      (pss_cons (ps_asg (pe_tup (pa_cons (pe_call GE hr (by rfl) DE.m DE.F.kp DE.b .nil pass0 (pa_cons (pv 3) pa_nil)) (pa_cons (pe_call GD hr (by rfl) DD.m DD.F.kp DD.b .nil pass0 (pa_cons (pv 0) (pa_cons pe_int pa_nil))) pa_nil))) (pg_tup rfl (pgs_cons (pg_name (i := 4) scParts.nd rfl (.inl rfl)) (pgs_cons (pg_name (i := 5) scParts.nd rfl (.inr rfl)) pgs_nil))))
      (C8.pss_cut (ps_if (pt_cmpR op_eq (pv 5) pe_int (nomark _))
        (pss_cons (ps_set (i := 6) scParts.nd rfl (.inr rfl) (pe_lc (te := tOp (rI0 fun i j => V.int (i + j)) (tC (.int 1)) (tDraw (tC (.int 4)))) (own := [("_law_turn", 8)]) (g := gName 8) (tt := tYes) rfl scParts.nd (pi_range1 (by rfl) B.range (pa_cons pe_int pa_nil)) (blkOk_by (N := nParts) (sc := defScope (top 33)) (by decide +kernel))
            (fun _ _ _ _ _ => pg_name (i := 8) scParts.nd rfl (.inl rfl)) (fun _ _ _ _ _ => pts_nil) (fun _ _ _ _ _ => by exact pe_op op_add pe_int (pe_call GD hr (by rfl) DD.m DD.F.kp DD.b .nil pass0 (pa_cons (pv 0) (pa_cons pe_int pa_nil))))))
          (pss_one (ps_setLc (i := 7) (te := tVar 9) (own := [("_law_pair", 9)]) (g := gName 9) (tt := tTest (tOp (rIn K false) (tLenP K 9) (tVar 6))) rfl scParts.nd rfl rfl (sw_true rfl rfl rfl (by decide +kernel)) (pi_list (pv 4)) (blkOk_by (N := nParts) (sc := defScope (top 33)) (by decide +kernel))
            (fun _ _ _ _ _ => pg_name (i := 9) scParts.nd rfl (.inl rfl)) (fun _ _ _ _ _ => pts_one (by exact pt_cmpR op_in_seq (pe_op op_sub (pe_ix ix_tup (pv 9) pe_int (fun _ _ => rfl)) (pe_ix ix_tup (pv 9) pe_int (fun _ _ => rfl))) (pv 6) rfl)) (fun _ _ _ _ _ => by exact pv 9))))
        (pss_one (ps_if (pt_cmpR op_eq (pv 5) pe_int (nomark _))
          (pss_one (ps_setLc (i := 7) (te := tVar 9) (own := [("_law_pair", 9)]) (g := gName 9) (tt := tAnd (tTest (tOp (rI0 fun i j => V.bl (decide (i < j))) (tLenP K 9) (tC (.int 4)))) (tTest (tOp (rI0 fun i j => V.bl (decide (j < i))) (tDraw (tC (.int 5))) (tC (.int 0))))) rfl scParts.nd rfl rfl (sw_true rfl rfl rfl (by decide +kernel)) (pi_list (pv 4)) (blkOk_by (N := nParts) (sc := defScope (top 33)) (by decide +kernel))
            (fun _ _ _ _ _ => pg_name (i := 9) scParts.nd rfl (.inl rfl)) (fun _ _ _ _ _ => pts_one (by exact (pw_and (pt_cmpR op_lt (pe_op op_sub (pe_ix ix_tup (pv 9) pe_int (fun _ _ => rfl)) (pe_ix ix_tup (pv 9) pe_int (fun _ _ => rfl))) pe_int (nomark _)) (pw_and1 (pt_cmpR op_gt (pe_call GD hr (by rfl) DD.m DD.F.kp DD.b .nil pass0 (pa_cons (pv 0) (pa_cons pe_int pa_nil))) pe_int (nomark _)))).pt)) (fun _ _ _ _ _ => by exact pv 9)))
          (pss_one (ps_setLc (i := 7) (te := tVar 9) (own := [("_law_pair", 9)]) (g := gName 9) (tt := tTest (tOp (rI0 fun i j => V.bl (decide (i < j))) (tDraw (tOp (rI CMul fun i j => .int (i * j)) (tC (.int 2)) (tVar 5))) (tC (.int 2)))) rfl scParts.nd rfl rfl (sw_true rfl rfl rfl (by decide +kernel)) (pi_list (pv 4)) (blkOk_by (N := nParts) (sc := defScope (top 33)) (by decide +kernel))
            (fun _ _ _ _ _ => pg_name (i := 9) scParts.nd rfl (.inl rfl)) (fun _ _ _ _ _ => pts_one (by exact pt_cmpR op_lt (pe_call GD hr (by rfl) DD.m DD.F.kp DD.b .nil pass0 (pa_cons (pv 0) (pa_cons (pe_op op_mul pe_int (pv 5)) pa_nil))) pe_int (nomark _))) (fun _ _ _ _ _ => by exact pv 9))))))
      (pss_cons (ps_for PassesOwn.never rfl (pi_range1 (by rfl) B.range (pa_cons (pe_callB (call_max2 rfl) (by rfl) B.max boot_max (pa_cons pe_int (pa_cons (pe_op op_sub (pe_callB call_len_seq (by rfl) B.len PySem.boot_len (pa_cons (pv 7) pa_nil)) pe_int) pa_nil))) pa_nil)) (pg_name (i := 8) scParts.nd rfl (.inl rfl))
        (pss_one (ps_expr (pe_bm PySem.F.plainAttrs_list PySem.F.slot_list_pop PySem.F.type_list_pop mt_popAt (pv 7) (pa_cons (pe_call GD hr (by rfl) DD.m DD.F.kp DD.b .nil pass0 (pa_cons (pv 0) (pa_cons (pe_callB call_len_seq (by rfl) B.len PySem.boot_len (pa_cons (pv 7) pa_nil)) pa_nil))) pa_nil)))))
      (pss_one (ps_ret (pe_tup (pa_cons (pv 3) (pa_cons (pv 7) pa_nil)))))))), ?_⟩
    refine ⟨_, rfl, _, rfl, _, rfl, _, rfl, _, _, rfl, rfl, _, _, rfl, rfl, p, _, rfl, hP, by decide, by decide, fun H1 d0 b1 p1 d00 d01 => ⟨_, _, rfl, rfl, ?_⟩⟩
    have n1 : 1 ≤ 1 + d0 := by omega
    have n2 : 1 + d0 ≤ 10 := by omega
    dsimp only
    generalize hn : 1 + d0 = n at *
    refine ⟨_, rfl, n, rfl, n1, n2, fun H2 el ys s2 hel hy py => ⟨_, rfl, p, 4, rfl, p1.same s2, by decide, by decide, fun H3 so b3 p3 so0 so4 => ⟨Nat.le_of_lt (small1000 (show 2 ≤ 1000 by decide)), fun t ht => ?_⟩⟩⟩
    have nel : el ≠ p := pot_ne p1 hel
    have s4 := Same.new (o := .tup [V.ref el, V.int so]) ht
    have B4 : But p H (upd H3 t (.tup [V.ref el, V.int so])) := ((b1.same s2).trans b3).same s4
    have P4 := p3.same s4
    have he4 := s4 _ _ (b3 _ _ nel hy)
    have py4 := (prs_but (p1.same s2) b3 py).same s4
    refine ⟨t, _, rfl, SqT.of upd_same, rfl, _, _, rfl, _, _, rfl, rfl, ?_⟩
    generalize upd H3 t (.tup [V.ref el, V.int so]) = H4 at *
    have ly : ys.length ≤ 1000 := by
      have := rows_len n2 (List.range (n + 1).toNat)
      rw [List.length_range] at this
      have := py.len
      unfold everyL at this
      omega
    refine ⟨fun σ' H' => ∃ s6 l zs qs, σ' = [some (.ref p), some (.int 1), some (.int 10), some (.int n), some (.ref el), some (.int so), s6, some (.ref l), none, none] ∧ But p H4 H' ∧ Pot H' p ∧ H4 l = none ∧ H' l = some (.lst zs) ∧ PrsAt H' qs zs ∧ qs.Sublist (everyL n), ?_, ?_⟩
    · refine ⟨_, rfl, rfl, _, rfl, ite2 (fun c => ?_) (fun c => ?_)⟩
      · refine ⟨3, rfl, by decide, by decide, fun L hL => lc_it (walk_range (lo := 0) (n := 3)) (fun j H' => But p H4 H' ∧ Pot H' p ∧ ∃ ns : List Int, H' L = some (.lst (ns.map V.int)) ∧ ns.length ≤ j) ?_ (fun _ _ _ _ => trivial) (fun j x H5 H6 hj inv y => ?_) fun H5 inv => ?_⟩
        · have sn := Same.new (o := .lst []) hL
          exact ⟨fun b o _ e => sn _ _ e, P4.same sn, [], upd_same, Nat.le_refl _⟩
        · obtain ⟨b5, p5, ns, hns, ln⟩ := inv
          obtain ⟨rfl, rfl⟩ := y
          have nLp : L ≠ p := pot_ne P4 hL
          refine ⟨rfl, yes_go (iteT ⟨_, rfl, p, 4, rfl, p5, by decide, by decide, fun H7 d b7 p7 d0' d1' => ⟨_, _, rfl, rfl, _, b7 _ _ nLp hns, small1000 (by rw [List.length_map]; omega), fun b o nb e => ?_, pot_upd p7 nLp, ns ++ [1 + d], ?_, ?_⟩⟩)⟩
          · rw [upd_ne (ne_of_none e hL)]
            exact b7 _ _ nb (b5 _ _ nb e)
          · rw [upd_same, List.map_append]
            rfl
          · rw [List.length_append]
            simp
            omega
        · obtain ⟨b5, p5, ns, hns, ln⟩ := inv
          have nLp : L ≠ p := pot_ne P4 hL
          dsimp only [tAsg, gName, List.map]
          refine sub_go (K := K) (a := el) (p := p) (ps := everyL n) (ys := ys) (fun _ _ => True) (by rfl) (by show 9 < 10; decide) (b5 _ _ nel he4) (prs_but P4 b5 py4) p5 nel ly (fun H' q v _ hv bt pt Q' kq => ?_) fun H' D zs qs bt pt hD hz pz fl => ⟨_, D, zs, qs, rfl, b5.trans bt, pt, but_free b5 p5 hD, hz, pz, fl.sub⟩
          refine lenP_go (by rfl) hv ⟨_, rfl, L, _, rfl, .inl (SqL.of (bt _ _ nLp hns)), rfl, flat_ints ns, _, rfl, kq _ _ trivial (But.refl p _) pt⟩
      · refine ⟨_, rfl, rfl, _, rfl, ite2 (fun c2 => ?_) (fun c2 => ?_)⟩
        · dsimp only [tAsg, gName, List.map]
          refine sub_go (K := K) (a := el) (p := p) (ps := everyL n) (ys := ys) (fun _ _ => True) (by rfl) (by show 9 < 10; decide) he4 py4 P4 nel ly (fun H' q v _ hv bt pt Q' kq => ?_) fun H' D zs qs bt pt hD hz pz fl => ⟨_, D, zs, qs, rfl, bt, pt, hD, hz, pz, fl.sub⟩
          refine lenP_go (by rfl) hv ⟨_, _, rfl, rfl, _, rfl, ite2 (fun c3 => ?_) (fun c3 => ?_)⟩
          · exact ⟨_, rfl, p, 5, rfl, pt, by decide, by decide, fun H7 d b7 p7 d0' d1' => ⟨_, _, rfl, rfl, _, rfl, kq _ _ trivial b7 p7⟩⟩
          · exact kq _ _ trivial (But.refl p _) pt
        · dsimp only [tAsg, gName, List.map]
          refine sub_go (K := K) (a := el) (p := p) (ps := everyL n) (ys := ys) (fun _ _ => True) (by rfl) (by show 9 < 10; decide) he4 py4 P4 nel ly (fun H' q v _ hv bt pt Q' kq => ?_) fun H' D zs qs bt pt hD hz pz fl => ⟨_, D, zs, qs, rfl, bt, pt, hD, hz, pz, fl.sub⟩
          have c' : so ≠ 0 := fun z => c (decide_eq_true (by rw [z]))
          refine ⟨_, rfl, _, rfl, _, _, rfl, rfl, .inl ⟨by decide, by decide⟩, p, 2 * so, rfl, pt, by omega, by omega, fun H7 d b7 p7 d0' d1' => ⟨_, _, rfl, rfl, _, rfl, kq _ _ trivial b7 p7⟩⟩
    · rintro σ' H5 ⟨s6, l, zs, qs, rfl, b5, p5, hl, hz, pz, sub⟩
      have nlp : l ≠ p := pot_ne P4 hl
      have hl0 : H l = none := but_free B4 P4 hl
      have lz := pz.len
      have lq := sub.length_le
      have lz2 : zs.length ≤ 1000 := by rw [lz]; have := py4.len; omega
      refine ⟨_, rfl, l, zs, rfl, .inl (SqL.of hz), _, _, rfl, rfl, 0, _, rfl, _, rfl, ?_, ?_, for_it (walk_range (lo := 0)) (fun i σ H' => (∃ s8, σ = [some (.ref p), some (.int 1), some (.int 10), some (.int n), some (.ref el), some (.int so), s6, some (.ref l), s8, none]) ∧ But p H H' ∧ Pot H' p ∧ ∃ zs2 qs2, H' l = some (.lst zs2) ∧ PrsAt H' qs2 zs2 ∧ qs2.Sublist (everyL n) ∧ zs2.length + i = zs.length) ⟨⟨_, rfl⟩, B4.trans b5, p5, zs, qs, hz, pz, sub, rfl⟩ (fun _ _ _ _ _ => trivial) (fun i v σ H6 H7 hi inv y => ?_) fun σ H6 inv => ?_⟩
      · split <;> omega
      · split <;> omega
      · obtain ⟨⟨s8, rfl⟩, b6, p6, zs2, qs2, hz2, pz2, sub2, e2⟩ := inv
        obtain ⟨rfl, rfl⟩ := y
        have z2 : 1 ≤ zs2.length := by
          split at hi <;> omega
        refine ⟨_, rfl, .inl ⟨rfl, _, SqL.of hz2⟩, _, rfl, _, rfl, l, _, rfl, .inl (SqL.of hz2), p, _, rfl, p6, by omega, by omega, fun H8 d b8 p8 d0' d1' => ?_⟩
        have hz8 := b8 _ _ nlp hz2
        have hd : d.toNat < zs2.length := by omega
        refine ⟨l, zs2, d, d.toNat, _, rfl, rfl, hz8, by omega, by omega, seqIndex_of d0' d1', List.getElem?_eq_getElem hd, ⟨_, rfl⟩, fun b o nb e => ?_, pot_upd p8 nlp, _, qs2.eraseIdx d.toNat, upd_same, ?_, (List.eraseIdx_sublist qs2 d.toNat).trans sub2, ?_⟩
        · rw [upd_ne (ne_of_none e hl0)]
          exact b8 _ _ nb (b6 _ _ nb e)
        · exact PrsAt.lst hz8 (prs_erase _ (prs_but p6 b8 pz2))
        · rw [List.length_eraseIdx_of_lt hd]
          omega
      · obtain ⟨⟨s8, rfl⟩, b6, p6, zs2, qs2, hz2, pz2, sub2, e2⟩ := inv
        refine ⟨_, rfl, _, rfl, Nat.le_of_lt (small1000 (show 2 ≤ 1000 by decide)), fun t2 ht2 => ?_⟩
        have s9 := Same.new (o := .tup [V.int n, V.ref l]) ht2
        refine k _ t2 l n qs2 zs2 (b6.same s9) (p6.same s9) (but_free b6 p6 ht2) hl0 upd_same (s9 _ _ hz2) (pz2.same s9) (parts_sub n1 n2 sub2 ?_)
        have := pz2.len
        split at e2 <;> omega
end
end K12

set_option Elab.async false
set_option linter.all false
set_option maxRecDepth 100000
set_option maxHeartbeats 4000000
namespace K12
open PySem PySem.Spec PyProof.Rows L2 MX NZ SM
section
variable {P : Program} {w : World} {K : PySem.W.Frag} {mg : Str → Option Value} {base : Heap} {C : Addr}
/-- Stair.of as it is called -/
def spOfS (P : Program) (w : World) (K : W.Frag) (C : Addr) : Sp := fun vs H Q E => ∃ ws rest, vs = ws ++ rest ∧ ws.length = 1 ∧ rest.length ≤ sizeLine ∧ ∀ p, H p = none → spOf P w K C (ws ++ [V.ref p]) (upd H p (.tup rest)) Q E
/-- Stair.of, where it stands -/
structure OfC (P : Program) (w : World) (K : W.Frag) (mg : Str → Option Value) (base : Heap) (C : Addr) (mc : Value) (pS g : Addr) : Prop where
  r : ClX.CRead K C mc
  c : SMet K C mc "of" pS g
  f : FnR P w K mg base CX0 5 g (spOfS P w K C)
structure OkLs (n : Int) (ls : List Int) : Prop where
  nd : ls.Nodup
  ok : ∀ l ∈ ls, 1 ≤ l ∧ l ≤ 11
  n1 : 1 ≤ n
  n2 : n ≤ 10
  l40 : (ofList n ls).length ≤ 40
theorem of_go {n : Int} {ls : List Int} {vs : List V} {H : Hp} {Q : VK} {E : XK} (ev : vs = .int n :: ls.map V.int) (o : OkLs n ls) (ln : ls.length ≤ 20) (k : ∀ H' s, Same H H' → H s = none → StairAt P w C H' s n (srt (ofList n ls)) → Q (.ref s) H') : spOfS P w K C vs H Q E := by
  subst ev
  refine ⟨[.int n], ls.map V.int, rfl, rfl, ?_, fun p hp => ⟨n, p, ls, rfl, SqT.of upd_same, o.nd, o.ok, ln, o.n1, o.n2, o.l40, fun H' s sm hs st => k H' s ((Same.new hp).trans sm) ((Same.new hp).free hs) st⟩⟩
  rw [List.length_map]
  exact Nat.le_of_lt (small1000 (by omega))
def spOfL (P : Program) (w : World) (C : Addr) : Sp := fun vs H Q _ => ∃ (n : Int) (l : Addr) (ls : List Int), vs = [.int n, .ref l] ∧ H l = some (.lst (ls.map V.int)) ∧ OkLs n ls ∧ 1 ≤ ls.length ∧ ls.length ≤ 4 ∧ ∀ H' s, Same H H' → H s = none → StairAt P w C H' s n (srt (ofList n ls)) → Q (.ref s) H'
theorem scFour : FnScope ["_law_top", "_law_lens"] ["_law_top", "_law_lens"] (defScope (top 35)) := ⟨rfl, rfl, rfl, by decide +kernel, rfl, by decide +kernel, by decide +kernel⟩
theorem scOfL : FnScope ["_law_top", "_law_lens", "_law_more"] ["_law_top", "_law_lens"] (defScope (top 34)) := ⟨rfl, rfl, rfl, by decide +kernel, rfl, by decide +kernel, by decide +kernel⟩
def spFour (P : Program) (w : World) (C : Addr) : Sp := fun vs H Q _ => ∃ (n : Int) (l : Addr) (a b c d : Int), vs = [.int n, .ref l] ∧ H l = some (.lst [.int a, .int b, .int c, .int d]) ∧ OkLs n [a, b, c, d] ∧ ∀ H' s, Same H H' → H s = none → StairAt P w C H' s n (srt (ofList n [a, b, c, d])) → Q (.ref s) H'
theorem ok_four {f pS g : Addr} {fd : FuncData} {mc : Value} (D : Dn K mg "_law_four" (top 35) ["_law_top", "_law_lens"] f fd) (S : StC K mg C) (O : OfC P w K mg base C mc pS g) : FnOk P w K mg base CX0 6 f fd ["_law_top", "_law_lens"] (spFour P w C) := by
  refine D.F.ok scFour (fun vs H Q E h => ?_) (fun cdv A outer s H vs Q E hr h => ?_)
  · obtain ⟨n, l, a, b, c, d, rfl, _⟩ := h
    rfl
  · obtain ⟨n, l, a, b, c, d, rfl, hl, ok, k⟩ := h
    refine ⟨_, pss_one (ps_ret (pe_smeth (pe_glob (v := .ref C) (by rfl) S.m rfl) O.r O.c O.f hr pass0 (pa_cons (pv 0) (pa_cons (pe_ix ix_list (pv 1) pe_int (fun _ _ => rfl)) (pa_cons (pe_ix ix_list (pv 1) pe_int (fun _ _ => rfl)) (pa_cons (pe_ix ix_list (pv 1) pe_int (fun _ _ => rfl)) (pa_cons (pe_ix ix_list (pv 1) pe_int (fun _ _ => rfl)) pa_nil))))))), ?_⟩
    refine ⟨rfl, _, rfl, _, rfl, l, _, 0, _, rfl, rfl, SqL.of hl, rfl, _, rfl, l, _, 1, _, rfl, rfl, SqL.of hl, rfl, _, rfl, l, _, 2, _, rfl, rfl, SqL.of hl, rfl, _, rfl, l, _, 3, _, rfl, rfl, SqL.of hl, rfl, ?_⟩
    exact of_go (ls := [a, b, c, d]) rfl ok (by show 4 ≤ 20; decide) k
theorem ok_ofL {f f4 pS g : Addr} {fd fd4 : FuncData} {mc : Value} (D : Dn K mg "_law_of" (top 34) ["_law_top", "_law_lens"] f fd) (B : Bl mg) (S : StC K mg C) (O : OfC P w K mg base C mc pS g) (D4 : Dn K mg "_law_four" (top 35) ["_law_top", "_law_lens"] f4 fd4) : FnOk P w K mg base CX0 7 f fd ["_law_top", "_law_lens"] (spOfL P w C) := by
  have G4 : FnOk P w K mg base CX0 6 f4 fd4 ["_law_top", "_law_lens"] (spFour P w C) := ok_four D4 S O
  refine D.F.ok scOfL (fun vs H Q E h => ?_) (fun cdv A outer s H vs Q E hr h => ?_)
  · obtain ⟨n, l, ls, rfl, _⟩ := h
    rfl
  · obtain ⟨n, l, ls, rfl, hl, ok, l1, l4, k⟩ := h
    have r5 := hr.mono (show 5 ≤ 6 by decide)
    refine ⟨_, pss_cons (ps_if (pt_cmpR op_lt (pe_callB call_len_seq (by rfl) B.len PySem.boot_len (pa_cons (pv 1) pa_nil)) pe_int (nomark _)) (pss_one (ps_ret (pe_ifExp (pt_cmpR op_eq (pe_callB call_len_seq (by rfl) B.len PySem.boot_len (pa_cons (pv 1) pa_nil)) pe_int (nomark _)) (pe_smeth (pe_glob (v := .ref C) (by rfl) S.m rfl) O.r O.c O.f r5 pass0 (pa_cons (pv 0) (pa_cons (pe_ix ix_list (pv 1) pe_int (fun _ _ => rfl)) pa_nil))) (pe_smeth (pe_glob (v := .ref C) (by rfl) S.m rfl) O.r O.c O.f r5 pass0 (pa_cons (pv 0) pa_nil))))) pss_nil) (pss_cons (ps_if (pt_cmpR op_lt (pe_callB call_len_seq (by rfl) B.len PySem.boot_len (pa_cons (pv 1) pa_nil)) pe_int (nomark _)) (pss_one (ps_ret (pe_ifExp (pt_cmpR op_eq (pe_callB call_len_seq (by rfl) B.len PySem.boot_len (pa_cons (pv 1) pa_nil)) pe_int (nomark _)) (pe_smeth (pe_glob (v := .ref C) (by rfl) S.m rfl) O.r O.c O.f r5 pass0 (pa_cons (pv 0) (pa_cons (pe_ix ix_list (pv 1) pe_int (fun _ _ => rfl)) (pa_cons (pe_ix ix_list (pv 1) pe_int (fun _ _ => rfl)) (pa_cons (pe_ix ix_list (pv 1) pe_int (fun _ _ => rfl)) pa_nil))))) (pe_smeth (pe_glob (v := .ref C) (by rfl) S.m rfl) O.r O.c O.f r5 pass0 (pa_cons (pv 0) (pa_cons (pe_ix ix_list (pv 1) pe_int (fun _ _ => rfl)) (pa_cons (pe_ix ix_list (pv 1) pe_int (fun _ _ => rfl)) pa_nil))))))) pss_nil) (pss_cons (ps_if (pt_cmpR op_lt (pe_callB call_len_seq (by rfl) B.len PySem.boot_len (pa_cons (pv 1) pa_nil)) pe_int (nomark _)) (pss_cons (ps_set (i := 2) scOfL.nd rfl (.inl rfl) (pe_lst (pa_cons (pe_ix ix_list (pv 1) pe_int (fun _ _ => rfl)) (pa_cons (pe_ix ix_list (pv 1) pe_int (fun _ _ => rfl)) (pa_cons (pe_ix ix_list (pv 1) pe_int (fun _ _ => rfl)) (pa_cons (pe_ix ix_list (pv 1) pe_int (fun _ _ => rfl)) pa_nil)))))) (pss_one (ps_ret (pe_ifExp (pt_cmpR op_eq (pe_callB call_len_seq (by rfl) B.len PySem.boot_len (pa_cons (pv 1) pa_nil)) pe_int (nomark _)) (pe_smeth (pe_glob (v := .ref C) (by rfl) S.m rfl) O.r O.c O.f r5 pass0 (pa_cons (pv 0) (pa_cons (pe_ix ix_list (pv 2) pe_int (fun _ _ => rfl)) (pa_cons (pe_ix ix_list (pv 2) pe_int (fun _ _ => rfl)) (pa_cons (pe_ix ix_list (pv 2) pe_int (fun _ _ => rfl)) (pa_cons (pe_ix ix_list (pv 2) pe_int (fun _ _ => rfl)) (pa_cons (pe_ix ix_list (pv 1) pe_int (fun _ _ => rfl)) pa_nil))))))) (pe_call G4 hr (by rfl) D4.m D4.F.kp D4.b .nil pass0 (pa_cons (pv 0) (pa_cons (pv 2) pa_nil))))))) pss_nil) (pss_one (ps_ret (pe_smeth (pe_glob (v := .ref C) (by rfl) S.m rfl) O.r O.c O.f r5 pass0 (pa_cons (pv 0) (pa_cons (pe_ix ix_list (pv 1) pe_int (fun _ _ => rfl)) (pa_cons (pe_ix ix_list (pv 1) pe_int (fun _ _ => rfl)) (pa_cons (pe_ix ix_list (pv 1) pe_int (fun _ _ => rfl)) (pa_cons (pe_ix ix_list (pv 1) pe_int (fun _ _ => rfl)) (pa_cons (pe_ix ix_list (pv 1) pe_int (fun _ _ => rfl)) (pa_cons (pe_ix ix_list (pv 1) pe_int (fun _ _ => rfl)) pa_nil)))))))))))), ?_⟩
    match ls, l1, l4 with
    | [a], _, _ =>
      refine ⟨_, rfl, l, _, rfl, .inl (SqL.of hl), _, _, rfl, rfl, _, rfl, iteT ⟨_, rfl, l, _, rfl, .inl (SqL.of hl), rfl, _, rfl, iteT ?_⟩⟩
      refine ⟨rfl, _, rfl, _, rfl, l, _, 0, _, rfl, rfl, SqL.of hl, rfl, ?_⟩
      exact of_go (ls := [a]) rfl ok (by show 1 ≤ 20; decide) k
    | [a, b], _, _ =>
      refine ⟨_, rfl, l, _, rfl, .inl (SqL.of hl), _, _, rfl, rfl, _, rfl, iteF ?_⟩
      refine ⟨_, rfl, l, _, rfl, .inl (SqL.of hl), _, _, rfl, rfl, _, rfl, iteT ⟨_, rfl, l, _, rfl, .inl (SqL.of hl), rfl, _, rfl, iteF ?_⟩⟩
      refine ⟨rfl, _, rfl, _, rfl, l, _, 0, _, rfl, rfl, SqL.of hl, rfl, _, rfl, l, _, 1, _, rfl, rfl, SqL.of hl, rfl, ?_⟩
      exact of_go (ls := [a, b]) rfl ok (by show 2 ≤ 20; decide) k
    | [a, b, c], _, _ =>
      refine ⟨_, rfl, l, _, rfl, .inl (SqL.of hl), _, _, rfl, rfl, _, rfl, iteF ?_⟩
      refine ⟨_, rfl, l, _, rfl, .inl (SqL.of hl), _, _, rfl, rfl, _, rfl, iteT ⟨_, rfl, l, _, rfl, .inl (SqL.of hl), rfl, _, rfl, iteT ?_⟩⟩
      refine ⟨rfl, _, rfl, _, rfl, l, _, 0, _, rfl, rfl, SqL.of hl, rfl, _, rfl, l, _, 1, _, rfl, rfl, SqL.of hl, rfl, _, rfl, l, _, 2, _, rfl, rfl, SqL.of hl, rfl, ?_⟩
      exact of_go (ls := [a, b, c]) rfl ok (by show 3 ≤ 20; decide) k
    | [a, b, c, d], _, _ =>
      refine ⟨_, rfl, l, _, rfl, .inl (SqL.of hl), _, _, rfl, rfl, _, rfl, iteF ?_⟩
      refine ⟨_, rfl, l, _, rfl, .inl (SqL.of hl), _, _, rfl, rfl, _, rfl, iteF ?_⟩
      refine ⟨_, rfl, l, _, rfl, .inl (SqL.of hl), _, _, rfl, rfl, _, rfl, iteT ?_⟩
      refine ⟨_, rfl, l, _, 0, _, rfl, rfl, SqL.of hl, rfl, _, rfl, l, _, 1, _, rfl, rfl, SqL.of hl, rfl, _, rfl, l, _, 2, _, rfl, rfl, SqL.of hl, rfl, _, rfl, l, _, 3, _, rfl, rfl, SqL.of hl, rfl, Nat.le_of_lt (small1000 (show 4 ≤ 1000 by decide)), fun l2 hl2 => ?_⟩
      have s2 := Same.new (o := .lst [V.int a, V.int b, V.int c, V.int d]) hl2
      refine ⟨_, rfl, l, _, rfl, .inl (SqL.of (s2 _ _ hl)), rfl, _, rfl, iteF ?_⟩
      exact ⟨_, rfl, _, rfl, n, l2, a, b, c, d, rfl, upd_same, ok, fun H' s sm hs st => k H' s (s2.trans sm) (s2.free hs) st⟩
end
end K12

set_option Elab.async false
set_option linter.all false
set_option maxRecDepth 100000
set_option maxHeartbeats 4000000
namespace K12
open PySem PySem.Spec PyProof.Rows L2 MX NZ SM
/-- a piece of data is one of the jumps -/
def inP (ps : List Pr) (d : PyData) : Bool := (ps.map pairD).any fun z => PyData.eqv z d
theorem inP_ints {ps : List Pr} {i j : Int} : inP ps (.tuple [.int i, .int j]) = decide ((i, j) ∈ ps) := by
  unfold inP
  rw [List.any_map]
  by_cases h : (i, j) ∈ ps
  · rw [decide_eq_true h, List.any_eq_true]
    exact ⟨(i, j), h, (eqv_pair (p := (i, j)) (q := (i, j))).trans (decide_eq_true rfl)⟩
  · rw [decide_eq_false h, List.any_eq_false]
    intro q hq e
    have e2 := (eqv_pair (p := q) (q := (i, j))).symm.trans e
    rw [of_decide_eq_true e2] at hq
    exact h hq
theorem eqv_int_odd {i : Int} {d : PyData} (h : isI d = false) (b : kB d = false) : PyData.eqv (.int i) d = false := by
  cases d <;> first | (cases h; done) | (cases b; done) | simp only [PyData.eqv]
theorem eqv_two {a b c d : PyData} : PyData.eqv (.tuple [a, b]) (.tuple [c, d]) = (PyData.eqv a c && (PyData.eqv b d && true)) := rfl
theorem inP_odd {ps : List Pr} {a b : PyData} (ha : kB a = false) (hb : kB b = false) (h : (isI a && isI b) = false) : inP ps (.tuple [a, b]) = false := by
  unfold inP
  rw [List.any_map, List.any_eq_false]
  intro q _
  show ¬ PyData.eqv (pairD q) (.tuple [a, b]) = true
  unfold pairD
  rw [eqv_two]
  rcases Bool.and_eq_false_iff.mp h with e | e
  · rw [eqv_int_odd e ha]
    simp
  · rw [eqv_int_odd e hb]
    simp
theorem eqvAll_len : ∀ {xs ys : List PyData}, xs.length ≠ ys.length → PyData.eqvAll xs ys = false
  | [], [], h => absurd rfl h
  | [], _ :: _, _ => rfl
  | _ :: _, [], _ => rfl
  | x :: xs, y :: ys, h => by
    show (PyData.eqv x y && PyData.eqvAll xs ys) = false
    rw [eqvAll_len (fun e => h (by rw [List.length_cons, List.length_cons, e])), Bool.and_false]
theorem inP_len {ps : List Pr} {ds : List PyData} (h : ds.length ≠ 2) : inP ps (.tuple ds) = false := by
  unfold inP
  rw [List.any_map, List.any_eq_false]
  intro q _
  show ¬ PyData.eqvAll [.int q.1, .int q.2] ds = true
  rw [eqvAll_len (fun e => h e.symm)]
  exact Bool.false_ne_true
theorem in_pair {n : Int} {ps : List Pr} {a b : PyData} (ha : kB a = false) (hb : kB b = false) : isIn n ps (.tuple [a, b]) = inP ps (.tuple [a, b]) := by
  cases h : (isI a && isI b) with
  | true =>
    rw [Bool.and_eq_true] at h
    cases a <;> first | cases h.1 | skip
    cases b <;> first | cases h.2 | skip
    rw [inP_ints]
    rfl
  | false =>
    rw [inP_odd ha hb h]
    cases a <;> first | rfl | skip
    cases b <;> first | rfl | cases h
theorem in_short {n : Int} {ps : List Pr} {ds : List PyData} (h : ds.length ≠ 2) : isIn n ps (.tuple ds) = false := by
  match ds, h with
  | [], _ => rfl
  | [d], _ => cases d <;> rfl
  | [d1, d2], h2 => exact absurd rfl h2
  | d1 :: d2 :: d3 :: r, _ => cases d1 <;> first | rfl | (cases d2 <;> rfl)
theorem in_bool {n : Int} {ps : List Pr} {ds : List PyData} (h : ds.any kB = true) : isIn n ps (.tuple ds) = false := by
  by_cases l : ds.length = 2
  · match ds, l with
    | [a, b], _ =>
      cases a <;> first | rfl | (cases b <;> first | rfl | cases h)
  · exact in_short l
theorem ints_bool {ds : List PyData} (h : ds.any kB = true) : intsOf ds = none := by
  obtain ⟨d, m, e⟩ := List.any_eq_true.mp h
  obtain ⟨i, hi, e2⟩ := List.getElem_of_mem m
  exact ints_none (List.getElem?_eq_some_iff.mpr ⟨hi, e2⟩) (by cases d <;> first | rfl | cases e)
def hopD : List PyData → List PyData
  | a :: b :: r => .tuple [a, b] :: hopD (b :: r)
  | _ => []
theorem hopD_get : ∀ {ds : List PyData} {j : Nat} {a b : PyData}, ds[j]? = some a → ds[j + 1]? = some b → (hopD ds)[j]? = some (.tuple [a, b])
  | [], j, a, b, h, _ => by simp at h
  | [x], j, a, b, _, h => by simp at h
  | x :: y :: r, 0, a, b, h, g => by
    cases h
    cases g
    rfl
  | x :: y :: r, j + 1, a, b, h, g => by
    show (hopD (y :: r))[j]? = _
    exact hopD_get (by simpa using h) (by simpa using g)
theorem hopD_len : ∀ {ds : List PyData}, (hopD ds).length = ds.length - 1
  | [] => rfl
  | [x] => rfl
  | x :: y :: r => by
    show (hopD (y :: r)).length + 1 = _
    rw [hopD_len]
    simp
theorem hopD_ints {ps : List Pr} : ∀ is : List Int, (hopD (is.map PyData.int)).all (inP ps) = (hops is).all fun p => decide (p ∈ ps)
  | [] => rfl
  | [_] => rfl
  | a :: b :: r => by
    have ih := hopD_ints (ps := ps) (b :: r)
    simp only [List.map_cons] at ih
    simp only [List.map_cons, hopD, hops, List.all_cons, ih, inP_ints]
theorem hopD_odd {ps : List Pr} : ∀ {ds : List PyData}, ds.any kB = false → intsOf ds = none → 2 ≤ ds.length → (hopD ds).all (inP ps) = false
  | [], _, _, h => absurd h (by decide)
  | [_], _, _, h => absurd h (by simp)
  | a :: b :: r, nb, no, _ => by
    rw [List.any_cons, List.any_cons, Bool.or_eq_false_iff, Bool.or_eq_false_iff] at nb
    show (inP ps (.tuple [a, b]) && (hopD (b :: r)).all (inP ps)) = false
    by_cases ha : isI a = true
    · obtain ⟨i, rfl⟩ : ∃ i, a = .int i := by cases a <;> first | exact ⟨_, rfl⟩ | cases ha
      have no2 : intsOf (b :: r) = none := by
        cases e : intsOf (b :: r) with
        | none => rfl
        | some js =>
          have : intsOf (.int i :: b :: r) = some (i :: js) := by
            show (intsOf (b :: r)).map (i :: ·) = _
            rw [e]
            rfl
          rw [this] at no
          cases no
      by_cases hb : isI b = true
      · have l2 : 2 ≤ (b :: r).length := by
          cases r with
          | nil =>
            obtain ⟨j, rfl⟩ : ∃ j, b = .int j := by cases b <;> first | exact ⟨_, rfl⟩ | cases hb
            exact absurd no2 (by show ¬ (some [j] : Option (List Int)) = none; simp)
          | cons _ _ => simp
        rw [hopD_odd (ds := b :: r) (by rw [List.any_cons, Bool.or_eq_false_iff]; exact nb.2) no2 l2, Bool.and_false]
      · rw [inP_odd nb.1 nb.2.1 (by cases q : isI b <;> first | rw [Bool.and_false] | exact absurd q hb), Bool.false_and]
    · rw [inP_odd nb.1 nb.2.1 (by cases q : isI a <;> first | rw [Bool.false_and] | exact absurd q ha), Bool.false_and]
/-- data as they are asked here -/
structure ShD (d : PyData) : Prop where
  o : OkD d
  t : ∀ ds, d = .tuple ds → SeqAt.shaped d = true ∧ noDict d = true
section
variable {P : Program} {w : World} {K : PySem.W.Frag} {mg : Str → Option Value} {base : Heap}
def spThing (K : W.Frag) : Sp := fun vs H Q _ => ∃ (n : Int) (l : Addr) (x : V) (d : PyData) (ps : List Pr) (ys : List V), vs = [.int n, .ref l, x] ∧ H l = some (.lst ys) ∧ PrsAt H ps ys ∧ Dq H x d ∧ ShD d ∧ ∀ H', Same H H' → Q (.bl (isIn n ps d)) H'
theorem scThing : FnScope ["_law_top", "_law_pairs", "_law_thing", "_law_part"] ["_law_top", "_law_pairs", "_law_thing"] (defScope (top 36)) := ⟨rfl, rfl, rfl, by decide +kernel, rfl, by decide +kernel, by decide +kernel⟩
/-- [isinstance(part, bool) for part in thing] -/
theorem bools_go {H : Hp} {σ : L2.St} {s i : Nat} {a : Addr} {xs : List V} {ds : List PyData} {Q : VK} (hs : σ[s]? = some (some (.ref a))) (hi : i < σ.length) (ha : H a = some (.tup xs)) (al : DqAll H xs ds) (ln : xs.length ≤ 1000) (k : ∀ H' D, Same H H' → H' D = some (.lst ((ds.map kB).map V.bl)) → Q (.ref D) H') :
    tLc (iTup K (tVar s)) (gName i) tYes (tCB (rIsi K) (tCons (tVar i) (tCons (tC (.ty "bool")) tNil))) [i] σ H Q := by
  have el := dqa_len al
  refine ⟨_, hs, a, rfl, ⟨_, SqT.of ha⟩, fun D hD => lc_it (walk_tup (xs := xs)) (fun j H' => Same H H' ∧ H' D = some (.lst (((ds.take j).map kB).map V.bl))) ⟨Same.new hD, upd_same⟩ (fun j H' _ h => SqT.of (h.1 _ _ ha)) (fun j x H2 H3 hj inv y => ?_) fun H2 inv => ?_⟩
  · obtain ⟨sm, hz⟩ := inv
    obtain ⟨rfl, hx⟩ := y
    obtain ⟨d, hd, dq⟩ := dqa_get al hx
    show (fun σ2 H2 => _) ((wipe σ [i]).set i (some x)) H3
    refine ⟨by simp [wipe], yes_go (iteT ?_)⟩
    refine isD_go (K := K) (x := x) (d := d) (by simp [wipe, hi]) (dq.same sm) (kit_boolD d) ⟨_, hz, small1000 (by simp; omega), fun b u e => ?_, ?_⟩
    · rw [upd_ne (ne_of_none e hD)]
      exact sm _ _ e
    · rw [upd_same, take_succ_of hd, List.map_append, List.map_append]
      rfl
  · obtain ⟨sm, hz⟩ := inv
    rw [el, List.take_length] at hz
    exact k _ D sm hz
theorem in_true {bs : List Bool} : inV (.bl true) (bs.map V.bl) = bs.any id := by
  unfold inV
  rw [List.any_map]
  congr 1
  funext b
  cases b <;> rfl
theorem flat_bools (bs : List Bool) : (bs.map V.bl).all flatV = true := by
  rw [List.all_map]
  exact List.all_eq_true.mpr fun _ _ => rfl
theorem ok_thing {f : Addr} {fd : FuncData} (F : Fun K "_law_is_thing" "_law_is_thing" (top 36) f fd) (B : Bl mg) (B2 : Bl2 mg) : FnOk P w K mg base CX0 1 f fd ["_law_top", "_law_pairs", "_law_thing"] (spThing K) := by
  refine F.ok scThing (fun vs H Q E h => ?_) (fun cdv A outer s H vs Q E hr h => ?_)
  · obtain ⟨n, l, x, d, ps, ys, rfl, _⟩ := h
    rfl
  · obtain ⟨n, l, x, d, ps, ys, rfl, hl, pr, dq, sh, k⟩ := h
    have hu : (A.deeper (envOfC "_law_is_thing" (defScope (top 36)) s.heap.objs.size f cdv)).units + 65 < cLine := by have := hr.un; omega
    refine ⟨_, pss_cons (ps_if (pt_val (pe_isT 2 (by rfl) B.isinstance (by rfl) B2.str bt_str)) (pss_one (ps_ret (pe_cmpR op_eq (pv 2) pe_str (nomark _)))) pss_nil)
      (pss_cons (ps_if (pt_val (pe_isT 2 (by rfl) B.isinstance (by rfl) B.int bt_int)) (pss_one (ps_ret (pe_and (pe_not (pe_isT 2 (by rfl) B.isinstance (by rfl) B2.bool bt_bool)) (pe_one (pe_chain op_le op_le pe_int (pv 2) (pv 0)))))) pss_nil)
      (pss_cons (ps_if (pw_or (pt_not (pt_val (pe_isT 2 (by rfl) B.isinstance (by rfl) B2.tuple bt_tuple))) (pw_or (pt_cmpR op_ne (pe_callB call_len_seq (by rfl) B.len PySem.boot_len (pa_cons (pv 2) pa_nil)) pe_int (nomark _)) (pw_or1 (pt_cmpR op_in_seq pe_bl
          (pe_lc (te := tCB (rIsi K) (tCons (tVar 3) (tCons (tC (.ty "bool")) tNil))) (own := [("_law_part", 3)]) (g := gName 3) (tt := tYes) rfl scThing.nd (pi_tup (pv 2)) (blkOk_by (N := ["_law_top", "_law_pairs", "_law_thing", "_law_part"]) (sc := defScope (top 36)) (by decide +kernel))
            (fun _ _ _ _ _ => pg_name (i := 3) scThing.nd rfl (.inl rfl)) (fun _ _ _ _ _ => pts_nil) (fun _ _ _ _ _ => by exact pe_isT 3 (by rfl) B.isinstance (by rfl) B2.bool bt_bool)) rfl)))).pt (pss_one (ps_ret pe_bl)) pss_nil)
      (pss_one (ps_ret (pe_cmpR (op_inD hu) (pv 2) (pv 1) rfl))))), ?_⟩
    have k2 := k _ (fun _ _ e => e)
    refine seq_if (isT_go (by rfl) dq (kit_strD d) ?_)
    cases d with
    | str z =>
      cases dq
      exact iteT ⟨_, rfl, rfl, by
        rw [show decide (V.str z = V.str "feet") = isIn n ps (.str z) from by
          show _ = decide (z = "feet")
          congr 1
          simp]
        exact k2⟩
    | int i =>
      cases dq
      refine iteF ?_
      dsimp only [tNext]
      refine seq_if (isT_go (by rfl) (.int i) (kit_intD (.int i)) (iteT ?_))
      refine isD_go (by rfl) (.int i) (kit_boolD (.int i)) ⟨_, rfl, _, rfl, iteT ?_⟩
      exact chain2_goT (hi := n) (by rfl) (fun R h => ⟨_, rfl, h⟩) k2
    | bool b =>
      cases dq
      refine iteF ?_
      dsimp only [tNext]
      refine seq_if (isT_go (by rfl) (.bl b) (kit_intD (.bool b)) (iteT ?_))
      exact isD_go (by rfl) (.bl b) (kit_boolD (.bool b)) ⟨_, rfl, _, rfl, iteF k2⟩
    | tuple ds =>
      refine iteF ?_
      dsimp only [tNext]
      refine seq_if (isT_go (by rfl) dq (kit_intD (.tuple ds)) (iteF ?_))
      dsimp only [tNext]
      obtain ⟨shp, nod⟩ := sh.t ds rfl
      have dqT := dq
      cases dq with
      | tup ha al =>
      rename_i a xs
      have el := dqa_len al
      refine seq_if (or_go (nisT_go (by rfl) dqT (kit_tupD (.tuple ds)) (iteF (or_go ⟨_, rfl, a, xs, rfl, .inr (SqT.of ha), rfl, _, rfl, ?_⟩))))
      by_cases l2 : ds.length = 2
      · rw [decide_eq_true (show V.int ((xs.length : Nat) : Int) = V.int 2 by rw [el, l2]; rfl)]
        refine iteF ?_
        dsimp only [tTest, tOp, tC, List.map]
        refine bools_go (K := K) (a := a) (xs := xs) (ds := ds) (by rfl) (by show 3 < 4; decide) ha al (by omega) fun H' D sm hD => ?_
        refine ⟨D, _, rfl, .inl (SqL.of hD), rfl, flat_bools _, _, rfl, ?_⟩
        rw [in_true]
        have k3 := k _ sm
        cases hb : (ds.map kB).any id with
        | true =>
          refine iteT ?_
          rw [List.any_map] at hb
          rw [in_bool (by rw [← hb]; rfl)] at k3
          exact k3
        | false =>
          refine iteF ?_
          dsimp only [tNext]
          refine ⟨_, rfl, _, rfl, .tuple ds, ps.map pairD, Dq.dp (dqT.same sm) nod, prs_dp (sm _ _ hl) (pr.same sm), shp, shaped_prs ps, ?_⟩
          match ds, l2, k3, hb with
          | [d1, d2], _, k3, hb =>
            rw [List.map_cons, List.map_cons, List.map_nil, List.any_cons, List.any_cons, Bool.or_eq_false_iff, Bool.or_eq_false_iff] at hb
            rw [in_pair hb.1 hb.2.1] at k3
            exact k3
      · rw [decide_eq_false (show ¬ V.int ((xs.length : Nat) : Int) = V.int 2 from fun e => l2 (by injection e with e; omega))]
        refine iteT (iteT ?_)
        rw [in_short l2] at k2
        exact k2
    | _ =>
      refine iteF ?_
      dsimp only [tNext]
      refine seq_if (isT_go (by rfl) dq (kit_intD _) (iteF ?_))
      dsimp only [tNext]
      exact seq_if (or_go (nisT_go (by rfl) dq (kit_tupD _) (iteT (iteT k2))))
end
end K12

set_option Elab.async false
set_option linter.all false
set_option maxRecDepth 100000
set_option maxHeartbeats 4000000
namespace K12
open PySem PySem.Spec PyProof.Rows L2 MX NZ SM
theorem depth_mem : ∀ {ds : List PyData} {d : PyData}, d ∈ ds → d.depth ≤ PyData.depthAll ds
  | x :: xs, d, h => by
    simp only [PyData.depthAll]
    rcases List.mem_cons.mp h with rfl | h
    · exact Nat.le_max_left _ _
    · exact Nat.le_trans (depth_mem h) (Nat.le_max_right _ _)
theorem shaped_mem {ds : List PyData} {d : PyData} (h : SeqAt.shaped (.tuple ds) = true) (m : d ∈ ds) : SeqAt.shaped d = true := by
  have h1 := SeqAt.canLay_of_shaped h
  have h2 := SeqAt.depth_of_shaped h
  have h3 := depth_mem m
  unfold SeqAt.shaped
  rw [PyData.canLay0_of_mem ds d (by simpa only [PyData.canLay0] using h1) m]
  simp only [PyData.depth] at h2
  exact decide_eq_true (by omega)
theorem shaped_two {ds : List PyData} {a b : PyData} (h : SeqAt.shaped (.tuple ds) = true) (ma : a ∈ ds) (mb : b ∈ ds) : SeqAt.shaped (.tuple [a, b]) = true := by
  have h1 := SeqAt.canLay_of_shaped h
  have h2 := SeqAt.depth_of_shaped h
  have h3 := depth_mem ma
  have h4 := depth_mem mb
  have c : PyData.canLayAll0 ds = true := by simpa only [PyData.canLay0] using h1
  unfold SeqAt.shaped
  have c2 : PyData.canLay0 (.tuple [a, b]) = true := by
    simp only [PyData.canLay0, PyData.canLayAll0, PyData.canLay0_of_mem ds a c ma, PyData.canLay0_of_mem ds b c mb, Bool.and_true]
  rw [c2]
  refine decide_eq_true ?_
  simp only [PyData.depth, PyData.depthAll] at h2 ⊢
  omega
theorem noDict_mem : ∀ {ds : List PyData} {d : PyData}, noDicts ds = true → d ∈ ds → noDict d = true
  | x :: xs, d, h, m => by
    simp only [noDicts, Bool.and_eq_true] at h
    rcases List.mem_cons.mp m with rfl | m
    · exact h.1
    · exact noDict_mem h.2 m
theorem eqv_odd_int {j : Int} {d : PyData} (h : isI d = false) (b : kB d = false) : PyData.eqv d (.int j) = false := by
  cases d <;> first | (cases h; done) | (cases b; done) | simp only [PyData.eqv]
theorem eqv_ii {i j : Int} : PyData.eqv (.int i) (.int j) = decide (i = j) := by
  show (i == j) = _
  rw [Bool.beq_eq_decide_eq]
theorem cut_one {xs : List V} (h : 1 ≤ xs.length) : cutV xs (some 1) none = xs.drop 1 := by
  unfold cutV
  rw [sIx1 h, HT.sIx_none, List.take_of_length_le (by simp)]
/-- what the law says of a tuple is what the stair says -/
theorem row_way {n : Int} {ps : List Pr} {ds : List PyData} {d0 dl : PyData} (l2 : 2 ≤ ds.length) (nb : ds.any kB = false) (h0 : ds[0]? = some d0) (hl : ds[ds.length - 1]? = some dl) :
    isWay n ps (.tuple ds) = (PyData.eqv d0 (.int 0) && (PyData.eqv dl (.int (n + 1)) && (hopD ds).all (inP ps))) := by
  unfold isWay
  cases e : intsOf ds with
  | none => rw [run_odd e, hopD_odd nb e l2, Bool.false_and, Bool.and_false, Bool.and_false]
  | some is =>
    rw [run_ints l2 e, ends_ints e]
    have em := ints_map e
    subst em
    rw [List.length_map] at hl l2
    rw [List.getElem?_map] at h0 hl
    obtain ⟨i0, q0, rfl⟩ := Option.map_eq_some_iff.mp h0
    obtain ⟨il, ql, rfl⟩ := Option.map_eq_some_iff.mp hl
    rw [hopD_ints, eqv_ii, eqv_ii, q0, ql]
    simp only [Option.some.injEq]
    rw [Bool.and_comm, Bool.and_assoc]
section
variable {P : Program} {w : World} {K : PySem.W.Frag} {mg : Str → Option Value} {base : Heap}
def spRow (K : W.Frag) : Sp := fun vs H Q _ => ∃ (n : Int) (l : Addr) (x : V) (d : PyData) (ps : List Pr) (ys : List V), vs = [.int n, .ref l, x] ∧ H l = some (.lst ys) ∧ PrsAt H ps ys ∧ Dq H x d ∧ ShD d ∧ (∀ ds, d = .tuple ds → ds.length ≤ 1000) ∧ ∀ H', Same H H' → Q (.bl (isWay n ps d)) H'
abbrev nRow : List Str := ["_law_top", "_law_pairs", "_law_thing", "_law_part", "_law_hop"]
theorem scRow : FnScope nRow ["_law_top", "_law_pairs", "_law_thing"] (defScope (top 37)) := ⟨rfl, rfl, rfl, by decide +kernel, rfl, by decide +kernel, by decide +kernel⟩
theorem ok_row {f : Addr} {fd : FuncData} (F : Fun K "_law_is_row" "_law_is_row" (top 37) f fd) (B : Bl mg) (B2 : Bl2 mg) : FnOk P w K mg base CX0 1 f fd ["_law_top", "_law_pairs", "_law_thing"] (spRow K) := by
  refine F.ok scRow (fun vs H Q E h => ?_) (fun cdv A outer s H vs Q E hr h => ?_)
  · obtain ⟨n, l, x, d, ps, ys, rfl, _⟩ := h
    rfl
  · obtain ⟨n, l, x, d, ps, ys, rfl, hl, pr, dq, sh, le, k⟩ := h
    have hu : (A.deeper (envOfC "_law_is_row" (defScope (top 37)) s.heap.objs.size f cdv)).units + 65 < cLine := by have := hr.un; omega
    refine ⟨_, pss_cons (ps_if (pw_or (pt_not (pt_val (pe_isT 2 (by rfl) B.isinstance (by rfl) B2.tuple bt_tuple))) (pw_or (pt_cmpR op_lt (pe_callB call_len_seq (by rfl) B.len PySem.boot_len (pa_cons (pv 2) pa_nil)) pe_int (nomark _)) (pw_or1 (pt_cmpR op_in_seq pe_bl
          (pe_lc (te := tCB (rIsi K) (tCons (tVar 3) (tCons (tC (.ty "bool")) tNil))) (own := [("_law_part", 3)]) (g := gName 3) (tt := tYes) rfl scRow.nd (pi_tup (pv 2)) (blkOk_by (N := nRow) (sc := defScope (top 37)) (by decide +kernel))
            (fun _ _ _ _ _ => pg_name (i := 3) scRow.nd rfl (.inl rfl)) (fun _ _ _ _ _ => pts_nil) (fun _ _ _ _ _ => by exact pe_isT 3 (by rfl) B.isinstance (by rfl) B2.bool bt_bool)) rfl)))).pt (pss_one (ps_ret pe_bl)) pss_nil)
      (pss_cons (ps_if (pw_or (pt_cmpR (op_neD (room64 hr)) (pe_ix ix_tup (pv 2) pe_int (fun _ _ => rfl)) pe_int (nomark _)) (pw_or1 (pt_cmpR (op_neD (room64 hr)) (pe_ix ix_tup (pv 2) (pe_un un_neg pe_int) (fun _ _ => rfl)) (pe_op op_add (pv 0) pe_int) (nomark _)))).pt (pss_one (ps_ret pe_bl)) pss_nil)
      (pss_one (ps_ret (pe_callB (cr_all rfl) (by rfl) B.all boot_all (pa_cons
        (pe_lc (te := tOp (rInD K) (tVar 4) (tVar 1)) (own := [("_law_hop", 4)]) (g := gName 4) (tt := tYes) rfl scRow.nd (pi_zipN rfl (by rfl) B2.zip (pa_cons (pv 2) (pa_cons (pe_slice sl_tup (pv 2) (po_some pe_int) po_none) pa_nil))) (blkOk_by (N := nRow) (sc := defScope (top 37)) (by decide +kernel))
          (fun _ _ _ _ _ => pg_name (i := 4) scRow.nd rfl (.inl rfl)) (fun _ _ _ _ _ => pts_nil) (fun _ _ _ _ _ => by exact pe_cmpR (op_inD hu) (pv 4) (pv 1) rfl)) pa_nil))))), ?_⟩
    have k2 := k _ (fun _ _ e => e)
    refine or_go (nisT_go (by rfl) dq (kit_tupD d) ?_)
    cases hT : kT d with
    | false =>
      refine iteT (iteT ?_)
      have e : isWay n ps d = false := by cases d <;> first | rfl | cases hT
      rw [e] at k2
      exact k2
    | true =>
      obtain ⟨ds, rfl⟩ : ∃ ds, d = .tuple ds := by cases d <;> first | exact ⟨_, rfl⟩ | cases hT
      obtain ⟨shp, nod⟩ := sh.t ds rfl
      have dqT := dq
      cases dq with
      | tup ha al =>
      rename_i a xs
      have el := dqa_len al
      have lx := le ds rfl
      refine iteF (or_go ⟨_, rfl, a, xs, rfl, .inr (SqT.of ha), _, _, rfl, rfl, _, rfl, ?_⟩)
      rcases Nat.lt_or_ge ds.length 2 with l2 | l2
      · rw [decide_eq_true (show ((xs.length : Nat) : Int) < 2 by omega)]
        refine iteT (iteT ?_)
        have e : isWay n ps (.tuple ds) = false := by unfold isWay; rw [run_short l2]; rfl
        rw [e] at k2
        exact k2
      · rw [decide_eq_false (show ¬ ((xs.length : Nat) : Int) < 2 by omega)]
        refine iteF ?_
        dsimp only [tTest, tOp, tC, List.map]
        refine bools_go (K := K) (a := a) (xs := xs) (ds := ds) (by rfl) (by show 3 < 5; decide) ha al (by omega) fun H1 D1 s1 hD1 => ?_
        refine ⟨D1, _, rfl, .inl (SqL.of hD1), rfl, flat_bools _, _, rfl, ?_⟩
        rw [in_true]
        have k3 := k _ s1
        cases hb : (ds.map kB).any id with
        | true =>
          refine iteT ?_
          rw [List.any_map] at hb
          have e : isWay n ps (.tuple ds) = false := by unfold isWay; rw [run_odd (ints_bool (by rw [← hb]; rfl))]; rfl
          rw [e] at k3
          exact k3
        | false =>
          refine iteF ?_
          dsimp only [tNext]
          have nb : ds.any kB = false := by
            rw [List.any_map] at hb
            exact hb
          have ha1 := s1 _ _ ha
          have al1 := DqAll.same s1 al
          have nods : noDicts ds = true := by simpa [noDict] using nod
          have hx0 : xs[0]? = some (xs[0]'(by omega)) := List.getElem?_eq_getElem _
          have hxl : xs[xs.length - 1]? = some (xs[xs.length - 1]'(by omega)) := List.getElem?_eq_getElem _
          obtain ⟨d0, hd0, dq0⟩ := dqa_get al1 hx0
          obtain ⟨dl, hdl, dql⟩ := dqa_get al1 hxl
          have m0 := List.mem_of_getElem? hd0
          have ml := List.mem_of_getElem? hdl
          have rw_ := row_way (n := n) (ps := ps) l2 nb hd0 (by rw [← el]; exact hdl)
          refine or_go ⟨_, rfl, a, xs, 0, _, rfl, rfl, SqT.of ha1, atI_nat hx0, d0, .int 0, Dq.dp dq0 (noDict_mem nods m0), .int 0, shaped_mem shp m0, rfl, _, rfl, ?_⟩
          cases e0 : PyData.eqv d0 (.int 0) with
          | false =>
            refine iteT (iteT ?_)
            rw [rw_, e0, Bool.false_and] at k3
            exact k3
          | true =>
            refine iteF ⟨_, rfl, 1, rfl, a, xs, -1, _, rfl, rfl, SqT.of ha1, at_last hxl, _, rfl, _, _, rfl, rfl, dl, .int (n + 1), Dq.dp dql (noDict_mem nods ml), .int _, shaped_mem shp ml, rfl, _, rfl, ?_⟩
            cases e1 : PyData.eqv dl (.int (n + 1)) with
            | false =>
              refine iteT ?_
              rw [rw_, e0, e1, Bool.true_and, Bool.false_and] at k3
              exact k3
            | true =>
              refine iteF ?_
              dsimp only [tNext]
              refine ⟨_, rfl, _, rfl, _, rfl, a, xs, rfl, SqT.of ha1, fun z => absurd z.1 (by rw [sIx1 (by omega)]; decide), fun b hb => ?_⟩
              rw [cut_one (by omega)]
              have sb := Same.new (o := .tup (xs.drop 1)) hb
              refine ⟨a, b, xs, xs.drop 1, rfl, SqT.of (sb _ _ ha1), SqT.of upd_same, fun D hD => lc_it (walk_zipS (K := K) (ta := true) (tb := true) (xs := xs) (ys := xs.drop 1) (n := xs.length - 1) (by simp <;> omega)) (fun j H' => Same (upd H1 b (.tup (xs.drop 1))) H' ∧ H' D = some (.lst ((((hopD ds).take j).map (inP ps)).map V.bl))) ⟨Same.new hD, upd_same⟩ (fun j H' _ h => ⟨SqT.of (h.1 _ _ (sb _ _ ha1)), SqT.of (h.1 _ _ upd_same)⟩) (fun j x H2 H3 hj inv y => ?_) fun H2 inv => ?_⟩
              · obtain ⟨sm, hz⟩ := inv
                obtain ⟨T, x1, x2, rfl, hT2, rfl, hx1, hx2⟩ := y
                have hx1 : xs[j]? = some x1 := hx1
                have hx2 : xs[j + 1]? = some x2 := by
                  have hx2 : (xs.drop 1)[j]? = some x2 := hx2
                  rw [List.getElem?_drop] at hx2
                  rw [← hx2]
                  congr 1
                  omega
                obtain ⟨d1, hd1, dq1⟩ := dqa_get al1 hx1
                obtain ⟨d2, hd2, dq2⟩ := dqa_get al1 hx2
                have m1 := List.mem_of_getElem? hd1
                have m2 := List.mem_of_getElem? hd2
                have hop := hopD_get hd1 hd2
                have s3 := (sb.trans sm).trans (Same.new (o := .tup [x1, x2]) hT2)
                refine ⟨rfl, yes_go (iteT ⟨_, rfl, _, rfl, .tuple [d1, d2], ps.map pairD, Dq.dp (.tup upd_same (.cons (Dq.same s3 dq1) (.cons (Dq.same s3 dq2) .nil))) (by simp [noDict, noDicts, noDict_mem nods m1, noDict_mem nods m2]), prs_dp (s3 _ _ (s1 _ _ hl)) ((pr.same s1).same s3), shaped_two shp m1 m2, shaped_prs ps, _, Same.new hT2 _ _ hz, small1000 (by simp; omega), fun c o e => ?_, ?_⟩)⟩
                · rw [upd_ne (ne_of_none e hD)]
                  exact Same.new hT2 _ _ (sm _ _ e)
                · rw [upd_same, take_succ_of hop, List.map_append, List.map_append]
                  rfl
              · obtain ⟨sm, hz⟩ := inv
                rw [el, ← hopD_len, List.take_length] at hz
                refine ⟨D, _, rfl, SqL.of hz, ?_⟩
                have k4 := k _ (s1.trans (sb.trans sm))
                rw [rw_, e0, e1, Bool.true_and, Bool.true_and] at k4
                rw [List.all_map]
                exact k4
end
end K12

set_option Elab.async false
set_option linter.all false
set_option maxRecDepth 100000
set_option maxHeartbeats 4000000
namespace K12
open PySem PySem.Spec PyProof.Rows L2 MX NZ SM
/-- an expression gives such data, and makes new objects alone -/
def DE (p : Addr) (H0 : Hp) (σ : L2.St) (te : TE) (d : PyData) : Prop := ∀ (H : Hp) (Q : VK), Same H0 H → (∀ H' v, Same H H' → Dq (wo p H') v d → Q v H') → te σ H Q
def DA (p : Addr) (H0 : Hp) (σ : L2.St) (t : TA) (ds : List PyData) : Prop := ∀ (H : Hp) (Q : List V → Hp → Prop), Same H0 H → (∀ H' vs, Same H H' → DqAll (wo p H') vs ds → Q vs H') → t σ H Q
section
variable {p : Addr} {H0 : Hp} {σ : L2.St} {K : W.Frag}
theorem new_ne {H : Hp} {q : Addr} (hp : H0 p ≠ none) (s : Same H0 H) (h : H q = none) : q ≠ p := fun e => by
  subst e
  cases z : H0 q with
  | none => exact hp z
  | some o =>
    rw [s _ _ z] at h
    cases h
theorem DE.c {v : V} {d : PyData} (h : ∀ H, Dq H v d) : DE p H0 σ (tC v) d := fun H Q _ k => k H v (fun _ _ e => e) (h _)
theorem DE.var {i : Nat} {v : V} {d : PyData} (hi : σ[i]? = some (some v)) (h : Dq (wo p H0) v d) : DE p H0 σ (tVar i) d := fun H Q s k => ⟨v, hi, k H v (fun _ _ e => e) (h.same (wo_same fun b o _ e => s b o e))⟩
theorem DE.vari {i : Nat} {n : Int} (hi : σ[i]? = some (some (.int n))) : DE p H0 σ (tVar i) (.int n) := DE.var hi (.int n)
theorem DE.add {a b : TE} {i j : Int} (ha : DE p H0 σ a (.int i)) (hb : DE p H0 σ b (.int j)) : DE p H0 σ (tOp (rI0 fun i j => .int (i + j)) a b) (.int (i + j)) := fun H Q s k =>
  ha H _ s fun H1 v s1 dv => hb H1 _ (s.trans s1) fun H2 u s2 du => by
    cases dv
    cases du
    exact ⟨_, _, rfl, rfl, k H2 _ (s1.trans s2) (.int _)⟩
theorem DE.neg {a : TE} {i : Int} (ha : DE p H0 σ a (.int i)) : DE p H0 σ (tUn (rU fun i => .int (-i)) a) (.int (-i)) := fun H Q s k =>
  ha H _ s fun H1 v s1 dv => by
    cases dv
    exact ⟨_, rfl, k H1 _ s1 (.int _)⟩
theorem DE.pow {a b : TE} {i j : Int} (ha : DE p H0 σ a (.int i)) (hb : DE p H0 σ b (.int j)) (c : CPow i j) : DE p H0 σ (tOp (rI CPow fun i j => .int (i ^ j.toNat)) a b) (.int (i ^ j.toNat)) := fun H Q s k =>
  ha H _ s fun H1 v s1 dv => hb H1 _ (s.trans s1) fun H2 u s2 du => by
    cases dv
    cases du
    exact ⟨_, _, rfl, rfl, c, k H2 _ (s1.trans s2) (.int _)⟩
theorem DA.nil : DA p H0 σ tNil [] := fun H Q _ k => k H [] (fun _ _ e => e) .nil
theorem DA.cons {te : TE} {t : TA} {d : PyData} {ds : List PyData} (h : DE p H0 σ te d) (r : DA p H0 σ t ds) : DA p H0 σ (tCons te t) (d :: ds) := fun H Q s k =>
  h H _ s fun H1 v s1 dv => r H1 _ (s.trans s1) fun H2 vs s2 dvs => k H2 _ (s1.trans s2) (.cons (dv.same (wo_same fun b o _ e => s2 b o e)) dvs)
theorem same_wo {H H' : Hp} (s : Same H H') : Same (wo p H) (wo p H') := wo_same fun b o _ e => s b o e
theorem DE.tup {t : TA} {ds : List PyData} (hp : H0 p ≠ none) (h : DA p H0 σ t ds) (ln : ds.length ≤ 1000) : DE p H0 σ (tTup t) (.tuple ds) := fun H Q s k =>
  h H _ s fun H1 vs s1 dvs => ⟨Nat.le_of_lt (small1000 (by rw [dqa_len dvs]; exact ln)), fun q hq => k _ _ (s1.trans (Same.new hq)) (.tup (wo_some upd_same (new_ne hp (s.trans s1) hq)) (DqAll.same (same_wo (Same.new hq)) dvs))⟩
theorem DE.lst {t : TA} {ds : List PyData} (hp : H0 p ≠ none) (h : DA p H0 σ t ds) (ln : ds.length ≤ 1000) : DE p H0 σ (tLst t) (.list ds) := fun H Q s k =>
  h H _ s fun H1 vs s1 dvs => ⟨Nat.le_of_lt (small1000 (by rw [dqa_len dvs]; exact ln)), fun q hq => k _ _ (s1.trans (Same.new hq)) (.lst (wo_some upd_same (new_ne hp (s.trans s1) hq)) (DqAll.same (same_wo (Same.new hq)) dvs))⟩
theorem DE.dic (hp : H0 p ≠ none) : DE p H0 σ tDNewK (.dict []) := fun H Q s k q hq => k _ _ (Same.new hq) (.dic (wo_some upd_same (new_ne hp s hq)) .nil)
theorem DE.cat {a b : TE} {ds es : List PyData} (hp : H0 p ≠ none) (ha : DE p H0 σ a (.list ds)) (hb : DE p H0 σ b (.list es)) (ln : ds.length + es.length ≤ 1000) : DE p H0 σ (tOp rCat a b) (.list (ds ++ es)) := fun H Q s k =>
  ha H _ s fun H1 v s1 dv => hb H1 _ (s.trans s1) fun H2 u s2 du => by
    have dv2 := dv.same (same_wo s2)
    cases dv2 with
    | lst ea va =>
    cases du with
    | lst eb vb =>
    refine ⟨_, _, _, _, rfl, rfl, wo_sub _ _ ea, wo_sub _ _ eb, Nat.le_of_lt (small1000 (by rw [dqa_len va, dqa_len vb]; exact ln)), fun q hq => ?_⟩
    have app : ∀ {xs ys : List V} {ds es : List PyData} {H : Hp}, DqAll H xs ds → DqAll H ys es → DqAll H (xs ++ ys) (ds ++ es) := fun {xs ys ds es H} a b => by
      induction xs generalizing ds with
      | nil =>
        cases a
        exact b
      | cons x r ih =>
        cases a with
        | cons h t => exact .cons h (ih t)
    exact k _ _ ((s1.trans s2).trans (Same.new hq)) (.lst (wo_some upd_same (new_ne hp ((s.trans s1).trans s2) hq)) (app (DqAll.same (same_wo (Same.new hq)) va) (DqAll.same (same_wo (Same.new hq)) vb)))
def rgD (a b : Int) : List PyData := (List.range (b - a).toNat).map fun (i : Nat) => .int (a + (i : Int))
theorem rg_dq {H : Hp} (a b : Int) : DqAll H (rgV a b) (rgD a b) := by
  unfold rgV rgD
  generalize List.range (b - a).toNat = l
  induction l with
  | nil => exact .nil
  | cons x r ih => exact .cons (.int _) ih
theorem DE.tupRg1 {te : TE} {n : Int} (hp : H0 p ≠ none) (h : DE p H0 σ te (.int n)) (a : 0 ≤ n) (b : n ≤ 1000) : DE p H0 σ (tTupRg (tRg1 te)) (.tuple (rgD 0 n)) := fun H Q s k =>
  h H _ s fun H1 v s1 dv => by
    cases dv
    exact ⟨n, rfl, RgOk.of_le (by decide) (by omega) (by decide) a, fun q hq => k _ _ (s1.trans (Same.new hq)) (.tup (wo_some upd_same (new_ne hp (s.trans s1) hq)) (rg_dq _ _))⟩
theorem DE.lstRg1 {te : TE} {n : Int} (hp : H0 p ≠ none) (h : DE p H0 σ te (.int n)) (a : 0 ≤ n) (b : n ≤ 1000) : DE p H0 σ (tLstRg (tRg1 te)) (.list (rgD 0 n)) := fun H Q s k =>
  h H _ s fun H1 v s1 dv => by
    cases dv
    exact ⟨n, rfl, RgOk.of_le (by decide) (by omega) (by decide) a, fun q hq => k _ _ (s1.trans (Same.new hq)) (.lst (wo_some upd_same (new_ne hp (s.trans s1) hq)) (rg_dq _ _))⟩
theorem DE.tupRg2 {te tf : TE} {m n : Int} (hp : H0 p ≠ none) (h : DE p H0 σ te (.int m)) (g : DE p H0 σ tf (.int n)) (m0 : 0 ≤ m) (m1 : m ≤ 1000) (a : 0 ≤ n) (b : n ≤ 1000) : DE p H0 σ (tTupRg (tRg2 te tf)) (.tuple (rgD m n)) := fun H Q s k =>
  h H _ s fun H1 v s1 dv => g H1 _ (s.trans s1) fun H2 u s2 du => by
    cases dv
    cases du
    exact ⟨m, n, rfl, rfl, RgOk.of_le m0 (by omega) (by omega) a, fun q hq => k _ _ ((s1.trans s2).trans (Same.new hq)) (.tup (wo_some upd_same (new_ne hp ((s.trans s1).trans s2) hq)) (rg_dq _ _))⟩
theorem DE.lstRg2 {te tf : TE} {m n : Int} (hp : H0 p ≠ none) (h : DE p H0 σ te (.int m)) (g : DE p H0 σ tf (.int n)) (m0 : 0 ≤ m) (m1 : m ≤ 1000) (a : 0 ≤ n) (b : n ≤ 1000) : DE p H0 σ (tLstRg (tRg2 te tf)) (.list (rgD m n)) := fun H Q s k =>
  h H _ s fun H1 v s1 dv => g H1 _ (s.trans s1) fun H2 u s2 du => by
    cases dv
    cases du
    exact ⟨m, n, rfl, rfl, RgOk.of_le m0 (by omega) (by omega) a, fun q hq => k _ _ ((s1.trans s2).trans (Same.new hq)) (.lst (wo_some upd_same (new_ne hp ((s.trans s1).trans s2) hq)) (rg_dq _ _))⟩
theorem DE.tupOf {te : TE} {ds : List PyData} (hp : H0 p ≠ none) (h : DE p H0 σ te (.list ds)) : DE p H0 σ (tThen te (kTup K)) (.tuple ds) := fun H Q s k =>
  h H _ s fun H1 v s1 dv => by
    cases dv with
    | lst e al => exact .inl ⟨_, _, rfl, SqL.of (wo_sub _ _ e), fun q hq => k _ _ (s1.trans (Same.new hq)) (.tup (wo_some upd_same (new_ne hp (s.trans s1) hq)) (DqAll.same (same_wo (Same.new hq)) al))⟩
theorem ints_dq {H : Hp} : ∀ l : List Int, DqAll H (l.map V.int) (l.map PyData.int)
  | [] => .nil
  | x :: r => .cons (.int _) (ints_dq r)
/-- xs[:-1] -/
theorem DE.init {te : TE} {is : List Int} (hp : H0 p ≠ none) (h : DE p H0 σ te (.list (is.map PyData.int))) (l1 : 1 ≤ is.length) : DE p H0 σ (tSl (rSlL K) te tNoPart (tPart (tUn (rU fun i => .int (-i)) (tC (.int 1))))) (.list (is.dropLast.map PyData.int)) := fun H Q s k =>
  h H _ s fun H1 v s1 dv => by
    cases dv with
    | lst e al =>
      have ex := dqa_ints al
      subst ex
      have ec : cutV (is.map V.int) none (some (-1)) = is.dropLast.map V.int := by
        unfold cutV
        rw [List.length_map, HT.sIx_none]
        show ((is.map V.int).drop 0).take (HT.sIx is.length is.length (some (-1)) - 0) = _
        have : HT.sIx is.length is.length (some (-1)) = is.length - 1 := by
          show (if (-1 : Int) < 0 then (-1 + (is.length : Int)).toNat else min (-1 : Int).toNat is.length) = _
          rw [if_pos (by decide)]
          omega
        rw [this, List.drop_zero, Nat.sub_zero, ← List.map_take, List.dropLast_eq_take]
      refine ⟨1, rfl, -1, rfl, _, _, rfl, SqL.of (wo_sub _ _ e), fun q hq => ?_⟩
      rw [ec]
      exact k _ _ (s1.trans (Same.new hq)) (.lst (wo_some upd_same (new_ne hp (s.trans s1) hq)) (ints_dq _))
end
end K12

set_option Elab.async false
set_option linter.all false
set_option maxRecDepth 100000
set_option maxHeartbeats 8000000
namespace K12
open PySem PySem.Spec PyProof.Rows L2 MX NZ SM
def odd1 (n : Int) : List PyData := [.none, .int 0, .bool true, .bool false, .str "feet", .str "foot", .str "", .str "feet ", .int 1, .int n, .int (n + 1), .int (-1), .int (10 ^ (20 : Int).toNat), .list [.int 1], .tuple [.int 1], .dict [], .list [], .tuple []]
def odd2 (n : Int) : List PyData := [.tuple [.int 0, .int 1], .list [.int 0, .int 1], .tuple [.int 0, .bool true], .tuple [.bool false, .int 1], .tuple [.int 0, .int 1, .int 2], .tuple [.int 1, .int 0], .tuple [.tuple [.int 0, .int 1]], .tuple [.str "feet"], .tuple [.int 0, .int (n + 1)]]
def odd3 (n : Int) : List PyData := [.tuple [.bool false, .int (n + 1)], .tuple [.int 0, .int n, .int (n + 1)], .tuple [.int 0, .int 1, .int (n + 1)], .list [.int 0, .int (n + 1)], .tuple [.int 0, .int 0, .int (n + 1)]]
def odd4 (n : Int) : List PyData := [.tuple [.str "0", .int (n + 1)], .tuple [.int 0, .int (n + 1), .int (n + 1)], .tuple (rgD 0 (n + 2)), .list (rgD 0 (n + 2)), .tuple (rgD 1 (n + 2))]
def odd5 (n : Int) : List PyData := [.tuple (rgD 0 (n + 3)), .tuple [.int 0, .bool true, .int (n + 1)], .tuple ([.int 0, .bool true] ++ rgD 2 (n + 2))]
theorem le_l {α : Type} {l : List α} (h : Nat.ble l.length 1000 = true) : l.length ≤ 1000 := Nat.le_of_ble_eq_true h
theorem le_2 {α : Type} {l m : List α} (h : Nat.ble (l.length + m.length) 1000 = true) : l.length + m.length ≤ 1000 := Nat.le_of_ble_eq_true h
theorem seq_set {te : TE} {i : Nat} {r : TS} {D : Ends} {σ : L2.St} {H : Hp} (h : te σ H fun v H1 => r D (σ.set i (some v)) H1) : tSeq (tAsg te (gName i)) r D σ H := h
theorem no_ints : ∀ ns : List Int, noDict (.list (ns.map PyData.int)) = true := fun ns => by
  unfold noDict
  induction ns with
  | nil => rfl
  | cons a r ih => simp [noDicts, noDict, ih]
theorem shaped_ints (ns : List Int) : SeqAt.shaped (.list (ns.map PyData.int)) = true := by
  have c : ∀ ns : List Int, PyData.canLayAll0 (ns.map PyData.int) = true := fun ns => by
    induction ns with
    | nil => rfl
    | cons p r ih => simp [PyData.canLayAll0, PyData.canLay0, ih]
  have d : ∀ ns : List Int, PyData.depthAll (ns.map PyData.int) ≤ 5 := fun ns => by
    induction ns with
    | nil => simp [PyData.depthAll]
    | cons p r ih =>
      simp only [List.map_cons, PyData.depthAll]
      exact Nat.max_le.mpr ⟨by simp [PyData.depth], ih⟩
  unfold SeqAt.shaped
  rw [Bool.and_eq_true]
  refine ⟨by simp only [PyData.canLay0, c], decide_eq_true ?_⟩
  have := d ns
  simp only [PyData.depth]
  omega
theorem ret_go {te : TE} {D : Ends} {σ : L2.St} {H : Hp} (h : te σ H D.rt) : tRet te D σ H := h
theorem len_le {α : Type} {l : List α} {k : Nat} (h : l.length = k) (b : k ≤ 1000) : l.length ≤ 1000 := by omega
theorem cat_le {n : Int} (h : n ≤ 10) : ([.int 0, .bool true] : List PyData).length + (rgD 2 (n + 2)).length ≤ 1000 := by
  unfold rgD
  rw [List.length_map, List.length_range]
  show 2 + _ ≤ _
  omega
section
variable {P : Program} {w : World} {K : PySem.W.Frag} {mg : Str → Option Value} {base : Heap}
abbrev nOdd : List Str := ["_law_pot_here", "_law_top", "_law_pairs", "_law_found", "_law_row", "_law_turn", "_law_some", "_law_pair"]
theorem scOdd : FnScope nOdd ["_law_pot_here", "_law_top", "_law_pairs"] (defScope (top 38)) := ⟨rfl, rfl, rfl, by decide +kernel, rfl, by decide +kernel, by decide +kernel⟩
/-- all of them -/
def oddD (n : Int) (is : List Int) : List PyData := (odd1 n ++ odd2 n ++ odd3 n ++ odd4 n ++ odd5 n) ++ [.tuple (is.map PyData.int), .list (is.map PyData.int), .tuple (is.dropLast.map PyData.int), .tuple (is.map PyData.int ++ [.int (n + 1)])]
def spOdd : Sp := fun vs H Q _ => ∃ (p l : Addr) (n : Int) (ps : List Pr) (ys : List V), vs = [.ref p, .int n, .ref l] ∧ Pot H p ∧ H l = some (.lst ys) ∧ l ≠ p ∧ PrsAt H ps ys ∧ ps.length ≤ 40 ∧ 1 ≤ n ∧ n ≤ 10 ∧
  ∀ H' o zs is, But p H H' → Pot H' p → H' o = some (.lst zs) → DqAll H' zs (oddD n is) → 1 ≤ is.length → is.length ≤ 20 → Q (.ref o) H'
theorem ok_odd {f fD fP : Addr} {fd fdD fdP : FuncData} (D : Dn K mg "_law_odd" (top 38) ["_law_pot_here", "_law_top", "_law_pairs"] f fd) (B : Bl mg) (B2 : Bl2 mg) (DD : Dn K mg "_law_draw" (top 29) ["_law_pot_here", "_law_sides"] fD fdD) (DP : Dn K mg "_law_pick" (top 30) ["_law_pot_here", "_law_some"] fP fdP) : FnOk P w K mg base CX0 3 f fd ["_law_pot_here", "_law_top", "_law_pairs"] spOdd := by
  have GP : FnOk P w K mg base CX0 2 fP fdP ["_law_pot_here", "_law_some"] spPick := ok_pick DP.F B DD.F DD.b DD.m
  refine D.F.ok scOdd (fun vs H Q E h => ?_) (fun cdv A outer s H vs Q E hr h => ?_)
  · obtain ⟨p, l, n, ps, ys, rfl, _⟩ := h
    rfl
  · obtain ⟨p, l, n, ps, ys, rfl, hP, hl, nlp, pr, lp, n1, hn, k⟩ := h
    have hp : H p ≠ none := by
      obtain ⟨a, b, e, _⟩ := hP
      rw [e]
      exact nofun
    have hpS : ∀ {H' : Hp}, Same H H' → H' p ≠ none := fun {H'} sm e => by
      obtain ⟨a, b, e2, _⟩ := hP.same sm
      rw [e] at e2
      cases e2
    refine ⟨_, pss_cons (ps_set (i := 3) scOdd.nd rfl (.inl rfl) (pe_lst (pa_cons pe_non (pa_cons pe_int (pa_cons pe_bl (pa_cons pe_bl (pa_cons pe_str (pa_cons pe_str (pa_cons pe_str (pa_cons pe_str (pa_cons pe_int (pa_cons (pv 1) (pa_cons (pe_op op_add (pv 1) pe_int) (pa_cons (pe_un un_neg pe_int) (pa_cons (pe_op op_pow pe_int pe_int) (pa_cons (pe_lst (pa_cons pe_int pa_nil)) (pa_cons (pe_tup (pa_cons pe_int pa_nil)) (pa_cons pe_dnewK (pa_cons (pe_lst pa_nil) (pa_cons (pe_tup pa_nil) pa_nil))))))))))))))))))))
      (pss_cons (ps_set (i := 3) scOdd.nd rfl (.inl rfl) (pe_op op_cat (pv 3) (pe_lst (pa_cons (pe_tup (pa_cons pe_int (pa_cons pe_int pa_nil))) (pa_cons (pe_lst (pa_cons pe_int (pa_cons pe_int pa_nil))) (pa_cons (pe_tup (pa_cons pe_int (pa_cons pe_bl pa_nil))) (pa_cons (pe_tup (pa_cons pe_bl (pa_cons pe_int pa_nil))) (pa_cons (pe_tup (pa_cons pe_int (pa_cons pe_int (pa_cons pe_int pa_nil)))) (pa_cons (pe_tup (pa_cons pe_int (pa_cons pe_int pa_nil))) (pa_cons (pe_tup (pa_cons (pe_tup (pa_cons pe_int (pa_cons pe_int pa_nil))) pa_nil)) (pa_cons (pe_tup (pa_cons pe_str pa_nil)) (pa_cons (pe_tup (pa_cons pe_int (pa_cons (pe_op op_add (pv 1) pe_int) pa_nil))) pa_nil))))))))))))
      (pss_cons (ps_set (i := 3) scOdd.nd rfl (.inl rfl) (pe_op op_cat (pv 3) (pe_lst (pa_cons (pe_tup (pa_cons pe_bl (pa_cons (pe_op op_add (pv 1) pe_int) pa_nil))) (pa_cons (pe_tup (pa_cons pe_int (pa_cons (pv 1) (pa_cons (pe_op op_add (pv 1) pe_int) pa_nil)))) (pa_cons (pe_tup (pa_cons pe_int (pa_cons pe_int (pa_cons (pe_op op_add (pv 1) pe_int) pa_nil)))) (pa_cons (pe_lst (pa_cons pe_int (pa_cons (pe_op op_add (pv 1) pe_int) pa_nil))) (pa_cons (pe_tup (pa_cons pe_int (pa_cons pe_int (pa_cons (pe_op op_add (pv 1) pe_int) pa_nil)))) pa_nil))))))))
      (pss_cons (ps_set (i := 3) scOdd.nd rfl (.inl rfl) (pe_op op_cat (pv 3) (pe_lst (pa_cons (pe_tup (pa_cons pe_str (pa_cons (pe_op op_add (pv 1) pe_int) pa_nil))) (pa_cons (pe_tup (pa_cons pe_int (pa_cons (pe_op op_add (pv 1) pe_int) (pa_cons (pe_op op_add (pv 1) pe_int) pa_nil)))) (pa_cons (pe_tupRg rfl (by rfl) B2.tuple (prg_1 (by rfl) B.range (pe_op op_add (pv 1) pe_int))) (pa_cons (pe_listRg rfl (by rfl) B2.list (prg_1 (by rfl) B.range (pe_op op_add (pv 1) pe_int))) (pa_cons (pe_tupRg rfl (by rfl) B2.tuple (prg_2 (by rfl) B.range pe_int (pe_op op_add (pv 1) pe_int))) pa_nil))))))))
      (pss_cons (ps_set (i := 3) scOdd.nd rfl (.inl rfl) (pe_op op_cat (pv 3) (pe_lst (pa_cons (pe_tupRg rfl (by rfl) B2.tuple (prg_1 (by rfl) B.range (pe_op op_add (pv 1) pe_int))) (pa_cons (pe_tup (pa_cons pe_int (pa_cons pe_bl (pa_cons (pe_op op_add (pv 1) pe_int) pa_nil)))) (pa_cons (pe_tupleOf (by rfl) B2.tuple (pe_op op_cat (pe_lst (pa_cons pe_int (pa_cons pe_bl pa_nil))) (pe_listRg rfl (by rfl) B2.list (prg_2 (by rfl) B.range pe_int (pe_op op_add (pv 1) pe_int))))) pa_nil))))))
      (pss_cons (ps_set (i := 4) scOdd.nd rfl (.inr rfl) (pe_lst (pa_cons pe_int pa_nil)))
      (pss_cons (ps_for PassesOwn.never rfl (pi_range1 (by rfl) B.range (pa_cons (pe_op op_add (pv 1) pe_int) pa_nil)) (pg_name (i := 5) scOdd.nd rfl (.inl rfl))
        (pss_cons (ps_setLc (i := 6) (te := tOp (rIxT K) (tVar 7) (tC (.int 1))) (own := [("_law_pair", 7)]) (g := gName 7) (tt := tTest (tOp rEq (tOp (rIxT K) (tVar 7) (tC (.int 0))) (tOp (rIxL K) (tVar 4) (tUn (rU fun i => V.int (-i)) (tC (.int 1)))))) rfl scOdd.nd rfl rfl (sw_true rfl rfl rfl (by decide +kernel)) (pi_list (pv 2)) (blkOk_by (N := nOdd) (sc := defScope (top 38)) (by decide +kernel))
            (fun _ _ _ _ _ => pg_name (i := 7) scOdd.nd rfl (.inl rfl)) (fun _ _ _ _ _ => pts_one (by exact pt_cmpR op_eq (pe_ix ix_tup (pv 7) pe_int (fun _ _ => rfl)) (pe_ix ix_list (pv 4) (pe_un un_neg pe_int) (fun _ _ => rfl)) (nomark _))) (fun _ _ _ _ _ => by exact pe_ix ix_tup (pv 7) pe_int (fun _ _ => rfl)))
        (pss_one (ps_if (pt_cmpR (op_neD (room64 hr)) (pv 6) (pe_lst pa_nil) (nomark _)) (pss_one (ps_expr (pe_bm PySem.F.plainAttrs_list PySem.F.slot_list_append PySem.F.type_list_append mt_append (pv 4) (pa_cons (pe_call GP hr (by rfl) DP.m DP.F.kp DP.b .nil pass0 (pa_cons (pv 0) (pa_cons (pv 6) pa_nil))) pa_nil)))) pss_nil))))
      (pss_one (ps_ret (pe_op op_cat (pv 3) (pe_lst (pa_cons (pe_tupleOf (by rfl) B2.tuple (pv 4)) (pa_cons (pv 4) (pa_cons (pe_tupleOf (by rfl) B2.tuple (pe_slice sl_list (pv 4) po_none (po_some (pe_un un_neg pe_int)))) (pa_cons (pe_tupleOf (by rfl) B2.tuple (pe_op op_cat (pv 4) (pe_lst (pa_cons (pe_op op_add (pv 1) pe_int) pa_nil)))) pa_nil)))))))))))))), ?_⟩
    have e1 : DE p H (L2.start nOdd [.ref p, .int n, .ref l]) _ (.list (odd1 n)) := DE.lst hp (DA.cons (DE.c fun _ => .non) (DA.cons (DE.c fun _ => .int 0) (DA.cons (DE.c fun _ => .bl true) (DA.cons (DE.c fun _ => .bl false) (DA.cons (DE.c fun _ => .str "feet") (DA.cons (DE.c fun _ => .str "foot") (DA.cons (DE.c fun _ => .str "") (DA.cons (DE.c fun _ => .str "feet ") (DA.cons (DE.c fun _ => .int 1) (DA.cons (DE.vari (i := 1) (by rfl)) (DA.cons (DE.add (DE.vari (i := 1) (by rfl)) (DE.c fun _ => .int 1)) (DA.cons (DE.neg (DE.c fun _ => .int 1)) (DA.cons (DE.pow (DE.c fun _ => .int 10) (DE.c fun _ => .int 20) ⟨by decide, by decide, by decide⟩) (DA.cons (DE.lst hp (DA.cons (DE.c fun _ => .int 1) DA.nil) (le_l rfl)) (DA.cons (DE.tup hp (DA.cons (DE.c fun _ => .int 1) DA.nil) (le_l rfl)) (DA.cons (DE.dic hp) (DA.cons (DE.lst hp DA.nil (le_l rfl)) (DA.cons (DE.tup hp DA.nil (le_l rfl)) DA.nil)))))))))))))))))) (le_l rfl)
    refine seq_set (e1 H _ (fun _ _ e => e) fun H1 v1 s1 d1 => ?_)
    have e2 : DE p H1 ((L2.start nOdd [.ref p, .int n, .ref l]).set 3 (some v1)) _ (.list (odd1 n ++ odd2 n)) := DE.cat (hpS s1) (DE.var (i := 3) (v := v1) (by rfl) d1) (DE.lst (hpS s1) (DA.cons (DE.tup (hpS s1) (DA.cons (DE.c fun _ => .int 0) (DA.cons (DE.c fun _ => .int 1) DA.nil)) (le_l rfl)) (DA.cons (DE.lst (hpS s1) (DA.cons (DE.c fun _ => .int 0) (DA.cons (DE.c fun _ => .int 1) DA.nil)) (le_l rfl)) (DA.cons (DE.tup (hpS s1) (DA.cons (DE.c fun _ => .int 0) (DA.cons (DE.c fun _ => .bl true) DA.nil)) (le_l rfl)) (DA.cons (DE.tup (hpS s1) (DA.cons (DE.c fun _ => .bl false) (DA.cons (DE.c fun _ => .int 1) DA.nil)) (le_l rfl)) (DA.cons (DE.tup (hpS s1) (DA.cons (DE.c fun _ => .int 0) (DA.cons (DE.c fun _ => .int 1) (DA.cons (DE.c fun _ => .int 2) DA.nil))) (le_l rfl)) (DA.cons (DE.tup (hpS s1) (DA.cons (DE.c fun _ => .int 1) (DA.cons (DE.c fun _ => .int 0) DA.nil)) (le_l rfl)) (DA.cons (DE.tup (hpS s1) (DA.cons (DE.tup (hpS s1) (DA.cons (DE.c fun _ => .int 0) (DA.cons (DE.c fun _ => .int 1) DA.nil)) (le_l rfl)) DA.nil) (le_l rfl)) (DA.cons (DE.tup (hpS s1) (DA.cons (DE.c fun _ => .str "feet") DA.nil) (le_l rfl)) (DA.cons (DE.tup (hpS s1) (DA.cons (DE.c fun _ => .int 0) (DA.cons (DE.add (DE.vari (i := 1) (by rfl)) (DE.c fun _ => .int 1)) DA.nil)) (le_l rfl)) DA.nil))))))))) (le_l rfl)) (le_2 rfl)
    refine seq_set (e2 H1 _ (fun _ _ e => e) fun H2 v2 t2 d2 => ?_)
    have s2 := s1.trans t2
    have e3 : DE p H2 (((L2.start nOdd [.ref p, .int n, .ref l]).set 3 (some v1)).set 3 (some v2)) _ (.list (odd1 n ++ odd2 n ++ odd3 n)) := DE.cat (hpS s2) (DE.var (i := 3) (v := v2) (by rfl) d2) (DE.lst (hpS s2) (DA.cons (DE.tup (hpS s2) (DA.cons (DE.c fun _ => .bl false) (DA.cons (DE.add (DE.vari (i := 1) (by rfl)) (DE.c fun _ => .int 1)) DA.nil)) (le_l rfl)) (DA.cons (DE.tup (hpS s2) (DA.cons (DE.c fun _ => .int 0) (DA.cons (DE.vari (i := 1) (by rfl)) (DA.cons (DE.add (DE.vari (i := 1) (by rfl)) (DE.c fun _ => .int 1)) DA.nil))) (le_l rfl)) (DA.cons (DE.tup (hpS s2) (DA.cons (DE.c fun _ => .int 0) (DA.cons (DE.c fun _ => .int 1) (DA.cons (DE.add (DE.vari (i := 1) (by rfl)) (DE.c fun _ => .int 1)) DA.nil))) (le_l rfl)) (DA.cons (DE.lst (hpS s2) (DA.cons (DE.c fun _ => .int 0) (DA.cons (DE.add (DE.vari (i := 1) (by rfl)) (DE.c fun _ => .int 1)) DA.nil)) (le_l rfl)) (DA.cons (DE.tup (hpS s2) (DA.cons (DE.c fun _ => .int 0) (DA.cons (DE.c fun _ => .int 0) (DA.cons (DE.add (DE.vari (i := 1) (by rfl)) (DE.c fun _ => .int 1)) DA.nil))) (le_l rfl)) DA.nil))))) (le_l rfl)) (le_2 rfl)
    refine seq_set (e3 H2 _ (fun _ _ e => e) fun H3 v3 t3 d3 => ?_)
    have s3 := s2.trans t3
    have e4 : DE p H3 ((((L2.start nOdd [.ref p, .int n, .ref l]).set 3 (some v1)).set 3 (some v2)).set 3 (some v3)) _ (.list (odd1 n ++ odd2 n ++ odd3 n ++ odd4 n)) := DE.cat (hpS s3) (DE.var (i := 3) (v := v3) (by rfl) d3) (DE.lst (hpS s3) (DA.cons (DE.tup (hpS s3) (DA.cons (DE.c fun _ => .str "0") (DA.cons (DE.add (DE.vari (i := 1) (by rfl)) (DE.c fun _ => .int 1)) DA.nil)) (le_l rfl)) (DA.cons (DE.tup (hpS s3) (DA.cons (DE.c fun _ => .int 0) (DA.cons (DE.add (DE.vari (i := 1) (by rfl)) (DE.c fun _ => .int 1)) (DA.cons (DE.add (DE.vari (i := 1) (by rfl)) (DE.c fun _ => .int 1)) DA.nil))) (le_l rfl)) (DA.cons (DE.tupRg1 (hpS s3) (DE.add (DE.vari (i := 1) (by rfl)) (DE.c fun _ => .int 2)) (by omega) (by omega)) (DA.cons (DE.lstRg1 (hpS s3) (DE.add (DE.vari (i := 1) (by rfl)) (DE.c fun _ => .int 2)) (by omega) (by omega)) (DA.cons (DE.tupRg2 (hpS s3) (DE.c fun _ => .int 1) (DE.add (DE.vari (i := 1) (by rfl)) (DE.c fun _ => .int 2)) (by decide) (by decide) (by omega) (by omega)) DA.nil))))) (le_l rfl)) (le_2 rfl)
    refine seq_set (e4 H3 _ (fun _ _ e => e) fun H4 v4 t4 d4 => ?_)
    have s4 := s3.trans t4
    have e5 : DE p H4 (((((L2.start nOdd [.ref p, .int n, .ref l]).set 3 (some v1)).set 3 (some v2)).set 3 (some v3)).set 3 (some v4)) _ (.list (odd1 n ++ odd2 n ++ odd3 n ++ odd4 n ++ odd5 n)) := DE.cat (hpS s4) (DE.var (i := 3) (v := v4) (by rfl) d4) (DE.lst (hpS s4) (DA.cons (DE.tupRg1 (hpS s4) (DE.add (DE.vari (i := 1) (by rfl)) (DE.c fun _ => .int 3)) (by omega) (by omega)) (DA.cons (DE.tup (hpS s4) (DA.cons (DE.c fun _ => .int 0) (DA.cons (DE.c fun _ => .bl true) (DA.cons (DE.add (DE.vari (i := 1) (by rfl)) (DE.c fun _ => .int 1)) DA.nil))) (le_l rfl)) (DA.cons (DE.tupOf (K := K) (hpS s4) (DE.cat (hpS s4) (DE.lst (hpS s4) (DA.cons (DE.c fun _ => .int 0) (DA.cons (DE.c fun _ => .bl true) DA.nil)) (le_l rfl)) (DE.lstRg2 (hpS s4) (DE.c fun _ => .int 2) (DE.add (DE.vari (i := 1) (by rfl)) (DE.c fun _ => .int 2)) (by decide) (by decide) (by omega) (by omega)) (cat_le hn))) DA.nil))) (le_l rfl)) (le_2 rfl)
    refine seq_set (e5 H4 _ (fun _ _ e => e) fun H5 v5 t5 d5 => ?_)
    have s5 := s4.trans t5
    have hp5 := hpS s5
    have P5 := hP.same s5
    have l5 := s5 _ _ hl
    have pr5 := pr.same s5
    refine seq_set ⟨Nat.le_of_lt (small1000 (show 1 ≤ 1000 by decide)), fun r hr0 => ?_⟩
    have nrp : r ≠ p := pot_ne P5 hr0
    have nrl : r ≠ l := (ne_of_none l5 hr0).symm
    have sR := Same.new (o := .lst [V.int 0]) hr0
    refine ⟨_, rfl, n, 1, rfl, rfl, n + 1, rfl, by omega, by omega, for_it (walk_range (lo := 0) (n := (n + 1).toNat)) (fun i σ H' => (∃ s5 s6, σ = [some (.ref p), some (.int n), some (.ref l), some v5, some (.ref r), s5, s6, none]) ∧ But p H5 H' ∧ Pot H' p ∧ ∃ is : List Int, H' r = some (.lst (is.map V.int)) ∧ 1 ≤ is.length ∧ is.length ≤ i + 1) ⟨⟨_, _, rfl⟩, fun b o _ e => sR _ _ e, P5.same sR, [0], upd_same, by decide, by decide⟩ (fun _ _ _ _ _ => trivial) (fun i v σ H6 H7 hi inv y => ?_) fun σ H6 inv => ?_⟩
    · obtain ⟨⟨s5', s6', rfl⟩, b6, P6, is, hr6, i1, i2⟩ := inv
      obtain ⟨rfl, rfl⟩ := y
      have l6 := b6 _ _ nlp l5
      have pr6 := prs_but P5 b6 pr5
      have ly := pr.len
      refine seq_set ⟨_, rfl, l, rfl, ⟨_, SqL.of l6⟩, fun L hL => lc_it (walk_list (xs := ys)) (fun j H' => Same H7 H' ∧ ∃ ns : List Int, H' L = some (.lst (ns.map V.int)) ∧ ns.length ≤ j) ⟨Same.new hL, [], upd_same, Nat.le_refl _⟩ (fun j H' _ h => Same.seq h.1 (SqL.of l6)) (fun j x H8 H9 hj inv2 y2 => ?_) fun H8 inv2 => ?_⟩
      · obtain ⟨sm, ns, hns, lns⟩ := inv2
        obtain ⟨rfl, hx⟩ := y2
        obtain ⟨q, hq, a, rfl, ha⟩ := pr6.get hx
        have ha9 := sm _ _ ha
        refine ⟨rfl, ?_⟩
        have hlast : (is.map V.int)[(is.map V.int).length - 1]? = some (V.int (is[is.length - 1]'(by omega))) := by
          rw [List.length_map, List.getElem?_map, List.getElem?_eq_getElem (by omega)]
          rfl
        refine ⟨_, rfl, a, _, 0, _, rfl, rfl, SqT.of ha9, rfl, _, rfl, 1, rfl, r, _, -1, _, rfl, rfl, SqL.of (sm _ _ hr6), at_last hlast, rfl, _, rfl, ite2 (fun c => ?_) (fun c => ?_)⟩
        · refine ⟨_, rfl, a, _, 1, _, rfl, rfl, SqT.of ha9, rfl, _, hns, small1000 (by rw [List.length_map]; omega), fun b u e => ?_, ns ++ [q.2], ?_, ?_⟩
          · rw [upd_ne (ne_of_none e hL)]
            exact sm _ _ e
          · rw [upd_same, List.map_append]
            rfl
          · rw [List.length_append]
            show ns.length + 1 ≤ j + 1
            omega
        · exact ⟨sm, ns, hns, by omega⟩
      · obtain ⟨sm, ns, hns, lns⟩ := inv2
        have P8 := P6.same sm
        have nLp : L ≠ p := pot_ne P6 hL
        refine ⟨_, rfl, Nat.zero_le _, fun z hz => ?_⟩
        have sz := Same.new (o := .lst []) hz
        have b8 : But p H5 (upd H8 z (.lst [])) := (b6.same sm).same sz
        have dn : Dp K (upd H8 z (.lst [])) (.ref L) (.list (ns.map PyData.int)) := Dq.dp (.lst (sz _ _ hns) (ints_dq ns)) (no_ints ns)
        refine ⟨_, .list [], dn, .lst (SqL.of upd_same) .nil, shaped_ints ns, rfl, _, rfl, ite2 (fun c => ?_) (fun c => ?_)⟩
        · have hne : 1 ≤ ns.length := by
            cases ns with
            | nil => exact absurd c (by show ¬ (!true) = true; decide)
            | cons _ _ => simp
          refine ⟨_, rfl, .inl ⟨rfl, _, SqL.of (sz _ _ (sm _ _ hr6))⟩, _, rfl, _, rfl, p, L, ns.map V.int, rfl, P8.same sz, nLp, sz _ _ hns, by rw [List.length_map]; exact hne, by rw [List.length_map]; omega, fun H9 i9 x9 b9 p9 hx9 => ?_⟩
          rw [List.getElem?_map] at hx9
          obtain ⟨x9', _, rfl⟩ := Option.map_eq_some_iff.mp hx9
          have hr9 := b9 _ _ nrp (sz _ _ (sm _ _ hr6))
          refine ⟨r, _, _, rfl, rfl, hr9, small1000 (by rw [List.length_map]; omega), ⟨_, _, rfl⟩, fun b o nb e => ?_, pot_upd p9 nrp, is ++ [x9'], ?_, ?_, ?_⟩
          · rw [upd_ne (ne_of_none e hr0)]
            exact b9 _ _ nb (b8 _ _ nb e)
          · rw [upd_same, List.map_append]
            rfl
          · rw [List.length_append]
            omega
          · rw [List.length_append]
            show is.length + 1 ≤ i + 1 + 1
            omega
        · exact ⟨⟨_, _, rfl⟩, b8, P8.same sz, is, sz _ _ (sm _ _ hr6), i1, by omega⟩
    · obtain ⟨⟨s5', s6', rfl⟩, b6, P6, is, hr6, i1, i2⟩ := inv
      have hp6 : H6 p ≠ none := by
        obtain ⟨a, b, e, _⟩ := P6
        rw [e]
        exact nofun
      have d6 : Dq (wo p H6) v5 (.list (odd1 n ++ odd2 n ++ odd3 n ++ odd4 n ++ odd5 n)) := d5.same (wo_same b6)
      have dr : Dq (wo p H6) (.ref r) (.list (is.map PyData.int)) := .lst (wo_some hr6 nrp) (ints_dq is)
      have e6 : DE p H6 [some (.ref p), some (.int n), some (.ref l), some v5, some (.ref r), s5', s6', none] _ (.list (oddD n is)) := DE.cat hp6 (DE.var (i := 3) (v := v5) (by rfl) d6) (DE.lst hp6 (DA.cons (DE.tupOf (K := K) hp6 (DE.var (i := 4) (v := .ref r) (by rfl) dr)) (DA.cons (DE.var (i := 4) (v := .ref r) (by rfl) dr) (DA.cons (DE.tupOf (K := K) hp6 (DE.init (K := K) (is := is) hp6 (DE.var (i := 4) (v := .ref r) (by rfl) dr) i1)) (DA.cons (DE.tupOf (K := K) hp6 (DE.cat hp6 (DE.var (i := 4) (v := .ref r) (by rfl) dr) (DE.lst hp6 (DA.cons (DE.add (DE.vari (i := 1) (by rfl)) (DE.c fun _ => .int 1)) DA.nil) (le_l rfl)) (by rw [List.length_map]; show is.length + 1 ≤ 1000; omega))) DA.nil)))) (le_l rfl)) (le_2 rfl)
      refine ret_go (e6 H6 _ (fun _ _ e => e) fun H' v sm dv => ?_)
      cases dv with
      | lst e al =>
        have bf : But p H H' := fun b o nb e => sm _ _ (b6 _ _ nb (s5 _ _ e))
        exact k H' _ _ is bf (P6.same sm) (wo_sub _ _ e) (DqAll.same wo_sub al) i1 (by omega)
end
end K12

set_option Elab.async false
set_option linter.all false
set_option maxRecDepth 100000
set_option maxHeartbeats 4000000
namespace K12
open PySem PySem.Spec PyProof.Rows L2 MX NZ SM
/-- what may be asked -/
structure Fine (d : PyData) : Prop where
  sh : ShD d
  ln : ∀ ds, d = .tuple ds → ds.length ≤ 1000
def flatD : PyData → Bool
  | .str x => PyData.strOk x
  | .none => true
  | .bool _ => true
  | .int _ => true
  | _ => false
theorem flat_sh : ∀ {ds : List PyData}, ds.all flatD = true → PyData.canLayAll0 ds = true ∧ PyData.depthAll ds = 0 ∧ noDicts ds = true
  | [], _ => ⟨rfl, rfl, rfl⟩
  | d :: r, h => by
    rw [List.all_cons, Bool.and_eq_true] at h
    obtain ⟨a, b, c⟩ := flat_sh h.2
    have h1 := h.1
    cases d <;> first | (cases h1; done) | skip
    all_goals simp only [PyData.canLayAll0, PyData.canLay0, PyData.depthAll, PyData.depth, noDicts, noDict, a, b, c, Bool.and_self, Bool.and_true, Nat.max_self, and_self]
    exact ⟨h1, trivial⟩
theorem Fine.flat {d : PyData} (h : kT d = false) (s : ∀ x, d ≠ .str x) (t : ∀ ds, d ≠ .tuple ds) : Fine d := ⟨⟨⟨fun x e => absurd e (s x), fun i e => t _ e⟩, fun ds e => absurd e (t ds)⟩, fun ds e => absurd e (t ds)⟩
theorem Fine.str {x : Str} (h : PyData.strOk x = true) : Fine (.str x) := ⟨⟨⟨fun y e => by cases e; exact h, nofun⟩, nofun⟩, nofun⟩
theorem Fine.tup {ds : List PyData} (h : SeqAt.shaped (.tuple ds) = true) (g : noDict (.tuple ds) = true) (l : ds.length ≤ 1000) (f : ∀ i, ds ≠ [.int i, .bool false]) : Fine (.tuple ds) :=
  ⟨⟨⟨nofun, fun i e => f i (by injection e)⟩, fun es e => by cases e; exact ⟨h, g⟩⟩, fun es e => by cases e; exact l⟩
theorem Fine.tupF {ds : List PyData} (h : ds.all flatD = true) (l : ds.length ≤ 1000) (f : ∀ i, ds ≠ [.int i, .bool false]) : Fine (.tuple ds) := by
  obtain ⟨a, b, c⟩ := flat_sh h
  refine Fine.tup ?_ (by simpa only [noDict] using c) l f
  unfold SeqAt.shaped
  rw [Bool.and_eq_true]
  refine ⟨by simpa only [PyData.canLay0] using a, decide_eq_true ?_⟩
  simp only [PyData.depth, b]
  decide
theorem rg_flat (a b : Int) : (rgD a b).all flatD = true := by
  unfold rgD
  rw [List.all_map]
  exact List.all_eq_true.mpr fun _ _ => rfl
theorem rg_len {a b : Int} (h : b - a ≤ 900) : (rgD a b).length ≤ 900 := by
  unfold rgD
  rw [List.length_map, List.length_range]
  omega
theorem ints_flat (is : List Int) : (is.map PyData.int).all flatD = true := by
  rw [List.all_map]
  exact List.all_eq_true.mpr fun _ _ => rfl
theorem no_bool {ds : List PyData} (h : ds.any kB = false) (i : Int) : ds ≠ [.int i, .bool false] := fun e => by
  rw [e] at h
  cases h
theorem rg_nb (a b : Int) : (rgD a b).any kB = false := by
  unfold rgD
  rw [List.any_map, List.any_eq_false]
  exact fun _ _ => by simp [kB]
theorem ints_nb (is : List Int) : (is.map PyData.int).any kB = false := by
  rw [List.any_map, List.any_eq_false]
  exact fun _ _ => by simp [kB]
theorem Fine.rg {n a k : Int} (hn : n ≤ 10) (h : k - a ≤ 50) : Fine (.tuple (rgD a (n + k))) := Fine.tupF (rg_flat _ _) (by have := rg_len (a := a) (b := n + k) (by omega); omega) (no_bool (rg_nb _ _))
theorem Fine.rgB {n : Int} (hn : n ≤ 10) : Fine (.tuple ([.int 0, .bool true] ++ rgD 2 (n + 2))) := Fine.tupF (by rw [List.all_append, rg_flat]; rfl) (by have := rg_len (a := 2) (b := n + 2) (by omega); rw [List.length_append]; show 2 + _ ≤ _; omega) (fun i e => by cases e)
theorem fnil {P : PyData → Prop} : ∀ d ∈ ([] : List PyData), P d := nofun
theorem fcons {P : PyData → Prop} {a : PyData} {l : List PyData} (h : P a) (r : ∀ d ∈ l, P d) : ∀ d ∈ a :: l, P d := fun d m => by
  rcases List.mem_cons.mp m with rfl | m
  · exact h
  · exact r d m
theorem fapp {P : PyData → Prop} {l m : List PyData} (h : ∀ d ∈ l, P d) (r : ∀ d ∈ m, P d) : ∀ d ∈ l ++ m, P d := fun d hm => (List.mem_append.mp hm).elim (h d) (r d)
theorem fine1 {n : Int} (n1 : 1 ≤ n) (hn : n ≤ 10) : ∀ d ∈ odd1 n, Fine d := (fcons (Fine.flat rfl nofun nofun) (fcons (Fine.flat rfl nofun nofun) (fcons (Fine.flat rfl nofun nofun) (fcons (Fine.flat rfl nofun nofun) (fcons (Fine.str (by decide +kernel)) (fcons (Fine.str (by decide +kernel)) (fcons (Fine.str (by decide +kernel)) (fcons (Fine.str (by decide +kernel)) (fcons (Fine.flat rfl nofun nofun) (fcons (Fine.flat rfl nofun nofun) (fcons (Fine.flat rfl nofun nofun) (fcons (Fine.flat rfl nofun nofun) (fcons (Fine.flat rfl nofun nofun) (fcons (Fine.flat rfl nofun nofun) (fcons (Fine.tupF rfl (le_l rfl) (fun i e => by cases e)) (fcons (Fine.flat rfl nofun nofun) (fcons (Fine.flat rfl nofun nofun) (fcons (Fine.tupF rfl (le_l rfl) (fun i e => by cases e)) fnil))))))))))))))))))
theorem fine2 {n : Int} (n1 : 1 ≤ n) (hn : n ≤ 10) : ∀ d ∈ odd2 n, Fine d := (fcons (Fine.tupF rfl (le_l rfl) (fun i e => by cases e)) (fcons (Fine.flat rfl nofun nofun) (fcons (Fine.tupF rfl (le_l rfl) (fun i e => by cases e)) (fcons (Fine.tupF rfl (le_l rfl) (fun i e => by cases e)) (fcons (Fine.tupF rfl (le_l rfl) (fun i e => by cases e)) (fcons (Fine.tupF rfl (le_l rfl) (fun i e => by cases e)) (fcons (Fine.tup rfl rfl (by decide) (fun i e => by cases e)) (fcons (Fine.tupF (by show (PyData.strOk _ && _) = true; simp [flatD]; decide +kernel) (le_l rfl) (fun i e => by cases e)) (fcons (Fine.tupF rfl (le_l rfl) (fun i e => by cases e)) fnil)))))))))
theorem fine3 {n : Int} (n1 : 1 ≤ n) (hn : n ≤ 10) : ∀ d ∈ odd3 n, Fine d := (fcons (Fine.tupF rfl (le_l rfl) (fun i e => by cases e)) (fcons (Fine.tupF rfl (le_l rfl) (fun i e => by cases e)) (fcons (Fine.tupF rfl (le_l rfl) (fun i e => by cases e)) (fcons (Fine.flat rfl nofun nofun) (fcons (Fine.tupF rfl (le_l rfl) (fun i e => by cases e)) fnil)))))
theorem fine4 {n : Int} (n1 : 1 ≤ n) (hn : n ≤ 10) : ∀ d ∈ odd4 n, Fine d := (fcons (Fine.tupF (by show (PyData.strOk _ && _) = true; simp [flatD]; decide +kernel) (le_l rfl) (fun i e => by cases e)) (fcons (Fine.tupF rfl (le_l rfl) (fun i e => by cases e)) (fcons (Fine.rg hn (by decide)) (fcons (Fine.flat rfl nofun nofun) (fcons (Fine.rg hn (by decide)) fnil)))))
theorem fine5 {n : Int} (n1 : 1 ≤ n) (hn : n ≤ 10) : ∀ d ∈ odd5 n, Fine d := (fcons (Fine.rg hn (by decide)) (fcons (Fine.tupF rfl (le_l rfl) (fun i e => by cases e)) (fcons (Fine.rgB hn) fnil)))

theorem fine_odd {n : Int} {is : List Int} (n1 : 1 ≤ n) (hn : n ≤ 10) (l : is.length ≤ 20) : ∀ d ∈ oddD n is, Fine d :=
  fapp (fapp (fapp (fapp (fapp (fine1 n1 hn) (fine2 n1 hn)) (fine3 n1 hn)) (fine4 n1 hn)) (fine5 n1 hn)) (fcons (Fine.tupF (ints_flat is) (by rw [List.length_map]; omega) (no_bool (ints_nb is)))
    (fcons (Fine.flat rfl nofun nofun) (fcons (Fine.tupF (ints_flat _) (by rw [List.length_map, List.length_dropLast]; omega) (no_bool (ints_nb _)))
      (fcons (Fine.tupF (by rw [List.all_append, ints_flat]; rfl) (by rw [List.length_append, List.length_map]; show _ + 1 ≤ _; omega) (no_bool (by rw [List.any_append, ints_nb]; rfl))) fnil))))
theorem odd_len (n : Int) (is : List Int) : (oddD n is).length = 44 := rfl
end K12

set_option Elab.async false
set_option linter.all false
set_option maxRecDepth 100000
set_option maxHeartbeats 4000000
namespace K12
open PySem PySem.Spec PyProof.Rows L2 MX NZ SM ItX
/-- all that is known of the class Stair -/
structure StF (P : Program) (w : World) (K : W.Frag) (mg : Str → Option Value) (base : Heap) (C R : Addr) : Prop where
  S : StC K mg C
  D : StD K C
  T : RdC K mg R
  has : ∃ g, W.findIn K (.ref C) "__contains__" = some (some (.ref g)) ∧ W.isFn K (.ref g) = true ∧ FnR P w K mg base CX0 1 g (spHas P w C)
  len : ∃ g, W.findIn K (.ref C) "__len__" = some (some (.ref g)) ∧ W.isFn K (.ref g) = true ∧ FnR P w K mg base CX0 1 g (spLen0 P w C)
  itr : ∃ g, W.findIn K (.ref C) "__iter__" = some (some (.ref g)) ∧ W.isFn K (.ref g) = true ∧ FnN P w K mg base CX0 1 g (spIter C)
  call : ∃ g fd, StX.CallO K C g ∧ FnOk P w K mg base CX0 4 g fd ["self", "value"] (spWay P w C) ∧ Binds K fd ["self", "value"] [] ∧ KBn K fd ["self", "value"] 1 ["value"] (fun us ws => us ++ ws) (fun vs zs => vs ++ zs)
  eq : ∃ g, W.findIn K (.ref C) "__eq__" = some (some (.ref g)) ∧ W.isFn K (.ref g) = true ∧ FnR P w K mg base CX0 1 g (spEq P w K C)
  ne : W.findIn K (.ref C) "__ne__" = some (some (.builtin "object.__ne__"))
  rep : ∃ g, W.findIn K (.ref C) "__repr__" = some (some (.ref g)) ∧ W.isFn K (.ref g) = true ∧ FnR P w K mg base CX0 1 g (spRepr P w C)
  stp : ∃ p g fd, PropOf K C "steps" p g ∧ FnOk P w K mg base CX0 1 g fd ["self"] (spStp P w C) ∧ Binds K fd ["self"] []
  hed : ∃ p g fd, PropOf K C "head" p g ∧ FnOk P w K mg base CX0 1 g fd ["self"] (spHead P w C) ∧ Binds K fd ["self"] []
  jum : ∃ g fd, Meth K C "jumps" g ∧ FnOk P w K mg base CX0 1 g fd ["self"] (spJumps P w C) ∧ Binds K fd ["self"] []
  thi : ∃ g fd, Meth K C "things" g ∧ FnOk P w K mg base CX0 1 g fd ["self"] (spThings P w C) ∧ Binds K fd ["self"] []
  lns : ∃ g fd, Meth K C "lengths" g ∧ FnOk P w K mg base CX0 1 g fd ["self"] (spLens P w C) ∧ Binds K fd ["self"] []
  mak : ∃ g fd, Mk K C g ∧ FnOk P w K mg base CX0 3 g fd ["self", "steps", "jumps"] (spInit P w K C R) ∧ Binds K fd ["self", "steps", "jumps"] [] ∧ KBn K fd ["self", "steps", "jumps"] 1 ["jumps", "steps"] (fun us ws => us ++ ws.reverse) (fun vs zs => vs ++ zs.reverse)
  nf : (∀ U ∈ kinds, W.notFirst K C (.type U) = true) ∧ W.notFirst K C (.ref C) = true
def rHas (P : Program) (w : World) (C : Addr) : R2 := fun x y H Q => ∃ a n ps d, y = .ref a ∧ StairAt P w C H a n ps ∧ 1 ≤ n ∧ Dq H x d ∧ OkD d ∧ ∀ H', Same H H' → Q (.bl (isIn n ps d)) H'
def rSLen (P : Program) (w : World) (C : Addr) : List V → Hp → VK → Prop := fun xs H Q => ∃ a n ps, xs = [.ref a] ∧ StairAt P w C H a n ps ∧ ps.length ≤ 1000 ∧ Q (.int (ps.length : Nat)) H
def rSList (P : Program) (w : World) (C : Addr) : List V → Hp → VK → Prop := fun xs H Q => ∃ a n ps, xs = [.ref a] ∧ StairAt P w C H a n ps ∧ ps.length ≤ 1000 ∧ ∀ l ys, H l = none → PrsAt H ps ys → Q (.ref l) (upd H l (.lst ys))
def iStair (P : Program) (w : World) (K : W.Frag) (C : Addr) (te : TE) : TI := fun σ H R => te σ H fun x H1 => ∃ a n ps, x = .ref a ∧ StairAt P w C H1 a n ps ∧ ∀ jl ys, H1 jl = some (.lst ys) → PrsAt H1 ps ys → R (Itl K jl) H1
def tSWay (P : Program) (w : World) (C : Addr) (tf : TE) (t : TA) : TE := fun σ H Q => tf σ H fun y H1 => ∃ a, y = .ref a ∧ t σ H1 fun vs H2 => ∃ n ps x d, vs = [x] ∧ StairAt P w C H2 a n ps ∧ Dq H2 x d ∧ ∀ H', Same H2 H' → Q (.bl (isWay n ps d)) H'
def rSEq (P : Program) (w : World) (C : Addr) : R2 := fun x y H Q => ∃ a n ps, x = .ref a ∧ StairAt P w C H a n ps ∧ ((∃ b m qs, y = .ref b ∧ StairAt P w C H b m qs ∧ Q (.bl (decide (n = m ∧ ps = qs))) H) ∨ (((∃ z, y = .str z) ∨ y = .non ∨ (∃ b xs, y = .ref b ∧ H b = some (.lst xs)) ∨ ∃ b xs, y = .ref b ∧ H b = some (.tup xs)) ∧ Q (.bl false) H))
def rSNe (P : Program) (w : World) (C : Addr) : R2 := fun x y H Q => ∃ a n ps b m qs, x = .ref a ∧ y = .ref b ∧ StairAt P w C H a n ps ∧ StairAt P w C H b m qs ∧ Q (.bl (!decide (n = m ∧ ps = qs))) H
def rSRepr (P : Program) (w : World) (C : Addr) : List V → Hp → VK → Prop := fun xs H Q => ∃ a n ps, xs = [.ref a] ∧ StairAt P w C H a n ps ∧ Parts n ps ∧ ∀ H', Same H H' → Q (.str (stairTxt n ps)) H'
section
variable {X : Cx} {C R : Addr}
theorem op_has (F : StF X.prog X.w X.K X.mg X.base C R) (hr : Room 1 X.A) : OpR X (compareOp .In) (rHas X.prog X.w C) := by
  obtain ⟨g, h1, h2, G⟩ := F.has
  intro pins s σ H x y v u Q I rx ry h
  obtain ⟨a, n, ps, d, rfl, st, n1, dq, ok, q⟩ := h
  obtain ⟨dx, fs, hs, _⟩ := st.ins
  exact op_inO (E := E0) h1 h2 G hr pass0 pins s σ H x _ v u Q I rx ry ⟨a, rfl, .inr ⟨dx, fs, hs⟩, a, n, ps, x, d, rfl, st, n1, dq, ok, fun H' sm => ⟨_, rfl, by rw [Bool.bne_false]; exact q H' sm⟩⟩
theorem call_slen (F : StF X.prog X.w X.K X.mg X.base C R) (hr : Room 2 X.A) : CallR X (.builtin "len") (rSLen X.prog X.w C) := by
  obtain ⟨g, h1, h2, G⟩ := F.len
  intro pins s σ H xs us Q I rv h
  obtain ⟨a, n, ps, rfl, st, l, q⟩ := h
  obtain ⟨dx, fs, hs, _⟩ := st.ins
  exact call_lenO (E := E0) h1 h2 G hr pass0 pins s σ H _ us Q I rv ⟨a, rfl, .inr ⟨dx, fs, hs⟩, a, n, ps, rfl, st, ps.length, rfl, by omega, q⟩
theorem call_slist (F : StF X.prog X.w X.K X.mg X.base C R) (hr : Room 4 X.A) : CallR X (.type "list") (rSList X.prog X.w C) := by
  obtain ⟨g, h1, h2, G⟩ := F.itr
  obtain ⟨gl, l1, l2, GL⟩ := F.len
  intro pins s σ H xs us Q I rv h
  obtain ⟨a, n, ps, rfl, st, l, q⟩ := h
  obtain ⟨dx, jl, tl, tb, ys, e1, e2, e3, e4, e5⟩ := id st
  refine call_listIt h1 h2 G l1 l2 GL hr pins s σ H _ us Q I rv ⟨a, dx, _, jl, ys, rfl, e1, e2, fun H' n0 sm => ?_, fun H' sm => ?_, fun l hl => q l ys hl e3⟩
  · exact ⟨a, dx, _, jl, ys, rfl, sm _ _ e1, rfl, sm _ _ e2, fun it hit hn => ⟨it, rfl, hn, hit, rfl⟩⟩
  · exact ⟨a, n, ps, rfl, st.same sm, ⟨ps.length, rfl, by omega⟩, rfl⟩
theorem pi_stair {tg e : Expr} {te : TE} (F : StF X.prog X.w X.K X.mg X.base C R) (ht : PE X e te) (hr : Room 1 X.A) : PI X tg e (iStair X.prog X.w X.K C te) := by
  obtain ⟨g, h1, h2, G⟩ := F.itr
  refine ⟨fun pins s σ H R' I h => ?_⟩
  refine thn (ht.run pins s σ H _ I h) fun u s1 x => ?_
  obtain ⟨v, H1, I1, r1, a, n, ps, rfl, st, q⟩ := x
  cases r1
  obtain ⟨dx, jl, tl, tb, ys, e1, e2, e3, e4, e5⟩ := id st
  obtain ⟨ox, od, J, _⟩ := StX.insC_at I1 (.inr ⟨dx, _, e1⟩)
  have vv : Vals [V.ref a] [.ref a] := .cons (show L2.RelV (V.ref a) (.ref a) from rfl) .nil
  refine pyIter_fn I1.kIn J h1 h2 (wpAny_mono (call_N0 (E := E0) (Q := fun z H2 => ∃ it, z = .ref it ∧ H1 it = none ∧ s1.heap.objs.size ≤ it ∧ H2 = upd H1 it (ItO jl it 0)) G hr I1.env0 I1 vv ⟨a, dx, _, jl, ys, rfl, e1, rfl, e2, fun it hit hn => ⟨it, rfl, hit, hn, rfl⟩⟩) (fun r s2 z => ?_) fun _ _ z => z)
  obtain ⟨z', H2, I2, rz, it, rfl, hit, hn, rfl⟩ := z
  cases rz
  have hi2 : upd H1 it (ItO jl it 0) it = some (ItO jl it 0) := upd_same
  have eo := itO_get I2 hi2
  have q2 := q jl ys e2 e3
  rw [← itl0] at q2
  have dn := drop_new (o := ItO jl it 0) hit
  refine ⟨it, jl, 0, rfl, eo, it, [it], _, ItlF X.K jl 0, dropH (upd H1 it (ItO jl it 0)) it, rfl, inv_drop I2 hi2, turn_listF jl it 0, ⟨GNX.itObj jl 0, eo, rfl, rfl⟩, fun b hb => ?_, by rw [dn]; exact q2⟩
  rw [List.mem_singleton] at hb
  subst hb
  exact inv_fp I2 hi2 (Nat.le_trans I1.sz hn)
theorem op_seq (F : StF X.prog X.w X.K X.mg X.base C R) (hr : Room 1 X.A) : OpR X (compareOp .Eq) (rSEq X.prog X.w C) := by
  obtain ⟨g, h1, h2, G⟩ := F.eq
  intro pins s σ H x y v u Q I rx ry h
  obtain ⟨a, n, ps, rfl, st, o⟩ := h
  obtain ⟨dx, fs, hs, _⟩ := st.ins
  refine op_cmpO (op := .Eq) (E := E0) (fun _ _ => rfl) h1 h2 G hr pass0 pins s σ H _ y v u Q I rx ry ?_
  rcases o with ⟨b, m, qs, rfl, st2, k⟩ | ⟨o, k⟩
  · obtain ⟨dx2, fs2, hs2, _⟩ := st2.ins
    exact ⟨a, rfl, .inr ⟨dx, fs, hs⟩, .inr ⟨b, C, rfl, .inr ⟨dx2, fs2, hs2⟩, F.nf.2⟩, a, n, ps, _, rfl, st, .inl ⟨b, m, qs, rfl, st2, k⟩⟩
  · rcases o with ⟨z, rfl⟩ | rfl | ⟨b, xs, rfl, hb⟩ | ⟨b, xs, rfl, hb⟩
    · exact ⟨a, rfl, .inr ⟨dx, fs, hs⟩, .inl ⟨"str", ty_str, F.nf.1 _ (by decide)⟩, a, n, ps, _, rfl, st, .inr ⟨"str", ⟨by decide, .base (.str z)⟩, k⟩⟩
    · exact ⟨a, rfl, .inr ⟨dx, fs, hs⟩, .inl ⟨"NoneType", ty_non, F.nf.1 _ (by decide)⟩, a, n, ps, _, rfl, st, .inr ⟨"NoneType", ⟨by decide, .base .non⟩, k⟩⟩
    · exact ⟨a, rfl, .inr ⟨dx, fs, hs⟩, .inl ⟨"list", ty_lst hb, F.nf.1 _ (by decide)⟩, a, n, ps, _, rfl, st, .inr ⟨"list", kd_lst hb, k⟩⟩
    · exact ⟨a, rfl, .inr ⟨dx, fs, hs⟩, .inl ⟨"tuple", ty_tup hb, F.nf.1 _ (by decide)⟩, a, n, ps, _, rfl, st, .inr ⟨"tuple", kd_tup hb, k⟩⟩
theorem op_sne (F : StF X.prog X.w X.K X.mg X.base C R) (hr : Room 2 X.A) : OpR X (compareOp .NotEq) (rSNe X.prog X.w C) := by
  obtain ⟨g, h1, h2, G⟩ := F.eq
  intro pins s σ H x y v u Q I rx ry h
  obtain ⟨a, n, ps, b, m, qs, rfl, rfl, st, st2, k⟩ := h
  obtain ⟨dx, fs, hs, _⟩ := st.ins
  obtain ⟨dx2, fs2, hs2, _⟩ := st2.ins
  exact op_neO (E := E0) F.D.ic.hm F.ne h1 h2 G hr pass0 pins s σ H _ _ v u Q I rx ry ⟨a, rfl, .inr ⟨dx, fs, hs⟩, .inr ⟨b, rfl, .inr ⟨dx2, fs2, hs2⟩⟩, a, n, ps, _, rfl, st, .inl ⟨b, m, qs, rfl, st2, _, rfl, k⟩⟩
theorem call_srepr (F : StF X.prog X.w X.K X.mg X.base C R) (hr : Room 2 X.A) : CallR X (.builtin "repr") (rSRepr X.prog X.w C) := by
  obtain ⟨g, h1, h2, G⟩ := F.rep
  intro pins s σ H xs us Q I rv h
  obtain ⟨a, n, ps, rfl, st, pt, q⟩ := h
  obtain ⟨dx, fs, hs, _⟩ := st.ins
  exact call_reprO (E := E0) h1 h2 G hr pass0 pins s σ H _ us Q I rv ⟨a, rfl, .inr ⟨dx, fs, hs⟩, a, n, ps, rfl, st, pt, fun H' sm => ⟨_, rfl, q H' sm⟩⟩
theorem pe_sway {fe e : Expr} {pos : Pos} {tf : TE} {t : TA} (F : StF X.prog X.w X.K X.mg X.base C R) (hf : PE X fe tf) (hr : Room 4 X.A) (ha : PA X [e] t)
    (hst : starEach [e] X.env = (false, eval e X.env) :: starEach [] X.env := by rfl) (hpl : (backTo pos (starEach [] X.env)).any (·.1) = false := by rfl)
    (ht : eval (.Call fe [e] [] pos) X.env = (do callWith pos (← eval fe X.env) [] (backTo pos (starEach [e] X.env)) (backToKw pos (keywordEach [] X.env))) := by rfl) : PE X (.Call fe [e] [] pos) (tSWay X.prog X.w C tf t) := by
  obtain ⟨g, fd, c, G, b, kb⟩ := F.call
  refine ⟨fun pins s σ H Q I h => ?_⟩
  refine Call_ (thn (hf.run pins s σ H _ I h) fun u s1 ⟨y, H1, I1, ry, a, ey, q⟩ => ?_) ht
  subst ey
  obtain rfl : u = Value.ref a := ry
  refine StX.callO_with (thn (ha.run pos pins s1 σ H1 _ I1 q) fun us s2 ⟨vs, H2, I2, r, n, ps, x, d, ev, st, dq, q2⟩ => ?_) hst hpl
  subst ev
  obtain ⟨dx, fs, hs, _⟩ := st.ins
  have hi : StX.InsC X H2 a C := .inr ⟨dx, fs, hs⟩
  obtain ⟨ox, od, J, hd⟩ := StX.insC_at I2 hi
  have G2 : FnR X.prog X.w X.K X.mg X.base CX0 4 g (spWay X.prog X.w C) := (G.raw b .nil).imp fun vs H Q E h => by rw [List.append_nil]; exact h
  exact ⟨⟨C, ox, od, J, hd⟩, StX.run_callO (E := E0) c G2 hr pass0 I2 hi r ⟨a, n, ps, x, d, rfl, st, dq, q2⟩⟩
def tSWayK (P : Program) (w : World) (C : Addr) (tf : TE) (t : TA) : TE := fun σ H Q => tf σ H fun y H1 => ∃ a, y = .ref a ∧ t σ H1 fun vs H2 => ∃ n ps x d, vs = [x] ∧ StairAt P w C H2 a n ps ∧ Dq H2 x d ∧ ∀ H', Same H2 H' → Q (.bl (isWay n ps d)) H'
theorem pe_swayK {fe : Expr} {kws : List Keyword} {pos : Pos} {tf : TE} {tk : TA} (F : StF X.prog X.w X.K X.mg X.base C R) (hf : PE X fe tf) (hr : Room 4 X.A) (hkw : PK X kws tk)
    (hall : (backToKw pos (keywordEach kws X.env)).all (·.1.isSome) = true := by rfl) (hks : (backToKw pos (keywordEach kws X.env)).filterMap (·.1) = (["value"] : List Str) := by rfl) (hno : (backToKw pos (keywordEach kws X.env)).any (·.1.isNone) = false := by rfl)
    (ht : eval (.Call fe [] kws pos) X.env = (do callWith pos (← eval fe X.env) [] (backTo pos (starEach [] X.env)) (backToKw pos (keywordEach kws X.env))) := by rfl) : PE X (.Call fe [] kws pos) (tSWayK X.prog X.w C tf tk) := by
  obtain ⟨g, fd, c, F, b, kb⟩ := F.call
  refine ⟨fun pins s σ H Q I h => ?_⟩
  rw [ht]
  refine wpAny_bind (thn (hf.run pins s σ H _ I h) fun u s1 z => ?_)
  obtain ⟨y, H1, I1, ry, a, rfl, q⟩ := z
  obtain rfl : u = Value.ref a := ry
  refine callO_kw hno (evalArgs_kw2_nil hall (thn (hkw.run pos pins s1 σ H1 _ I1 q) fun ws s2 z => ?_))
  obtain ⟨zs, H2, I2, rz, n, ps', x, d, ev, st, dq, q2⟩ := z
  subst ev
  obtain ⟨dx, fs, hs, _⟩ := st.ins
  have hi : StX.InsC X H2 a C := .inr ⟨dx, fs, hs⟩
  obtain ⟨ox, od, J, hd⟩ := StX.insC_at I2 hi
  refine ⟨⟨C, ox, od, J, hd⟩, wpAny_call (W.kco_code I2.kIn J hd c.at_ c.fn c.fi ?_)⟩
  have r2 := kb.rel (vs := [V.ref a]) (us := [Value.ref a]) (.cons (show L2.RelV (V.ref a) (.ref a) from rfl) .nil) rz
  rw [hks]
  refine codeAny_mono (F.run X.A X.stack s2 H2 ⟨[.ref a], (["value"] : List Str).zip ws⟩ ([.ref a] ++ ws) ([.ref a] ++ [x]) Q E0 hr I2.env0 (kb.to s2 [.ref a] ws I2.kIn rfl rz.length.symm) r2 ⟨a, n, ps', x, d, rfl, st, dq, q2⟩) fun r s' hq => ?_
  cases r with
  | error e => exact False.elim hq
  | ok fl =>
    cases fl with
    | ret u => exact I2.after hq
    | next => exact False.elim hq
    | brk => exact False.elim hq
    | cont => exact False.elim hq
/-- Stair(..): what follows once its arguments are there -/
theorem mk_in {P : Program} {w : World} {K : W.Frag} {n : Int} {x : V} {ps : List Pr} {vs : List V} {H1 : Hp} {Q : Addr → Hp → Prop} {E : XK} (ev : vs = [.int n, x]) (aj : ArgJ K R H1 x ps) (pt : Parts n ps) (k : ∀ H' s, Same H1 H' → H1 s = none → StairAt P w C H' s n (srt ps) → (∀ b xs, H1 b = some (.lst xs) → StairAt P w C (wo b H') s n (srt ps)) → Q s H') :
    ∀ s dx, H1 s = none → H1 dx = none → dx ≠ s → spInit P w K C R (.ref s :: vs) (upd (upd H1 dx (.own s)) s (.ins C dx [])) (fun v H2 => v = .non ∧ Q s H2) E := fun s dx hs hdx ne => by
  subst ev
  have sm4 : Same H1 (upd (upd H1 dx (.own s)) s (.ins C dx [])) := (Same.new hdx).trans (Same.new (by rw [upd_ne (Ne.symm ne)]; exact hs))
  refine ⟨s, dx, n, x, ps, rfl, upd_same, ?_, pt, fun H4 hb st so => ⟨rfl, k H4 s ?_ hs st fun b xs e => so b xs (sm4 _ _ e)⟩⟩
  · rcases aj with ⟨r, dr, l, ys, rfl, h1, h2, pr⟩ | ⟨a, tp, xs, rfl, sq, kd, pr⟩
    · exact .inl ⟨r, dr, l, ys, rfl, sm4 _ _ h1, sm4 _ _ h2, pr.same sm4⟩
    · exact .inr ⟨a, tp, xs, rfl, same_sqs sm4 sq, ⟨kd.1, kd.2.same sm4⟩, pr.same sm4⟩
  · intro b o e
    exact hb b o (ne_of_none e hs) (sm4 _ _ e)
end
end K12

set_option Elab.async false
set_option linter.all false
set_option maxRecDepth 100000
set_option maxHeartbeats 8000000
namespace K12
open PySem PySem.Spec PyProof.Rows L2 MX NZ SM
/-! ### what is told, as data -/
def thD (n : Int) (qs : List Pr) : List PyData := .str "feet" :: (rgD 1 (n + 1) ++ qs.map pairD)
def dueD (n : Int) (qs : List Pr) : List PyData := [.int n, .int (n + 1), .list (qs.map pairD), .list (thD n qs), .list ((lensOf qs).map PyData.int), .int (qs.length : Nat), .list (qs.map pairD), .list (qs.map pairD)]
theorem dqa_app {H : Hp} : ∀ {xs ys : List V} {ds es : List PyData}, DqAll H xs ds → DqAll H ys es → DqAll H (xs ++ ys) (ds ++ es)
  | _, _, _, _, .nil, b => b
  | _, _, _, _, .cons h t, b => .cons h (dqa_app t b)
theorem th_dq {H : Hp} {n : Int} {qs : List Pr} {ys : List V} (pr : PrsAt H qs ys) : DqAll H (thV n ys) (thD n qs) := .cons (.str "feet") (dqa_app (rg_dq _ _) (prs_dq pr))
/-- a short piece of data -/
structure Sh1 (z : PyData) : Prop where
  s : z.showable = true
  d : z.depth ≤ 5
  l : z.shown.length ≤ 11
theorem sh_all : ∀ {ds : List PyData}, (∀ z ∈ ds, Sh1 z) → PyData.showableAll ds = true ∧ PyData.depthAll ds ≤ 5 ∧ ((PyData.shownAll ds).map (·.length)).sum ≤ 11 * ds.length
  | [], _ => ⟨rfl, Nat.zero_le _, Nat.zero_le _⟩
  | z :: ds, h => by
    obtain ⟨i1, i2, i3⟩ := sh_all fun y hy => h y (List.mem_cons_of_mem _ hy)
    have q := h z List.mem_cons_self
    refine ⟨?_, ?_, ?_⟩
    · simp only [PyData.showableAll, q.s, i1, Bool.and_self]
    · simp only [PyData.depthAll]
      exact Nat.max_le.mpr ⟨q.d, i2⟩
    · simp only [PyData.shownAll, List.map_cons, List.sum_cons, List.length_cons]
      have := q.l
      omega
theorem list_len (ts : List Str) : (listText ts).length ≤ (ts.map (·.length)).sum + 2 * ts.length + 2 := by
  rw [listText_eq_join, strLen_append, strLen_append]
  have := join_len ts
  have e1 : (("[" : String) : Str).length = 1 := rfl
  have e2 : (("]" : String) : Str).length = 1 := rfl
  omega
theorem sh_list {ds : List PyData} (h : ∀ z ∈ ds, Sh1 z) (n : ds.length ≤ 60) : Shw (.list ds) := by
  obtain ⟨a, b, c⟩ := sh_all h
  refine ⟨by simpa only [PyData.showable] using a, by simp only [PyData.depth]; omega, ?_⟩
  simp only [PyData.shown]
  have := list_len (PyData.shownAll ds)
  rw [PyData.shownAll_length] at this
  omega
theorem log_nat : ∀ k : Nat, k < 100 → (k : Nat).log2 < 1920 := by decide +kernel
theorem sh_int {i : Int} (a : 0 ≤ i) (b : i < 100) : Sh1 (.int i) := by
  refine ⟨?_, by simp only [PyData.depth]; omega, Nat.le_trans (int_txt a b) (by decide)⟩
  simp only [PyData.showable, decide_eq_true_eq]
  exact log_nat i.natAbs (by omega)
theorem shw_int {i : Int} (a : 0 ≤ i) (b : i < 100) : Shw (.int i) := by
  obtain ⟨x, y, z⟩ := sh_int a b
  exact ⟨x, by omega, by omega⟩
theorem sh_pair {p : Pr} (h : okJ 10 p) : Sh1 (pairD p) := by
  obtain ⟨a, b, c⟩ := h
  have h1 := (sh_int (i := p.1) a (by omega)).s
  have h2 := (sh_int (i := p.2) (by omega) (by omega)).s
  refine ⟨?_, ?_, pair_txt ⟨a, b, c⟩⟩
  · simp only [pairD, PyData.showable, PyData.showableAll]
    simp only [PyData.showable] at h1 h2
    rw [h1, h2]
    rfl
  · simp [pairD, PyData.depth, PyData.depthAll]
theorem sh_feet : Sh1 (.str "feet") := ⟨rfl, by simp [PyData.depth], by simp only [PyData.shown]; decide +kernel⟩
theorem sh_prs {qs : List Pr} (h : ∀ p ∈ qs, okJ 10 p) : ∀ z ∈ qs.map pairD, Sh1 z := fun z m => by
  obtain ⟨p, hp, rfl⟩ := List.mem_map.mp m
  exact sh_pair (h p hp)
theorem sh_th {n : Int} {qs : List Pr} (n2 : n ≤ 10) (h : ∀ p ∈ qs, okJ 10 p) : ∀ z ∈ thD n qs, Sh1 z :=
  fcons sh_feet (fapp (fun z m => by
    unfold rgD at m
    obtain ⟨i, hi, rfl⟩ := List.mem_map.mp m
    have := List.mem_range.mp hi
    exact sh_int (by omega) (by omega)) (sh_prs h))
theorem sh_lens (qs : List Pr) : ∀ z ∈ (lensOf qs).map PyData.int, Sh1 z := fun z m => by
  obtain ⟨k, hk, rfl⟩ := List.mem_map.mp m
  obtain ⟨⟨a, b⟩, _⟩ := mem_lensOf.mp hk
  exact sh_int (by omega) (by omega)
theorem lens_len (qs : List Pr) : (lensOf qs).length ≤ 11 := by
  unfold lensOf
  refine Nat.le_trans (List.length_filter_le _ _) ?_
  rw [List.length_map, List.length_range]
  exact Nat.le_refl _
theorem shw_due {n : Int} {qs : List Pr} (pt : Parts n qs) : ∀ z ∈ dueD n qs, Shw z := by
  have n1 := pt.n1
  have n2 := pt.n2
  have ln := pt.ln
  have ok : ∀ p ∈ qs, okJ 10 p := fun p m => okJ10 (pt.ok p m) n2
  have hp := sh_list (sh_prs ok) (by rw [List.length_map]; omega)
  refine fcons (shw_int (by omega) (by omega)) (fcons (shw_int (by omega) (by omega)) (fcons hp (fcons (sh_list (sh_th n2 ok) ?_) (fcons (sh_list (sh_lens qs) ?_) (fcons (shw_int (by omega) (by omega)) (fcons hp (fcons hp fnil)))))))
  · unfold thD
    rw [List.length_cons, List.length_append, List.length_map]
    unfold rgD
    rw [List.length_map, List.length_range]
    omega
  · rw [List.length_map]
    have := lens_len qs
    omega
/-- sorted jumps are the same jumps -/
theorem inP_srt (ps : List Pr) (i j : Int) : decide ((i, j) ∈ srt ps) = decide ((i, j) ∈ ps) := by
  rw [decide_eq_decide]
  exact srt_mem
theorem isIn_srt {n : Int} {ps : List Pr} {d : PyData} : isIn n (srt ps) d = isIn n ps d := by
  unfold isIn
  split <;> first | rfl | exact inP_srt ps _ _
theorem isWay_srt {n : Int} {ps : List Pr} {d : PyData} : isWay n (srt ps) d = isWay n ps d := by
  unfold isWay
  congr 1
  cases d <;> try rfl
  rename_i ds
  rw [run_tup, run_tup]
  congr 1
  unfold runB
  split
  · congr 1
    funext p
    exact inP_srt ps p.1 p.2
  · rfl
theorem lensOf_srt (ps : List Pr) : lensOf (srt ps) = lensOf ps := by
  unfold lensOf
  congr 1
  funext k
  rw [Bool.eq_iff_iff, List.any_eq_true, List.any_eq_true]
  exact exists_congr fun p => and_congr_left fun _ => srt_mem
theorem stair_wo {P : Program} {w : World} {C s p : Addr} {H : Hp} {n : Int} {ps : List Pr} (h : StairAt P w C H s n ps) (hP : Pot H p) : StairAt P w C (wo p H) s n ps := by
  obtain ⟨dx, jl, tl, tb, ys, h1, h2, h3, h4, m1, m2, es0, pr, e⟩ := h
  obtain ⟨x, y, hp, _⟩ := hP
  have t3 : ∀ {ps : List Pr} {vs : List V}, PrsAt H ps vs → PrsAt (wo p H) ps vs := fun {ps vs} pr => by
    induction pr with
    | nil => exact .nil
    | cons a t ih =>
      obtain ⟨b, e, t⟩ := a
      exact .cons ⟨b, e, wo_some t (ne_of t hp nofun)⟩ ih
  refine ⟨dx, jl, tl, tb, ys, wo_some h1 (ne_of h1 hp nofun), wo_some h2 (fun z => ?_), t3 h3, wo_some h4 (fun z => ?_), m1, m2, es0, Paired.mapP pr fun a b z => ⟨z.1, ?_, z.2.2⟩, wo_some e (ne_of e hp nofun)⟩
  · subst z
    rw [hp] at h2
    cases h2
    cases h3 with
    | cons a t =>
      obtain ⟨b, e, _⟩ := a
      cases e
  · subst z
    rw [hp] at h4
    injection h4 with h4
    injection h4 with h4
    injection h4 with h4 _
    cases h4
  · have kx := z.2.1
    revert kx
    cases b.1 with
    | inl k => exact fun e => e
    | inr ks =>
      rintro ⟨c, e, t⟩
      exact ⟨c, e, wo_some t (ne_of t hp nofun)⟩
theorem stair_but {P : Program} {w : World} {C s p : Addr} {H H' : Hp} {n : Int} {ps : List Pr} (h : StairAt P w C H s n ps) (hP : Pot H p) (b : But p H H') : StairAt P w C H' s n ps := ((stair_wo h hP).same (wo_same b)).same wo_sub
section
variable {K : W.Frag}
/-- [f(x) for x in xs] -/
theorem map_go {s i : Nat} {a : Addr} {vs : List V} {ds : List PyData} {σ : L2.St} {H : Hp} {Q : VK} {te : TE} (f : PyData → Bool) (hs : σ[s]? = some (some (.ref a))) (hi : i < σ.length) (ha : H a = some (.lst vs)) (al : DqAll H vs ds) (ln : ds.length ≤ 1000)
    (he : ∀ H' x d, d ∈ ds → Same H H' → Dq H' x d → ∀ Q' : VK, (∀ H2, Same H' H2 → Q' (.bl (f d)) H2) → te ((wipe σ [i]).set i (some x)) H' Q')
    (k : ∀ H' D, Same H H' → H' D = some (.lst ((ds.map f).map V.bl)) → Q (.ref D) H') : tLc (iList K (tVar s)) (gName i) tYes te [i] σ H Q := by
  have el := dqa_len al
  refine ⟨_, hs, a, rfl, ⟨_, SqL.of ha⟩, fun D hD => lc_it (walk_list (xs := vs)) (fun j H' => Same H H' ∧ H' D = some (.lst (((ds.take j).map f).map V.bl))) ⟨Same.new hD, upd_same⟩ (fun j H' _ h => Same.seq h.1 (SqL.of ha)) (fun j x H2 H3 hj inv y => ?_) fun H2 inv => ?_⟩
  · obtain ⟨sm, hz⟩ := inv
    obtain ⟨rfl, hx⟩ := y
    obtain ⟨d, hd, dq⟩ := dqa_get al hx
    show (fun σ2 H2 => _) ((wipe σ [i]).set i (some x)) H3
    refine ⟨by simp [wipe], yes_go (iteT (he _ x d (List.mem_of_getElem? hd) sm (dq.same sm) _ fun H4 s4 => ⟨_, s4 _ _ hz, small1000 (by simp; omega), fun b u e => ?_, ?_⟩))⟩
    · rw [upd_ne (ne_of_none e hD)]
      exact s4 _ _ (sm _ _ e)
    · rw [upd_same, take_succ_of hd, List.map_append, List.map_append]
      rfl
  · obtain ⟨sm, hz⟩ := inv
    rw [el, List.take_length] at hz
    exact k _ D sm hz
end
end K12

set_option Elab.async false
set_option linter.all false
set_option maxRecDepth 100000
set_option maxHeartbeats 8000000
namespace K12
open PySem PySem.Spec PyProof.Rows L2 MX NZ SM
theorem bools_dq {H : Hp} : ∀ bs : List Bool, DqAll H (bs.map V.bl) (bs.map PyData.bool)
  | [] => .nil
  | b :: r => .cons (.bl b) (bools_dq r)
theorem bools_eqv : ∀ bs : List Bool, PyData.eqvAll (bs.map PyData.bool) (bs.map PyData.bool) = true
  | [] => rfl
  | b :: r => by
    show (PyData.eqv (.bool b) (.bool b) && _) = true
    rw [bools_eqv r]
    show ((b == b) && true) = true
    simp
theorem bools_shaped (bs : List Bool) : SeqAt.shaped (.list (bs.map PyData.bool)) = true := by
  have c : ∀ ns : List Bool, PyData.canLayAll0 (ns.map PyData.bool) = true := fun ns => by
    induction ns with
    | nil => rfl
    | cons p r ih => simp [PyData.canLayAll0, PyData.canLay0, ih]
  have d : ∀ ns : List Bool, PyData.depthAll (ns.map PyData.bool) ≤ 5 := fun ns => by
    induction ns with
    | nil => simp [PyData.depthAll]
    | cons p r ih =>
      simp only [List.map_cons, PyData.depthAll]
      exact Nat.max_le.mpr ⟨by simp [PyData.depth], ih⟩
  unfold SeqAt.shaped
  rw [Bool.and_eq_true]
  refine ⟨by simp only [PyData.canLay0, c], decide_eq_true ?_⟩
  have := d bs
  simp only [PyData.depth]
  omega
theorem bools_dp {K : W.Frag} {H : Hp} {a : Addr} {bs : List Bool} (h : H a = some (.lst (bs.map V.bl))) : Dp K H (.ref a) (.list (bs.map PyData.bool)) := by
  refine Dq.dp (.lst h (bools_dq bs)) ?_
  show noDicts (bs.map PyData.bool) = true
  clear h
  induction bs with
  | nil => rfl
  | cons b r ih => simp [noDicts, noDict, ih]
theorem seq_ex {te : TE} {r : TS} {D : Ends} {σ : L2.St} {H : Hp} (h : te σ H fun _ H1 => r D σ H1) : tSeq (tDrop te) r D σ H := h
theorem inV_ints {k : Int} : ∀ ns : List Int, inV (.int k) (ns.map V.int) = decide (k ∈ ns) := fun ns => by
  unfold inV
  rw [List.any_map, Bool.eq_iff_iff, List.any_eq_true, decide_eq_true_eq]
  constructor
  · rintro ⟨x, hx, e⟩
    have e2 : (x == k) = true := e
    rw [← beq_iff_eq.mp e2]
    exact hx
  · intro h
    exact ⟨k, h, show (k == k) = true from beq_self_eq_true k⟩
/-- [p[1] - p[0] for p in pairs] -/
theorem lens_go {K : W.Frag} {s i : Nat} {a : Addr} {ps : List Pr} {ys : List V} {σ : L2.St} {H : Hp} {Q : VK} (hs : σ[s]? = some (some (.ref a))) (hi : i < σ.length) (ha : H a = some (.lst ys)) (pr : PrsAt H ps ys) (ln : ps.length ≤ 1000)
    (k : ∀ H' D, Same H H' → H' D = some (.lst ((ps.map fun p => p.2 - p.1).map V.int)) → Q (.ref D) H') : tLc (iList K (tVar s)) (gName i) tYes (tLenP K i) [i] σ H Q := by
  have el := pr.len
  refine ⟨_, hs, a, rfl, ⟨_, SqL.of ha⟩, fun D hD => lc_it (walk_list (xs := ys)) (fun j H' => Same H H' ∧ H' D = some (.lst (((ps.take j).map fun p => p.2 - p.1).map V.int))) ⟨Same.new hD, upd_same⟩ (fun j H' _ h => Same.seq h.1 (SqL.of ha)) (fun j x H2 H3 hj inv y => ?_) fun H2 inv => ?_⟩
  · obtain ⟨sm, hz⟩ := inv
    obtain ⟨rfl, hx⟩ := y
    obtain ⟨q, hq, hv⟩ := pr.get hx
    show (fun σ2 H2 => _) ((wipe σ [i]).set i (some x)) H3
    refine ⟨by simp [wipe], yes_go (iteT (lenP_go (K := K) (v := x) (q := q) (by simp [wipe, hi]) (hv.same sm) ⟨_, hz, small1000 (by simp; omega), fun b u e => ?_, ?_⟩))⟩
    · rw [upd_ne (ne_of_none e hD)]
      exact sm _ _ e
    · rw [upd_same, take_succ_of hq, List.map_append, List.map_append]
      rfl
  · obtain ⟨sm, hz⟩ := inv
    rw [el, List.take_length] at hz
    exact k _ D sm hz
theorem at_neg {xs : List V} {v : V} {k : Nat} (k1 : 1 ≤ k) (h : xs[xs.length - k]? = some v) (l : k ≤ xs.length) : atI xs (-(k : Int)) = some v := by
  unfold atI ixN
  rw [if_neg (by omega), if_pos (by omega)]
  show xs[(-(k : Int) + (xs.length : Int)).toNat]? = some v
  rw [show (-(k : Int) + (xs.length : Int)).toNat = xs.length - k from by omega]
  exact h
theorem all_things {n : Int} {ps : List Pr} : (thD n (srt ps)).all (isIn n ps) = true := by
  unfold thD
  rw [List.all_cons, List.all_append, Bool.and_eq_true, Bool.and_eq_true]
  refine ⟨(show decide (("feet" : Str) = "feet") = true from decide_eq_true rfl), List.all_eq_true.mpr fun d m => ?_, List.all_eq_true.mpr fun d m => ?_⟩
  · unfold rgD at m
    obtain ⟨i, hi, rfl⟩ := List.mem_map.mp m
    have := List.mem_range.mp hi
    exact decide_eq_true ⟨by omega, by omega⟩
  · obtain ⟨q, hq, rfl⟩ := List.mem_map.mp m
    exact decide_eq_true (srt_mem.mp hq)
/-- the two texts are one -/
theorem stair_text (n : Int) (qs : List Pr) : stairTxt n qs = ((((("Stair(" : String) : Str) ++ ((toString n : String) : Str)) ++ ((", " : String) : Str)) ++ listText (PyData.shownAll (qs.map pairD))) ++ ((")" : String) : Str) := by
  have e1 : ((", [" : String) : Str) = ((", " : String) : Str) ++ (("[" : String) : Str) := by decide +kernel
  have e2 : (("])" : String) : Str) = (("]" : String) : Str) ++ ((")" : String) : Str) := by decide +kernel
  unfold stairTxt
  rw [listText_eq_join, shownAll_prs, PyData.shown_int, e1, e2, Str.empty_append]
  simp only [Str.append_assoc]
theorem szl {k : Nat} (h : k ≤ 100000) : k ≤ sizeLine := by
  have := sizeLine_eq
  omega
section
variable {P : Program} {w : World} {K : PySem.W.Frag} {mg : Str → Option Value} {base : Heap} {C R : Addr}
abbrev nTold : List Str := ["_law_pot_here", "_law_made", "_law_top", "_law_pairs", "_law_named", "_law_lens", "_law_due", "_law_turn", "_law_told", "_law_odd_here", "_law_size", "_law_pair", "_law_thing"]
def scSize : Scope := { kind := .function, names := [(".0", .local), ("_law_size", .local), ("_law_pairs", .cell)], isGenerator := false, isCoroutine := false }
theorem scTold : FnScope nTold ["_law_pot_here", "_law_made", "_law_top", "_law_pairs"] (defScope (top 39)) := ⟨rfl, rfl, rfl, by decide +kernel, rfl, by decide +kernel, by decide +kernel⟩
def spTold (P : Program) (w : World) (C : Addr) : Sp := fun vs H Q _ => ∃ (p s : Addr) (n : Int) (l : Addr) (ps : List Pr) (ys : List V), vs = [.ref p, .ref s, .int n, .ref l] ∧ Pot H p ∧ StairAt P w C H s n (srt ps) ∧ H l = some (.lst ys) ∧ l ≠ p ∧ PrsAt H ps ys ∧ Parts n ps ∧ ∀ H', But p H H' → Pot H' p → Q (.bl true) H'
theorem ok_told {f fD fP fO fT fW : Addr} {fd fdD fdP fdO fdT fdW : FuncData} (D : Dn K mg "_law_is_told" (top 39) ["_law_pot_here", "_law_made", "_law_top", "_law_pairs"] f fd) (B : Bl mg) (B2 : Bl2 mg) (F : StF P w K mg base C R)
    (DD : Dn K mg "_law_draw" (top 29) ["_law_pot_here", "_law_sides"] fD fdD) (DP : Dn K mg "_law_pick" (top 30) ["_law_pot_here", "_law_some"] fP fdP) (DO : Dn K mg "_law_odd" (top 38) ["_law_pot_here", "_law_top", "_law_pairs"] fO fdO)
    (DT : Dn K mg "_law_is_thing" (top 36) ["_law_top", "_law_pairs", "_law_thing"] fT fdT) (DW : Dn K mg "_law_is_row" (top 37) ["_law_top", "_law_pairs", "_law_thing"] fW fdW) : FnG P w K mg base CX0 6 f fd ["_law_pot_here", "_law_made", "_law_top", "_law_pairs"] (spTold P w C) := by
  have GO : FnOk P w K mg base CX0 3 fO fdO ["_law_pot_here", "_law_top", "_law_pairs"] spOdd := ok_odd DO B B2 DD DP
  have GT : FnOk P w K mg base CX0 1 fT fdT ["_law_top", "_law_pairs", "_law_thing"] (spThing K) := ok_thing DT.F B B2
  have GW : FnOk P w K mg base CX0 1 fW fdW ["_law_top", "_law_pairs", "_law_thing"] (spRow K) := ok_row DW.F B B2
  obtain ⟨p1, g1, fd1, q1, G1, b1⟩ := F.stp
  obtain ⟨p2, g2, fd2, q2, G2, b2⟩ := F.hed
  obtain ⟨g3, fd3, q3, G3, b3⟩ := F.jum
  obtain ⟨g4, fd4, q4, G4, b4⟩ := F.thi
  obtain ⟨g5, fd5, q5, G5, b5⟩ := F.lns
  refine D.F.okG scTold (fun vs H Q E h => ?_) (fun cdv A outer s0 H vs Q E hg hr h => ?_)
  · obtain ⟨p, s, n, l, ps, ys, rfl, _⟩ := h
    rfl
  · obtain ⟨p, s, n, l, ps, ys, rfl, hP, st, hl, nlp, pr, pt, k⟩ := h
    have hu64 := room64 hr
    have r1 := hr.mono (show 1 ≤ 5 by decide)
    have r2 := hr.mono (show 2 ≤ 5 by decide)
    have r3 := hr.mono (show 3 ≤ 5 by decide)
    have r4 := hr.mono (show 4 ≤ 5 by decide)
    have hgA : Quiet (A.deeper (envOfC "_law_is_told" (defScope (top 39)) s0.heap.objs.size f cdv)) := hg.deeper _
    refine ⟨_, pss_cons (ps_set (i := 4) scTold.nd rfl (.inl rfl) (pe_op op_cat (pe_op op_cat (pe_lst (pa_cons pe_str pa_nil)) (pe_listRg rfl (by rfl) B2.list (prg_2 (by rfl) B.range pe_int (pe_op op_add (pv 2) pe_int)))) (pe_callB cr_sortedPO (by rfl) B2.sorted (by decide +kernel) (pa_cons (pv 3) pa_nil))))
      (pss_cons (ps_setLc (i := 5) (te := tVar 10) (own := [("_law_size", 10)]) (g := gName 10) (tt := tTest (tOp (rIn K false) (tVar 10) (tLc (iList K (tVar 3)) (gName 11) tYes (tLenP K 11) [11]))) rfl scTold.nd rfl rfl (sw_true rfl rfl rfl (by decide +kernel)) (pi_range2 (by rfl) B.range (pa_cons pe_int (pa_cons pe_int pa_nil))) (blkOk_by (N := nTold) (sc := defScope (top 39)) (by decide +kernel)) (fun _ _ _ _ _ => pg_name (i := 10) scTold.nd rfl (.inl rfl)) (fun _ _ _ _ _ => pts_one (by exact pt_cmpR op_in_seq (pv 10) (pe_lc (te := tLenP K 11) (own := [("_law_pair", 11)]) (g := gName 11) (tt := tYes) rfl scTold.nd (pi_list (pv 3)) (blkOk_by (N := nTold) (sc := scSize) (by decide +kernel)) (fun _ _ _ _ _ => pg_name (i := 11) scTold.nd rfl (.inl rfl)) (fun _ _ _ _ _ => pts_nil) (fun _ _ _ _ _ => by exact (pe_op op_sub (pe_ix ix_tup (pv 11) pe_int (fun _ _ => rfl)) (pe_ix ix_tup (pv 11) pe_int (fun _ _ => rfl))))) rfl)) (fun _ _ _ _ _ => by exact pv 10))
      (pss_cons (ps_set (i := 6) scTold.nd rfl (.inl rfl) (pe_lst (pa_cons (pv 2) (pa_cons (pe_op op_add (pv 2) pe_int) (pa_cons (pe_callB cr_sortedPO (by rfl) B2.sorted (by decide +kernel) (pa_cons (pv 3) pa_nil)) (pa_cons (pv 4) (pa_cons (pv 5) (pa_cons (pe_callB call_len_seq (by rfl) B.len PySem.boot_len (pa_cons (pv 3) pa_nil)) (pa_cons (pe_callB cr_sortedPO (by rfl) B2.sorted (by decide +kernel) (pa_cons (pv 3) pa_nil)) (pa_cons (pe_callB cr_sortedPO (by rfl) B2.sorted (by decide +kernel) (pa_cons (pv 3) pa_nil)) pa_nil))))))))))
      (pss_cons (ps_for PassesOwn.never rfl (pi_range1 (by rfl) B.range (pa_cons pe_int pa_nil)) (pg_name (i := 7) scTold.nd rfl (.inl rfl)) (pss_cons (ps_set (i := 8) scTold.nd rfl (.inl rfl) (pe_lst (pa_cons (pe_prop (pv 1) F.S.cl q1 G1 r2 b1 .nil pass0 rfl) (pa_cons (pe_prop (pv 1) F.S.cl q2 G2 r2 b2 .nil pass0 rfl) (pa_cons (pe_meth0 (pv 1) F.S.cl q3 G3 r1 b3 .nil pass0) (pa_cons (pe_meth0 (pv 1) F.S.cl q4 G4 r1 b4 .nil pass0) (pa_cons (pe_meth0 (pv 1) F.S.cl q5 G5 r1 b5 .nil pass0) (pa_cons (pe_callB (call_slen F r2) (by rfl) B.len PySem.boot_len (pa_cons (pv 1) pa_nil)) (pa_cons (pe_callTy (call_slist F r4) (by rfl) B2.list bt_list (pa_cons (pv 1) pa_nil)) pa_nil)))))))))
      (pss_cons (ps_expr (pe_bm PySem.F.plainAttrs_list PySem.F.slot_list_append PySem.F.type_list_append mt_append (pv 8) (pa_cons (pe_lc (te := tVar 11) (own := [("_law_pair", 11)]) (g := gName 11) (tt := tYes) rfl scTold.nd (pi_stair F (pv 1) r1) (blkOk_by (N := nTold) (sc := defScope (top 39)) (by decide +kernel)) (fun _ _ _ _ _ => pg_name (i := 11) scTold.nd rfl (.inl rfl)) (fun _ _ _ _ _ => pts_nil) (fun _ _ _ _ _ => by exact pv 11)) pa_nil)))
      (pss_cons (ps_if (pt_cmpR op_ne (pe_callB (call_reprL hgA hu64) (by rfl) B.repr boot_repr (pa_cons (pv 8) pa_nil)) (pe_callB (call_reprL hgA hu64) (by rfl) B.repr boot_repr (pa_cons (pv 6) pa_nil)) (nomark _)) (pss_one (ps_ret pe_bl)) pss_nil)
      (pss_cons (ps_expr (pe_bm PySem.F.plainAttrs_list PySem.F.slot_list_append PySem.F.type_list_append mt_append (pe_ix ix_list (pv 8) pe_int (fun _ _ => rfl)) (pa_cons (pe_tup (pa_cons pe_int (pa_cons pe_int pa_nil))) pa_nil)))
      (pss_cons (ps_expr (pe_bm PySem.F.plainAttrs_list PySem.F.slot_list_pop PySem.F.type_list_pop mt_popAt (pe_ix ix_list (pv 8) pe_int (fun _ _ => rfl)) (pa_cons pe_int pa_nil)))
      (pss_cons (ps_expr (pe_bm PySem.F.plainAttrs_list PySem.F.slot_list_append PySem.F.type_list_append mt_append (pe_ix ix_list (pv 8) pe_int (fun _ _ => rfl)) (pa_cons pe_str pa_nil)))
      (pss_one (ps_expr (pe_bm PySem.F.plainAttrs_list PySem.F.slot_list_append PySem.F.type_list_append mt_append (pe_ix ix_list (pv 8) pe_int (fun _ _ => rfl)) (pa_cons pe_int pa_nil)))))))))))
      (pss_cons (ps_set (i := 9) scTold.nd rfl (.inl rfl) (pe_call GO r3 (by rfl) DO.m DO.F.kp DO.b .nil pass0 (pa_cons (pv 0) (pa_cons (pv 2) (pa_cons (pv 3) pa_nil)))))
      (pss_cons (ps_if (pt_cmpR (op_neD hu64) (pe_lc (te := tOp (rHas P w C) (tVar 12) (tVar 1)) (own := [("_law_thing", 12)]) (g := gName 12) (tt := tYes) rfl scTold.nd (pi_list (pv 9)) (blkOk_by (N := nTold) (sc := defScope (top 39)) (by decide +kernel)) (fun _ _ _ _ _ => pg_name (i := 12) scTold.nd rfl (.inl rfl)) (fun _ _ _ _ _ => pts_nil) (fun _ _ _ _ _ => by exact pe_cmpR (op_has F r1) (pv 12) (pv 1) rfl)) (pe_lc (te := tCall (spThing K) [] E0 (tCons (tVar 2) (tCons (tVar 3) (tCons (tVar 12) tNil)))) (own := [("_law_thing", 12)]) (g := gName 12) (tt := tYes) rfl scTold.nd (pi_list (pv 9)) (blkOk_by (N := nTold) (sc := defScope (top 39)) (by decide +kernel)) (fun _ _ _ _ _ => pg_name (i := 12) scTold.nd rfl (.inl rfl)) (fun _ _ _ _ _ => pts_nil) (fun _ _ _ _ _ => by exact pe_call GT r1 (by rfl) DT.m DT.F.kp DT.b .nil pass0 (pa_cons (pv 2) (pa_cons (pv 3) (pa_cons (pv 12) pa_nil))))) (nomark _)) (pss_one (ps_ret pe_bl)) pss_nil)
      (pss_cons (ps_if (pt_cmpR (op_neD hu64) (pe_lc (te := tSWay P w C (tVar 1) (tCons (tVar 12) tNil)) (own := [("_law_thing", 12)]) (g := gName 12) (tt := tYes) rfl scTold.nd (pi_list (pv 9)) (blkOk_by (N := nTold) (sc := defScope (top 39)) (by decide +kernel)) (fun _ _ _ _ _ => pg_name (i := 12) scTold.nd rfl (.inl rfl)) (fun _ _ _ _ _ => pts_nil) (fun _ _ _ _ _ => by exact pe_sway F (pv 1) r4 (pa_cons (pv 12) pa_nil))) (pe_lc (te := tCall (spRow K) [] E0 (tCons (tVar 2) (tCons (tVar 3) (tCons (tVar 12) tNil)))) (own := [("_law_thing", 12)]) (g := gName 12) (tt := tYes) rfl scTold.nd (pi_list (pv 9)) (blkOk_by (N := nTold) (sc := defScope (top 39)) (by decide +kernel)) (fun _ _ _ _ _ => pg_name (i := 12) scTold.nd rfl (.inl rfl)) (fun _ _ _ _ _ => pts_nil) (fun _ _ _ _ _ => by exact pe_call GW r1 (by rfl) DW.m DW.F.kp DW.b .nil pass0 (pa_cons (pv 2) (pa_cons (pv 3) (pa_cons (pv 12) pa_nil))))) (nomark _)) (pss_one (ps_ret pe_bl)) pss_nil)
      (pss_cons (ps_if (pw_or (pt_not (pt_val (pe_callB (cr_all rfl) (by rfl) B.all boot_all (pa_cons (pe_lc (te := tOp (rHas P w C) (tVar 12) (tVar 1)) (own := [("_law_thing", 12)]) (g := gName 12) (tt := tYes) rfl scTold.nd (pi_list (pv 4)) (blkOk_by (N := nTold) (sc := defScope (top 39)) (by decide +kernel)) (fun _ _ _ _ _ => pg_name (i := 12) scTold.nd rfl (.inl rfl)) (fun _ _ _ _ _ => pts_nil) (fun _ _ _ _ _ => by exact pe_cmpR (op_has F r1) (pv 12) (pv 1) rfl)) pa_nil)))) (pw_or1 (pt_cmpR op_ne (pe_swayK F (pv 1) r4 (pk_cons (pe_ix ix_list (pv 9) (pe_un un_neg pe_int) (fun _ _ => rfl)) pk_nil)) (pe_call GW r1 (by rfl) DW.m DW.F.kp DW.b .nil pass0 (pa_cons (pv 2) (pa_cons (pv 3) (pa_cons (pe_ix ix_list (pv 9) (pe_un un_neg pe_int) (fun _ _ => rfl)) pa_nil)))) (nomark _)))).pt (pss_one (ps_ret pe_bl)) pss_nil)
      (pss_one (ps_ret (pe_cmpR op_eq (pe_callB (call_srepr F r2) (by rfl) B.repr boot_repr (pa_cons (pv 1) pa_nil)) (pe_op op_add_str (pe_op op_add_str (pe_op op_add_str (pe_op op_add_str pe_str (pe_callB SkE.call_repr_int (by rfl) B.repr boot_repr (pa_cons (pv 2) pa_nil))) pe_str) (pe_callB (call_reprL hgA hu64) (by rfl) B.repr boot_repr (pa_cons (pe_callB cr_sortedPO (by rfl) B2.sorted (by decide +kernel) (pa_cons (pv 3) pa_nil)) pa_nil))) pe_str) (nomark _))))))))))), ?_⟩
    have n1 := pt.n1
    have n2 := pt.n2
    have l40 := pt.ln
    have ely := pr.len
    have rl : (rgV 1 (n + 1)).length ≤ 10 := by rw [rgV_length]; omega
    refine seq_set ⟨by show 1 ≤ sizeLine; decide, fun a1 ha1 => ⟨_, rfl, n, 1, rfl, rfl, 1, n + 1, rfl, rfl, RgOk.of_le (by decide) (by omega) (by decide) (by omega), fun a2 ha2 => ?_⟩⟩
    have sa := Same.new (o := .lst [V.str "feet"]) ha1
    have sb := Same.new (o := .lst (rgV 1 (n + 1))) ha2
    refine ⟨a1, a2, _, _, rfl, rfl, sb _ _ upd_same, upd_same, Nat.le_of_lt (small1000 (by simp only [List.length_singleton]; omega)), fun a3 ha3 => ⟨_, rfl, ?_⟩⟩
    have sc := (sa.trans sb).trans (Same.new (o := .lst ([V.str "feet"] ++ rgV 1 (n + 1))) ha3)
    generalize hHc : upd _ a3 _ = Hc at sc
    have ha3c : Hc a3 = some (.lst ([V.str "feet"] ++ rgV 1 (n + 1))) := by rw [← hHc, upd_same]
    dsimp only [tNil]
    refine sortedP_go (K := K) (SqL.of (sc _ _ hl)) (pr.same sc) pt.nd fun y1 a4 pr1 ha4 => ?_
    have sd := sc.trans (Same.new (o := .lst y1) ha4)
    have ly1 : y1.length ≤ 40 := by rw [pr1.len, srt_len]; exact l40
    refine ⟨a3, a4, _, _, rfl, rfl, Same.new ha4 _ _ ha3c, upd_same, Nat.le_of_lt (small1000 (by simp only [List.length_append, List.length_singleton]; omega)), fun nm hnm => ?_⟩
    have s1 := sd.trans (Same.new (o := .lst ([V.str "feet"] ++ rgV 1 (n + 1) ++ y1)) hnm)
    have pr1' : PrsAt (upd (upd Hc a4 (.lst y1)) nm (.lst ([V.str "feet"] ++ rgV 1 (n + 1) ++ y1))) (srt ps) y1 := (pr1.same (Same.new ha4)).same (Same.new hnm)
    generalize hH1 : upd (upd Hc a4 (.lst y1)) nm _ = H1 at s1 pr1'
    have hnm1 : H1 nm = some (.lst (thV n y1)) := by rw [← hH1, upd_same]; simp [thV]
    have hl1 := s1 _ _ hl
    have prs1 := pr.same s1
    refine seq_set ⟨1, 12, rfl, ⟨by decide, by decide, by decide, by decide⟩, fun L hL => lc_it (walk_range (lo := 1) (n := 11)) (fun j H' => Same H1 H' ∧ H' L = some (.lst ((((List.range j).map fun k => ((k + 1 : Nat) : Int)).filter fun k => ps.any fun p => decide (p.2 - p.1 = k)).map V.int))) ⟨Same.new hL, upd_same⟩ (fun _ _ _ _ => trivial) (fun j x H2 H3 hj inv y => ?_) fun H2 inv => ?_⟩
    · obtain ⟨sm, hz⟩ := inv
      obtain ⟨rfl, hv⟩ := y
      have hv : x = V.int ((j + 1 : Nat) : Int) := hv.trans (by show V.int (1 + (j : Int)) = _; congr 1; omega)
      subst hv
      refine ⟨rfl, ⟨_, rfl, ?_⟩⟩
      refine lens_go (K := K) (a := l) (ps := ps) (ys := ys) (by rfl) (by show 11 < 13; decide) (sm _ _ hl1) (prs1.same sm) (by omega) fun H4 D4 s4 hD4 => ?_
      refine ⟨D4, _, rfl, .inl (SqL.of hD4), rfl, flat_ints _, _, rfl, ?_⟩
      have ef : inV (V.int ((j + 1 : Nat) : Int)) ((ps.map fun p => p.2 - p.1).map V.int) = ps.any fun p => decide (p.2 - p.1 = ((j + 1 : Nat) : Int)) := by
        rw [inV_ints, Bool.eq_iff_iff, decide_eq_true_eq, List.any_eq_true, List.mem_map]
        exact exists_congr fun p => and_congr_right fun _ => by rw [decide_eq_true_eq]
      show if inV (V.int ((j + 1 : Nat) : Int)) ((ps.map fun p => p.2 - p.1).map V.int) = true then _ else _
      rw [ef]
      have lf : ((((List.range j).map fun k => ((k + 1 : Nat) : Int)).filter fun k => ps.any fun p => decide (p.2 - p.1 = k)).map V.int).length ≤ 11 := by
        rw [List.length_map]
        refine Nat.le_trans (List.length_filter_le _ _) ?_
        rw [List.length_map, List.length_range]
        omega
      refine ite2 (fun c => ?_) (fun c => ?_)
      · refine ⟨_, rfl, _, s4 _ _ hz, small1000 (by omega), fun b u e => ?_, ?_⟩
        · rw [upd_ne (ne_of_none e hL)]
          exact s4 _ _ (sm _ _ e)
        · rw [upd_same, List.range_succ, List.map_append, List.filter_append, List.map_append, List.map_singleton, List.filter_cons, if_pos c]
          rfl
      · refine ⟨sm.trans s4, ?_⟩
        rw [List.range_succ, List.map_append, List.filter_append, List.map_append, List.map_singleton, List.filter_cons, if_neg c]
        rw [List.filter_nil, List.map_nil, List.append_nil]
        exact s4 _ _ hz
    · obtain ⟨s2, hL2⟩ := inv
      change H2 L = some (.lst ((lensOf ps).map V.int)) at hL2
      have hl2 := s2 _ _ hl1
      have prs2 := prs1.same s2
      have hnm2 := s2 _ _ hnm1
      refine seq_set ⟨_, rfl, _, rfl, _, _, rfl, rfl, _, rfl, ?_⟩
      dsimp only [tNil]
      refine sortedP_go (K := K) (SqL.of hl2) prs2 pt.nd fun y2 b1 pb1 hb1 => ?_
      have t1 := Same.new (o := .lst y2) hb1
      refine ⟨_, rfl, _, rfl, _, rfl, l, ys, rfl, .inl (SqL.of (t1 _ _ hl2)), _, rfl, ?_⟩
      dsimp only [tNil]
      refine sortedP_go (K := K) (SqL.of (t1 _ _ hl2)) (prs2.same t1) pt.nd fun y3 b2 pb2 hb2 => ⟨_, rfl, ?_⟩
      have t2 := t1.trans (Same.new (o := .lst y3) hb2)
      dsimp only [tNil]
      refine sortedP_go (K := K) (SqL.of (t2 _ _ hl2)) (prs2.same t2) pt.nd fun y4 b3 pb3 hb3 => ?_
      have t3 := t2.trans (Same.new (o := .lst y4) hb3)
      refine ⟨Nat.le_of_lt (small1000 (show 8 ≤ 1000 by decide)), fun du hdu => ?_⟩
      have t4 := t3.trans (Same.new (o := .lst [V.int n, V.int (n + 1), .ref b1, .ref nm, .ref L, .int (ys.length : Nat), .ref b2, .ref b3]) hdu)
      have due : DqAll (upd (upd (upd (upd H2 b1 (.lst y2)) b2 (.lst y3)) b3 (.lst y4)) du (.lst [V.int n, V.int (n + 1), .ref b1, .ref nm, .ref L, .int (ys.length : Nat), .ref b2, .ref b3])) [V.int n, V.int (n + 1), .ref b1, .ref nm, .ref L, .int (ys.length : Nat), .ref b2, .ref b3] (dueD n (srt ps)) := by
        have u2 := Same.new (o := .lst y3) hb2
        have u3 := Same.new (o := .lst y4) hb3
        have u4 := Same.new (o := .lst [V.int n, V.int (n + 1), .ref b1, .ref nm, .ref L, .int (ys.length : Nat), .ref b2, .ref b3]) hdu
        have e6 : (ys.length : Int) = ((srt ps).length : Int) := by rw [srt_len, ely]
        refine .cons (.int n) (.cons (.int _) (.cons (.lst (u4 _ _ (u3 _ _ (u2 _ _ upd_same))) (prs_dq (pb1.same (((Same.new hb1).trans u2).trans (u3.trans u4))))) (.cons (.lst (t4 _ _ hnm2) (th_dq ((pr1'.same s2).same t4))) (.cons (.lst (t4 _ _ (show H2 L = some (.lst ((lensOf (srt ps)).map V.int)) by rw [lensOf_srt]; exact hL2)) (ints_dq _)) (.cons (by rw [e6]; exact .int _) (.cons (.lst (u4 _ _ (u3 _ _ upd_same)) (prs_dq (pb2.same ((Same.new hb2).trans (u3.trans u4))))) (.cons (.lst (u4 _ _ upd_same) (prs_dq (pb3.same ((Same.new hb3).trans u4)))) .nil)))))))
      generalize hH3 : upd (upd (upd (upd H2 b1 (.lst y2)) b2 (.lst y3)) b3 (.lst y4)) du _ = H3 at t4 due
      have hdu3 : H3 du = some (.lst [V.int n, V.int (n + 1), .ref b1, .ref nm, .ref L, .int (ys.length : Nat), .ref b2, .ref b3]) := by rw [← hH3, upd_same]
      have s3 : Same H H3 := (s1.trans s2).trans t4
      have st3 := st.same s3
      have pts := pt.srt
      refine ⟨2, rfl, by decide, by decide, for_it (walk_range (lo := 0) (n := 2)) (fun i σ H' => (∃ v7 v8, σ = [some (.ref p), some (.ref s), some (.int n), some (.ref l), some (.ref nm), some (.ref L), some (.ref du), v7, v8, none, none, none, none]) ∧ Same H3 H') ⟨⟨_, _, rfl⟩, fun _ _ e => e⟩ (fun _ _ _ _ _ => trivial) (fun i v σ H4 H5 hi inv y => ?_) fun σ H4 inv => ?_⟩
      · obtain ⟨⟨v7, v8, rfl⟩, s4⟩ := inv
        obtain ⟨rfl, rfl⟩ := y
        have st4 := st3.same s4
        obtain ⟨dx, fs, hs, nl⟩ := st4.ins
        have lq : (srt ps).length ≤ 1000 := by rw [srt_len]; omega
        refine seq_set ⟨_, rfl, s, dx, fs, rfl, hs, s, n, srt ps, rfl, st4, _, rfl, s, dx, fs, rfl, hs, s, n, srt ps, rfl, st4, _, rfl, s, dx, fs, rfl, hs, nl _ (by decide) (by decide) (by decide) (by decide), s, n, srt ps, rfl, st4, fun lj yj hlj pj => ?_⟩
        have c1 := Same.new (o := .lst yj) hlj
        refine ⟨_, rfl, s, dx, fs, rfl, c1 _ _ hs, nl _ (by decide) (by decide) (by decide) (by decide), s, n, srt ps, rfl, st4.same c1, fun lt yt hlt pth => ?_⟩
        have c2' := Same.new (o := .lst (thV n yt)) hlt
        have c2 := c1.trans c2'
        refine ⟨_, rfl, s, dx, fs, rfl, c2 _ _ hs, nl _ (by decide) (by decide) (by decide) (by decide), s, n, srt ps, rfl, st4.same c2, pts, fun H6 ll sm6 hll hll6 => ?_⟩
        have c3 := c2.trans sm6
        refine ⟨_, rfl, s, n, srt ps, rfl, st4.same c3, lq, _, rfl, s, n, srt ps, rfl, st4.same c3, lq, fun li yi hli pi => ?_⟩
        have c4' := Same.new (o := .lst yi) hli
        have c4 := c3.trans c4'
        refine ⟨Nat.le_of_lt (small1000 (show 7 ≤ 1000 by decide)), fun T hT => ?_⟩
        have c5' := Same.new (o := .lst [V.int n, V.int (n + 1), .ref lj, .ref lt, .ref ll, .int ((srt ps).length : Nat), .ref li]) hT
        have c5 := c4.trans c5'
        generalize hH7 : upd (upd H6 li (.lst yi)) T _ = H7 at c5' c5
        have hT7 : H7 T = some (.lst [V.int n, V.int (n + 1), .ref lj, .ref lt, .ref ll, .int ((srt ps).length : Nat), .ref li]) := by rw [← hH7, upd_same]
        have k6 : Same H6 H7 := c4'.trans c5'
        have hlj7 : H7 lj = some (.lst yj) := k6 _ _ (sm6 _ _ (c2' _ _ upd_same))
        have hlt7 : H7 lt = some (.lst (thV n yt)) := k6 _ _ (sm6 _ _ upd_same)
        have hll7 : H7 ll = some (.lst ((lensOf (srt ps)).map V.int)) := k6 _ _ hll6
        have hli7 : H7 li = some (.lst yi) := c5' _ _ upd_same
        have pj7 : PrsAt H7 (srt ps) yj := pj.same c5
        have pt7 : PrsAt H7 (srt ps) yt := pth.same (c2'.trans (sm6.trans k6))
        have pi7 : PrsAt H7 (srt ps) yi := pi.same (c4'.trans c5')
        have nT : ∀ {b : Addr} {o : HO}, upd H6 li (.lst yi) b = some o → b ≠ T := fun e => ne_of_none e hT
        have ljT : lj ≠ T := nT (c4' _ _ (sm6 _ _ (c2' _ _ upd_same)))
        have ltT : lt ≠ T := nT (c4' _ _ (sm6 _ _ upd_same))
        have llT : ll ≠ T := nT (c4' _ _ hll6)
        have jt : lj ≠ lt := ne_of_none (upd_same (H := H5)) hlt
        have jl' : lj ≠ ll := ne_of_none (c2' _ _ (upd_same (H := H5))) hll
        have tl' : lt ≠ ll := ne_of_none (upd_same (H := upd H5 lj (.lst yj))) hll
        have hT0 : H5 T = none := c4.free hT
        have hlt0 : H5 lt = none := c1.free hlt
        have hll0 : H5 ll = none := c2.free hll
        refine seq_ex ⟨_, rfl, .inl ⟨rfl, _, SqL.of hT7⟩, _, rfl, s, n, srt ps, rfl, st4.same c5, fun jl yl hjl pjl D hD => lc_it (walk_list (xs := yl)) (fun j H' => Same H7 H' ∧ H' D = some (.lst (yl.take j))) ⟨Same.new hD, upd_same⟩ (fun j H' _ h => Same.seq h.1 (SqL.of hjl)) (fun j x H8 H9 hj inv2 y2 => ?_) fun H8 inv2 => ?_⟩
        · obtain ⟨sm, hz⟩ := inv2
          obtain ⟨rfl, hx⟩ := y2
          have ll2 := pjl.len
          refine ⟨rfl, yes_go (iteT ⟨x, rfl, _, hz, small1000 (by rw [List.length_take]; omega), fun b u e => ?_, ?_⟩)⟩
          · rw [upd_ne (ne_of_none e hD)]
            exact sm _ _ e
          · rw [upd_same, take_succ_of hx]
        · obtain ⟨s8, hD8⟩ := inv2
          rw [List.take_length] at hD8
          refine ⟨T, _, _, rfl, rfl, s8 _ _ hT7, small1000 (show 7 ≤ 1000 by decide), ?_⟩
          have DT : D ≠ T := (ne_of_none hT7 hD).symm
          have told : DqAll (upd H8 T (.lst ([V.int n, V.int (n + 1), .ref lj, .ref lt, .ref ll, .int ((srt ps).length : Nat), .ref li] ++ [.ref D]))) ([V.int n, V.int (n + 1), .ref lj, .ref lt, .ref ll, .int ((srt ps).length : Nat), .ref li] ++ [.ref D]) (dueD n (srt ps)) := by
            have liT : li ≠ T := nT upd_same
            have pz : ∀ {zs : List V}, PrsAt H7 (srt ps) zs → PrsAt (upd H8 T (.lst ([V.int n, V.int (n + 1), .ref lj, .ref lt, .ref ll, .int ((srt ps).length : Nat), .ref li] ++ [.ref D]))) (srt ps) zs := fun h => PrsAt.lst (s8 _ _ hT7) (h.same s8)
            refine .cons (.int n) (.cons (.int _) (.cons (.lst (by rw [upd_ne ljT]; exact s8 _ _ hlj7) (prs_dq (pz pj7))) (.cons (.lst (by rw [upd_ne ltT]; exact s8 _ _ hlt7) (th_dq (pz pt7))) (.cons (.lst (by rw [upd_ne llT]; exact s8 _ _ hll7) (ints_dq _)) (.cons (.int _) (.cons (.lst (by rw [upd_ne liT]; exact s8 _ _ hli7) (prs_dq (pz pi7))) (.cons (.lst (by rw [upd_ne DT]; exact hD8) (prs_dq (pz pjl))) .nil)))))))
          have hT9 : upd H8 T (.lst ([V.int n, V.int (n + 1), .ref lj, .ref lt, .ref ll, .int ((srt ps).length : Nat), .ref li] ++ [.ref D])) T = some (.lst ([V.int n, V.int (n + 1), .ref lj, .ref lt, .ref ll, .int ((srt ps).length : Nat), .ref li] ++ [.ref D])) := upd_same
          have s9 : Same H5 (upd H8 T (.lst ([V.int n, V.int (n + 1), .ref lj, .ref lt, .ref ll, .int ((srt ps).length : Nat), .ref li] ++ [.ref D]))) := fun b u e => by
            rw [upd_ne (ne_of_none e hT0)]
            exact s8 _ _ (c5 _ _ e)
          have hlj9 : upd H8 T (.lst ([V.int n, V.int (n + 1), .ref lj, .ref lt, .ref ll, .int ((srt ps).length : Nat), .ref li] ++ [.ref D])) lj = some (.lst yj) := by rw [upd_ne ljT]; exact s8 _ _ hlj7
          have hlt9 : upd H8 T (.lst ([V.int n, V.int (n + 1), .ref lj, .ref lt, .ref ll, .int ((srt ps).length : Nat), .ref li] ++ [.ref D])) lt = some (.lst (thV n yt)) := by rw [upd_ne ltT]; exact s8 _ _ hlt7
          have hll9 : upd H8 T (.lst ([V.int n, V.int (n + 1), .ref lj, .ref lt, .ref ll, .int ((srt ps).length : Nat), .ref li] ++ [.ref D])) ll = some (.lst ((lensOf (srt ps)).map V.int)) := by rw [upd_ne llT]; exact s8 _ _ hll7
          generalize upd H8 T (.lst ([V.int n, V.int (n + 1), .ref lj, .ref lt, .ref ll, .int ((srt ps).length : Nat), .ref li] ++ [.ref D])) = H9 at *
          have lyj := pj.len
          have lyt := pth.len
          have ll11 := lens_len (srt ps)
          refine ⟨_, rfl, ?_⟩
          dsimp only [tNil]
          refine rep_read hT9 told (shw_due pts) (by show 8 ≤ 1000; decide) ⟨_, rfl, ?_⟩
          dsimp only [tNil]
          refine rep_read ((s4.trans s9) _ _ hdu3) (DqAll.same (s4.trans s9) due) (shw_due pts) (by show 8 ≤ 1000; decide) ⟨rfl, _, rfl, ?_⟩
          rw [decide_eq_true rfl]
          refine iteF ?_
          dsimp only [tNext]
          rw [srt_len] at lyj lyt
          -- told[2].append((0, 0))
          refine seq_ex ⟨_, rfl, T, _, 2, _, rfl, rfl, SqL.of hT9, rfl, .inl ⟨rfl, _, SqL.of hlj9⟩, Nat.le_of_lt (small1000 (show 2 ≤ 1000 by decide)), fun t0 ht0 => ⟨lj, yj, _, rfl, rfl, Same.new ht0 _ _ hlj9, small1000 (by omega), ?_⟩⟩
          have x1 := Same.new (o := .tup [V.int 0, V.int 0]) ht0
          have hT10 := x1 _ _ hT9
          have hlt10 := x1 _ _ hlt9
          have hll10 := x1 _ _ hll9
          have s10 := s9.trans x1
          generalize upd H9 t0 (.tup [V.int 0, V.int 0]) = H10 at *
          generalize hE : V.ref t0 = vt0
          have y1T : upd H10 lj (.lst (yj ++ [vt0])) T = _ := (upd_ne (Ne.symm ljT)).trans hT10
          have y1t : upd H10 lj (.lst (yj ++ [vt0])) lt = _ := (upd_ne (Ne.symm jt)).trans hlt10
          have y1l : upd H10 lj (.lst (yj ++ [vt0])) ll = _ := (upd_ne (Ne.symm jl')).trans hll10
          have y1s : ∀ {b : Addr} {u : HO}, H3 b = some u → upd H10 lj (.lst (yj ++ [vt0])) b = some u := fun {b u} e => by
            have e5 := s4 _ _ e
            rw [upd_ne (ne_of_none e5 hlj)]
            exact s10 _ _ e5
          generalize upd H10 lj (.lst (yj ++ [vt0])) = H11 at *
          -- told[3].pop(0)
          refine seq_ex ⟨_, rfl, T, _, 3, _, rfl, rfl, SqL.of y1T, rfl, .inl ⟨rfl, _, SqL.of y1t⟩, lt, thV n yt, 0, 0, .str "feet", rfl, rfl, y1t, by decide, by decide, seqIndex_of (by decide) (by unfold thV; rw [List.length_cons]; omega), rfl, ?_⟩
          have le12 : ((thV n yt).eraseIdx 0).length ≤ 900 := by
            refine Nat.le_trans (List.length_eraseIdx_le _ _) ?_
            unfold thV
            rw [List.length_cons, List.length_append]
            omega
          generalize (thV n yt).eraseIdx 0 = z12 at *
          have y2T : upd H11 lt (.lst z12) T = _ := (upd_ne (Ne.symm ltT)).trans y1T
          have y2t : upd H11 lt (.lst z12) lt = some (.lst z12) := upd_same
          have y2l : upd H11 lt (.lst z12) ll = _ := (upd_ne (Ne.symm tl')).trans y1l
          have y2s : ∀ {b : Addr} {u : HO}, H3 b = some u → upd H11 lt (.lst z12) b = some u := fun {b u} e => (upd_ne (ne_of_none (s4 _ _ e) hlt0)).trans (y1s e)
          generalize upd H11 lt (.lst z12) = H12 at *
          -- told[3].append("q")
          refine seq_ex ⟨_, rfl, T, _, 3, _, rfl, rfl, SqL.of y2T, rfl, .inl ⟨rfl, _, SqL.of y2t⟩, lt, _, _, rfl, rfl, y2t, small1000 (by omega), ?_⟩
          have y3T : upd H12 lt (.lst (z12 ++ [V.str "q"])) T = _ := (upd_ne (Ne.symm ltT)).trans y2T
          have y3l : upd H12 lt (.lst (z12 ++ [V.str "q"])) ll = _ := (upd_ne (Ne.symm tl')).trans y2l
          have y3s : ∀ {b : Addr} {u : HO}, H3 b = some u → upd H12 lt (.lst (z12 ++ [V.str "q"])) b = some u := fun {b u} e => (upd_ne (ne_of_none (s4 _ _ e) hlt0)).trans (y2s e)
          generalize upd H12 lt (.lst (z12 ++ [V.str "q"])) = H13 at *
          -- told[4].append(77)
          refine ⟨_, rfl, T, _, 4, _, rfl, rfl, SqL.of y3T, rfl, .inl ⟨rfl, _, SqL.of y3l⟩, ll, _, _, rfl, rfl, y3l, small1000 (by rw [List.length_map]; omega), ⟨_, _, rfl⟩, fun b u e => ?_⟩
          rw [upd_ne (ne_of_none (s4 _ _ e) hll0)]
          exact y3s e
      · obtain ⟨⟨v7, v8, rfl⟩, s4⟩ := inv
        have sH : Same H H4 := s3.trans s4
        have P4 := hP.same sH
        have hl4 := sH _ _ hl
        have pr4 := pr.same sH
        dsimp only
        refine seq_set ⟨_, rfl, _, rfl, _, rfl, p, l, n, ps, ys, rfl, P4, hl4, nlp, pr4, l40, n1, n2, fun H5 o zs is b5 P5 ho dz i1 i2 => ?_⟩
        have bH : But p H H5 := Same.but sH b5
        have st5 := stair_but st hP bH
        have hl5 := b5 _ _ nlp hl4
        have pr5 := prs_but P4 b5 pr4
        have fin := fine_odd (is := is) n1 n2 i2
        have lz : (oddD n is).length ≤ 1000 := by rw [odd_len]; decide
        have eqB : ∀ (bs : List Bool) (A B : Prop), B → if (!PyData.eqv (.list (bs.map PyData.bool)) (.list (bs.map PyData.bool))) = true then A else B := fun bs A B h => by
          rw [show PyData.eqv (.list (bs.map PyData.bool)) (.list (bs.map PyData.bool)) = true from bools_eqv bs]
          exact iteF h
        refine seq_if ?_
        dsimp only [tTest, tOp, List.map]
        refine map_go (K := K) (a := o) (vs := zs) (ds := oddD n is) (isIn n ps) (by rfl) (by show 12 < 13; decide) ho dz lz (fun H' x d hd sm dq Q' kq => ?_) fun H6 D6 s6 hD6 => ?_
        · exact ⟨x, rfl, _, rfl, s, n, srt ps, d, rfl, st5.same sm, n1, dq, (fin d hd).sh.o, fun H2 s2 => by rw [isIn_srt]; exact kq H2 s2⟩
        refine map_go (K := K) (a := o) (vs := zs) (ds := oddD n is) (isIn n ps) (by rfl) (by show 12 < 13; decide) (s6 _ _ ho) (DqAll.same s6 dz) lz (fun H' x d hd sm dq Q' kq => ?_) fun H7 D7 s7 hD7 => ?_
        · exact ⟨_, rfl, _, rfl, x, rfl, n, l, x, d, ps, ys, rfl, sm _ _ (s6 _ _ hl5), (pr5.same s6).same sm, dq, (fin d hd).sh, kq⟩
        refine ⟨_, _, bools_dp (s7 _ _ hD6), bools_dp hD7, bools_shaped _, bools_shaped _, _, rfl, eqB _ _ _ ?_⟩
        dsimp only [tNext]
        have s57 := s6.trans s7
        refine seq_if ?_
        dsimp only [tTest, tOp, List.map]
        refine map_go (K := K) (a := o) (vs := zs) (ds := oddD n is) (isWay n ps) (by rfl) (by show 12 < 13; decide) (s57 _ _ ho) (DqAll.same s57 dz) lz (fun H' x d hd sm dq Q' kq => ?_) fun H8 D8 s8 hD8 => ?_
        · exact ⟨_, rfl, s, rfl, x, rfl, n, srt ps, x, d, rfl, (st5.same s57).same sm, dq, fun H2 s2 => by rw [isWay_srt]; exact kq H2 s2⟩
        have s58 := s57.trans s8
        refine map_go (K := K) (a := o) (vs := zs) (ds := oddD n is) (isWay n ps) (by rfl) (by show 12 < 13; decide) (s58 _ _ ho) (DqAll.same s58 dz) lz (fun H' x d hd sm dq Q' kq => ?_) fun H9 D9 s9 hD9 => ?_
        · exact ⟨_, rfl, _, rfl, x, rfl, n, l, x, d, ps, ys, rfl, sm _ _ (s58 _ _ hl5), (pr5.same s58).same sm, dq, (fin d hd).sh, (fin d hd).ln, kq⟩
        refine ⟨_, _, bools_dp (s9 _ _ hD8), bools_dp hD9, bools_shaped _, bools_shaped _, _, rfl, eqB _ _ _ ?_⟩
        dsimp only [tNext]
        have s59 := s58.trans s9
        have nnp : nm ≠ p := fun z => by
          obtain ⟨a, b, e, _⟩ := hP.same s1
          rw [z, e] at hnm1
          injection hnm1 with hnm1
          injection hnm1 with hnm1
          injection hnm1 with hnm1 _
          cases hnm1
        have h14 : Same H1 H4 := (s2.trans t4).trans s4
        have P1 := hP.same s1
        have b15 : But p H1 H5 := Same.but h14 b5
        have hnm9 : H9 nm = some (.lst (thV n y1)) := s59 _ _ (b15 _ _ nnp hnm1)
        have th9 : DqAll H9 (thV n y1) (thD n (srt ps)) := th_dq ((prs_but P1 b15 pr1').same s59)
        have lth : (thD n (srt ps)).length ≤ 1000 := by
          rw [← dqa_len th9]
          unfold thV
          rw [List.length_cons, List.length_append]
          omega
        have finT : ∀ d ∈ thD n (srt ps), Dq H9 (.int 0) (.int 0) ∧ OkD d := fun d m => by
          refine ⟨.int 0, ?_⟩
          unfold thD at m
          rcases List.mem_cons.mp m with rfl | m
          · exact (Fine.str (by decide +kernel)).sh.o
          · rcases List.mem_append.mp m with m | m
            · unfold rgD at m
              obtain ⟨i, _, rfl⟩ := List.mem_map.mp m
              exact ⟨fun x e => (by cases e), fun i e => (by cases e)⟩
            · obtain ⟨q, _, rfl⟩ := List.mem_map.mp m
              exact ⟨fun x e => (by cases e), fun i e => (by cases e)⟩
        refine or_go ?_
        dsimp only [tNot, tB, tCB, tCons, tNil, List.map]
        refine map_go (K := K) (a := nm) (vs := thV n y1) (ds := thD n (srt ps)) (isIn n ps) (by rfl) (by show 12 < 13; decide) hnm9 th9 lth (fun H' x d hd sm dq Q' kq => ?_) fun H10 D10 s10 hD10 => ?_
        · exact ⟨x, rfl, _, rfl, s, n, srt ps, d, rfl, (st5.same s59).same sm, n1, dq, (finT d hd).2, fun H2 s2 => by rw [isIn_srt]; exact kq H2 s2⟩
        have lodd : zs.length = 44 := by rw [dqa_len dz, odd_len]
        have h40 : zs[zs.length - 4]? = some (zs[zs.length - 4]'(by omega)) := List.getElem?_eq_getElem _
        obtain ⟨d4, hd4, dq4⟩ := dqa_get dz h40
        have fin4 := fin d4 (List.mem_of_getElem? hd4)
        have at4 := at_neg (k := 4) (by decide) h40 (by omega)
        have s510 := s59.trans s10
        refine ⟨D10, (thD n (srt ps)).map (isIn n ps), rfl, SqL.of hD10, _, rfl, ?_⟩
        rw [List.all_map]
        rw [show (thD n (srt ps)).all (id ∘ isIn n ps) = true from all_things]
        refine iteF ?_
        refine ⟨_, rfl, s, rfl, _, rfl, 4, rfl, o, zs, -4, _, rfl, rfl, SqL.of (s510 _ _ ho), at4, n, srt ps, _, d4, rfl, st5.same s510, dq4.same s510, fun H11 s11 => ?_⟩
        have s511 := s510.trans s11
        refine ⟨_, rfl, _, rfl, _, rfl, 4, rfl, o, zs, -4, _, rfl, rfl, SqL.of (s511 _ _ ho), at4, n, l, _, d4, ps, ys, rfl, s511 _ _ hl5, pr5.same s511, dq4.same s511, fin4.sh, fin4.ln, fun H12 s12 => ⟨rfl, _, rfl, ?_⟩⟩
        rw [isWay_srt, decide_eq_true rfl]
        refine iteF ?_
        dsimp only [tNext]
        have s512 := s511.trans s12
        have st12 := st5.same s512
        have l12 := s512 _ _ hl5
        have pr12 := pr5.same s512
        have la : (("Stair(" : String) : Str).length = 6 := rfl
        have lb : ((", " : String) : Str).length = 2 := rfl
        have lc : ((")" : String) : Str).length = 1 := rfl
        have ld := int_txt (i := n) (by omega) (by omega)
        rw [PyData.shown_int] at ld
        refine ret_go ⟨_, rfl, s, n, srt ps, rfl, st12, pts, fun H13 s13 => ?_⟩
        refine ⟨_, rfl, n, rfl, ?_, _, _, rfl, rfl, szl (by omega), _, _, rfl, rfl, szl (by rw [strLen_append]; omega), _, rfl, ?_⟩
        · rw [show n = ((n.toNat : Nat) : Int) from by omega]
          exact log_small n.toNat (by omega)
        dsimp only [tNil]
        refine sortedP_go (K := K) (SqL.of (s13 _ _ l12)) (pr12.same s13) pt.nd fun y5 a5 pr5' ha5 => ?_
        have pr5s : PrsAt (upd H13 a5 (.lst y5)) (srt ps) y5 := pr5'.same (Same.new ha5)
        have okq : ∀ q ∈ srt ps, okJ 10 q := fun q m => okJ10 (pts.ok q m) n2
        have shq := sh_list (sh_prs okq) (by rw [List.length_map, srt_len]; omega)
        have lt := shq.l
        have sq' := shq.s
        have dq' := shq.d
        simp only [PyData.shown] at lt
        simp only [PyData.showable] at sq'
        simp only [PyData.depth] at dq'
        refine ⟨a5, y5, (srt ps).map pairD, rfl, upd_same, prs_dq pr5s, sq', by omega, szl (Nat.le_trans lt (by decide)), _, _, rfl, rfl, szl ?_, _, _, rfl, rfl, szl ?_, rfl, ?_⟩
        · rw [strLen_append, strLen_append]
          omega
        · rw [strLen_append, strLen_append, strLen_append]
          omega
        rw [stair_text, decide_eq_true rfl]
        refine k _ (bH.same ((s512.trans s13).trans (Same.new ha5))) (P5.same ((s512.trans s13).trans (Same.new ha5)))
end
end K12

set_option Elab.async false
set_option linter.all false
set_option maxRecDepth 100000
set_option maxHeartbeats 8000000
namespace K12
open PySem PySem.Spec PyProof.Rows L2 MX NZ SM
section
variable {K : W.Frag}
/-- the list at a is gone through -/
def iAt (K : W.Frag) (a : Addr) : TI := fun _ H R => R (Itl K a) H
theorem lc_call {te te' : TE} {g : TG} {tt : TT} {vs : List Nat} {Q : VK} {σ : L2.St} {H : Hp} (h : te σ H fun x H1 => ∃ a, x = .ref a ∧ (∃ xs, SqL K H1 a xs) ∧ tLc (iAt K a) g tt te' vs σ H1 Q) : tLc (iList K te) g tt te' vs σ H Q := h
theorem sub_at {i : Nat} {a p : Addr} {ps : List Pr} {ys : List V} {σ : L2.St} {H : Hp} {Q : VK} {tt : TT} (R : Pr → Bool → Prop) (hi : i < σ.length) (ha : H a = some (.lst ys)) (pr : PrsAt H ps ys) (hP : Pot H p) (nap : a ≠ p) (ln : ys.length ≤ 1000)
    (ht : ∀ H' q v, q ∈ ps → PrAt H' q v → But p H H' → Pot H' p → ∀ Q' : Bool → Hp → Prop, (∀ b H2, R q b → But p H' H2 → Pot H2 p → Q' b H2) → tt ((wipe σ [i]).set i (some v)) H' Q')
    (k : ∀ H' D zs qs, But p H H' → Pot H' p → H D = none → H' D = some (.lst zs) → PrsAt H' qs zs → Flt R ps qs → Q (.ref D) H') : tLc (iAt K a) (gName i) tt (tVar i) [i] σ H Q := by
  refine fun D hD => lc_it (walk_list (xs := ys)) (fun j H' => But p H H' ∧ Pot H' p ∧ ∃ zs qs, H' D = some (.lst zs) ∧ zs.length ≤ j ∧ PrsAt H' qs zs ∧ Flt R (ps.take j) qs) ?_ (fun j H' _ h => SqL.of (h.1 _ _ nap ha)) (fun j x H2 H3 hj inv y => ?_) fun H2 inv => ?_
  · have sn := Same.new (o := .lst []) hD
    exact ⟨fun b o _ e => sn _ _ e, hP.same sn, _, _, upd_same, Nat.le_refl _, .nil, .nil⟩
  · obtain ⟨bt, hP2, zs, qs, hz, lz, pz, fl⟩ := inv
    obtain ⟨rfl, hx⟩ := y
    obtain ⟨q, hq, hv⟩ := pr.get hx
    have hv3 : PrAt H3 q x := by
      obtain ⟨b, e, t⟩ := hv
      obtain ⟨c, d, hp, _⟩ := hP
      exact ⟨b, e, bt _ _ (ne_of t hp nofun) t⟩
    have npD : D ≠ p := pot_ne hP hD
    show (fun σ2 H2 => _) ((wipe σ [i]).set i (some x)) H3
    refine ⟨by simp [wipe], ht _ q x (List.mem_of_getElem? hq) hv3 bt hP2 _ fun b H4 rb b4 p4 => ?_⟩
    have hz4 := b4 _ _ npD hz
    have pz4 := prs_but hP2 b4 pz
    have hv4 : PrAt H4 q x := by
      obtain ⟨b', e, t⟩ := hv3
      obtain ⟨c, d, hp, _⟩ := hP2
      exact ⟨b', e, b4 _ _ (ne_of t hp nofun) t⟩
    have fl2 := Flt.snoc rb fl
    rw [← take_succ_of hq] at fl2
    cases b with
    | true =>
      refine iteT ⟨x, by simp [wipe, hi], zs, hz4, small1000 (by omega), fun b' o nb e => ?_, ?_, _, _, upd_same, by rw [List.length_append]; simp; omega, PrsAt.lst hz4 (papp pz4 (.cons hv4 .nil)), fl2⟩
      · rw [upd_ne (ne_of_none e hD)]
        exact b4 _ _ nb (bt _ _ nb e)
      · obtain ⟨c, d, e, r⟩ := p4
        exact ⟨c, d, by rw [upd_ne (Ne.symm npD)]; exact e, r⟩
    | false =>
      refine iteF ⟨bt.trans b4, p4, zs, qs, hz4, by omega, pz4, ?_⟩
      rw [show (if false = true then [q] else []) = ([] : List Pr) from rfl, List.append_nil] at fl2
      exact fl2
  · obtain ⟨bt, hP2, zs, qs, hz, lz, pz, fl⟩ := inv
    rw [show ys.length = ps.length from pr.len, List.take_length] at fl
    exact k _ D zs qs bt hP2 hD hz pz fl
end
/-- the ints of a list of ints in another turn -/
theorem perm_ints {is : List Int} {zs : List V} (h : zs.Perm (is.map V.int)) : ∃ js : List Int, zs = js.map V.int ∧ js.Perm is := by
  let f : V → Int := fun v => match v with
    | .int i => i
    | _ => 0
  have e1 : ∀ l : List Int, (l.map V.int).map f = l := fun l => by
    induction l with
    | nil => rfl
    | cons a r ih => rw [List.map_cons, List.map_cons, ih]
  refine ⟨zs.map f, ?_, by have := h.map f; rw [e1] at this; exact this⟩
  rw [List.map_map]
  have : ∀ v ∈ zs, (V.int ∘ f) v = v := fun v m => by
    obtain ⟨i, _, rfl⟩ := List.mem_map.mp (h.mem_iff.mp m)
    rfl
  exact ((List.map_congr_left (g := fun x => x) this).trans (List.map_id' zs)).symm
theorem cut_to {xs : List V} {k : Int} (h0 : 0 ≤ k) (h : k ≤ xs.length) : cutV xs none (some k) = xs.take k.toNat := by
  unfold cutV
  rw [HT.sIx_none]
  obtain ⟨j, rfl⟩ := Int.eq_ofNat_of_zero_le h0
  rw [HT.sIx_nat, List.drop_zero, Nat.sub_zero, Int.toNat_natCast, Nat.min_eq_left (by omega)]
/-- the jumps of these lengths are those of all jumps that have such a length -/
theorem of_filter {n : Int} {ls : List Int} (ok : ∀ l ∈ ls, 1 ≤ l ∧ l ≤ 11) (p : Pr) : p ∈ ofList n ls ↔ p ∈ (everyL n).filter fun q => decide (q.2 - q.1 ∈ ls) := by
  rw [mem_of, List.mem_filter, mem_every, decide_eq_true_eq]
  constructor
  · rintro ⟨l, m, a, b, c⟩
    have := ok l m
    refine ⟨⟨a, by omega, by omega⟩, ?_⟩
    rw [show p.2 - p.1 = l from by omega]
    exact m
  · rintro ⟨⟨a, b, c⟩, m⟩
    exact ⟨p.2 - p.1, m, a, by omega, by omega⟩
section
variable {P : Program} {w : World} {K : PySem.W.Frag} {mg : Str → Option Value} {base : Heap} {C R : Addr}
abbrev nLR : List Str := ["_law_pot_here", "_law_top", "_law_lens", "_law_pairs", "_law_made", "_law_pair"]
theorem scLR : FnScope nLR ["_law_pot_here"] (defScope (top 40)) := ⟨rfl, rfl, rfl, by decide +kernel, rfl, by decide +kernel, by decide +kernel⟩
def spYes : Sp := fun vs H Q _ => ∃ p : Addr, vs = [.ref p] ∧ Pot H p ∧ ∀ H', But p H H' → Pot H' p → Q (.bl true) H'
theorem ok_lr {f fD fM fE fO fS : Addr} {fd fdD fdM fdE fdO fdS : FuncData} (D : Dn K mg "_law_lens_right" (top 40) ["_law_pot_here"] f fd) (B : Bl mg) (B2 : Bl2 mg) (F : StF P w K mg base C R)
    (DD : Dn K mg "_law_draw" (top 29) ["_law_pot_here", "_law_sides"] fD fdD) (DM : Dn K mg "_law_mixed" (top 31) ["_law_pot_here", "_law_some"] fM fdM) (DE : Dn K mg "_law_every" (top 32) ["_law_top"] fE fdE)
    (DOf : Dn K mg "_law_of" (top 34) ["_law_top", "_law_lens"] fO fdO) (GOf : FnOk P w K mg base CX0 7 fO fdO ["_law_top", "_law_lens"] (spOfL P w C))
    (DS : Dn K mg "_law_is_told" (top 39) ["_law_pot_here", "_law_made", "_law_top", "_law_pairs"] fS fdS) (GS : FnG P w K mg base CX0 6 fS fdS ["_law_pot_here", "_law_made", "_law_top", "_law_pairs"] (spTold P w C)) : FnG P w K mg base CX0 8 f fd ["_law_pot_here"] spYes := by
  have GD : FnOk P w K mg base CX0 1 fD fdD ["_law_pot_here", "_law_sides"] spDraw := ok_draw DD.F B
  have GM : FnOk P w K mg base CX0 2 fM fdM ["_law_pot_here", "_law_some"] spMixed := ok_mixed DM B B2 DD
  have GE : FnOk P w K mg base CX0 1 fE fdE ["_law_top"] spEvery := ok_every DE.F B
  obtain ⟨gI, fdI, MI, GI, bI, kI'⟩ := F.mak
  refine D.F.okG scLR (fun vs H Q E h => ?_) (fun cdv A outer s0 H vs Q E hg hr h => ?_)
  · obtain ⟨p, rfl, _⟩ := h
    rfl
  · obtain ⟨p, rfl, hP, k⟩ := h
    have r1 := hr.mono (show 1 ≤ 7 by decide)
    have r2 := hr.mono (show 2 ≤ 7 by decide)
    have r4 := hr.mono (show 4 ≤ 7 by decide)
    have r6 := hr.mono (show 6 ≤ 7 by decide)
    have hgA : Quiet (A.deeper (envOfC "_law_lens_right" (defScope (top 40)) s0.heap.objs.size f cdv)) := hg.deeper _
    refine ⟨_, pss_cons (ps_asg (pe_tup (pa_cons (pe_op op_add pe_int (pe_call GD r1 (by rfl) DD.m DD.F.kp DD.b .nil pass0 (pa_cons (pv 0) (pa_cons pe_int pa_nil)))) (pa_cons (pe_slice sl_list (pe_call GM r2 (by rfl) DM.m DM.F.kp DM.b .nil pass0 (pa_cons (pv 0) (pa_cons (pe_lst (pa_cons pe_int (pa_cons pe_int (pa_cons pe_int (pa_cons pe_int (pa_cons pe_int (pa_cons pe_int (pa_cons pe_int pa_nil)))))))) pa_nil))) po_none (po_some (pe_op op_add pe_int (pe_call GD r1 (by rfl) DD.m DD.F.kp DD.b .nil pass0 (pa_cons (pv 0) (pa_cons pe_int pa_nil)))))) pa_nil))) (pg_tup rfl (pgs_cons (pg_name (i := 1) scLR.nd rfl (.inl rfl)) (pgs_cons (pg_name (i := 2) scLR.nd rfl (.inr rfl)) pgs_nil))))
      (pss_cons (ps_setLc (i := 3) (te := tVar 5) (own := [("_law_pair", 5)]) (g := gName 5) (tt := tTest (tOp (rIn K false) (tLenP K 5) (tVar 2))) rfl scLR.nd rfl rfl (sw_true rfl rfl rfl (by decide +kernel)) (pi_list (pe_call GE r1 (by rfl) DE.m DE.F.kp DE.b .nil pass0 (pa_cons (pv 1) pa_nil))) (blkOk_by (N := nLR) (sc := defScope (top 40)) (by decide +kernel)) (fun _ _ _ _ _ => pg_name (i := 5) scLR.nd rfl (.inl rfl)) (fun _ _ _ _ _ => pts_one (by exact pt_cmpR op_in_seq (pe_op op_sub (pe_ix ix_tup (pv 5) pe_int (fun _ _ => rfl)) (pe_ix ix_tup (pv 5) pe_int (fun _ _ => rfl))) (pv 2) rfl)) (fun _ _ _ _ _ => by exact pv 5))
      (pss_cons (ps_if (pt_cmpR op_gt (pe_callB call_len_seq (by rfl) B.len PySem.boot_len (pa_cons (pv 3) pa_nil)) pe_int (nomark _)) (pss_one (ps_ret pe_bl)) pss_nil)
      (pss_cons (ps_set (i := 4) scLR.nd rfl (.inl rfl) (pe_call GOf hr (by rfl) DOf.m DOf.F.kp DOf.b .nil pass0 (pa_cons (pv 1) (pa_cons (pv 2) pa_nil))))
      (pss_one (ps_ret (pe_and (pe_cmpR (op_seq F r1) (pv 4) (pe_make MI GI r4 (by rfl) F.S.m bI .nil pass0 (pa_cons (pv 1) (pa_cons (pv 3) pa_nil))) (nomark _)) (pe_one (pe_callG GS hgA r6 (by rfl) DS.m DS.F.kp DS.b .nil pass0 (pa_cons (pv 0) (pa_cons (pv 4) (pa_cons (pv 1) (pa_cons (pv 3) pa_nil)))))))))))), ?_⟩
    refine ⟨_, rfl, p, 10, rfl, hP, by decide, by decide, fun H1 d0 b1 p1 d00 d01 => ⟨_, _, rfl, rfl, ?_⟩⟩
    have n1 : 1 ≤ 1 + d0 := by omega
    have n2 : 1 + d0 ≤ 10 := by omega
    dsimp only
    generalize hn : 1 + d0 = n at *
    refine ⟨_, rfl, Nat.le_of_lt (small1000 (show 7 ≤ 1000 by decide)), fun l0 hl0 => ⟨p, l0, _, rfl, p1.same (Same.new hl0), upd_same, by show 7 ≤ 1000; decide, fun H2 D zs b2 p2 hD hz pm => ?_⟩⟩
    have b12 : But p H1 H2 := Same.but (Same.new hl0) b2
    obtain ⟨js, rfl, pj⟩ := perm_ints (is := [1, 2, 3, 4, 10, 11, 5]) pm
    have lj : js.length = 7 := pj.length_eq
    refine ⟨_, rfl, p, 4, rfl, p2, by decide, by decide, fun H3 d1 b3 p3 d10 d11 => ⟨_, _, rfl, rfl, _, rfl, D, js.map V.int, rfl, SqL.of (b3 _ _ (pot_ne (p1.same (Same.new hl0)) hD) hz), fun ll hll => ?_⟩⟩
    have hcut : cutV (js.map V.int) none (some (1 + d1)) = (js.take (1 + d1).toNat).map V.int := by
      rw [cut_to (by omega) (by rw [List.length_map]; omega), List.map_take]
    rw [hcut]
    have lls : (js.take (1 + d1).toNat).length = (1 + d1).toNat := by rw [List.length_take]; omega
    have ndl : (js.take (1 + d1).toNat).Nodup := (pj.nodup_iff.mpr (by decide)).sublist (List.take_sublist _ _)
    have okl : ∀ x ∈ js.take (1 + d1).toNat, 1 ≤ x ∧ x ≤ 11 := fun x m => by
      have m2 := pj.mem_iff.mp (List.mem_of_mem_take m)
      have : ∀ y ∈ ([1, 2, 3, 4, 10, 11, 5] : List Int), 1 ≤ y ∧ y ≤ 11 := by decide
      exact this x m2
    generalize js.take (1 + d1).toNat = ls at *
    have sl := Same.new (o := .lst (ls.map V.int)) hll
    refine ⟨Nat.le_of_lt (small1000 (show 2 ≤ 1000 by decide)), fun t ht => ?_⟩
    have st' := Same.new (o := .tup [V.int n, .ref ll]) ht
    have B3 : But p H (upd (upd H3 ll (.lst (ls.map V.int))) t (.tup [V.int n, .ref ll])) := (((b1.trans b12).trans b3).same sl).same st'
    have P4 := (p3.same sl).same st'
    have hll4 : upd (upd H3 ll (.lst (ls.map V.int))) t (.tup [V.int n, .ref ll]) ll = some (.lst (ls.map V.int)) := st' _ _ upd_same
    have nll : ll ≠ p := pot_ne p3 hll
    refine ⟨t, _, rfl, SqT.of upd_same, rfl, _, _, rfl, _, _, rfl, rfl, ?_⟩
    generalize upd (upd H3 ll (.lst (ls.map V.int))) t (.tup [V.int n, .ref ll]) = H4 at *
    refine seq_set (lc_call ⟨_, rfl, n, rfl, n1, n2, fun H5 el ys s5 hel hys pys => ⟨el, rfl, ⟨_, SqL.of hys⟩, ?_⟩⟩)
    have nel : el ≠ p := pot_ne P4 hel
    have P5 := P4.same s5
    have ly : ys.length ≤ 1000 := by
      have := rows_len n2 (List.range (n + 1).toNat)
      rw [List.length_range] at this
      have := pys.len
      unfold everyL at this
      omega
    refine sub_at (K := K) (a := el) (p := p) (ps := everyL n) (ys := ys) (fun q b => b = decide (q.2 - q.1 ∈ ls)) (by show 5 < 6; decide) hys pys P5 nel ly (fun H' q v _ hv bt pt Q' kq => ?_) fun H6 L zs qs b6 p6 hL hzs pzs fl => ?_
    · refine lenP_go (by rfl) hv ⟨_, rfl, ll, _, rfl, .inl (SqL.of (bt _ _ nll (s5 _ _ hll4))), rfl, flat_ints ls, _, rfl, kq _ _ ?_ (But.refl p _) pt⟩
      show inV _ _ = _
      exact inV_ints ls
    have eq' := fl.eq fun x b h => h
    subst eq'
    have B6 : But p H H6 := (B3.same s5).trans b6
    have ll6 := b6 _ _ nll (s5 _ _ hll4)
    have lz := pzs.len
    refine seq_if ⟨_, rfl, L, zs, rfl, .inl (SqL.of hzs), _, _, rfl, rfl, _, rfl, ite2 (fun c => ?_) (fun c => ?_)⟩
    · exact k _ B6 p6
    dsimp only [tNext]
    have c' : zs.length ≤ 40 := by
      have := of_decide_eq_false (Bool.eq_false_iff.mpr c)
      omega
    have pt : Parts n ((everyL n).filter fun q => decide (q.2 - q.1 ∈ ls)) := parts_sub n1 n2 List.filter_sublist (by omega)
    have memE : ∀ x, x ∈ ofList n ls ↔ x ∈ (everyL n).filter fun q => decide (q.2 - q.1 ∈ ls) := of_filter okl
    have pmE : (ofList n ls).Perm ((everyL n).filter fun q => decide (q.2 - q.1 ∈ ls)) := (List.perm_ext_iff_of_nodup (of_nodup ndl) pt.nd).mpr memE
    have eS := srt_same (of_nodup (n := n) ndl) pt.nd memE
    refine seq_set ⟨_, rfl, _, rfl, n, ll, ls, rfl, ll6, ⟨ndl, okl, n1, n2, by rw [pmE.length_eq]; omega⟩, by omega, by omega, fun H7 s s7 hs7 st7 => ?_⟩
    rw [eS] at st7
    generalize (everyL n).filter (fun q => decide (q.2 - q.1 ∈ ls)) = qs at *
    have pz7 := pzs.same s7
    have hz7 := s7 _ _ hzs
    have P7 := p6.same s7
    have nLp : L ≠ p := pot_ne P5 hL
    refine ret_go ⟨_, rfl, _, rfl, _, rfl, ?_⟩
    dsimp only [tNil]
    refine mk_in rfl (.inr ⟨L, false, zs, rfl, SqL.of hz7, kd_lst hz7, pz7⟩) pt fun H8 s2 s8 hs8 st8 _ => ⟨s, n, srt qs, rfl, st7.same s8, .inl ⟨s2, n, srt qs, rfl, st8, _, rfl, ?_⟩⟩
    rw [decide_eq_true (⟨rfl, rfl⟩ : n = n ∧ srt qs = srt qs)]
    refine iteT ⟨_, rfl, _, rfl, _, rfl, _, rfl, p, s, n, L, qs, zs, rfl, P7.same s8, st7.same s8, s8 _ _ hz7, nLp, pz7.same s8, pt, fun H9 b9 p9 => k _ ((B6.same (s7.trans s8)).trans b9) p9⟩
end
end K12

set_option Elab.async false
set_option linter.all false
set_option maxRecDepth 100000
set_option maxHeartbeats 8000000
namespace K12
open PySem PySem.Spec PyProof.Rows L2 MX NZ SM
section
variable {P : Program} {w : World} {K : PySem.W.Frag} {mg : Str → Option Value} {base : Heap} {C R : Addr}
theorem or_rest {a b : TT} {σ : L2.St} {H : Hp} {Q : Bool → Hp → Prop} (Mid : Hp → Prop) (h1 : ∀ Q' : Bool → Hp → Prop, (∀ H1, Mid H1 → Q' false H1) → a σ H Q') (h2 : ∀ H1, Mid H1 → b σ H1 Q) : tOr a b σ H Q := h1 (fun c H1 => if c = true then Q true H1 else b σ H1 Q) fun H1 m => iteF (h2 H1 m)
theorem seq_rest {c : TT} {t r : TS} {D : Ends} {σ : L2.St} {H : Hp} (Mid : Hp → Prop) (h1 : ∀ Q' : Bool → Hp → Prop, (∀ H1, Mid H1 → Q' false H1) → c σ H Q') (h2 : ∀ H1, Mid H1 → r D σ H1) : tSeq (tIfS c t tNext) r D σ H := h1 (fun b H1 => if b = true then t { D with nx := r D } σ H1 else tNext { D with nx := r D } σ H1) fun H1 m => iteF (h2 H1 m)
theorem if_cont {c : Bool} {F : VK} {σ : L2.St} {H : Hp} {a b : Int} (h : F (.int (if c = true then a else b)) H) : if c = true then tC (.int a) σ H F else tC (.int b) σ H F := by
  cases c with
  | true => exact iteT h
  | false => exact iteF h
/-- what stands while three like stairs are asked -/
structure OkR (P : Program) (w : World) (C p l s1 s2 s3 : Addr) (n : Int) (ps : List Pr) (ys : List V) (H0 H : Hp) : Prop where
  b : But p H0 H
  po : Pot H p
  hl : H l = some (.lst ys)
  pr : PrsAt H ps ys
  a1 : StairAt P w C H s1 n (srt ps)
  a2 : StairAt P w C H s2 n (srt ps)
  a3 : StairAt P w C H s3 n (srt ps)
section
variable {p l s1 s2 s3 : Addr} {n : Int} {ps : List Pr} {ys : List V} {H0 H H' : Hp}
theorem OkR.same (o : OkR P w C p l s1 s2 s3 n ps ys H0 H) (e : Same H H') : OkR P w C p l s1 s2 s3 n ps ys H0 H' := ⟨o.b.same e, o.po.same e, e _ _ o.hl, o.pr.same e, o.a1.same e, o.a2.same e, o.a3.same e⟩
theorem OkR.but (o : OkR P w C p l s1 s2 s3 n ps ys H0 H) (nlp : l ≠ p) (e : But p H H') (q : Pot H' p) : OkR P w C p l s1 s2 s3 n ps ys H0 H' := ⟨o.b.trans e, q, e _ _ nlp o.hl, prs_but o.po e o.pr, stair_but o.a1 o.po e, stair_but o.a2 o.po e, stair_but o.a3 o.po e⟩
end
theorem prs_perm {H : Hp} {ps : List Pr} {ys zs : List V} (pr : PrsAt H ps ys) (pm : zs.Perm ys) : PrsAt H (zs.map (kAt H)) zs ∧ (zs.map (kAt H)).Perm ps := by
  refine ⟨prs_of fun y m => pr.mem y (pm.mem_iff.mp m), ?_⟩
  have e := pm.map (kAt H)
  rw [prs_k pr] at e
  exact e
theorem prs_drop {H : Hp} : ∀ {ps : List Pr} {ys : List V}, PrsAt H ps ys → PrsAt H (ps.drop 1) (ys.drop 1)
  | _, _, .nil => .nil
  | _, _, .cons a t => t
theorem Parts.perm {n : Int} {ps qs : List Pr} (pt : Parts n ps) (pm : qs.Perm ps) : Parts n qs := ⟨pt.n1, pt.n2, fun q m => pt.ok q (pm.mem_iff.mp m), pm.nodup_iff.mpr pt.nd, by rw [pm.length_eq]; exact pt.ln⟩
abbrev nR : List Str := ["_law_pot_here", "_law_top", "_law_pairs", "_law_row", "_law_made", "_law_twin", "_law_third", "_law_pair"]
theorem scR : FnScope nR ["_law_pot_here"] (defScope (top 41)) := ⟨rfl, rfl, rfl, by decide +kernel, rfl, by decide +kernel, by decide +kernel⟩
theorem ok_right {f fD fM fE fP fL fS : Addr} {fd fdD fdM fdE fdP fdL fdS : FuncData} {uC : Value} (D : Dn K mg "_law_right" (top 41) ["_law_pot_here"] f fd) (B : Bl mg) (B2 : Bl2 mg) (F : StF P w K mg base C R) (con : Con K C "MOST_STEPS" (.int 10) uC)
    (DD : Dn K mg "_law_draw" (top 29) ["_law_pot_here", "_law_sides"] fD fdD) (DM : Dn K mg "_law_mixed" (top 31) ["_law_pot_here", "_law_some"] fM fdM) (DE : Dn K mg "_law_every" (top 32) ["_law_top"] fE fdE)
    (DP : Dn K mg "_law_parts" (top 33) ["_law_pot_here", "_law_low", "_law_high"] fP fdP)
    (DS : Dn K mg "_law_is_told" (top 39) ["_law_pot_here", "_law_made", "_law_top", "_law_pairs"] fS fdS) (GS : FnG P w K mg base CX0 6 fS fdS ["_law_pot_here", "_law_made", "_law_top", "_law_pairs"] (spTold P w C))
    (DL : Dn K mg "_law_lens_right" (top 40) ["_law_pot_here"] fL fdL) (GL : FnG P w K mg base CX0 8 fL fdL ["_law_pot_here"] spYes) : FnG P w K mg base CX0 9 f fd ["_law_pot_here"] spYes := by
  have GM : FnOk P w K mg base CX0 2 fM fdM ["_law_pot_here", "_law_some"] spMixed := ok_mixed DM B B2 DD
  have GP : FnOk P w K mg base CX0 2 fP fdP ["_law_pot_here", "_law_low", "_law_high"] spParts := ok_parts DP B DD DE
  obtain ⟨gI, fdI, MI, GI, bI, kI⟩ := F.mak
  refine D.F.okG scR (fun vs H Q E h => ?_) (fun cdv A outer s0 H vs Q E hg hr h => ?_)
  · obtain ⟨p, rfl, _⟩ := h
    rfl
  · obtain ⟨p, rfl, hP, k⟩ := h
    have r1 := hr.mono (show 1 ≤ 8 by decide)
    have r2 := hr.mono (show 2 ≤ 8 by decide)
    have r4 := hr.mono (show 4 ≤ 8 by decide)
    have r6 := hr.mono (show 6 ≤ 8 by decide)
    have hgA : Quiet (A.deeper (envOfC "_law_right" (defScope (top 41)) s0.heap.objs.size f cdv)) := hg.deeper _
    refine ⟨_, pss_cons (ps_asg (pe_call GP r2 (by rfl) DP.m DP.F.kp DP.b .nil pass0 (pa_cons (pv 0) (pa_cons pe_int (pa_cons pe_int pa_nil)))) (pg_tup rfl (pgs_cons (pg_name (i := 1) scR.nd rfl (.inl rfl)) (pgs_cons (pg_name (i := 2) scR.nd rfl (.inl rfl)) pgs_nil))))
      (pss_cons (ps_set (i := 3) scR.nd rfl (.inl rfl) (pe_call GM r2 (by rfl) DM.m DM.F.kp DM.b .nil pass0 (pa_cons (pv 0) (pa_cons (pv 2) pa_nil))))
      (pss_cons (ps_par3 (i := 4) (j := 5) (l := 6) rfl scR.nd rfl rfl rfl (by decide) (by decide) (by decide) rfl rfl rfl (pa_cons (pe_make MI GI r4 (by rfl) F.S.m bI .nil pass0 (pa_cons (pv 1) (pa_cons (pv 3) pa_nil))) (pa_cons (pe_makeK0 MI GI r4 (by rfl) F.S.m kI pass0 (pk_cons (pe_tupleOf (by rfl) B2.tuple (pv 2)) (pk_cons (pv 1) pk_nil))) (pa_cons (pe_make MI GI r4 (by rfl) F.S.m bI .nil pass0 (pa_cons (pv 1) (pa_cons (pv 2) pa_nil))) pa_nil))) rfl)
      (pss_cons (ps_expr (pe_bm PySem.F.plainAttrs_list PySem.F.slot_list_append PySem.F.type_list_append mt_append (pv 3) (pa_cons pe_non pa_nil)))
      (pss_cons (ps_expr (pe_bm PySem.F.plainAttrs_list PySem.F.slot_list_pop PySem.F.type_list_pop mt_popAt (pv 3) (pa_cons pe_int pa_nil)))
      (pss_cons (ps_if (pw_or (pt_not (pt_cmpR (op_seq F r1) (pv 4) (pv 5) (nomark _))) (pw_or (pt_cmpR (op_sne F r2) (pv 4) (pv 6) (nomark _)) (pw_or1 (pt_cmpR op_ne (pe_callB (call_srepr F r2) (by rfl) B.repr boot_repr (pa_cons (pv 4) pa_nil)) (pe_callB (call_srepr F r2) (by rfl) B.repr boot_repr (pa_cons (pv 5) pa_nil)) (nomark _))))).pt (pss_one (ps_ret pe_bl)) pss_nil)
      (pss_cons (ps_if (pw_or (pt_not (pt_val (pe_callG GS hgA r6 (by rfl) DS.m DS.F.kp DS.b .nil pass0 (pa_cons (pv 0) (pa_cons (pv 4) (pa_cons (pv 1) (pa_cons (pv 2) pa_nil))))))) (pw_or1 (pt_not (pt_val (pe_callG GS hgA r6 (by rfl) DS.m DS.F.kp DS.b .nil pass0 (pa_cons (pv 0) (pa_cons (pv 5) (pa_cons (pv 1) (pa_cons (pv 2) pa_nil))))))))).pt (pss_one (ps_ret pe_bl)) pss_nil)
      (pss_cons (ps_if (pw_or (pt_cmpR (op_seq F r1) (pv 4) (pe_callB (call_srepr F r2) (by rfl) B.repr boot_repr (pa_cons (pv 4) pa_nil)) (nomark _)) (pw_or (pt_cmpR (op_seq F r1) (pv 4) (pv 2) (nomark _)) (pw_or (pt_cmpR (op_seq F r1) (pv 4) (pe_tup (pa_cons (pv 1) (pa_cons (pv 2) pa_nil))) (nomark _)) (pw_or1 (pt_cmpR (op_seq F r1) (pv 4) pe_non (nomark _)))))).pt (pss_one (ps_ret pe_bl)) pss_nil)
      (pss_cons (ps_if (pw_or (pt_cmpR (op_seq F r1) (pe_make MI GI r4 (by rfl) F.S.m bI .nil pass0 (pa_cons (pe_ifExp (pt_cmpR op_lt (pv 1) pe_int (nomark _)) pe_int pe_int) (pa_cons (pe_lc (te := tVar 7) (own := [("_law_pair", 7)]) (g := gName 7) (tt := tTest (tOp (rI0 fun i j => V.bl (decide (i < j))) (tOp (rIxT K) (tVar 7) (tC (.int 1))) (tC (.int 10)))) rfl scR.nd (pi_list (pv 2)) (blkOk_by (N := nR) (sc := defScope (top 41)) (by decide +kernel)) (fun _ _ _ _ _ => pg_name (i := 7) scR.nd rfl (.inl rfl)) (fun _ _ _ _ _ => pts_one (by exact pt_cmpR op_lt (pe_ix ix_tup (pv 7) pe_int (fun _ _ => rfl)) pe_int (nomark _))) (fun _ _ _ _ _ => by exact pv 7)) pa_nil))) (pv 4) (nomark _)) (pw_or1 (pt_cmpR op_ne (pe_con (pv 4) rfl) pe_int (nomark _)))).pt (pss_one (ps_ret pe_bl)) pss_nil)
      (pss_cons (ps_if (pw_or (pw_and (pt_cmpR (op_neD (room64 hr)) (pv 2) (pe_lst pa_nil) (nomark _)) (pw_and1 (pt_cmpR (op_seq F r1) (pe_make MI GI r4 (by rfl) F.S.m bI .nil pass0 (pa_cons (pv 1) (pa_cons (pe_slice sl_list (pv 2) (po_some pe_int) po_none) pa_nil))) (pv 4) (nomark _)))).pt (pw_or (pt_cmpR op_ne (ClX.pe_cval (pe_glob (v := .ref C) (by rfl) F.S.m rfl)) pe_int (nomark _)) (pw_or1 (pt_cmpR op_ne (ClX.pe_cval (pe_glob (v := .ref C) (by rfl) F.S.m rfl)) pe_int (nomark _))))).pt (pss_one (ps_ret pe_bl)) pss_nil)
      (pss_one (ps_ret (pe_and (pe_cmpR (op_seq F r1) (pv 4) (pv 5) (nomark _)) (pe_one (pe_callG GL hgA hr (by rfl) DL.m DL.F.kp DL.b .nil pass0 (pa_cons (pv 0) pa_nil))))))))))))))), ?_⟩
    refine ⟨_, rfl, p, rfl, hP, fun H1 t l n ps ys b1 p1 ht hl ht1 hl1 pr1 pt => ?_⟩
    refine ⟨t, _, rfl, SqT.of ht1, rfl, _, _, rfl, _, _, rfl, rfl, ?_⟩
    have nlp : l ≠ p := pot_ne hP hl
    have ely := pr1.len
    have l40 := pt.ln
    dsimp only
    refine seq_set ⟨_, rfl, _, rfl, p, l, ys, rfl, p1, hl1, by omega, fun H2 rw_ zs b2 p2 hrw hz pm => ?_⟩
    have nrp : rw_ ≠ p := pot_ne p1 hrw
    have nrl : rw_ ≠ l := (ne_of_none hl1 hrw).symm
    have hl2 := b2 _ _ nlp hl1
    have pr2 := prs_but p1 b2 pr1
    obtain ⟨prz, pmq⟩ := prs_perm pr2 pm
    have ptq := pt.perm pmq
    have eS := srt_same ptq.nd pt.nd fun x => pmq.mem_iff
    refine ⟨_, rfl, _, rfl, ?_⟩
    dsimp only [tNil]
    refine mk_in (ps := zs.map (kAt H2)) rfl (.inr ⟨rw_, false, zs, rfl, SqL.of hz, kd_lst hz, prz⟩) ptq fun H3 s1 m3 hs1 st1 so1 => ?_
    rw [eS] at st1
    have so1 := so1 rw_ _ hz
    rw [eS] at so1
    have hl3 := m3 _ _ hl2
    have pr3 := pr2.same m3
    refine ⟨_, rfl, .inl ⟨l, ys, rfl, SqL.of hl3, fun tp htp => ⟨_, rfl, rfl, rfl, ?_⟩⟩⟩
    have m4 := Same.new (o := .tup ys) htp
    refine mk_in (ps := ps) rfl (.inr ⟨tp, true, ys, rfl, SqT.of upd_same, kd_tup upd_same, pr3.same m4⟩) pt fun H5 s2 m5 hs2 st2 so2 => ?_
    have hz4 := m4 _ _ (m3 _ _ hz)
    have so2 := so2 rw_ _ hz4
    have hl5 := m5 _ _ (m4 _ _ hl3)
    have pr5 := (pr3.same m4).same m5
    refine ⟨_, rfl, _, rfl, ?_⟩
    dsimp only [tNil]
    refine mk_in (ps := ps) rfl (.inr ⟨l, false, ys, rfl, SqL.of hl5, kd_lst hl5, pr5⟩) pt fun H6 s3 m6 hs3 st3 so3 => ⟨_, _, _, rfl, ?_⟩
    have hz5 := m5 _ _ hz4
    have so3 := so3 rw_ _ hz5
    have hz6 := m6 _ _ hz5
    have lz := pm.length_eq
    refine seq_ex ⟨_, rfl, .inl ⟨rfl, _, SqL.of hz6⟩, rw_, zs, .non, rfl, rfl, hz6, small1000 (by omega), ?_⟩
    refine seq_ex ⟨_, rfl, .inl ⟨rfl, _, SqL.of upd_same⟩, rw_, zs ++ [V.non], 0, 0, _, rfl, rfl, upd_same, by decide, by decide, seqIndex_of (by decide) (by rw [List.length_append, List.length_singleton]; omega), List.getElem?_eq_getElem (by rw [List.length_append, List.length_singleton]; omega), ?_⟩
    have br : But rw_ H6 (upd (upd H6 rw_ (.lst (zs ++ [V.non]))) rw_ (.lst ((zs ++ [V.non]).eraseIdx 0))) := fun b o nb e => by
      rw [upd_ne nb, upd_ne nb]
      exact e
    have ok0 : OkR P w C p l s1 s2 s3 n ps ys H (upd (upd H6 rw_ (.lst (zs ++ [V.non]))) rw_ (.lst ((zs ++ [V.non]).eraseIdx 0))) := by
      have m36 := m4.trans (m5.trans m6)
      refine ⟨fun b o nb e => ?_, pot_upd (pot_upd (p2.same (m3.trans m36)) nrp) nrp, br _ _ (Ne.symm nrl) (m6 _ _ hl5), PrsAt.lst upd_same (PrsAt.lst hz6 (pr5.same m6)), (so1.same (wo_same (Same.but m36 br))).same wo_sub, (so2.same (wo_same (Same.but m6 br))).same wo_sub, (so3.same (wo_same br)).same wo_sub⟩
      have e1 := b1 _ _ nb e
      exact br _ _ (ne_of_none e1 hrw) (m36 _ _ (m3 _ _ (b2 _ _ nb e1)))
    generalize upd (upd H6 rw_ (.lst (zs ++ [V.non]))) rw_ (.lst ((zs ++ [V.non]).eraseIdx 0)) = H7 at *
    have pts := pt.srt
    have eqT : (decide (n = n ∧ srt ps = srt ps)) = true := decide_eq_true ⟨rfl, rfl⟩
    -- made == twin, made != third, repr
    refine seq_rest (OkR P w C p l s1 s2 s3 n ps ys H) (fun Q' kq => ?_) fun H8 o8 => ?_
    · refine or_go ⟨_, rfl, _, rfl, s1, n, srt ps, rfl, ok0.a1, .inl ⟨s2, n, srt ps, rfl, ok0.a2, _, rfl, ?_⟩⟩
      rw [eqT]
      refine iteF (or_go ⟨_, rfl, _, rfl, s1, n, srt ps, s3, n, srt ps, rfl, rfl, ok0.a1, ok0.a3, _, rfl, ?_⟩)
      rw [eqT]
      refine iteF ⟨_, rfl, s1, n, srt ps, rfl, ok0.a1, pts, fun H8 e8 => ⟨_, rfl, s2, n, srt ps, rfl, ok0.a2.same e8, pts, fun H9 e9 => ⟨rfl, _, rfl, ?_⟩⟩⟩
      rw [decide_eq_true rfl]
      exact kq _ (ok0.same (e8.trans e9))
    -- is_told of both
    refine seq_rest (OkR P w C p l s1 s2 s3 n ps ys H) (fun Q' kq => ?_) fun H9 o9 => ?_
    · refine or_go ⟨_, rfl, _, rfl, _, rfl, _, rfl, p, s1, n, l, ps, ys, rfl, o8.po, o8.a1, o8.hl, nlp, o8.pr, pt, fun H9 b9 p9 => ⟨true, rfl, iteF ?_⟩⟩
      have o9 := o8.but nlp b9 p9
      exact ⟨_, rfl, _, rfl, _, rfl, _, rfl, p, s2, n, l, ps, ys, rfl, o9.po, o9.a2, o9.hl, nlp, o9.pr, pt, fun H10 b10 p10 => ⟨true, rfl, kq _ (o9.but nlp b10 p10)⟩⟩
    -- unlike anything else
    refine seq_rest (OkR P w C p l s1 s2 s3 n ps ys H) (fun Q' kq => ?_) fun H10 o10 => ?_
    · refine or_go ⟨_, rfl, _, rfl, s1, n, srt ps, rfl, o9.a1, pts, fun H10 e10 => ⟨s1, n, srt ps, rfl, o9.a1.same e10, .inr ⟨.inl ⟨_, rfl⟩, _, rfl, iteF (or_go ?_)⟩⟩⟩
      have o10 := o9.same e10
      refine ⟨_, rfl, _, rfl, s1, n, srt ps, rfl, o10.a1, .inr ⟨.inr (.inr (.inl ⟨l, ys, rfl, o10.hl⟩)), _, rfl, iteF (or_go ?_)⟩⟩
      refine ⟨_, rfl, _, rfl, _, rfl, Nat.le_of_lt (small1000 (show 2 ≤ 1000 by decide)), fun t2 ht2 => ?_⟩
      have o11 := o10.same (Same.new (o := .tup [V.int n, .ref l]) ht2)
      refine ⟨s1, n, srt ps, rfl, o11.a1, .inr ⟨.inr (.inr (.inr ⟨t2, _, rfl, upd_same⟩)), _, rfl, iteF ?_⟩⟩
      exact ⟨_, rfl, s1, n, srt ps, rfl, o11.a1, .inr ⟨.inr (.inl rfl), _, rfl, kq _ o11⟩⟩
    -- another number of steps
    refine seq_rest (OkR P w C p l s1 s2 s3 n ps ys H) (fun Q' kq => ?_) fun H11 o11 => ?_
    · have nfst : ∀ m : Int, m ≠ n → ∀ qs : List Pr, decide (m = n ∧ qs = srt ps) = false := fun m h qs => decide_eq_false fun z => h z.1
      have hm : ∃ m : Int, m = (if decide (n < 10) = true then (10 : Int) else 9) ∧ 1 ≤ m ∧ m ≤ 10 ∧ 9 ≤ m ∧ m ≠ n := by
        have n2 := pt.n2
        refine ⟨_, rfl, ?_⟩
        by_cases c : n < 10
        · rw [if_pos (decide_eq_true c)]
          omega
        · rw [if_neg (by rw [decide_eq_false c]; exact Bool.false_ne_true)]
          omega
      obtain ⟨m, em, m1, m2, m9, mn⟩ := hm
      refine or_go ⟨_, rfl, _, _, rfl, rfl, _, rfl, ?_⟩
      refine if_cont ?_
      rw [← em]
      dsimp only [tCons, List.map]
      refine sub_go (K := K) (a := l) (p := p) (ps := ps) (ys := ys) (fun q b => b = decide (q.2 < 10)) (by rfl) (by show 7 < 8; decide) o10.hl o10.pr o10.po nlp (by omega) (fun H' q v _ hv bt po Q'' kq' => ?_) fun H11 L zs2 qs b11 p11 hL hzs pzs fl => ?_
      · obtain ⟨a, rfl, ha⟩ := hv
        exact ⟨_, rfl, a, _, 1, _, rfl, rfl, SqT.of ha, rfl, _, _, rfl, rfl, _, rfl, kq' _ _ rfl (But.refl p _) po⟩
      have eq' := fl.eq fun x b h => h
      have o11 := o10.but nlp b11 p11
      have ptm : Parts m qs := by
        subst eq'
        refine ⟨m1, m2, fun q hq => ?_, pt.nd.sublist List.filter_sublist, Nat.le_trans (List.length_filter_le _ _) l40⟩
        obtain ⟨h1, h2⟩ := List.mem_filter.mp hq
        have h2 := of_decide_eq_true h2
        obtain ⟨x, y, z⟩ := pt.ok q h1
        exact ⟨x, y, by omega⟩
      dsimp only [tNil]
      refine mk_in (ps := qs) rfl (.inr ⟨L, false, zs2, rfl, SqL.of hzs, kd_lst hzs, pzs⟩) ptm fun H12 s4 e12 hs4 st4 _ => ?_
      have o12 := o11.same e12
      refine ⟨_, rfl, s4, m, srt qs, rfl, st4, .inl ⟨s1, n, srt ps, rfl, o12.a1, _, rfl, ?_⟩⟩
      rw [nfst m mn]
      obtain ⟨dx, fs, hs, nl⟩ := o12.a1.ins
      refine iteF ⟨_, rfl, s1, C, dx, fs, .int 10, uC, rfl, hs, F.S.cl, con, nl _ (by decide) (by decide) (by decide) (by decide), rfl, _, rfl, ?_⟩
      rw [decide_eq_true rfl]
      exact kq _ o12
    -- fewer jumps, the limits
    obtain ⟨mc, u1, u2, rd, cv1, cv2⟩ := F.S.cs
    refine seq_rest (OkR P w C p l s1 s2 s3 n ps ys H) (fun Q' kq => ?_) fun H12 o12 => ?_
    · refine or_rest (OkR P w C p l s1 s2 s3 n ps ys H) (fun Q'' kq'' => ?_) fun H12 o12 => ?_
      · refine ⟨_, rfl, Nat.zero_le _, fun z hz => ?_⟩
        have o12 := o11.same (Same.new (o := .lst []) hz)
        refine ⟨.list (ps.map pairD), .list [], prs_dp o12.hl o12.pr, .lst (SqL.of upd_same) .nil, shaped_prs ps, rfl, _, rfl, ite2 (fun c => ?_) (fun c => kq'' _ o12)⟩
        have hne : 1 ≤ ps.length := by
          cases ps with
          | nil => exact absurd c (by show ¬ (!true) = true; decide)
          | cons _ _ => simp
        refine ⟨_, rfl, _, rfl, 1, rfl, l, ys, rfl, SqL.of o12.hl, fun sl hsl => ?_⟩
        rw [cut_one (by omega)]
        have o13 := o12.same (Same.new (o := .lst (ys.drop 1)) hsl)
        have ptd : Parts n (ps.drop 1) := ⟨pt.n1, pt.n2, fun q m => pt.ok q (List.mem_of_mem_drop m), pt.nd.sublist (List.drop_sublist 1 ps), by rw [List.length_drop]; omega⟩
        dsimp only [tNil]
        refine mk_in (ps := ps.drop 1) rfl (.inr ⟨sl, false, ys.drop 1, rfl, SqL.of upd_same, kd_lst upd_same, prs_drop o13.pr⟩) ptd fun H14 s4 e14 hs4 st4 _ => ?_
        have o14 := o13.same e14
        refine ⟨_, rfl, s4, n, srt (ps.drop 1), rfl, st4, .inl ⟨s1, n, srt ps, rfl, o14.a1, _, rfl, ?_⟩⟩
        rw [decide_eq_false (fun z => by
          have := congrArg List.length z.2
          rw [srt_len, srt_len, List.length_drop] at this
          omega)]
        exact kq'' _ o14
      · refine or_go ⟨C, mc, _, u2, rfl, rd, cv2, rfl, _, rfl, ?_⟩
        rw [decide_eq_true rfl]
        refine iteF ⟨C, mc, _, u1, rfl, rd, cv1, rfl, _, rfl, ?_⟩
        rw [decide_eq_true rfl]
        exact kq _ o12
    refine ret_go ⟨_, rfl, _, rfl, s1, n, srt ps, rfl, o12.a1, .inl ⟨s2, n, srt ps, rfl, o12.a2, _, rfl, ?_⟩⟩
    rw [eqT]
    exact iteT ⟨_, rfl, p, rfl, o12.po, fun H' b P => k _ (o12.b.trans b) P⟩
end
end K12

set_option Elab.async false
set_option linter.all false
set_option maxRecDepth 100000
set_option maxHeartbeats 8000000
namespace K12
open PySem PySem.Spec PyProof.Rows L2 MX NZ SM
section
variable {P : Program} {w : World} {K : PySem.W.Frag} {mg : Str → Option Value} {base : Heap}
theorem all_trues : ∀ n : Nat, (List.replicate n true).all id = true
  | 0 => rfl
  | n + 1 => by rw [List.replicate_succ, List.all_cons, all_trues n]; rfl
theorem scLaw : FnScope ["_law_script", "_law_k"] ["_law_script"] (defScope (top 42)) := ⟨rfl, rfl, rfl, by decide +kernel, rfl, by decide +kernel, by decide +kernel⟩
/-- law(script) -/
def spLaw (K : PySem.W.Frag) : Sp := fun vs H Q _ => ∃ (a : Addr) (ns : List Int), vs = [.ref a] ∧ SqL K H a (ns.map V.int) ∧ ∀ H', Q (.bl true) H'
theorem ok_law {f fP fR : Addr} {fd fdP fdR : FuncData} (F : Fun K "law" "law" sLaw f fd) (B : Bl mg)
    (GP : FnOk P w K mg base CX0 1 fP fdP ["_law_script", "_law_k"] (spPot K)) (kP : PySem.W.keepIn K (.ref fP) = true) (bP : Binds K fdP ["_law_script", "_law_k"] []) (mP : mg "_law_pot" = some (.ref fP))
    (GR : FnG P w K mg base CX0 9 fR fdR ["_law_pot_here"] spYes) (kR : PySem.W.keepIn K (.ref fR) = true) (bR : Binds K fdR ["_law_pot_here"] []) (mR : mg "_law_right" = some (.ref fR)) : FnG P w K mg base CX0 10 f fd ["_law_script"] (spLaw K) := by
  refine F.okG scLaw (fun vs H Q E h => ?_) (fun cdv A outer s H vs Q E hg hr h => ?_)
  · obtain ⟨a, ns, rfl, _⟩ := h
    rfl
  · obtain ⟨a, ns, rfl, hS, k⟩ := h
    have r1 := hr.mono (show 1 ≤ 9 by decide)
    refine ⟨_, pss_one (ps_ret (pe_callB (cr_all rfl) (by rfl) B.all boot_all (pa_cons (pe_lc (te := tCall spYes [] E0 (tCons (tCall (spPot K) [] E0 (tCons (tVar 0) (tCons (tVar 1) tNil))) tNil)) (own := [("_law_k", 1)]) (g := gName 1) (tt := tYes) rfl scLaw.nd
        (pi_range1 (by rfl) B.range (pa_cons (pe_callB (call_max2 rfl) (by rfl) B.max boot_max (pa_cons pe_int (pa_cons (pe_callB (call_min2 rfl) (by rfl) B.min boot_min (pa_cons pe_int (pa_cons (pe_callB call_len_seq (by rfl) B.len PySem.boot_len (pa_cons (pv 0) pa_nil)) pa_nil))) pa_nil))) pa_nil))
        (blkOk_by (N := ["_law_script", "_law_k"]) (sc := defScope sLaw) (by decide +kernel)) (fun _ _ _ _ _ => pg_name (i := 1) scLaw.nd rfl (.inl rfl)) (fun _ _ _ _ _ => pts_nil)
        (fun _ _ _ _ _ => by exact pe_callG GR hg hr (by rfl) mR kR bR .nil pass0 (pa_cons (pe_call GP r1 (by rfl) mP kP bP .nil pass0 (pa_cons (pv 0) (pa_cons (pv 1) pa_nil))) pa_nil))) pa_nil))), ?_⟩
    refine ⟨_, rfl, a, _, rfl, .inl hS, 4, _, rfl, 1, _, rfl, ?_⟩
    rw [List.length_map]
    have hz : ∃ m : Nat, 1 ≤ m ∧ m ≤ 4 ∧ (if (if ((ns.length : Int)) < 4 then (ns.length : Int) else 4) > 1 then (if ((ns.length : Int)) < 4 then (ns.length : Int) else 4) else 1) = (m : Int) := by
      refine ⟨(if (if ((ns.length : Int)) < 4 then (ns.length : Int) else 4) > 1 then (if ((ns.length : Int)) < 4 then (ns.length : Int) else 4) else 1).toNat, ?_, ?_, ?_⟩
      · split
        · split <;> omega
        · omega
      · split
        · split <;> omega
        · omega
      · split
        · split <;> omega
        · omega
    obtain ⟨m, m1, m3, em⟩ := hz
    rw [em]
    refine ⟨m, rfl, by omega, by omega, fun D hD => ?_⟩
    rw [Int.toNat_natCast]
    refine lc_range (n := m) (fun i H' => Same H H' ∧ H' D = some (.lst ((List.replicate i true).map V.bl))) ⟨Same.new hD, upd_same⟩ (fun i H' hi ⟨sm, hd⟩ => ?_) (fun H' ⟨sm, hd⟩ => ?_)
    · refine ⟨rfl, yes_go ?_⟩
      refine ⟨_, rfl, _, rfl, a, ns, i, by rw [Int.zero_add]; rfl, sm.seq hS, by omega, fun H2 p s2 np P2 => ⟨p, rfl, P2, fun H3 b3 P3 => ?_⟩⟩
      have keep : ∀ b o, H' b = some o → H3 b = some o := fun b o e => b3 b o (ne_of_none e np) (s2 _ _ e)
      refine ⟨_, keep _ _ hd, small1000 (by rw [List.length_map, List.length_replicate]; omega), fun b o e => ?_, ?_⟩
      · rw [upd_ne (ne_of_none e hD)]
        exact keep _ _ (sm _ _ e)
      · rw [upd_same, List.replicate_succ', List.map_append]
        rfl
    · refine ⟨D, _, rfl, SqL.of hd, ?_⟩
      rw [all_trues]
      exact k H'
end
end K12

set_option Elab.async false
set_option linter.all false
set_option maxRecDepth 100000
set_option maxHeartbeats 4000000
/-! The table of texts, read off the written part. -/
namespace K12
open PySem PySem.Spec PyProof.Rows L2 MX NZ SM
theorem xsOf_is {P : Program} {w : World} {K : W.Frag} : ∀ {es : List DictEntry} {xs : List (TK × Value × Value)}, xsOf K es = some xs → (∀ x ∈ xs, ∀ h, K.In h → isT P w h x.1 x.2.1) ∧ (es.map (·.hash) = (xs.map (·.1)).map (hashT P w) → es = xs.map (entT P w))
  | [], xs, h => by
    cases h
    exact ⟨fun _ hx => (nomatch hx), fun _ => rfl⟩
  | e :: r, xs, h => by
    unfold xsOf at h
    cases h1 : tkOf K e.key with
    | none =>
      rw [h1] at h
      cases h
    | some k =>
      cases h2 : xsOf K r with
      | none =>
        rw [h1, h2] at h
        cases h
      | some l =>
        rw [h1, h2] at h
        cases h
        obtain ⟨i1, i2⟩ := xsOf_is (P := P) (w := w) h2
        refine ⟨fun x hx => ?_, fun eh => ?_⟩
        · rcases List.mem_cons.mp hx with rfl | hx
          · intro hp kin
            cases ek : e.key with
            | str y t =>
              rw [ek] at h1
              cases h1
              show Value.isStrOf y (.str y t) = true
              simp [Value.isStrOf]
            | int i t =>
              rw [ek] at h1
              cases h1
              show Value.isInt i (.int i t) = true
              simp [Value.isInt]
            | ref a =>
              rw [ek] at h1
              cases h3 : K.lookup a with
              | none =>
                have h1 : (K.lookup a).bind tkT = some k := h1
                rw [h3] at h1
                cases h1
              | some o =>
                have h1 : (K.lookup a).bind tkT = some k := h1
                rw [h3] at h1
                have h4 : tkT o = some k := h1
                unfold tkT at h4
                split at h4
                · rename_i i t j u n pt ed
                  cases h4
                  refine ⟨a, rfl, o, _, _, kin a o h3, ?_, ed, ?_⟩
                  · obtain ⟨_, _, _, _, _, rfl⟩ := FX.plain_at pt
                    rfl
                  · exact .cons (by show Value.isInt i (.int i t) = true; simp [Value.isInt]) (.cons (by show Value.isInt j (.int j u) = true; simp [Value.isInt]) .nil)
                · cases h4
            | _ =>
              rw [ek] at h1
              cases h1
          · exact i1 x hx
        · rw [List.map_cons, List.map_cons, List.map_cons] at eh
          injection eh with e1 e2
          rw [List.map_cons, ← i2 e2]
          obtain ⟨eh, ek, ev⟩ := e
          have e1 : eh = hashT P w k := e1
          rw [e1]
          rfl
theorem tx_of {P : Program} {w : World} {K : W.Frag} {mg : Str → Option Value} {td : Addr} {es : Array DictEntry} {n : Nat} {xs : List (TK × Value × Value)} (m : mg "TEXTS" = some (.ref td)) (sys : (td == sysModules) = false) (l : K.lookup td = some { cls := .type "dict", data := .dict es n })
    (hx : xsOf K es.toList = some xs) (hh : es.toList.map (·.hash) = (xs.map (·.1)).map (hashT P w)) (c : chkX xs = true) : TxC P w K mg := by
  obtain ⟨i1, i2⟩ := xsOf_is (P := P) (w := w) hx
  unfold chkX at c
  obtain ⟨c1, c⟩ := Bool.and_eq_true_iff.mp c
  obtain ⟨c2, c⟩ := Bool.and_eq_true_iff.mp c
  obtain ⟨c3, c4⟩ := Bool.and_eq_true_iff.mp c
  obtain ⟨x, hx1, hx2⟩ := List.any_eq_true.mp c3
  refine ⟨⟨td, xs, m, ⟨sys, es, n, l, i2 hh, fun x hx => ⟨i1 x hx, List.all_eq_true.mp c1 x hx⟩, of_decide_eq_true c2⟩, ⟨x, hx1, by simpa using hx2⟩, fun p hp => ?_⟩⟩
  obtain ⟨a, b⟩ := p
  obtain ⟨h1, h2, h3⟩ := hp
  dsimp only at h1 h2 h3
  obtain ⟨i, rfl⟩ := Int.eq_ofNat_of_zero_le h1
  obtain ⟨j, rfl⟩ := Int.eq_ofNat_of_zero_le (show 0 ≤ b by omega)
  have q := List.all_eq_true.mp (List.all_eq_true.mp c4 i (List.mem_range.mpr (by omega))) j (List.mem_range.mpr (by omega))
  have lt : Nat.blt i j = true := Nat.ble_eq_true_of_le (by omega)
  rw [lt] at q
  have q : (match atT xs (.inr (kP ((i : Nat), (j : Nat)))) with
    | some z => He.relB (.str (pairD ((i : Nat), (j : Nat))).shown) z
    | none => false) = true := q
  cases e : atT xs (.inr (kP ((i : Nat), (j : Nat)))) with
  | none =>
    rw [e] at q
    cases q
  | some z =>
    rw [e] at q
    exact ⟨z, rfl, He.relB_ok q⟩
theorem tx_mk {P : Program} {w : World} {K : W.Frag} {mg : Str → Option Value} (m : mg "TEXTS" = some (.ref (txA K))) (b : txB K = true) (h : txH K = some (tkL.map (hashT P w))) : TxC P w K mg := by
  unfold txB at b
  unfold txH at h
  cases e : txE K with
  | none =>
    rw [e] at b
    cases b
  | some es =>
    rw [e] at b h
    dsimp only at b
    cases e2 : xsOf K es.toList with
    | none =>
      rw [e2] at b
      cases b
    | some xs =>
      rw [e2] at b
      obtain ⟨b1, b2⟩ := Bool.and_eq_true_iff.mp b
      have b1 := of_decide_eq_true b1
      unfold txE at e
      split at e
      · rename_i c es' n q
        split at e
        · rename_i q2
          obtain ⟨q3, q4⟩ := Bool.and_eq_true_iff.mp q2
          cases e
          have q3 : c = "dict" := by simpa using q3
          subst q3
          exact tx_of m (by simpa using q4) q e2 (by rw [b1]; exact Option.some.inj h) b2
        · cases e
      · cases e
end K12

set_option Elab.async false
set_option linter.all false
set_option maxRecDepth 100000
set_option maxHeartbeats 8000000
/-! What is written of defs and methods. -/
namespace K12
open PySem PySem.Spec PyProof.Rows L2 MX NZ SM
/-- what is written of a class's own method -/
def HasMeth (K : W.Frag) (C : Addr) (m q : Str) (st : Stmt) : Prop := ∃ fI oc od kV doc pm an cdv ct osl, W.findIn K (.ref C) m = some (some (.ref fI)) ∧ W.isFn K (.ref fI) = true ∧ K.lookup fI = some ⟨oc, od, .func (W.fnOf m q (defArgs st) (defBody st) (defScope st) .none kV doc pm an cdv ct), osl⟩ ∧ W.codeIn K cdv q = true ∧ W.keepIn K (.ref fI) = true
/-- what is written of a def of the text -/
def HasDef (K : W.Frag) (x : Str) (st : Stmt) : Prop := ∃ f oc od kV doc pm an cdv ct osl, W.nsIn K mainGlobals x = some (some (.ref f)) ∧ K.lookup f = some ⟨oc, od, .func (W.fnOf x x (defArgs st) (defBody st) (defScope st) .none kV doc pm an cdv ct), osl⟩ ∧ W.codeIn K cdv x = true ∧ W.keepIn K (.ref f) = true
theorem meth_of {K : W.Frag} {x m q : Str} {st : Stmt} (h : (He.Fa.meth x m).ok K = true) (d : ∃ oc od osl kV doc pm an cdv ct, K.lookup (He.fAd K (x, some m)) = some ⟨oc, od, .func (W.fnOf m q (defArgs st) (defBody st) (defScope st) .none kV doc pm an cdv ct), osl⟩ ∧ W.codeIn K cdv q = true) : HasMeth K (He.ga K x) m q st := by
  obtain ⟨oc, od, osl, kV, doc, pm, an, cdv, ct, l, c⟩ := d
  obtain ⟨c1, c'⟩ := He.ba h
  obtain ⟨c2, c3⟩ := He.ba c'
  exact ⟨_, oc, od, kV, doc, pm, an, cdv, ct, osl, He.eqO_ok c1, c2, l, c, c3⟩
theorem def_of {K : W.Frag} {x : Str} {st : Stmt} (g : (He.Fa.glo x).ok K = true) (kp : (He.Fa.keep x).ok K = true) (d : ∃ oc od osl kV doc pm an cdv ct, K.lookup (He.fAd K (x, none)) = some ⟨oc, od, .func (W.fnOf x x (defArgs st) (defBody st) (defScope st) .none kV doc pm an cdv ct), osl⟩ ∧ W.codeIn K cdv x = true) : HasDef K x st := by
  obtain ⟨oc, od, osl, kV, doc, pm, an, cdv, ct, l, c⟩ := d
  exact ⟨_, oc, od, kV, doc, pm, an, cdv, ct, osl, He.eqO_ok g, l, c, kp⟩
theorem HasMeth.fun_ {K : W.Frag} {C : Addr} {m q : Str} {st : Stmt} {ps : List Str} (h : HasMeth K C m q st) (b : ∀ kV doc pm an cdv ct (us : List Value), us.length = ps.length → bindArgs (W.fnOf m q (defArgs st) (defBody st) (defScope st) .none kV doc pm an cdv ct) ⟨us, []⟩ = pure (ps.zip us)) :
    ∃ f fd, Meth K C m f ∧ Fun K m q st f fd ∧ Binds K fd ps [] := by
  obtain ⟨f, oc, od, kV, doc, pm, an, cdv, ct, osl, h1, h2, l, c, kp⟩ := h
  have F := fun_mk (st := st) l c kp
  exact ⟨f, _, ⟨h1, h2, kp⟩, F, F.binds (ps := ps) b⟩
theorem HasDef.fun_ {K : W.Frag} {x : Str} {st : Stmt} {ps : List Str} (h : HasDef K x st) (b : ∀ kV doc pm an cdv ct (us : List Value), us.length = ps.length → bindArgs (W.fnOf x x (defArgs st) (defBody st) (defScope st) .none kV doc pm an cdv ct) ⟨us, []⟩ = pure (ps.zip us)) :
    ∃ f fd, W.nsIn K mainGlobals x = some (some (.ref f)) ∧ W.keepIn K (.ref f) = true ∧ Fun K x x st f fd ∧ Binds K fd ps [] := by
  obtain ⟨f, oc, od, kV, doc, pm, an, cdv, ct, osl, h1, l, c, kp⟩ := h
  have F := fun_mk (st := st) l c kp
  exact ⟨f, _, h1, kp, F, F.binds (ps := ps) b⟩
end K12

set_option Elab.async false
set_option linter.all false
set_option maxRecDepth 100000
set_option maxHeartbeats 0
/-! What the head leaves, and all promises from it. -/
namespace K12
open PySem PySem.Spec PyProof.Rows L2 MX NZ SM HX
def HasRec (K : W.Frag) (C p : Addr) (m : Str) (T : String) (q : Str) (st : Stmt) : Prop := ∃ g rest oc od kV doc pm an cdv ct osl, W.findIn K (.ref C) m = some (some (.ref p)) ∧ W.recIn K p T = some (.ref g :: rest) ∧ K.lookup g = some ⟨oc, od, .func (W.fnOf m q (defArgs st) (defBody st) (defScope st) .none kV doc pm an cdv ct), osl⟩ ∧ W.codeIn K cdv q = true
theorem HasRec.fun_ {K : W.Frag} {C p : Addr} {m q : Str} {T : String} {st : Stmt} (h : HasRec K C p m T q st) : ∃ g rest fd, W.findIn K (.ref C) m = some (some (.ref p)) ∧ W.recIn K p T = some (.ref g :: rest) ∧ Fun K m q st g fd ∧ W.keepIn K (.ref g) = true ∧
    ∀ ps : List Str, (∀ kV doc pm an cdv ct (us : List Value), us.length = ps.length → bindArgs (W.fnOf m q (defArgs st) (defBody st) (defScope st) .none kV doc pm an cdv ct) ⟨us, []⟩ = pure (ps.zip us)) → Binds K fd ps [] := by
  obtain ⟨g, rest, oc, od, kV, doc, pm, an, cdv, ct, osl, h1, h2, l, c⟩ := h
  have kp : W.keepIn K (.ref g) = true := by
    unfold W.keepIn
    dsimp only
    rw [l]
  have F := fun_mk (st := st) l c kp
  exact ⟨g, rest, _, h1, h2, F, kp, fun ps b => F.binds (ps := ps) b⟩
theorem rec_of {K : W.Frag} {m q : Str} {T : String} {st : Stmt} (h : gnB K (rcG m T q st) = true ∧ gnV K (rcG m T q st) = (rcG m T q st).val) : HasRec K (He.ga K "Stair") (He.ma K (He.ga K "Stair") m) m T q st := by
  obtain ⟨g, rest, oc, od, kV, doc, pm, an, cdv, ct, osl, h1, h2, l, c⟩ := gn_ok h.1 h.2
  exact ⟨g, rest, oc, od, kV, doc, pm, an, cdv, ct, osl, h1, h2, l, c⟩
theorem insB_ok {K : W.Frag} {C : Addr} (c : Cls K C) (h : insB K C = true) : C8.InsC K C := by
  obtain ⟨h1, h⟩ := Bool.and_eq_true_iff.mp h
  obtain ⟨h2, h⟩ := Bool.and_eq_true_iff.mp h
  obtain ⟨h3, h⟩ := Bool.and_eq_true_iff.mp h
  obtain ⟨h4, h5⟩ := Bool.and_eq_true_iff.mp h
  exact ⟨c, He.eqO_ok h1, He.eqO_ok h2, of_decide_eq_true h3, of_decide_eq_true h4, of_decide_eq_true h5⟩
theorem offB_ok {K : W.Frag} {C : Addr} {us : List String} (h : offB K C us = true) : ∀ U ∈ us, W.kitOne K (.type U) (.ref C) = some false := fun U hU => of_decide_eq_true (List.all_eq_true.mp h U hU)
theorem cvB_ok {K : W.Frag} {C : Addr} {f : Str} {i : Int} (h : cvB K C f i = true) : ∃ u, ClX.CVal K C (.type "type") f (.int i) u := by
  unfold cvB at h
  split at h
  · rename_i j t q
    have e := of_decide_eq_true h
    subst e
    exact ⟨_, q, ⟨_, rfl⟩⟩
  · cases h
theorem conB_ok {K : W.Frag} {C : Addr} {f : Str} {i : Int} (h : conB K C f i = true) (cp : W.copiedNames.contains f = false) : ∃ u, Con K C f (.int i) u := by
  unfold conB at h
  split at h
  · rename_i j t q
    obtain ⟨h1, h2⟩ := Bool.and_eq_true_iff.mp h
    have e := of_decide_eq_true h1
    subst e
    exact ⟨_, q, ⟨_, rfl⟩, He.eqO_ok h2, cp⟩
  · cases h
theorem smB_ok {K : W.Frag} {C : Addr} {m : Str} (h : smB K C m = true) : W.findCls K (.ref C) (.type "type") m = some (.get (.builtin "staticmethod.__get__") (.ref (He.ma K C m)) .none (.ref C)) := by
  unfold smB at h
  split at h
  · rename_i g p D q
    obtain ⟨h1, h⟩ := Bool.and_eq_true_iff.mp h
    obtain ⟨h2, h3⟩ := Bool.and_eq_true_iff.mp h
    have e1 := of_decide_eq_true h1
    have e2 : p = _ := Nat.eq_of_beq_eq_true h2
    have e3 : D = C := Nat.eq_of_beq_eq_true h3
    subst e1 e3
    rw [q, e2]
  · cases h
theorem fnR0 {P : Program} {w : World} {K : W.Frag} {mg : Str → Option Value} {base : Heap} {k : Nat} {f : Addr} {fd : FuncData} {ps : List Str} {sp : Sp} (F : FnOk P w K mg base CX0 k f fd ps sp) (b : Binds K fd ps []) : FnR P w K mg base CX0 k f sp :=
  (F.raw b .nil).imp fun vs H Q E h => by rw [List.append_nil]; exact h

theorem ma_at {K : W.Frag} {C f : Addr} {m : Str} (h : W.findIn K (.ref C) m = some (some (.ref f))) : He.ma K C m = f := by
  unfold He.ma
  rw [h]
theorem vals_rev : ∀ {vs : List V} {us : List Value}, Vals vs us → Vals vs.reverse us.reverse
  | _, _, .nil => .nil
  | _, _, .cons r t => by
    rw [List.reverse_cons, List.reverse_cons]
    exact (vals_rev t).append (.cons r .nil)
theorem facts {P : Program} {w : World} {K : W.Frag} {mg : Str → Option Value} {h : Heap} {fa : Addr} (X : K.In h) (G : h.Ns mainGlobals mg) (hfa : mg "law" = some (.ref fa)) (c : obsXH faA fnA gnA Bk txH K = valH fnA gnA (tkL.map (hashT P w))) :
    ∃ fd : FuncData, (∀ (s : Shared) (v : Value), BindsTo s fd ⟨[v], []⟩ [("_law_script", v)]) ∧ ∀ base : Heap, K.In base → base.Ns mainGlobals mg → FnG P w K mg base CX0 10 fa fd ["_law_script"] (spLaw K) := by
  obtain ⟨hb, c, gn, hT⟩ := saidH c
  obtain ⟨hx, hb⟩ := Bool.and_eq_true_iff.mp hb
  rw [forceL_eq] at hb
  have hb : bkC K (He.ga K "Stair") (He.ga K "Ready") = true := hb
  obtain ⟨b1, hb⟩ := Bool.and_eq_true_iff.mp hb
  obtain ⟨b2, hb⟩ := Bool.and_eq_true_iff.mp hb
  obtain ⟨b3, hb⟩ := Bool.and_eq_true_iff.mp hb
  obtain ⟨b4, hb⟩ := Bool.and_eq_true_iff.mp hb
  obtain ⟨b5, hb⟩ := Bool.and_eq_true_iff.mp hb
  obtain ⟨b6, hb⟩ := Bool.and_eq_true_iff.mp hb
  obtain ⟨b7, hb⟩ := Bool.and_eq_true_iff.mp hb
  obtain ⟨b8, hb⟩ := Bool.and_eq_true_iff.mp hb
  obtain ⟨b9, hb⟩ := Bool.and_eq_true_iff.mp hb
  obtain ⟨b10, hb⟩ := Bool.and_eq_true_iff.mp hb
  obtain ⟨b11, hb⟩ := Bool.and_eq_true_iff.mp hb
  obtain ⟨b12, hb⟩ := Bool.and_eq_true_iff.mp hb
  obtain ⟨b13, hb⟩ := Bool.and_eq_true_iff.mp hb
  obtain ⟨b14, hb⟩ := Bool.and_eq_true_iff.mp hb
  obtain ⟨b15, hb⟩ := Bool.and_eq_true_iff.mp hb
  obtain ⟨b16, hb⟩ := Bool.and_eq_true_iff.mp hb
  obtain ⟨b17, hb⟩ := Bool.and_eq_true_iff.mp hb
  have nn : ∀ x ∈ bare, mg x = none := fun x hx => W.mg_none_of X G (He.eqO_ok (List.all_eq_true.mp hb x hx))
  have bl : Bl mg := ⟨nn _ (by decide), nn _ (by decide), nn _ (by decide), nn _ (by decide), nn _ (by decide), nn _ (by decide), nn _ (by decide), nn _ (by decide), nn _ (by decide), nn _ (by decide), nn _ (by decide), nn _ (by decide)⟩
  have bl2 : Bl2 mg := ⟨nn _ (by decide), nn _ (by decide), nn _ (by decide), nn _ (by decide), nn _ (by decide), nn _ (by decide), nn _ (by decide)⟩
  have cS : Cls K (He.ga K "Stair") := He.cls_ok (c.fact 48 (f := .cls "Stair") rfl)
  have cR : Cls K (He.ga K "Ready") := He.cls_ok (c.fact 49 (f := .cls "Ready") rfl)
  obtain ⟨u1, v1⟩ := cvB_ok b7
  obtain ⟨u2, v2⟩ := cvB_ok b8
  have cr : ClX.CRead K (He.ga K "Stair") (.type "type") := ⟨b5, He.eqO_ok b6⟩
  have S : StC K mg (He.ga K "Stair") := ⟨He.glo_ok X G (c.fact 46 (f := .glo "Stair") rfl), cS, ⟨_, u1, u2, cr, v1, v2⟩, He.noat_ok (c.fact 50 (f := .noat "Stair" "_jumps") rfl), He.noat_ok (c.fact 51 (f := .noat "Stair" "_steps") rfl), He.noat_ok (c.fact 52 (f := .noat "Stair" "_things") rfl), He.noat_ok (c.fact 53 (f := .noat "Stair" "_table") rfl)⟩
  have D : StD K (He.ga K "Stair") := ⟨insB_ok cS b1, offB_ok b3⟩
  have T : RdC K mg (He.ga K "Ready") := ⟨He.glo_ok X G (c.fact 47 (f := .glo "Ready") rfl), insB_ok cR b2, He.noat_ok (c.fact 54 (f := .noat "Ready" "part") rfl), offB_ok b4 _ (by decide), offB_ok b4 _ (by decide)⟩
  obtain ⟨uC, con⟩ := conB_ok b9 (by decide +kernel)
  obtain ⟨tM, mM⟩ := He.int_ok X G b17
  have tx : TxC P w K mg := tx_mk (He.glo_ok X G (x := "TEXTS") (c.fact 69 (f := .glo "TEXTS") rfl)) hx hT
  obtain ⟨f_num, fd_num, n_num, k_num, F_num, b_num⟩ := HasDef.fun_ (ps := (["value"] : List Str)) (def_of (st := sNum) (c.fact 0 (f := .glo "is_number") rfl) (c.fact 1 (f := .keep "is_number") rfl) (c.def_ 0 (d := dF "is_number" sNum) rfl)) fun _ _ _ _ _ _ us hl => match us, hl with | [_], _ => rfl
  have m_num := W.mg_of X G n_num
  have D_num : Dn K mg "is_number" sNum ["value"] f_num fd_num := ⟨F_num, b_num, m_num⟩
  obtain ⟨f_lst, fd_lst, n_lst, k_lst, F_lst, b_lst⟩ := HasDef.fun_ (ps := (["value"] : List Str)) (def_of (st := sList) (c.fact 2 (f := .glo "is_list") rfl) (c.fact 3 (f := .keep "is_list") rfl) (c.def_ 1 (d := dF "is_list" sList) rfl)) fun _ _ _ _ _ _ us hl => match us, hl with | [_], _ => rfl
  have m_lst := W.mg_of X G n_lst
  have D_lst : Dn K mg "is_list" sList ["value"] f_lst fd_lst := ⟨F_lst, b_lst, m_lst⟩
  obtain ⟨f_len, fd_len, n_len, k_len, F_len, b_len⟩ := HasDef.fun_ (ps := (["value"] : List Str)) (def_of (st := sLen) (c.fact 4 (f := .glo "is_length") rfl) (c.fact 5 (f := .keep "is_length") rfl) (c.def_ 2 (d := dF "is_length" sLen) rfl)) fun _ _ _ _ _ _ us hl => match us, hl with | [_], _ => rfl
  have m_len := W.mg_of X G n_len
  have D_len : Dn K mg "is_length" sLen ["value"] f_len fd_len := ⟨F_len, b_len, m_len⟩
  obtain ⟨f_way, fd_way, n_way, k_way, F_way, b_way⟩ := HasDef.fun_ (ps := (["stair", "value"] : List Str)) (def_of (st := (top 18)) (c.fact 6 (f := .glo "is_way") rfl) (c.fact 7 (f := .keep "is_way") rfl) (c.def_ 3 (d := dF "is_way" (top 18)) rfl)) fun _ _ _ _ _ _ us hl => match us, hl with | [_, _], _ => rfl
  have m_way := W.mg_of X G n_way
  have D_way : Dn K mg "is_way" (top 18) ["stair", "value"] f_way fd_way := ⟨F_way, b_way, m_way⟩
  obtain ⟨f_fst, fd_fst, n_fst, k_fst, F_fst, b_fst⟩ := HasDef.fun_ (ps := (["row", "right"] : List Str)) (def_of (st := (top 19)) (c.fact 8 (f := .glo "first_wrong") rfl) (c.fact 9 (f := .keep "first_wrong") rfl) (c.def_ 4 (d := dF "first_wrong" (top 19)) rfl)) fun _ _ _ _ _ _ us hl => match us, hl with | [_, _], _ => rfl
  have m_fst := W.mg_of X G n_fst
  have D_fst : Dn K mg "first_wrong" (top 19) ["row", "right"] f_fst fd_fst := ⟨F_fst, b_fst, m_fst⟩
  obtain ⟨f_chl, fd_chl, n_chl, k_chl, F_chl, b_chl⟩ := HasDef.fun_ (ps := (["lengths"] : List Str)) (def_of (st := (top 20)) (c.fact 10 (f := .glo "check_lengths") rfl) (c.fact 11 (f := .keep "check_lengths") rfl) (c.def_ 5 (d := dF "check_lengths" (top 20)) rfl)) fun _ _ _ _ _ _ us hl => match us, hl with | [_], _ => rfl
  have m_chl := W.mg_of X G n_chl
  have D_chl : Dn K mg "check_lengths" (top 20) ["lengths"] f_chl fd_chl := ⟨F_chl, b_chl, m_chl⟩
  obtain ⟨f_stp, fd_stp, n_stp, k_stp, F_stp, b_stp⟩ := HasDef.fun_ (ps := (["steps"] : List Str)) (def_of (st := sSteps) (c.fact 12 (f := .glo "check_steps") rfl) (c.fact 13 (f := .keep "check_steps") rfl) (c.def_ 6 (d := dF "check_steps" sSteps) rfl)) fun _ _ _ _ _ _ us hl => match us, hl with | [_], _ => rfl
  have m_stp := W.mg_of X G n_stp
  have D_stp : Dn K mg "check_steps" sSteps ["steps"] f_stp fd_stp := ⟨F_stp, b_stp, m_stp⟩
  obtain ⟨f_srt, fd_srt, n_srt, k_srt, F_srt, b_srt⟩ := HasDef.fun_ (ps := (["steps", "jumps"] : List Str)) (def_of (st := sSorted) (c.fact 14 (f := .glo "sorted_jumps") rfl) (c.fact 15 (f := .keep "sorted_jumps") rfl) (c.def_ 7 (d := dF "sorted_jumps" sSorted) rfl)) fun _ _ _ _ _ _ us hl => match us, hl with | [_, _], _ => rfl
  have m_srt := W.mg_of X G n_srt
  have D_srt : Dn K mg "sorted_jumps" sSorted ["steps", "jumps"] f_srt fd_srt := ⟨F_srt, b_srt, m_srt⟩
  obtain ⟨f_pot, fd_pot, n_pot, k_pot, F_pot, b_pot⟩ := HasDef.fun_ (ps := (["_law_script", "_law_k"] : List Str)) (def_of (st := (top 28)) (c.fact 16 (f := .glo "_law_pot") rfl) (c.fact 17 (f := .keep "_law_pot") rfl) (c.def_ 8 (d := dF "_law_pot" (top 28)) rfl)) fun _ _ _ _ _ _ us hl => match us, hl with | [_, _], _ => rfl
  have m_pot := W.mg_of X G n_pot
  have D_pot : Dn K mg "_law_pot" (top 28) ["_law_script", "_law_k"] f_pot fd_pot := ⟨F_pot, b_pot, m_pot⟩
  obtain ⟨f_drw, fd_drw, n_drw, k_drw, F_drw, b_drw⟩ := HasDef.fun_ (ps := (["_law_pot_here", "_law_sides"] : List Str)) (def_of (st := (top 29)) (c.fact 18 (f := .glo "_law_draw") rfl) (c.fact 19 (f := .keep "_law_draw") rfl) (c.def_ 9 (d := dF "_law_draw" (top 29)) rfl)) fun _ _ _ _ _ _ us hl => match us, hl with | [_, _], _ => rfl
  have m_drw := W.mg_of X G n_drw
  have D_drw : Dn K mg "_law_draw" (top 29) ["_law_pot_here", "_law_sides"] f_drw fd_drw := ⟨F_drw, b_drw, m_drw⟩
  obtain ⟨f_pck, fd_pck, n_pck, k_pck, F_pck, b_pck⟩ := HasDef.fun_ (ps := (["_law_pot_here", "_law_some"] : List Str)) (def_of (st := (top 30)) (c.fact 20 (f := .glo "_law_pick") rfl) (c.fact 21 (f := .keep "_law_pick") rfl) (c.def_ 10 (d := dF "_law_pick" (top 30)) rfl)) fun _ _ _ _ _ _ us hl => match us, hl with | [_, _], _ => rfl
  have m_pck := W.mg_of X G n_pck
  have D_pck : Dn K mg "_law_pick" (top 30) ["_law_pot_here", "_law_some"] f_pck fd_pck := ⟨F_pck, b_pck, m_pck⟩
  obtain ⟨f_mix, fd_mix, n_mix, k_mix, F_mix, b_mix⟩ := HasDef.fun_ (ps := (["_law_pot_here", "_law_some"] : List Str)) (def_of (st := (top 31)) (c.fact 22 (f := .glo "_law_mixed") rfl) (c.fact 23 (f := .keep "_law_mixed") rfl) (c.def_ 11 (d := dF "_law_mixed" (top 31)) rfl)) fun _ _ _ _ _ _ us hl => match us, hl with | [_, _], _ => rfl
  have m_mix := W.mg_of X G n_mix
  have D_mix : Dn K mg "_law_mixed" (top 31) ["_law_pot_here", "_law_some"] f_mix fd_mix := ⟨F_mix, b_mix, m_mix⟩
  obtain ⟨f_evr, fd_evr, n_evr, k_evr, F_evr, b_evr⟩ := HasDef.fun_ (ps := (["_law_top"] : List Str)) (def_of (st := (top 32)) (c.fact 24 (f := .glo "_law_every") rfl) (c.fact 25 (f := .keep "_law_every") rfl) (c.def_ 12 (d := dF "_law_every" (top 32)) rfl)) fun _ _ _ _ _ _ us hl => match us, hl with | [_], _ => rfl
  have m_evr := W.mg_of X G n_evr
  have D_evr : Dn K mg "_law_every" (top 32) ["_law_top"] f_evr fd_evr := ⟨F_evr, b_evr, m_evr⟩
  obtain ⟨f_prt, fd_prt, n_prt, k_prt, F_prt, b_prt⟩ := HasDef.fun_ (ps := (["_law_pot_here", "_law_low", "_law_high"] : List Str)) (def_of (st := (top 33)) (c.fact 26 (f := .glo "_law_parts") rfl) (c.fact 27 (f := .keep "_law_parts") rfl) (c.def_ 13 (d := dF "_law_parts" (top 33)) rfl)) fun _ _ _ _ _ _ us hl => match us, hl with | [_, _, _], _ => rfl
  have m_prt := W.mg_of X G n_prt
  have D_prt : Dn K mg "_law_parts" (top 33) ["_law_pot_here", "_law_low", "_law_high"] f_prt fd_prt := ⟨F_prt, b_prt, m_prt⟩
  obtain ⟨f_of, fd_of, n_of, k_of, F_of, b_of⟩ := HasDef.fun_ (ps := (["_law_top", "_law_lens"] : List Str)) (def_of (st := (top 34)) (c.fact 28 (f := .glo "_law_of") rfl) (c.fact 29 (f := .keep "_law_of") rfl) (c.def_ 14 (d := dF "_law_of" (top 34)) rfl)) fun _ _ _ _ _ _ us hl => match us, hl with | [_, _], _ => rfl
  have m_of := W.mg_of X G n_of
  have D_of : Dn K mg "_law_of" (top 34) ["_law_top", "_law_lens"] f_of fd_of := ⟨F_of, b_of, m_of⟩
  obtain ⟨f_four, fd_four, n_four, k_four, F_four, b_four⟩ := HasDef.fun_ (ps := (["_law_top", "_law_lens"] : List Str)) (def_of (st := (top 35)) (c.fact 30 (f := .glo "_law_four") rfl) (c.fact 31 (f := .keep "_law_four") rfl) (c.def_ 15 (d := dF "_law_four" (top 35)) rfl)) fun _ _ _ _ _ _ us hl => match us, hl with | [_, _], _ => rfl
  have m_four := W.mg_of X G n_four
  have D_four : Dn K mg "_law_four" (top 35) ["_law_top", "_law_lens"] f_four fd_four := ⟨F_four, b_four, m_four⟩
  obtain ⟨f_thg, fd_thg, n_thg, k_thg, F_thg, b_thg⟩ := HasDef.fun_ (ps := (["_law_top", "_law_pairs", "_law_thing"] : List Str)) (def_of (st := (top 36)) (c.fact 32 (f := .glo "_law_is_thing") rfl) (c.fact 33 (f := .keep "_law_is_thing") rfl) (c.def_ 16 (d := dF "_law_is_thing" (top 36)) rfl)) fun _ _ _ _ _ _ us hl => match us, hl with | [_, _, _], _ => rfl
  have m_thg := W.mg_of X G n_thg
  have D_thg : Dn K mg "_law_is_thing" (top 36) ["_law_top", "_law_pairs", "_law_thing"] f_thg fd_thg := ⟨F_thg, b_thg, m_thg⟩
  obtain ⟨f_row, fd_row, n_row, k_row, F_row, b_row⟩ := HasDef.fun_ (ps := (["_law_top", "_law_pairs", "_law_thing"] : List Str)) (def_of (st := (top 37)) (c.fact 34 (f := .glo "_law_is_row") rfl) (c.fact 35 (f := .keep "_law_is_row") rfl) (c.def_ 17 (d := dF "_law_is_row" (top 37)) rfl)) fun _ _ _ _ _ _ us hl => match us, hl with | [_, _, _], _ => rfl
  have m_row := W.mg_of X G n_row
  have D_row : Dn K mg "_law_is_row" (top 37) ["_law_top", "_law_pairs", "_law_thing"] f_row fd_row := ⟨F_row, b_row, m_row⟩
  obtain ⟨f_odd, fd_odd, n_odd, k_odd, F_odd, b_odd⟩ := HasDef.fun_ (ps := (["_law_pot_here", "_law_top", "_law_pairs"] : List Str)) (def_of (st := (top 38)) (c.fact 36 (f := .glo "_law_odd") rfl) (c.fact 37 (f := .keep "_law_odd") rfl) (c.def_ 18 (d := dF "_law_odd" (top 38)) rfl)) fun _ _ _ _ _ _ us hl => match us, hl with | [_, _, _], _ => rfl
  have m_odd := W.mg_of X G n_odd
  have D_odd : Dn K mg "_law_odd" (top 38) ["_law_pot_here", "_law_top", "_law_pairs"] f_odd fd_odd := ⟨F_odd, b_odd, m_odd⟩
  obtain ⟨f_tld, fd_tld, n_tld, k_tld, F_tld, b_tld⟩ := HasDef.fun_ (ps := (["_law_pot_here", "_law_made", "_law_top", "_law_pairs"] : List Str)) (def_of (st := (top 39)) (c.fact 38 (f := .glo "_law_is_told") rfl) (c.fact 39 (f := .keep "_law_is_told") rfl) (c.def_ 19 (d := dF "_law_is_told" (top 39)) rfl)) fun _ _ _ _ _ _ us hl => match us, hl with | [_, _, _, _], _ => rfl
  have m_tld := W.mg_of X G n_tld
  have D_tld : Dn K mg "_law_is_told" (top 39) ["_law_pot_here", "_law_made", "_law_top", "_law_pairs"] f_tld fd_tld := ⟨F_tld, b_tld, m_tld⟩
  obtain ⟨f_lr, fd_lr, n_lr, k_lr, F_lr, b_lr⟩ := HasDef.fun_ (ps := (["_law_pot_here"] : List Str)) (def_of (st := (top 40)) (c.fact 40 (f := .glo "_law_lens_right") rfl) (c.fact 41 (f := .keep "_law_lens_right") rfl) (c.def_ 20 (d := dF "_law_lens_right" (top 40)) rfl)) fun _ _ _ _ _ _ us hl => match us, hl with | [_], _ => rfl
  have m_lr := W.mg_of X G n_lr
  have D_lr : Dn K mg "_law_lens_right" (top 40) ["_law_pot_here"] f_lr fd_lr := ⟨F_lr, b_lr, m_lr⟩
  obtain ⟨f_rgt, fd_rgt, n_rgt, k_rgt, F_rgt, b_rgt⟩ := HasDef.fun_ (ps := (["_law_pot_here"] : List Str)) (def_of (st := (top 41)) (c.fact 42 (f := .glo "_law_right") rfl) (c.fact 43 (f := .keep "_law_right") rfl) (c.def_ 21 (d := dF "_law_right" (top 41)) rfl)) fun _ _ _ _ _ _ us hl => match us, hl with | [_], _ => rfl
  have m_rgt := W.mg_of X G n_rgt
  have D_rgt : Dn K mg "_law_right" (top 41) ["_law_pot_here"] f_rgt fd_rgt := ⟨F_rgt, b_rgt, m_rgt⟩
  obtain ⟨f_law, ocL, odL, kVL, docL, pmL, anL, cdL, ctL, oslL, n_law, l_law, cd_law, k_law⟩ := def_of (st := sLaw) (c.fact 44 (f := .glo "law") rfl) (c.fact 45 (f := .keep "law") rfl) (c.def_ 22 (d := dF "law" sLaw) rfl)
  have F_law := fun_mk (st := sLaw) l_law cd_law k_law
  have ee := hfa.symm.trans (W.mg_of X G n_law)
  cases ee
  obtain ⟨f_init, oc_init, od_init, kV_init, doc_init, pm_init, an_init, cd_init, ct_init, osl_init, h1_init, h2_init, l_init, c_init, k_init⟩ := meth_of (st := sInit) (c.fact 57 (f := .meth "Stair" "__init__") rfl) (c.def_ 23 (d := dM "Stair" "__init__" "Stair.__init__" sInit) rfl)
  have F_init := fun_mk (st := sInit) l_init c_init k_init
  have b_init := F_init.binds (ps := (["self", "steps", "jumps"] : List Str)) fun _ _ _ _ _ _ us hl => match us, hl with | [_, _, _], _ => rfl
  obtain ⟨f_jumps, fd_jumps, M_jumps, F_jumps, b_jumps⟩ := HasMeth.fun_ (ps := (["self"] : List Str)) (meth_of (st := (mth 6)) (c.fact 58 (f := .meth "Stair" "jumps") rfl) (c.def_ 24 (d := dM "Stair" "jumps" "Stair.jumps" (mth 6)) rfl)) fun _ _ _ _ _ _ us hl => match us, hl with | [_], _ => rfl
  obtain ⟨f_things, fd_things, M_things, F_things, b_things⟩ := HasMeth.fun_ (ps := (["self"] : List Str)) (meth_of (st := (mth 7)) (c.fact 59 (f := .meth "Stair" "things") rfl) (c.def_ 25 (d := dM "Stair" "things" "Stair.things" (mth 7)) rfl)) fun _ _ _ _ _ _ us hl => match us, hl with | [_], _ => rfl
  obtain ⟨f_lens, fd_lens, M_lens, F_lens, b_lens⟩ := HasMeth.fun_ (ps := (["self"] : List Str)) (meth_of (st := (mth 8)) (c.fact 60 (f := .meth "Stair" "lengths") rfl) (c.def_ 26 (d := dM "Stair" "lengths" "Stair.lengths" (mth 8)) rfl)) fun _ _ _ _ _ _ us hl => match us, hl with | [_], _ => rfl
  obtain ⟨f_run, fd_run, M_run, F_run, b_run⟩ := HasMeth.fun_ (ps := (["self", "value"] : List Str)) (meth_of (st := (mth 9)) (c.fact 61 (f := .meth "Stair" "is_run") rfl) (c.def_ 27 (d := dM "Stair" "is_run" "Stair.is_run" (mth 9)) rfl)) fun _ _ _ _ _ _ us hl => match us, hl with | [_, _], _ => rfl
  obtain ⟨f_len0, fd_len0, M_len0, F_len0, b_len0⟩ := HasMeth.fun_ (ps := (["self"] : List Str)) (meth_of (st := (mth 13)) (c.fact 62 (f := .meth "Stair" "__len__") rfl) (c.def_ 28 (d := dM "Stair" "__len__" "Stair.__len__" (mth 13)) rfl)) fun _ _ _ _ _ _ us hl => match us, hl with | [_], _ => rfl
  obtain ⟨f_has, fd_has, M_has, F_has, b_has⟩ := HasMeth.fun_ (ps := (["self", "x"] : List Str)) (meth_of (st := (mth 14)) (c.fact 63 (f := .meth "Stair" "__contains__") rfl) (c.def_ 29 (d := dM "Stair" "__contains__" "Stair.__contains__" (mth 14)) rfl)) fun _ _ _ _ _ _ us hl => match us, hl with | [_, _], _ => rfl
  obtain ⟨f_iter, fd_iter, M_iter, F_iter, b_iter⟩ := HasMeth.fun_ (ps := (["self"] : List Str)) (meth_of (st := (mth 15)) (c.fact 64 (f := .meth "Stair" "__iter__") rfl) (c.def_ 30 (d := dM "Stair" "__iter__" "Stair.__iter__" (mth 15)) rfl)) fun _ _ _ _ _ _ us hl => match us, hl with | [_], _ => rfl
  obtain ⟨f_call, oc_call, od_call, kV_call, doc_call, pm_call, an_call, cd_call, ct_call, osl_call, h1_call, h2_call, l_call, c_call, k_call⟩ := meth_of (st := (mth 16)) (c.fact 65 (f := .meth "Stair" "__call__") rfl) (c.def_ 31 (d := dM "Stair" "__call__" "Stair.__call__" (mth 16)) rfl)
  have F_call := fun_mk (st := (mth 16)) l_call c_call k_call
  have b_call := F_call.binds (ps := (["self", "value"] : List Str)) fun _ _ _ _ _ _ us hl => match us, hl with | [_, _], _ => rfl
  obtain ⟨f_eq, fd_eq, M_eq, F_eq, b_eq⟩ := HasMeth.fun_ (ps := (["self", "other"] : List Str)) (meth_of (st := (mth 21)) (c.fact 66 (f := .meth "Stair" "__eq__") rfl) (c.def_ 32 (d := dM "Stair" "__eq__" "Stair.__eq__" (mth 21)) rfl)) fun _ _ _ _ _ _ us hl => match us, hl with | [_, _], _ => rfl
  obtain ⟨f_repr, fd_repr, M_repr, F_repr, b_repr⟩ := HasMeth.fun_ (ps := (["self"] : List Str)) (meth_of (st := (mth 22)) (c.fact 67 (f := .meth "Stair" "__repr__") rfl) (c.def_ 33 (d := dM "Stair" "__repr__" "Stair.__repr__" (mth 22)) rfl)) fun _ _ _ _ _ _ us hl => match us, hl with | [_], _ => rfl
  obtain ⟨f_rdy, fd_rdy, M_rdy, F_rdy, b_rdy⟩ := HasMeth.fun_ (ps := (["self", "part"] : List Str)) (meth_of (st := sReady) (c.fact 68 (f := .meth "Ready" "__init__") rfl) (c.def_ 34 (d := dM "Ready" "__init__" "Ready.__init__" sReady) rfl)) fun _ _ _ _ _ _ us hl => match us, hl with | [_, _], _ => rfl
  obtain ⟨g_of, r_of, fd_of, h1_of, h2_of, F_of, k_of, _⟩ := (rec_of (gn (rcG "of" "staticmethod" "Stair.of" (mth 3)) (by simp [gnA]))).fun_
  obtain ⟨g_steps, r_steps, fd_steps, h1_steps, h2_steps, F_steps, k_steps, bb_steps⟩ := (rec_of (gn (rcG "steps" "property" "Stair.steps" (mth 4)) (by simp [gnA]))).fun_
  have b_steps := bb_steps ["self"] fun _ _ _ _ _ _ us hl => match us, hl with | [_], _ => rfl
  obtain ⟨p1_steps, p2_steps⟩ := Bool.and_eq_true_iff.mp b11
  have P_steps : PropOf K (He.ga K "Stair") "steps" (He.ma K (He.ga K "Stair") "steps") g_steps := ⟨h1_steps, He.eqO_ok p1_steps, of_decide_eq_true p2_steps, ⟨_, h2_steps⟩⟩
  obtain ⟨g_head, r_head, fd_head, h1_head, h2_head, F_head, k_head, bb_head⟩ := (rec_of (gn (rcG "head" "property" "Stair.head" (mth 5)) (by simp [gnA]))).fun_
  have b_head := bb_head ["self"] fun _ _ _ _ _ _ us hl => match us, hl with | [_], _ => rfl
  obtain ⟨p1_head, p2_head⟩ := Bool.and_eq_true_iff.mp b12
  have P_head : PropOf K (He.ga K "Stair") "head" (He.ma K (He.ga K "Stair") "head") g_head := ⟨h1_head, He.eqO_ok p1_head, of_decide_eq_true p2_head, ⟨_, h2_head⟩⟩
  have kc : ∀ a b : Value, bindArgs (W.fnOf "__call__" "Stair.__call__" (defArgs (mth 16)) (defBody (mth 16)) (defScope (mth 16)) .none kV_call doc_call pm_call an_call cd_call ct_call) ⟨[a], [(("value" : Str), b)]⟩ = pure [(("self" : Str), a), (("value" : Str), b)] := fun a b => rfl
  have kb_call : KBn K (W.fnOf "__call__" "Stair.__call__" (defArgs (mth 16)) (defBody (mth 16)) (defScope (mth 16)) .none kV_call doc_call pm_call an_call cd_call ct_call) ["self", "value"] 1 ["value"] (fun us ws => us ++ ws) (fun vs zs => vs ++ zs) := ⟨fun s us ws X l1 l2 => match us, ws, l1, l2 with | [a], [b], _, _ => .of_eq (kc a b), fun r r' => r.append r'⟩
  have ki : ∀ a b d : Value, bindArgs (W.fnOf "__init__" "Stair.__init__" (defArgs sInit) (defBody sInit) (defScope sInit) .none kV_init doc_init pm_init an_init cd_init ct_init) ⟨[a], [(("jumps" : Str), d), (("steps" : Str), b)]⟩ = pure [(("self" : Str), a), (("steps" : Str), b), (("jumps" : Str), d)] := fun a b d => rfl
  have kb_init : KBn K (W.fnOf "__init__" "Stair.__init__" (defArgs sInit) (defBody sInit) (defScope sInit) .none kV_init doc_init pm_init an_init cd_init ct_init) ["self", "steps", "jumps"] 1 ["jumps", "steps"] (fun us ws => us ++ ws.reverse) (fun vs zs => vs ++ zs.reverse) := ⟨fun s us ws X l1 l2 => match us, ws, l1, l2 with | [a], [d, b], _, _ => .of_eq (ki a b d), fun r r' => r.append (vals_rev r')⟩
  have MI : Mk K (He.ga K "Stair") f_init := by
    have q := He.mkr_ok (c.fact 55 (f := .mkr "Stair") rfl)
    have e := h1_init.symm.trans q.init
    cases e
    exact q
  have MR : Mk K (He.ga K "Ready") f_rdy := by
    have q := He.mkr_ok (c.fact 56 (f := .mkr "Ready") rfl)
    have e := M_rdy.at_.symm.trans q.init
    cases e
    exact q
  refine ⟨W.fnOf "law" "law" (defArgs sLaw) (defBody sLaw) (defScope sLaw) .none kVL docL pmL anL cdL ctL, fun s v => .of_eq rfl, fun base _ _ => ?_⟩
  have GN := ok_num (P := P) (w := w) (base := base) F_num bl bl2
  have GLi := ok_list (P := P) (w := w) (base := base) F_lst bl bl2
  have GLe := ok_len F_len bl bl2 mM GN k_num b_num m_num
  have GS := ok_steps F_stp S GN k_num b_num m_num
  have GJ := ok_sorted F_srt bl bl2 GLi k_lst b_lst m_lst
  have GRd := ok_ready (P := P) (w := w) (base := base) F_rdy T
  have GI := ok_init F_init bl bl2 S T GS k_stp b_stp m_stp GJ k_srt b_srt m_srt
  have GL0 := ok_len0 (P := P) (w := w) (base := base) F_len0 bl S
  have GSt := ok_stp (P := P) (w := w) (base := base) F_steps S
  have GHd := ok_head (P := P) (w := w) (base := base) F_head S
  have GJu := ok_jumps (P := P) (w := w) (base := base) F_jumps bl2 S
  have GTh := ok_things (P := P) (w := w) (base := base) F_things bl2 S
  have GLn := ok_lens (P := P) (w := w) (base := base) F_lens bl2 S
  have GIt := ok_iter (P := P) (w := w) (base := base) F_iter b_iter bl2 S
  have GRun := ok_run (P := P) (w := w) (base := base) F_run bl bl2 S
  have GHas := ok_has (P := P) (w := w) (base := base) F_has bl bl2 S
  have GWay := ok_way F_way S GRun M_run b_run GHd P_head b_head
  have GCall := ok_call F_call GWay k_way b_way m_way
  have GEq := ok_eq (P := P) (w := w) (base := base) F_eq bl S D
  have GRep := ok_repr (base := base) F_repr S tx
  have GF := ok_first (P := P) (w := w) (base := base) F_fst bl bl2
  have GCh := ok_checkL F_chl GF k_fst b_fst m_fst GLe k_len b_len m_len
  have GOf : FnR P w K mg base CX0 5 g_of (spOfS P w K (He.ga K "Stair")) := ok_of F_of bl S T GS k_stp b_stp m_stp GCh k_chl b_chl m_chl MI GI b_init MR GRd b_rdy
  have O : OfC P w K mg base (He.ga K "Stair") (.type "type") (He.ma K (He.ga K "Stair") "of") g_of := ⟨cr, ⟨smB_ok b10, ⟨_, h2_of⟩, k_of⟩, GOf⟩
  have FF : StF P w K mg base (He.ga K "Stair") (He.ga K "Ready") := {
    S := S
    D := D
    T := T
    has := ⟨f_has, M_has.at_, M_has.fn, fnR0 GHas b_has⟩
    len := ⟨f_len0, M_len0.at_, M_len0.fn, fnR0 GL0 b_len0⟩
    itr := ⟨f_iter, M_iter.at_, M_iter.fn, GIt⟩
    call := ⟨f_call, _, ⟨h1_call, h2_call, by rw [← ma_at h1_call]; exact b13⟩, GCall, b_call, kb_call⟩
    eq := ⟨f_eq, M_eq.at_, M_eq.fn, fnR0 GEq b_eq⟩
    ne := He.eqO_ok b14
    rep := ⟨f_repr, M_repr.at_, M_repr.fn, fnR0 GRep b_repr⟩
    stp := ⟨_, g_steps, fd_steps, P_steps, GSt, b_steps⟩
    hed := ⟨_, g_head, fd_head, P_head, GHd, b_head⟩
    jum := ⟨f_jumps, fd_jumps, M_jumps, GJu, b_jumps⟩
    thi := ⟨f_things, fd_things, M_things, GTh, b_things⟩
    lns := ⟨f_lens, fd_lens, M_lens, GLn, b_lens⟩
    mak := ⟨f_init, _, MI, GI, b_init, kb_init⟩
    nf := ⟨fun U hU => List.all_eq_true.mp b15 U hU, b16⟩ }
  have GPot : FnOk P w K mg base CX0 1 f_pot _ ["_law_script", "_law_k"] (spPot K) := ok_pot F_pot bl
  have GOdd := ok_odd (P := P) (w := w) (base := base) D_odd bl bl2 D_drw D_pck
  have GOfL := ok_ofL D_of bl S O D_four
  have GTld := ok_told D_tld bl bl2 FF D_drw D_pck D_odd D_thg D_row
  have GLr := ok_lr D_lr bl bl2 FF D_drw D_mix D_evr D_of GOfL D_tld GTld
  have GRgt := ok_right D_rgt bl bl2 FF con D_drw D_mix D_evr D_prt D_tld GTld D_lr GLr
  exact ok_law F_law bl GPot k_pot b_pot m_pot GRgt k_rgt b_rgt m_rgt
end K12

set_option Elab.async false
set_option linter.all false
set_option maxRecDepth 100000
set_option maxHeartbeats 0
namespace L2
open PySem PySem.Spec PyProof.Rows
/-- the end of a law over a head by facts, where the law's def asks for repr -/
theorem walk_ofGE {l : PySem.W.OpenLaw} {n k : Nat} {q : Program} {loose : List Str} {XP : (Str → Option Value) → Heap → Prop} {YP : World → Heap → Prop} {d : DefRec} {CX : CXT} {x : Str} (hn : l.most = some n) (hn2 : n ≤ sizeLine) (hdf : d.params.defaults = []) (hr : Room k callerA)
    (F : ∀ (w : World) (mg : Str → Option Value) (fa : Addr) (h : Heap), YP w h → h.Ns mainGlobals mg → mg d.name = some (.ref fa) → ∃ (K : PySem.W.Frag) (fd : FuncData) (sp : Sp), K.In h ∧ (∀ (s : Shared) (u : Value), BindsTo s fd ⟨[u], []⟩ [(x, u)]) ∧
      (∀ (H : Hp) (a : Addr) (ns : List Int), ns.length ≤ n → Only H → SqL K H a (ns.map V.int) → sp [.ref a] H (fun v _ => v = .bl true) fun _ _ _ => False) ∧ ∀ base : Heap, K.In base → base.Ns mainGlobals mg → FnG l.prog w K mg base CX k fa fd [x] sp)
    (hCX : ∀ (H : Hp) (s : Shared) (e : Value) (s' : Shared), CX [] H s (fun _ _ _ => False) e s' → False) : PySem.W.WalkO q loose XP YP l.row.toRowW d [] (fun f vs => PySem.call f vs) :=
  Att.attach_call hn hdf fun w s0 s1 mg mb fa o pm cd doc a vs ns G Y ho hd hcd hmg hobj hints hlen hg =>
    let ⟨K, fd, sp, KX, hb, hsp, hF⟩ := F w mg fa _ Y G.T.g hmg
    law_callG KX G.T.g G.T.b G.T.builtins G.T.nolimit hg hobj hints (Nat.le_trans hlen hn2) hr hF hb (fun H hO hS => hsp H a ns hlen hO hS) fun H e s' => hCX H s1 e s'
end L2
open PySem PySem.W PySem.Calls PyProof.Rows
theorem PySem.Challenge.cw_wornsteps_k12_stairs_told_holds : PySem.Challenge.rw_wornsteps_k12_stairs_told.Holds := by
  w_on; o_law
  refine FX.head_x (r := OpenLaw.row PySem.Challenge.rw_wornsteps_k12_stairs_told) (q := K12.qv) (H := HX.hookH K12.faA K12.fnA K12.gnA K12.Bk K12.txH (fun w => K12.tkL.map (MX.hashT K12.R.prog w))) (ob := fun s => HX.obsFH K12.faA K12.fnA K12.gnA K12.Bk K12.txH (HandSHeadRun.getT s)) (i := 22) (M := 20000) (loose := K12.loA) (d := HandSHeadRun.topDef (OpenLaw.row PySem.Challenge.rw_wornsteps_k12_stairs_told).prog 42) (kwd := []) HX.obsFH_eq
    (by kernel_rfl) (fun s => by kernel_rfl) (fun b w => match b with | true => K12.runT w | false => K12.runF w) (by kernel_rfl) (by kernel_rfl) (by kernel_rfl) (by rfl) (by first | assumption | decide +kernel) (by decide +kernel) ⟨rfl, rfl, rfl, rfl, rfl, by decide +kernel⟩ ?hw ?hc
  case hw => w_witness2
  case hc =>
    refine L2.walk_ofGE (l := PySem.Challenge.rw_wornsteps_k12_stairs_told) (n := 63) (k := 10) (x := "_law_script") (CX := L2.CX0) rfl (by decide) (by kernel_rfl) ⟨rfl, by decide, by decide⟩ ?F (fun _ _ _ _ z => z)
    intro w mg fa h Y G hmg0
    obtain ⟨K, KX, c⟩ := Y
    have hmg : mg ("law" : PySem.Str) = some (.ref fa) := by
      have e : (HandSHeadRun.topDef (OpenLaw.row PySem.Challenge.rw_wornsteps_k12_stairs_told).prog 42).name = ("law" : PySem.Str) := by kernel_rfl
      rw [← e]
      exact hmg0
    obtain ⟨fd, hb, hF⟩ := K12.facts (P := (PySem.Challenge.rw_wornsteps_k12_stairs_told).prog) (w := w) KX G hmg c
    exact ⟨K, fd, K12.spLaw K, KX, hb, fun H a ns hl _ hS => ⟨a, ns, rfl, hS, fun _ => rfl⟩, hF⟩
