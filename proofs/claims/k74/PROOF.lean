import PyProof.Rows.All
import Wide.All
import OpenK.AllK
import Wide.FinOn
import HandS.TupSets
import KE.KeyNested
import HandS.ForMost
import HandS.Wide
import HandS.TupAny
import HandS.Deep
import HandS.ExcInit
import HandS.IsInst
import HandS.SetKeys
import HandS.Zip
import HandS.More
import HandS.WordsExc
import HandS.Defaults
import HandS.Head0
import HandS.Head1
import HandS.Head2
import HandS.HeadEnd
import HandS.HeadHook1
import HandS.HeadHook2
import HandS.Replace
import HandS.SetBool
import HandS.MakeKwOnly
import HandS.Star
import HandS.Iter
import KE.SortData
import HandS.OwnEq
import HandS.Style
import PyProof.TupleOfSeq
import KE.KExcInit
import KE.KExcIs
import HandS.ExcField
import HandS.ExcValue
import OpenK.KOps
import PyProof.EnumMake
import KE.GoesMore
import KE.GoesEnum
import HandS.Conv
import HandS.FStr
import HandS.Text
import PyProof.StrOps2
import PyProof.FitsStr
import HandS.TryOnly
import KE.KUnpackStar
import HandS.CallLocal
import HandS.Dict
import HandS.HeadHook3
import PyProof.P3In
import KE.DataCmp
import PyProof.StrLawsChain
import PyProof.Rows.StrSplitCount
import HandS.Ends
import HandS.ForDict
import PySem.Challenge.RW_nameagain_k74_habits_written
set_option Elab.async false
set_option linter.all false
set_option maxRecDepth 100000
set_option maxHeartbeats 0
/-! NSet1: sets whose elements are nested tuples (texts, whole numbers, None in them), fewer than 64: the search, adding. -/
namespace NS
open L2 PySem PySem.Spec PyProof.Rows
section
variable {s : Shared} {P : Program} {w : World} {A : Around} {E : Value → Shared → Prop}
/-- the tuple at b is the key k -/
def TupK (h : Heap) (k : NestedKey) (b : Addr) : Prop := NestedIs h k (.ref b) ∧ k.depth ≤ 8

/-! ### what the model asks of elements -/
mutual
theorem noClass : ∀ (k : NestedKey) (v : Value) (n : Nat) (s : Shared) (Q : Bool → Shared → Prop), NestedIs s.heap k v → k.depth ≤ n → Q false s → wpAny (model P w) A (ofAClassStatement n v) Q E s
  | .none, _, n, s, Q, x, _, q => by cases x; cases n <;> exact wpAny_pure q
  | .num i, _, n, s, Q, x, _, q => by cases x <;> (cases n <;> exact wpAny_pure q)
  | .text y, _, n, s, Q, x, _, q => by cases x; cases n <;> exact wpAny_pure q
  | .tup ks, _, n, s, Q, x, hn, q => by
    cases x with | @tup a o vs m _ ho hc hd hall =>
    cases n with
    | zero => simp [NestedKey.depth] at hn
    | succ n =>
      have hT : s.TypeIs (.ref a) "tuple" := ⟨_, ho, hc⟩
      unfold ofAClassStatement; refine wpAny_bind (wpAny_typeOf hT ?_)
      dsimp only
      have e : (("tuple" : String) == "tuple") = true := (by decide)
      simp only [e, if_true, Bool.not_true, Bool.false_eq_true, if_false]; try refine wpAny_bind (wpAny_pure ?_); try simp only [if_false, Bool.not_true, Bool.false_eq_true]
      show wpAny _ _ (seqItems? (.ref a) >>= _) _ _ s; refine wpAny_bind (wpAny_seqItems ho hd ?_)
      dsimp only
      have hk : NestedKey.depthAll ks ≤ n := by simp only [NestedKey.depth] at hn; omega
      have each := noClasses ks vs.toList n s hall hk
      refine wpAny_bind ?_; show wpAny _ _ (forIn vs _ _) _ _ s
      rw [← Array.forIn_toList]
      refine wpAny_forIn_list _ (fun l r s' => (r.1 = none ∧ s' = s) ∧ ∀ u ∈ l, u ∈ vs.toList) _ (fun u l r s' hI => ?_) (fun r s' hI => ?_) _ _ ⟨⟨rfl, rfl⟩, fun _ h => h⟩
      · obtain ⟨⟨hr, rfl⟩, hm⟩ := hI
        refine wpAny_bind (each u (hm u (List.mem_cons_self ..)) _ ?_); simp only [Bool.false_eq_true, if_false]
        exact wpAny_pure ⟨⟨rfl, rfl⟩, fun z hz => hm z (List.mem_cons_of_mem _ hz)⟩
      · obtain ⟨r1, r2⟩ := r
        obtain ⟨⟨hr, rfl⟩, _⟩ := hI
        simp only at hr
        subst hr
        exact wpAny_pure q
theorem noClasses : ∀ (ks : List NestedKey) (vs : List Value) (n : Nat) (s : Shared), NestedAll s.heap ks vs → NestedKey.depthAll ks ≤ n → ∀ v ∈ vs, ∀ Q : Bool → Shared → Prop, Q false s → wpAny (model P w) A (ofAClassStatement n v) Q E s
  | [], _, n, s, .nil, _, v, hv, _, _ => by cases hv
  | k :: ks, _, n, s, .cons h1 h2, hd, v, hv, Q, q => by
    simp only [NestedKey.depthAll] at hd; rcases (List.mem_cons.mp hv) with rfl | hv
    · exact noClass k _ n s Q h1 (by omega) q
    · exact noClasses ks _ n s h2 (by omega) v hv Q q
end
mutual
/-- whether it is hashed by its value alone: one or the other -/
theorem byVal : ∀ (k : NestedKey) (v : Value) (n : Nat) (s : Shared) (Q : Bool → Shared → Prop), NestedIs s.heap k v → (∀ b, Q b s) → wpAny (model P w) A (hashByValue n v) Q E s
  | .none, _, n, s, Q, x, q => by cases x; cases n <;> exact wpAny_pure (q _)
  | .num i, _, n, s, Q, x, q => by cases x <;> (cases n <;> exact wpAny_pure (q _))
  | .text y, _, n, s, Q, x, q => by cases x; cases n <;> exact wpAny_pure (q _)
  | .tup ks, _, n, s, Q, x, q => by
    cases x with | @tup a o vs m _ ho hc hd hall =>
    cases n with
    | zero => exact wpAny_pure (q _)
    | succ n =>
      have hT : s.TypeIs (.ref a) "tuple" := ⟨_, ho, hc⟩
      have each := byVals ks vs.toList n s hall
      unfold hashByValue
      refine wpAny_bind (wpAny_specialOf hT PySem.F.slot_tuple_hash.lookup ?_)
      show wpAny _ _ (seqItems? (.ref a) >>= _) _ _ s; refine wpAny_bind (wpAny_seqItems ho hd ?_)
      refine wpAny_bind ?_; show wpAny _ _ (forIn vs _ _) _ _ s
      rw [← Array.forIn_toList]
      refine wpAny_forIn_list _ (fun l r s' => (r.1 = none ∧ s' = s) ∧ ∀ u ∈ l, u ∈ vs.toList) _ (fun u l r s' hI => ?_) (fun r s' hI => ?_) _ _ ⟨⟨rfl, rfl⟩, fun _ h => h⟩
      · obtain ⟨⟨hr, rfl⟩, hm⟩ := hI
        refine wpAny_bind (each u (hm u (List.mem_cons_self ..)) _ fun b => ?_)
        cases b with
        | true =>
          simp only [if_false, Bool.not_true, Bool.false_eq_true]
          exact wpAny_pure ⟨⟨rfl, rfl⟩, fun z hz => hm z (List.mem_cons_of_mem _ hz)⟩
        | false =>
          simp only [if_true, Bool.not_false]
          exact wpAny_pure (wpAny_pure (q _))
      · obtain ⟨r1, r2⟩ := r
        obtain ⟨⟨hr, rfl⟩, _⟩ := hI
        simp only at hr
        subst hr
        exact wpAny_pure (q _)
theorem byVals : ∀ (ks : List NestedKey) (vs : List Value) (n : Nat) (s : Shared), NestedAll s.heap ks vs → ∀ v ∈ vs, ∀ Q : Bool → Shared → Prop, (∀ b, Q b s) → wpAny (model P w) A (hashByValue n v) Q E s
  | [], _, n, s, .nil, v, hv, _, _ => by cases hv
  | k :: ks, _, n, s, .cons h1 h2, v, hv, Q, q => by
    rcases (List.mem_cons.mp hv) with rfl | hv
    · exact byVal k _ n s Q h1 q
    · exact byVals ks _ n s h2 v hv Q q
end
/-- a search among such tuples shows nothing -/
theorem unseen {k : NestedKey} {b : Addr} {Q : Bool → Shared → Prop} (hk : TupK s.heap k b) {ys : List Value} (hy : ∀ y ∈ ys, ∃ k' c, y = Value.ref c ∧ TupK s.heap k' c) (q : Q false s) : wpAny (model P w) A (searchCouldBeSeen (.ref b) ys) Q E s := by
  unfold searchCouldBeSeen
  refine wpAny_bind ?_
  refine wpAny_forIn_list _ (fun l r s' => (r.1 = none ∧ s' = s) ∧ ∀ u ∈ l, u ∈ ys) _ (fun u l r s' hI => ?_) (fun r s' hI => ?_) _ _ ⟨⟨rfl, rfl⟩, fun _ h => h⟩
  · obtain ⟨⟨hr, rfl⟩, hm⟩ := hI
    obtain ⟨k', c, rfl, hc⟩ := hy u (hm u (List.mem_cons_self ..))
    have nx : ∀ z ∈ l, z ∈ ys := fun z hz => hm z (List.mem_cons_of_mem _ hz)
    dsimp only
    by_cases hv : ((b == c || (carriedByValue (.ref b) && carriedByValue (.ref c))) = true)
    · exact wp_if_pos hv (wpAny_pure ⟨⟨rfl, rfl⟩, nx⟩)
    · refine wp_if_neg hv ?_
      refine wpAny_bind (quiet_key k _ 8 _ hk.1 hk.2 _ _ _ ?_); simp only [if_false, Bool.not_true, Bool.false_eq_true]
      refine wpAny_bind (quiet_key k' _ 8 _ hc.1 hc.2 _ _ _ ?_); simp only [if_false, Bool.not_true, Bool.false_eq_true]
      refine wpAny_bind (noClass k _ 8 _ _ hk.1 hk.2 ?_); simp only [Bool.false_eq_true, if_false]
      refine wpAny_bind (noClass k' _ 8 _ _ hc.1 hc.2 ?_); simp only [Bool.false_eq_true, if_false]
      exact wpAny_pure ⟨⟨rfl, rfl⟩, nx⟩
  · obtain ⟨r1, r2⟩ := r
    obtain ⟨⟨hr, rfl⟩, _⟩ := hI
    simp only at hr
    subst hr
    exact wpAny_pure q
end
end NS

/-! NSet2: the set of nested tuples: what stands in it, the search, adding. -/
namespace NS
open L2 PySem PySem.Spec PyProof.Rows
abbrev El := Addr × NestedKey
abbrev hk (w : World) (e : El) : Int := NestedKey.hash w e.2
def rws (w : World) (L : List El) : List (Int × Value) := L.map fun e => (hk w e, Value.ref e.1)
/-- at a stands a set of the keys of L, each once -/
structure Has (w : World) (h : Heap) (a : Addr) (L : List El) (es : Array (Int × Value)) (ep : Nat) (t : SetTable) : Prop where
  obj : ∃ o, h.get? a = some o ∧ o.ExactSet ∧ o.data = .set es ep t
  row : es.toList = rws w L
  tab : TabOk t (L.map (hk w))
  nod : (L.map (·.2)).Nodup
  key : ∀ e ∈ L, TupK h e.2 e.1
  ldd : w.params.followText "set-order" = true ∨ t.led = true
  rom : L.length * 5 < t.mask * 3
  few : L.length < 64
section
variable {s : Shared} {P : Program} {w : World} {A : Around} {E : Value → Shared → Prop} {a : Addr} {L : List El} {es : Array (Int × Value)} {ep : Nat} {t : SetTable}
theorem rws_len : (rws w L).length = L.length := by simp [rws]
theorem size_of (h : es.toList = rws w L) : es.size = L.length := by rw [← rws_len (w := w) (L := L), ← h]; simp
theorem Has.siz {h : Heap} (R : Has w h a L es ep t) : es.size = L.length := size_of R.row
theorem Has.fit {h : Heap} (R : Has w h a L es ep t) : t.fits es.size = true := by
  have h1 : t.place.size = L.length := by simpa using R.tab.sz
  have h2 := R.siz
  have h3 := R.rom
  have h4 : t.dummies.size = 0 := by rw [R.tab.dm]; rfl
  simp [SetTable.fits, SetTable.fill, h1, h2, h4]
  omega
theorem row_at (h : es.toList = rws w L) {i : Nat} {e : El} (hi : L[i]? = some e) : es[i]? = some (hk w e, Value.ref e.1) := by
  have : es.toList[i]? = some (hk w e, Value.ref e.1) := by rw [h]; simp [rws, hi]
  rwa [Array.getElem?_toList] at this
theorem not_gave (m : MaskOk t.mask) : ¬ t.gaveWay = true := by simp [SetTable.gaveWay, mask_odd m]
/-- the probe at the c-th step -/
abbrev stp (m : Nat) (h : Int) (c : Nat) : SetTable.Probe := nth m (runAt m (SetTable.bits h % (m + 1)) (SetTable.bits h)) c
theorem stp_nd (m : Nat) (h : Int) : ∀ c, (stp m h c).dummy = none := by
  have go : ∀ (n : Nat) (p : SetTable.Probe), p.dummy = none → (nth m p n).dummy = none := by
    intro n
    induction n with
    | zero => exact fun p hp => hp
    | succ n ih => exact fun p hp => ih (adv m p) (by unfold adv; split <;> exact hp)
  exact fun c => go c _ rfl
theorem stp_way (m : Nat) (h : Int) (c q : Nat) : nth m (stp m h c) q = stp m h (c + q) := (nth_add m c _ q).symm
theorem look (R : Has w s.heap a L es ep t) {x : Addr} {k : NestedKey} (hx : TupK s.heap k x) (hu : A.units + 8 < cLine) {K : Nat} (hKf : K < 10 * SetTable.turns t.mask)
    (hK : way t.mask (k.hash w) K ∉ t.place.toList) (hKb : ∀ c, c < K → way t.mask (k.hash w) c ∈ t.place.toList) {Q : SetFound → Shared → Prop}
    (yes : k ∈ L.map (·.2) → Q (.there none) s) (no : k ∉ L.map (·.2) → Q (.free (way t.mask (k.hash w) K) false) s) :
    ∀ (f c : Nat) (stand : Option SetTable.Probe), stand.getD (t.probeStart (k.hash w)) = stp t.mask (k.hash w) c → c ≤ K → K - c < f →
      (∀ (i : Nat) e, L[i]? = some e → e.2 = k → ∃ c', c ≤ c' ∧ c' < K ∧ t.place.toList[i]? = some (way t.mask (k.hash w) c')) →
      wpAny (model P w) A (setSearchFrom a (.ref x) (k.hash w) true f stand) Q E s
  | 0, _, _, _, _, hf, _ => absurd hf (Nat.not_lt_zero _)
  | f + 1, c, stand, hst, hc, hf, ahead => by
    obtain ⟨o, ho, hex, hd⟩ := R.obj
    rw [setSearchFrom_succ]
    refine wpAny_bind (wpAny_setState_of ho hd R.fit ?_)
    dsimp only
    refine wp_if_neg (not_gave R.tab.mok) ?_; try refine wpAny_bind (wpAny_pure ?_)
    have wy : ∀ q, (nth t.mask (stp t.mask (k.hash w) c) q).j = way t.mask (k.hash w) (c + q) := fun q => congrArg SetTable.Probe.j (stp_way _ _ c q)
    have hat : ∀ (i : Nat) e, L[i]? = some e → (es[i]?.map (·.1)).getD 0 = hk w e := fun i e he => by simp [row_at R.row he]
    have sp := go_spec t R.tab.ris R.tab.dm (fun i => (es[i]?.map (·.1)).getD 0) (k.hash w) (10 * SetTable.turns t.mask) (K - c) _ (stp_nd t.mask (k.hash w) c) (by omega)
      (fun q hq => by rw [wy]; exact hKb _ (by omega)) (by rw [wy, Nat.add_sub_cancel' hc]; exact hK)
    rcases sp with ⟨q, i, hq, hi, hh, hno, hpr⟩ | ⟨hno, hpr⟩
    · have hp2 : t.probe (fun i => (es[i]?.map (·.1)).getD 0) (k.hash w) (stand.getD (t.probeStart (k.hash w))) = some (.candidate (way t.mask (k.hash w) (c + q)) i (stp t.mask (k.hash w) (c + (q + 1)))) := by
        rw [hst, ← wy, ← stp_way]; exact hpr
      rw [hp2]
      dsimp only
      rw [wy] at hi
      have hil : i < L.length := by
        have h1 := (List.getElem?_eq_some_iff.mp hi).1
        have h2 : t.place.size = L.length := by simpa using R.tab.sz
        simpa [h2] using h1
      obtain ⟨e, he⟩ : ∃ e, L[i]? = some e := ⟨L[i], List.getElem?_eq_getElem hil⟩
      have hmem := List.mem_of_getElem? he
      have hek := R.key e hmem
      have rest : wpAny (model P w) A (searchRest a (.ref x) (k.hash w) true f es t (way t.mask (k.hash w) (c + q)) i (stp t.mask (k.hash w) (c + (q + 1)))) Q E s := by
        unfold searchRest
        rw [row_at R.row he]
        dsimp only
        refine wpAny_bind (wpAny_holding (eqAt_key e.2 k A s _ _ hek.1 hx.1 (by have := hek.2; omega) _ _ _ _ ?_))
        refine wpAny_bind (wpAny_setState_of ho hd R.fit ?_)
        dsimp only
        by_cases hkk : e.2 = k
        · refine wp_if_pos (by rw [hkk]; simp [NestedKey.beq_self]) (wpAny_pure (yes (List.mem_map.mpr ⟨e, hmem, hkk⟩)))
        · have nb : NestedKey.beq e.2 k = false := by
            cases hb : NestedKey.beq e.2 k with
            | false => rfl
            | true => exact absurd (NestedKey.eq_of_beq _ _ hb) hkk
          refine wp_if_neg (by simp [nb]) ?_; try refine wpAny_bind (wpAny_pure ?_)
          rw [sameMem]
          dsimp only
          have hsl : t.slot (way t.mask (k.hash w) (c + q)) = .live i := slot_live R.tab.ris hi
          simp only [if_true, hsl, row_at R.row he]; refine wpAny_bind (wpAny_isSame_ref_self (wpAny_bind (wpAny_pure ?_)))
          simp only [if_true]
          refine wp_if_neg (by simp [nb]) ?_
          refine look R hx hu hKf hK hKb yes no f (c + (q + 1)) _ rfl (by omega) (by omega) fun i0 e0 h0 hk0 => ?_
          obtain ⟨c', a1, a2, a3⟩ := ahead i0 e0 h0 hk0
          refine ⟨c', ?_, a2, a3⟩
          rcases Nat.lt_or_ge (c + q) c' with z0 | hle
          · exact z0
          exfalso
          rcases Nat.lt_or_eq_of_le hle with z | z
          · refine hno (c' - c) i0 (by omega) (by rw [wy, Nat.add_sub_cancel' a1]; exact a3) ?_
            exact (hat i0 e0 h0).trans (congrArg (NestedKey.hash w) hk0)
          · rw [z] at a3; have s0 := slot_live R.tab.ris a3
            rw [hsl] at s0
            injection s0 with s0
            rw [← s0, he] at h0; exact hkk ((congrArg Prod.snd (Option.some.inj h0)).trans hk0)
      by_cases hl : t.led = true
      · refine wp_if_neg (by simp [hl]) ?_; try refine wpAny_bind (wpAny_pure ?_)
        exact rest
      · refine (wp_if_pos (by simp [hl]) ?_)
        refine wpAny_bind (unseen hx (fun y hy => ?_) ?_)
        · obtain ⟨z, hz, rfl⟩ := List.mem_map.mp hy
          have hz2 : z ∈ es.toList := by
            have : z ∈ es ∧ z.1 = k.hash w := by simpa using hz
            simpa using this.1
          rw [R.row] at hz2
          obtain ⟨e2, he2, rfl⟩ := List.mem_map.mp hz2
          exact ⟨e2.2, e2.1, rfl, R.key e2 he2⟩
        · refine wp_if_neg (by decide) ?_; try refine wpAny_bind (wpAny_pure ?_)
          exact rest
    · have hp2 : t.probe (fun i => (es[i]?.map (·.1)).getD 0) (k.hash w) (stand.getD (t.probeStart (k.hash w))) = some (.empty (way t.mask (k.hash w) K) none) := by
        have e2 : way t.mask (k.hash w) K = (nth t.mask (stp t.mask (k.hash w) c) (K - c)).j := by rw [wy, Nat.add_sub_cancel' hc]
        rw [hst, e2]; exact hpr
      rw [hp2]
      dsimp only
      refine wpAny_pure (no fun hm => ?_)
      obtain ⟨e0, h0, hk0⟩ := List.mem_map.mp hm
      obtain ⟨i0, hi0, rfl⟩ := List.getElem_of_mem h0
      have h00 : L[i0]? = some L[i0] := List.getElem?_eq_getElem hi0
      obtain ⟨c', a1, a2, a3⟩ := ahead i0 _ h00 hk0
      refine hno (c' - c) i0 (by omega) (by rw [wy, Nat.add_sub_cancel' a1]; exact a3) ?_
      exact (hat i0 _ h00).trans (congrArg (NestedKey.hash w) hk0)
theorem looks (R : Has w s.heap a L es ep t) {x : Addr} {k : NestedKey} (hx : TupK s.heap k x) (hu : A.units + 8 < cLine) {Q : SetFound → Shared → Prop} (yes : k ∈ L.map (·.2) → Q (.there none) s)
    (no : ∀ K, k ∉ L.map (·.2) → way t.mask (k.hash w) K ∉ t.place.toList → (∀ c, c < K → way t.mask (k.hash w) c ∈ t.place.toList) → Q (.free (way t.mask (k.hash w) K) false) s) :
    wpAny (model P w) A (setSearch a (.ref x) (k.hash w) true) Q E s := by
  have hr := R.rom
  obtain ⟨K, hKf, hK, hKb⟩ := R.tab.first (by rw [List.length_map]; omega) (k.hash w)
  have big : K < 100000 := by
    have : (10 * SetTable.turns t.mask ≤ 1420) := by
      unfold SetTable.turns; rcases R.tab.mok with e | e | e <;> omega
    omega
  unfold setSearch
  refine look R hx hu hKf hK hKb yes (fun hn => no K hn hK hKb) 100000 0 none rfl (Nat.zero_le _) (by omega) fun i e he hke => ?_
  have h1 : (L.map (hk w))[i]? = some (k.hash w) := by simp [he, ← hke]
  have hil : (i < t.place.toList.length) := by
    have h2 : t.place.size = L.length := by simpa using R.tab.sz
    have h3 := (List.getElem?_eq_some_iff.mp he).1
    simpa [h2] using h3
  have hj := (List.getElem?_eq_getElem hil)
  obtain ⟨c, hc, e2⟩ := R.tab.before hK h1 hj
  exact ⟨c, Nat.zero_le _, hc, by rw [hj, e2]⟩

/-! ### the table laid anew -/
theorem key_same {h h' : Heap} {k : NestedKey} {b : Addr} {o : Obj} {ep : Nat} (hb : TupK h k b) (ho : h.get? a = some o) (hd : o.data = .set es ep t) (hs : Heap.SameBut a h h') : TupK h' k b :=
  ⟨NestedIs.at (fun c oc vs n hc hdc => by
    refine (hs.2 c fun e => ?_).trans hc
    subst e
    rw [ho] at hc
    cases hc
    rw [hd] at hdc
    cases hdc) k _ hb.1, hb.2⟩
theorem rws_order (order : Array Nat) (hr : es.toList = rws w L) (hp : order.toList.Perm (List.range L.length)) :
    ∃ L2 : List El, (order.filterMap (es[·]?)).toList = rws w L2 ∧ L2.Perm L ∧ L2.map (hk w) = order.toList.map fun i => (es.map (·.1)).getD i 0 := by
  have hsz := size_of hr
  refine ⟨order.toList.filterMap fun i => L[i]?, ?_, ?_, ?_⟩
  · have go : ∀ l : List Nat, (∀ i ∈ l, i < L.length) → l.filterMap (fun i => es[i]?) = rws w (l.filterMap fun i => L[i]?) := by
      intro l
      induction l with
      | nil => intro _; rfl
      | cons i l ih =>
        intro hl
        have hlt : i < L.length := hl i (List.mem_cons_self ..)
        have hi : L[i]? = some L[i] := List.getElem?_eq_getElem hlt
        rw [List.filterMap_cons_some (row_at hr hi), List.filterMap_cons_some hi, ih fun j hj => hl j (List.mem_cons_of_mem _ hj)]
        rfl
    have := go order.toList fun i hi => List.mem_range.mp (hp.mem_iff.mp hi)
    simpa using this
  · refine (hp.filterMap _).trans ?_
    have go : ∀ n, n ≤ L.length → (List.range n).filterMap (fun i => L[i]?) = L.take n := by
      intro n
      induction n with
      | zero => intro _; simp
      | succ n ih =>
        intro hn
        rw [List.range_succ, List.filterMap_append, ih (by omega), List.take_succ, List.getElem?_eq_getElem (by omega : n < L.length)]
        simp [List.getElem?_eq_getElem (by omega : n < L.length)]
    rw [go L.length (Nat.le_refl _), List.take_length]
  · have go : ∀ l : List Nat, (∀ i ∈ l, i < L.length) → (l.filterMap fun i => L[i]?).map (hk w) = l.map fun i => (es.map (·.1)).getD i 0 := by
      intro l
      induction l with
      | nil => intro _; rfl
      | cons i l ih =>
        intro hl
        have hlt : i < L.length := hl i (List.mem_cons_self ..)
        have hi : L[i]? = some L[i] := List.getElem?_eq_getElem hlt
        rw [List.filterMap_cons_some hi, List.map_cons, List.map_cons, ih fun j hj => hl j (List.mem_cons_of_mem _ hj)]
        congr 1
        have : (es.map (·.1))[i]? = some (hk w L[i]) := by rw [Array.getElem?_map, row_at hr hi]; rfl
        simp [Array.getD_eq_getD_getElem?, this]
    exact go order.toList fun i hi => List.mem_range.mp (hp.mem_iff.mp hi)
theorem relay {o : Obj} (ho : s.heap.get? a = some o) (hex : o.ExactSet) (hd : o.data = .set es ep t) (hr : es.toList = rws w L) (hsz : t.place.size = es.size) (hdm : t.dummies = #[]) (hfl : es.size ≤ t.mask)
    (nod : (L.map (·.2)).Nodup) (key : ∀ e ∈ L, TupK s.heap e.2 e.1) (ldd : w.params.followText "set-order" = true ∨ t.led = true) (few : L.length < 64) {want M : Nat}
    (hw : SetTable.sizeAbove want - 1 = M) (hM : MaskOk M) (hw2 : SetTable.sizeAbove want ≤ 128) (hn : L.length * 5 < M * 3) {Q : Unit → Shared → Prop}
    (q : ∀ h' L' es' ep' t', Heap.SameBut a s.heap h' → Has w h' a L' es' ep' t' → L'.Perm L → Q () { s with heap := h' }) : wpAny (model P w) A (setRelay a want) Q E s := by
  have hl := size_of hr
  have fits : t.fits es.size = true := by
    have h4 : t.dummies.size = 0 := by rw [hdm]; rfl
    simp [SetTable.fits, SetTable.fill, hsz, h4]
    omega
  obtain ⟨t', order, e, hp, T, em, el, _, ed⟩ := relaid_ok t (hs := es.map (·.1)) (wanted := want) hw hM (by rw [Array.size_map, hl]; omega)
  rw [Array.size_map, hl] at hp
  obtain ⟨L2, r1, r2, r3⟩ := rws_order order hr hp
  rw [← r3] at T
  have hs2 : (order.filterMap (es[·]?)).size = es.size := by rw [size_of r1, r2.length_eq, hl]
  rw [setRelay_eq]
  refine wpAny_bind (wpAny_setState_of ho hd fits ?_)
  dsimp only
  refine wp_if_neg (by rw [sizeLine_eq]; omega) ?_; try refine wpAny_bind (wpAny_pure ?_)
  rw [e]
  dsimp only
  refine wpAny_bind ?_; refine wp_if_neg (by rw [hs2]; simp) ?_; try refine wpAny_bind (wpAny_pure ?_)
  refine wpAny_pure ?_
  dsimp only
  refine wpAny_storeSet_of ho hd ?_ (by rw [hs2, hl, sizeLine_eq]; omega); have sb : Heap.SameBut a s.heap (s.heap.update a (Obj.putSet (order.filterMap (es[·]?)) t')) := Heap.SameBut.update ..
  refine q _ L2 _ (ep + 1) t' sb ⟨⟨_, store_at ho hd, ⟨hex.1, hex.2.1, hex.2.2⟩, rfl⟩, r1, T, (r2.map (·.2)).nodup_iff.mpr nod, fun x hx => key_same (key x (r2.mem_iff.mp hx)) ho hd sb, by rw [el]; exact ldd, ?_, by rw [r2.length_eq]; exact few⟩ r2
  rw [r2.length_eq, em]; exact hn
end
end NS

/-! NSet3: adding a nested tuple to such a set. -/
namespace NS
open L2 PySem PySem.Spec PyProof.Rows
section
variable {s : Shared} {P : Program} {w : World} {A : Around} {E : Value → Shared → Prop} {a : Addr} {L : List El} {es : Array (Int × Value)} {ep : Nat} {t : SetTable}
theorem tab_plain {hs : List Int} (T : TabOk t hs) (b : Bool) : TabOk { t with plain := b } hs := ⟨T.ris, T.dm, T.sz, T.mok, T.bd, T.reach⟩
theorem tab_if {hs : List Int} (T : TabOk t hs) (b : Bool) : TabOk (if b = true then t else { t with plain := false }) hs := by
  cases b
  · exact tab_plain T false
  · exact T
theorem adds (R : Has w s.heap a L es ep t) {x : Addr} {k : NestedKey} (hx : TupK s.heap k x) (hu : A.units + 8 < cLine) (few : L.length + 1 < 64) {Q : Bool → Shared → Prop}
    (q : ∀ b h' L' es' ep' t', Heap.SameBut a s.heap h' → Has w h' a L' es' ep' t' → (k ∈ L.map (·.2) → L' = L) → (k ∉ L.map (·.2) → L'.Perm ((x, k) :: L)) → Q b { s with heap := h' }) :
    wpAny (model P w) A (setAddHashed a (.ref x) (k.hash w)) Q E s := by
  obtain ⟨o, ho, hex, hd⟩ := R.obj
  have hl := R.siz
  have rom := R.rom
  unfold setAddHashed
  refine wpAny_holding ?_; rw [show (100000 : Nat) = 99999 + 1 from rfl, setAddHashedIn_succ]
  refine wpAny_bind (wpAny_setState_of ho hd R.fit ?_)
  dsimp only
  refine wp_if_neg (by simp [byScan, Value.scannable]) ?_; try refine wpAny_bind (wpAny_pure ?_)
  refine wpAny_bind (looks R hx hu (fun hm => ?_) fun K hm hK hb => ?_)
  · dsimp only
    exact wpAny_pure (q false s.heap L es ep t (Heap.SameBut.refl a s.heap) R (fun _ => rfl) fun z => absurd hm z)
  dsimp only
  refine wpAny_bind (wpAny_setState_of ho hd R.fit ?_)
  dsimp only
  obtain ⟨u1, u2, u3, u4, u5, u6, u7, u8, u9⟩ := R.tab.put hK hb
  generalize hpt : t.put (way t.mask (k.hash w) K) = pt at u1 u3 u4 u5 u6 u7 u8 u9 ⊢
  obtain ⟨t1, p⟩ := pt
  dsimp only at u1 u3 u4 u5 u6 u7 u8 u9 ⊢
  subst u1
  generalize hp : SetTable.below t.place (way t.mask (k.hash w) K) = p at u2 u3 ⊢
  have pm : (L.take p ++ (x, k) :: L.drop p).Perm ((x, k) :: L) := put_perm L p (x, k)
  have hin : (SetTable.insertAt es p (k.hash w, Value.ref x)).toList = rws w (L.take p ++ (x, k) :: L.drop p) := by
    rw [SetTable.toList_insertAt, R.row]
    simp [rws, hk]
  have hhs : (L.take p ++ (x, k) :: L.drop p).map (hk w) = (L.map (hk w)).take p ++ k.hash w :: (L.map (hk w)).drop p := by simp [hk]
  rw [← hhs] at u3
  have nod1 : ((L.take p ++ (x, k) :: L.drop p).map (·.2)).Nodup := (pm.map (·.2)).nodup_iff.mpr (List.nodup_cons.mpr ⟨hm, R.nod⟩)
  generalize L.take p ++ (x, k) :: L.drop p = L1 at pm u3 nod1 hin
  have hlen : L1.length = L.length + 1 := pm.length_eq
  have hes := size_of hin
  generalize SetTable.insertAt es p (k.hash w, Value.ref x) = es1 at hin hes ⊢
  -- whichever way its hash is told
  have rest : ∀ b : Bool, wpAny (model P w) A (do
      let t := if b = true then t1 else { t1 with plain := false }
      storeSet a es1 t
      if !false && t.tooFull then setRelay a (SetTable.grown (es.size + 1))
      return true) Q E s := by
    intro b
    have T2 := tab_if u3 b
    have m2 : (if b = true then t1 else { t1 with plain := false }).mask = t.mask := by cases b <;> exact u4
    have l2 : (if b = true then t1 else { t1 with plain := false }).led = t.led := by cases b <;> exact u5
    have f2 : (if b = true then t1 else { t1 with plain := false }).tooFull = t1.tooFull := by cases b <;> rfl
    generalize (if b = true then t1 else { t1 with plain := false } : SetTable) = t2 at T2 m2 l2 f2 ⊢
    dsimp only
    refine wpAny_bind (wpAny_storeSet_of ho hd ?_ (by rw [hes, hlen, sizeLine_eq]; omega))
    have sb : Heap.SameBut a s.heap (s.heap.update a (Obj.putSet es1 t2)) := Heap.SameBut.update ..; have ho1 := store_at (es' := es1) (t' := t2) ho hd
    generalize s.heap.update a (Obj.putSet es1 t2) = h1 at sb ho1 ⊢
    have key1 : ∀ e ∈ L1, TupK h1 e.2 e.1 := fun e he => by
      rcases List.mem_cons.mp (pm.mem_iff.mp he) with rfl | he
      · exact key_same hx ho hd sb
      · exact key_same (R.key e he) ho hd sb
    have ld1 : w.params.followText "set-order" = true ∨ t2.led = true := by rw [l2]; exact R.ldd
    have sz1 : t2.place.size = es1.size := by rw [hes]; simpa using T2.sz
    have full : t2.tooFull = true ↔ (L.length + 1) * 5 ≥ t.mask * 3 := by
      rw [f2]
      unfold SetTable.tooFull
      rw [decide_eq_true_eq, u9, u4, List.length_map]
    by_cases hf : t2.tooFull = true
    · first
        | (refine (wpAny_bind ?_); refine wp_if_pos (by simp [hf]) ?_)
        | (refine (wp_if_pos (by simp [hf]) ?_); refine wpAny_bind ?_)
      have hfull := full.mp hf
      rw [hl]
      have two : (t.mask = 7 ∧ L.length = 4) ∨ (t.mask = 31 ∧ L.length = 18) := by
        rcases R.tab.mok with e | e | e <;> rw [e] at hfull rom
        · exact .inl ⟨e, by omega⟩
        · exact .inr ⟨e, by omega⟩
        · omega
      have go : ∀ (M : _), SetTable.sizeAbove (SetTable.grown (L.length + 1)) - 1 = M → MaskOk M → SetTable.sizeAbove (SetTable.grown (L.length + 1)) ≤ 128 → (L.length + 1) * 5 < M * 3 →
          wpAny (model P w) A (setRelay a (SetTable.grown (L.length + 1))) (fun _ s' => wpAny (model P w) A (pure true) Q E s') E { s with heap := h1 } := fun M g1 g2 g3 g4 => by
        refine relay (s := { s with heap := h1 }) ho1 ⟨hex.1, hex.2.1, hex.2.2⟩ rfl hin sz1 T2.dm (by rw [hes, m2]; rcases two with ⟨e, e2⟩ | ⟨e, e2⟩ <;> omega) nod1 key1 ld1 (by omega) g1 g2 g3 (by rw [hlen]; exact g4) fun h2 L2 es2 ep2 t3 sb2 R2 pm2 => ?_
        exact wpAny_pure (q true h2 L2 es2 ep2 t3 (sb.trans sb2) R2 (fun z => absurd z hm) fun _ => pm2.trans pm)
      rcases two with ⟨_, e2⟩ | ⟨_, e2⟩
      · exact go 31 (by rw [e2, size_20]) (.inr (.inl rfl)) (by rw [e2, size_20]; decide) (by omega)
      · exact go 127 (by rw [e2, size_76]) (.inr (.inr rfl)) (by rw [e2, size_76]; decide) (by omega)
    · first
        | refine (wp_if_neg (by simp [hf]) ?_)
        | (refine (wpAny_bind ?_); refine wp_if_neg (by simp [hf]) ?_; refine wpAny_pure ?_)
      refine wpAny_pure (q true h1 L1 es1 (ep + 1) t2 sb ⟨⟨_, ho1, ⟨hex.1, hex.2.1, hex.2.2⟩, rfl⟩, hin, T2, nod1, key1, ld1, ?_, by omega⟩ (fun z => absurd z hm) fun _ => pm)
      have nf : ¬ (L.length + 1) * 5 ≥ t.mask * 3 := fun z => hf (full.mpr z)
      rw [hlen, m2]
      omega
  by_cases hpl : (t1.plain = true)
  · first
      | (refine wpAny_bind ?_; refine wp_if_pos hpl ?_; exact byVal k _ 8 s _ hx.1 fun b => rest b)
      | exact wp_if_pos hpl (wpAny_bind (byVal k _ 8 s _ hx.1 fun b => rest b))
  · first
      | (refine wpAny_bind ?_; refine wp_if_neg hpl ?_; exact wpAny_pure (rest true))
      | exact wp_if_neg hpl (wpAny_bind (wpAny_pure (rest true)))
theorem has_new {h : Heap} (ho : h.get? a = some { cls := .type "set", dict := none, data := .set #[] 0 (.fresh 0 0 (!w.params.followText "set-order")) }) : Has w h a [] #[] 0 (.fresh 0 0 (!w.params.followText "set-order")) where
  obj := ⟨_, ho, ⟨rfl, rfl, rfl⟩, rfl⟩
  row := rfl
  tab := ⟨.nil, rfl, rfl, .inl rfl, fun x hx => (by cases hx), fun i h j hi => (by simp at hi)⟩
  nod := List.nodup_nil
  key := fun e he => (by cases he)
  ldd := by
    cases hq : w.params.followText "set-order"
    · exact .inr (by simp [SetTable.fresh, hq])
    · exact .inl rfl
  rom := by show 0 * 5 < 7 * 3; decide
  few := by show 0 < 64; decide
end
end NS

/-! NSet4: set(xs) of a list of nested tuples. -/
namespace NS
open L2 PySem PySem.Spec PyProof.Rows
/-- what the set has of the first i items -/
structure Of (ks : List El) (i : Nat) (L : List El) : Prop where
  from_ : ∀ e ∈ L, e ∈ ks.take i
  all_ : ∀ e ∈ ks.take i, e.2 ∈ L.map (·.2)
  le_ : L.length ≤ i
theorem Of.step {ks L L' : List El} {i : Nat} {x : El} (g : Of ks i L) (h : ks[i]? = some x) (c1 : x.2 ∈ L.map (·.2) → L' = L) (c2 : x.2 ∉ L.map (·.2) → L'.Perm (x :: L)) : Of ks (i + 1) L' := by
  have tk : ks.take (i + 1) = ks.take i ++ [x] := take_next h
  by_cases c : x.2 ∈ L.map (·.2)
  · rw [c1 c]
    refine ⟨fun e he => by rw [tk]; exact List.mem_append_left _ (g.from_ e he), fun e he => ?_, Nat.le_succ_of_le g.le_⟩
    rw [tk] at he
    rcases List.mem_append.mp he with z | z
    · exact g.all_ e z
    · rw [List.mem_singleton.mp z]; exact c
  · have pm := c2 c
    refine ⟨fun e he => ?_, fun e he => ?_, by rw [pm.length_eq]; exact Nat.succ_le_succ g.le_⟩
    · rw [tk]
      rcases List.mem_cons.mp (pm.mem_iff.mp he) with z | z
      · rw [z]; exact List.mem_append_right _ (List.mem_singleton.mpr rfl)
      · exact List.mem_append_left _ (g.from_ e z)
    · rw [(pm.map (·.2)).mem_iff]; rw [List.map_cons]
      rw [tk] at he
      rcases List.mem_append.mp he with z | z
      · exact List.mem_cons_of_mem _ (g.all_ e z)
      · rw [List.mem_singleton.mp z]; exact List.mem_cons_self ..
abbrev set0 (w : World) : Obj := { cls := .type "set", dict := none, data := .set #[] 0 (.fresh 0 0 (!w.params.followText "set-order")) }
section
variable {s : Shared} {P : Program} {w : World} {A : Around} {E : Value → Shared → Prop}
theorem tupK_keep {h h' : Heap} {k : NestedKey} {b : Addr} (x : TupK h k b) (kp : ∀ c o, h.get? c = some o → h'.get? c = some o) : TupK h' k b := ⟨NestedIs.at (fun c o vs n hc _ => kp c o hc) k _ x.1, x.2⟩
theorem Has.keep {h h' : Heap} {a : Addr} {L : List El} {es : Array (Int × Value)} {ep : Nat} {t : SetTable} (R : Has w h a L es ep t) (ha : ∀ o, h.get? a = some o → h'.get? a = some o) (ht : ∀ e ∈ L, TupK h' e.2 e.1) : Has w h' a L es ep t := by
  obtain ⟨o, ho, r⟩ := R.obj
  exact ⟨⟨o, ha o ho, r⟩, R.row, R.tab, R.nod, ht, R.ldd, R.rom, R.few⟩
theorem fill {I : Addr} {fp wr : List Addr} {Gg : Array GenState → Array GenState → Prop} {n : Nat} {Pv : Nat → Value → Prop} {St : Nat → Shared → Prop} {R : Result → Shared → Prop}
    (W : WalksS P w A.in1 I fp wr Gg n Pv St) (S : Addr) (hSf : S ∉ fp) (ks : List El) (hn : n = ks.length) (few : ks.length < 64) (hval : ∀ i v, Pv i v → ∃ e, ks[i]? = some e ∧ v = .ref e.1)
    (h0 : Heap) (hk0 : ∀ e ∈ ks, TupK h0 e.2 e.1) (hS0 : h0.get? S = none) (hw0 : ∀ b ∈ wr, h0.get? b = none) (hu : A.in1.units + 8 < cLine) :
    ∀ (k i : Nat) (s : Shared), n - i = k → i ≤ n → St i s → (∀ b o, h0.get? b = some o → s.heap.get? b = some o) → (∃ L es ep t, Has w s.heap S L es ep t ∧ Of ks i L) →
      (∀ s' L es ep t, Moved (S :: wr) Gg s s' → Has w s'.heap S L es ep t → Of ks n L → (∀ b o, h0.get? b = some o → s'.heap.get? b = some o) → R (.ok (.ret .none)) s') →
      (codeAny (model P w) A (.builtin "set.update.loop" ⟨[.ref S, .ref I], []⟩) R s) := by
  have hSw : S ∉ wr := fun h => hSf (W.sub _ h); have hsub : ∀ b ∈ wr, b ∈ S :: wr := fun b hb => List.mem_cons_of_mem _ hb
  have still : ∀ {s s' : Shared}, Moved wr Gg s s' → (∀ b o, h0.get? b = some o → s.heap.get? b = some o) → ∀ b o, h0.get? b = some o → s'.heap.get? b = some o := fun hm kp b o e =>
    hm.heap b o (fun hb => by rw [hw0 b hb] at e; cases e) (kp b o e)
  intro k
  induction k with
  | zero =>
    intro i s hk' hi hst kp ⟨L, es, ep, t, hS, g⟩ hR
    obtain rfl : i = n := by omega
    refine codeAny_builtin F.entry_set_update_loop ?_; rw [Around.under_plainId F.plain_set_update_loop _]; show wpAny _ A.in1 (pyNext (.ref I) >>= _) _ _ s; refine wpAny_bind (W.done s _ _ hst fun s' hm => ?_); show wpAny _ A.in1 (ret Value.none) _ _ s'
    have kp' := still hm kp
    exact wpAny_pure (hR s' L es ep t (hm.mono hsub) (hS.keep (fun o e => hm.heap S o hSw e) fun e he => tupK_keep (hk0 e (List.mem_of_mem_take (g.from_ e he))) kp') g kp')
  | succ k ih =>
    intro i s hk' hi hst kp ⟨L, es, ep, t, hS, g⟩ hR
    have hlt : i < n := by omega
    refine codeAny_builtin F.entry_set_update_loop ?_; rw [Around.under_plainId F.plain_set_update_loop _]; show wpAny _ A.in1 (pyNext (.ref I) >>= _) _ _ s; refine wpAny_bind (W.item i s _ _ hlt hst fun v s' hP hst' hm => ?_)
    obtain ⟨e, he, rfl⟩ := hval i v hP
    have kp' := still hm kp
    have hS' : Has w s'.heap S L es ep t := hS.keep (fun o e => hm.heap S o hSw e) fun q hq => tupK_keep (hk0 q (List.mem_of_mem_take (g.from_ q hq))) kp'
    have hx : TupK s'.heap e.2 e.1 := tupK_keep (hk0 e (List.mem_of_getElem? he)) kp'
    show wpAny _ A.in1 (holding [Value.ref e.1] (setAdd S (.ref e.1)) >>= _) _ _ s'; refine wpAny_bind (wpAny_holding ?_)
    unfold setAdd
    refine wpAny_holding ?_
    refine wpAny_bind (pyHash_key e.2 _ _ _ _ hx.1 (by have := hx.2; omega) ?_)
    refine adds (s := { s' with toks := s'.toks + e.2.draws }) hS' hx hu (by have := g.le_; omega) fun b h' L' es' ep' t' hsb hS2 c1 c2 => ?_
    have kp2 : ∀ b o, h0.get? b = some o → h'.get? b = some o := fun b o q => (hsb.2 b (fun z => by rw [z, hS0] at q; cases q)).trans (kp' b o q)
    refine wpAny_pure ⟨plainId_quiet F.plain_set_update_loop _, ih (i + 1) _ (by omega) hlt (W.frame _ s' _ _ hst' (Nat.le_add_right _ _) fun b hb o q => ?_) kp2 ⟨L', es', ep', t', hS2, g.step he c1 c2⟩ fun s2 L2 es2 ep2 t2 hm2 hS3 g2 kp3 => ?_⟩
    · rw [hsb.2 b (fun h : b = S => hSf (by rw [← h]; exact hb))]; exact q
    · refine hR s2 L2 es2 ep2 t2 (Moved.trans W.gtrans ((hm.mono hsub).then_heap (Nat.le_add_right _ _) fun b o hb q => ?_) hm2) hS3 g2 kp3
      rw [hsb.2 b (fun h : b = S => hb (by rw [h]; exact List.mem_cons_self ..))]; exact q
theorem set_of {l : Addr} {items : Array Value} (ks : List El) {Q : Value → Shared → Prop} (hh : A.handled = none) (hl : s.heap.IsList l items) (hit : items.toList = ks.map fun e => Value.ref e.1)
    (hk0 : ∀ e ∈ ks, TupK s.heap e.2 e.1) (few : ks.length < 64) (hu : A.units + 12 < cLine)
    (q : ∀ (h' : Heap) (tk : Nat) L es ep t, Has w h' s.heap.objs.size L es ep t → Of ks ks.length L → (∀ b o, s.heap.get? b = some o → h'.get? b = some o) → Q (.ref s.heap.objs.size) { s with heap := h', toks := tk }) :
    (wpAny (model P w) A (call (.type "set") [.ref l]) Q E s) := by
  have hisz : items.size = ks.length := by rw [← Array.length_toList, hit, List.length_map]
  obtain ⟨c, tl, hmro⟩ := F.called_set.mro; have hmade := F.called_set.made
  have hsub := F.called_set.sub; refine wpAny_call (codeAny_of_tree ?_); show wpAny _ _ (callAny (.type "set") _) _ _ _; refine wpAny_pure ⟨Code.quiet_builtin _ (by decide +kernel), codeAny_builtin F.entry_type_call ?_⟩; rw [Around.under_plain (weight_type_call_type "set" [.ref l] []) rfl]; have h1 := F.called_set.notType; have h2 := F.called_set.canCreate; have hct := F.typeCall_set_1 (.ref l)
  repeat (any_goals (first | (assumption) | wp_step))
  refine codeAny_mono (code_set_led1 (.ref l) (E := E) (Q₁ := fun obj s₁ => obj = .ref s.heap.objs.size ∧ s₁ = { s with heap := s.heap.push (set0 w) }) ⟨rfl, rfl⟩) fun r s₁ hr => ?_
  cases r with
  | error e => exact hr
  | ok fl =>
    cases fl with
    | ret obj =>
      obtain ⟨rfl, rfl⟩ := hr
      have hS : (s.heap.push (set0 w)).get? s.heap.objs.size = some (set0 w) := Heap.get?_push_size _ rfl
      have hT : Shared.TypeIs { s with heap := s.heap.push (set0 w) } (.ref s.heap.objs.size) "set" := ⟨_, hS, rfl⟩; have hli := F.called_set.init.lookup; have hbi := F.called_set.init.bind (.ref s.heap.objs.size)
      repeat (any_goals (first | (assumption) | wp_step))
      refine codeAny_mono (codeAny_call_builtin (R := wants (fun r s₂ => r = .none ∧ ∃ h' tk L es ep t, s₂ = { s with heap := h', toks := tk } ∧ Has w h' s.heap.objs.size L es ep t ∧ Of ks ks.length L ∧
          (∀ (b : _) (o : _), s.heap.get? b = some o → h'.get? b = some o)) E) F.called_set.init.plain F.entry_set_init (check_set_init_1 hT ?_)) fun r₂ s₂ hr₂ => ?_
      · obtain ⟨ol, hol, hcl, nl, hdl⟩ := hl; obtain ⟨ocls, odict, odata, oslots⟩ := ol
        simp only at hcl hdl
        subst hcl; subst hdl
        have hol' : (s.heap.push (set0 w)).get? l = some { cls := .type "list", dict := odict, data := .seq items nl, slots := oslots } := Heap.get?_push_of_some _ hol
        have hsls := F.sub_list_set; have hslf := F.sub_list_frozenset; have hne : (Value.type "list" == Value.type "dict") = false := by decide
        have hl1 : (s.heap.push (set0 w)).IsList l items := ⟨_, hol', rfl, nl, rfl⟩; unfold Builtin.«set.__init__» noKeywords Builtin.Frozenset.updateFrom
        generalize hPI : pyIter = PI
        wp_walk
        subst hPI; refine wpAny_pyIter_list hl1 ?_; refine wpAny_bind (wpAny_runValue ?_); have hlS : l < s.heap.objs.size := Heap.lt_size hol; have hh3 : A.in1.in1.in1.handled = none := by simp [hh]
        have hneI : l ≠ (s.heap.push (set0 w)).objs.size := by rw [Heap.size_push]; exact Nat.ne_of_lt (Nat.lt_succ_of_lt hlS)
        have hSf : s.heap.objs.size ∉ [(s.heap.push (set0 w)).objs.size, l] := by
          rw [Heap.size_push]; simp only [not_or, or_false, List.mem_cons, List.mem_singleton, List.not_mem_nil]
          exact ⟨Nat.ne_of_lt (Nat.lt_succ_self _), fun e => Nat.lt_irrefl _ (e ▸ hlS)⟩
        have hval : ∀ (i : Nat) (v : Value), items[i]? = some v → ∃ e, ks[i]? = some e ∧ v = .ref e.1 := fun i v hv => by
          have z : items.toList[i]? = some v := by rw [Array.getElem?_toList]; exact hv
          rw [hit, List.getElem?_map] at z
          simp only [Option.map_eq_some_iff] at z
          obtain ⟨e, h1, h2⟩ := z
          exact ⟨e, h1, h2.symm⟩
        have off : ∀ b, s.heap.objs.size ≤ b → s.heap.get? b = none := fun b hb => Heap.get?_none_of_le hb
        refine fill ((Walks.list hh3 _ l hneI items).toS) s.heap.objs.size
          hSf ks hisz few hval s.heap hk0 (off _ (Nat.le_refl _)) (fun b hb => off b (by
            rw [List.mem_singleton.mp hb]; rw [Heap.size_push]
            exact Nat.le_succ _)) (by first | exact hu | (show A.units + _ + 8 < cLine; omega) | (simp; omega)) (items.size - 0) 0 _ (by omega) (Nat.zero_le _)
          ⟨⟨_, Heap.get?_push_size _ rfl, rfl, rfl⟩, (hl1.push _)⟩ (fun b o e => Heap.get?_push_of_some _ (Heap.get?_push_of_some _ e)) ⟨[], #[], 0, _, has_new (Heap.get?_push_of_some _ hS), ⟨fun e he => (by cases he), fun e he => (by simp at he), Nat.le_refl _⟩⟩ ?hR
        intro s' L es ep t hm hS' g' kp; obtain ⟨h', g2, d', tk', os'⟩ := s'
        obtain rfl : g2 = s.gens := hm.gens
        obtain rfl : d' = s.drawn := hm.drawn
        obtain rfl : os' = s.os := hm.os
        show wpAny _ _ _ _ _ _
        refine wpAny_pure ?_; show wpAny _ _ (ret Value.none) _ _ _
        rw [hisz] at g'
        exact wpAny_pure ⟨rfl, h', tk', L, es, ep, t, rfl, hS', g', kp⟩
      · cases r₂ with
        | error e => exact hr₂
        | ok fl₂ =>
          cases fl₂ with
          | ret r =>
            obtain ⟨rfl, h', tk, L, es, ep, t, rfl, hS', g', kp⟩ := hr₂
            repeat (any_goals (first | (assumption) | wp_step))
            exact q _ _ _ _ _ _ hS' g' kp
          | _ => exact hr₂.elim
    | _ => exact hr.elim
end
end NS

/-! MR1: plain data D, memory, what a reading gives of them. -/
namespace MR
open PySem L2

/-! ### data -/
inductive D where
  | non | bl (b : Bool) | int (i : Int) | str (s : Str) | tup (xs : List D) | scr (xs : List D) | ref (n : Nat) | ty (n : String) | cl (n : Nat)
inductive MO where
  | lst (xs : List D) | ins (c : Nat) (fs : List (Str × D)) | exc (c : Nat) (m : Option Nat) | xdt (fs : List (Str × D)) | dct (kvs : List (Str × D))
abbrev Mem := List MO
abbrev Sl := List (Option D)
/-- the written part; where the classes stand -/
structure Gx where
  K : PySem.W.Frag
  cA : Nat → Addr
/-- a list that nobody writes -/
def SqF (K : PySem.W.Frag) (H : Hp) (a : Addr) (xs : List V) : Prop := (∃ o, H a = some (.frz o (.lst xs))) ∨ SqL K (fun _ => none) a xs
theorem SqF.sq {K : PySem.W.Frag} {H : Hp} {a : Addr} {xs : List V} (h : SqF K H a xs) : SqL K H a xs := by
  rcases h with ⟨o, h⟩ | (h | ⟨o, h⟩) | h
  · exact .inl (.inr ⟨o, h⟩)
  · exact nomatch h
  · exact nomatch h
  · exact .inr h

mutual
inductive Den (G : Gx) (ρ : List Addr) (H : Hp) : V → D → Prop
  | non : Den G ρ H .non .non
  | bl {b} : Den G ρ H (.bl b) (.bl b)
  | int {i} : Den G ρ H (.int i) (.int i)
  | str {x} : Den G ρ H (.str x) (.str x)
  | tup {a vs ds} : SqT G.K H a vs → Dens G ρ H vs ds → Den G ρ H (.ref a) (.tup ds)
  | scr {a vs ds} : SqF G.K H a vs → Dens G ρ H vs ds → Den G ρ H (.ref a) (.scr ds)
  | ref {a n} : ρ[n]? = some a → Den G ρ H (.ref a) (.ref n)
  | ty {n} : Den G ρ H (.ty n) (.ty n)
  | cl {n} : Den G ρ H (.ref (G.cA n)) (.cl n)
inductive Dens (G : Gx) (ρ : List Addr) (H : Hp) : List V → List D → Prop
  | nil : Dens G ρ H [] []
  | cons {v d vs ds} : Den G ρ H v d → Dens G ρ H vs ds → Dens G ρ H (v :: vs) (d :: ds)
end
inductive Flds (G : Gx) (ρ : List Addr) (H : Hp) : List (Str × V) → List (Str × D) → Prop
  | nil : Flds G ρ H [] []
  | cons {f v d vs ds} : Den G ρ H v d → Flds G ρ H vs ds → Flds G ρ H ((f, v) :: vs) ((f, d) :: ds)

def ObD (G : Gx) (ρ : List Addr) (H : Hp) (a : Addr) : MO → Prop
  | .lst ds => ∃ vs, H a = some (.lst vs) ∧ Dens G ρ H vs ds
  | .ins c fs => ∃ dx vs, H a = some (.ins (G.cA c) dx vs) ∧ Flds G ρ H vs fs
  | .exc c none => H a = some (exo a (G.cA c) none)
  | .exc c (some m) => ∃ dx, ρ[m]? = some dx ∧ H a = some (exo a (G.cA c) (some dx))
  | .xdt fs => ∃ vs, H a = some (exd a vs) ∧ Flds G ρ H vs fs
  | .dct kvs => ∃ vs, H a = some (.dK (vs.map fun p => (Sum.inr p.1, p.2))) ∧ Flds G ρ H vs kvs
structure MemOk (G : Gx) (ρ : List Addr) (H : Hp) (μ : Mem) : Prop where
  len : ρ.length = μ.length
  inj : ∀ (i j : Nat) (a : Addr), ρ[i]? = some a → ρ[j]? = some a → i = j
  ob : ∀ (n : Nat) (a : Addr) (o : MO), ρ[n]? = some a → μ[n]? = some o → ObD G ρ H a o
structure SlOk (G : Gx) (ρ : List Addr) (H : Hp) (σ : St) (env : Sl) : Prop where
  len : σ.length = env.length
  at_ : ∀ (i : Nat) (d : D), env[i]? = some (some d) → ∃ v, σ[i]? = some (some v) ∧ Den G ρ H v d
/-- later: more objects, tuples stand -/
structure Ext (K : PySem.W.Frag) (ρ : List Addr) (H : Hp) (ρ' : List Addr) (H' : Hp) : Prop where
  pre : ∃ r, ρ' = ρ ++ r
  tup : ∀ a xs, SqT K H a xs → SqT K H' a xs
  fro : ∀ a xs, SqF K H a xs → SqF K H' a xs
  oth : ∀ a o, a ∉ ρ' → H a = some o → H' a = some o
  new : ∀ a, a ∈ ρ' → a ∉ ρ → H a = none

section
variable {G : Gx} {K : PySem.W.Frag} {ρ ρ' ρ1 ρ2 : List Addr} {H H' H1 H2 : Hp} {σ σ' : St} {env : Sl} {μ μ' : Mem}
theorem Ext.refl : Ext K ρ H ρ H := ⟨⟨[], by simp⟩, fun _ _ h => h, fun _ _ h => h, fun _ _ _ h => h, fun _ h h' => absurd h h'⟩
theorem Ext.trans (a : Ext K ρ H ρ1 H1) (b : Ext K ρ1 H1 ρ2 H2) : Ext K ρ H ρ2 H2 := by
  obtain ⟨r, rfl⟩ := a.pre
  obtain ⟨r', rfl⟩ := b.pre
  refine ⟨⟨r ++ r', by simp⟩, fun x y h => b.tup x y (a.tup x y h), fun x y h => b.fro x y (a.fro x y h), fun x o hx h => b.oth x o hx (a.oth x o (fun q => hx (List.mem_append_left _ q)) h), fun x hx hn => ?_⟩
  by_cases h1 : x ∈ ρ ++ r
  · exact a.new x h1 hn
  · have h2 := b.new x hx h1
    cases q : H x with
    | none => rfl
    | some o => rw [a.oth x o h1 q] at h2; cases h2
theorem Ext.at_ (e : Ext K ρ H ρ' H') {n : Nat} {a : Addr} (h : ρ[n]? = some a) : ρ'[n]? = some a := by
  obtain ⟨r, rfl⟩ := e.pre
  have := (List.getElem?_eq_some_iff.mp h).1
  rw [List.getElem?_append_left this]; exact h
/-- what the data lean on -/
structure Ex0 (K : PySem.W.Frag) (ρ : List Addr) (H : Hp) (ρ' : List Addr) (H' : Hp) : Prop where
  at_ : ∀ (n : Nat) (a : Addr), ρ[n]? = some a → ρ'[n]? = some a
  tup : ∀ a xs, SqT K H a xs → SqT K H' a xs
  fro : ∀ a xs, SqF K H a xs → SqF K H' a xs
theorem Ext.ex (e : Ext K ρ H ρ' H') : Ex0 K ρ H ρ' H' := ⟨fun _ _ h => e.at_ h, e.tup, e.fro⟩
mutual
theorem Den.mono0 (e : Ex0 G.K ρ H ρ' H') : ∀ {v d}, Den G ρ H v d → Den G ρ' H' v d
  | _, _, .non => .non
  | _, _, .bl => .bl
  | _, _, .int => .int
  | _, _, .str => .str
  | _, _, .tup h t => .tup (e.tup _ _ h) (Dens.mono0 e t)
  | _, _, .scr h t => .scr (e.fro _ _ h) (Dens.mono0 e t)
  | _, _, .ref h => .ref (e.at_ _ _ h)
  | _, _, .ty => .ty
  | _, _, .cl => .cl
theorem Dens.mono0 (e : Ex0 G.K ρ H ρ' H') : ∀ {v d}, Dens G ρ H v d → Dens G ρ' H' v d
  | _, _, .nil => .nil
  | _, _, .cons h t => .cons (Den.mono0 e h) (Dens.mono0 e t)
end
theorem Den.mono (e : Ext G.K ρ H ρ' H') {v : V} {d : D} (h : Den G ρ H v d) : Den G ρ' H' v d := h.mono0 e.ex
theorem Dens.mono (e : Ext G.K ρ H ρ' H') {v : List V} {d : List D} (h : Dens G ρ H v d) : Dens G ρ' H' v d := h.mono0 e.ex
theorem Flds.mono0 (e : Ex0 G.K ρ H ρ' H') : ∀ {v d}, Flds G ρ H v d → Flds G ρ' H' v d
  | _, _, .nil => .nil
  | _, _, .cons h t => .cons (h.mono0 e) (Flds.mono0 e t)
theorem Flds.mono (e : Ext G.K ρ H ρ' H') : ∀ {v d}, Flds G ρ H v d → Flds G ρ' H' v d
  | _, _, .nil => .nil
  | _, _, .cons h t => .cons (h.mono e) (Flds.mono e t)
/-- an object stays what it was where it isn't written -/
theorem ob_keep {a : Addr} {o : MO} (e : Ex0 G.K ρ H ρ' H') (k : H' a = H a) (h : ObD G ρ H a o) : ObD G ρ' H' a o := by
  unfold ObD at h ⊢
  cases o with
  | lst ds => obtain ⟨vs, h, t⟩ := h; exact ⟨vs, by rw [k]; exact h, t.mono0 e⟩
  | ins c fs => obtain ⟨dx, vs, h, t⟩ := h; exact ⟨dx, vs, by rw [k]; exact h, t.mono0 e⟩
  | exc c m => cases m with
    | none => exact k.trans h
    | some m => obtain ⟨dx, h1, h2⟩ := h; exact ⟨dx, e.at_ _ _ h1, by rw [k]; exact h2⟩
  | xdt fs => obtain ⟨vs, h, t⟩ := h; exact ⟨vs, by rw [k]; exact h, t.mono0 e⟩
  | dct fs => obtain ⟨vs, h, t⟩ := h; exact ⟨vs, k.trans h, t.mono0 e⟩
theorem ob_some {a : Addr} {o : MO} (h : ObD G ρ H a o) : H a ≠ none := fun z => by
  unfold ObD at h
  cases o with
  | lst ds => obtain ⟨vs, h, t⟩ := h; rw [z] at h; cases h
  | ins c fs => obtain ⟨dx, vs, h, t⟩ := h; rw [z] at h; cases h
  | exc c m => cases m with
    | none => rw [z] at h; cases h
    | some m => obtain ⟨dx, h1, h2⟩ := h; rw [z] at h2; cases h2
  | xdt fs => obtain ⟨vs, h, t⟩ := h; rw [z] at h; cases h
  | dct fs => obtain ⟨vs, h, t⟩ := h; cases z.symm.trans h
theorem SlOk.mono (e : Ext G.K ρ H ρ' H') (h : SlOk G ρ H σ env) : SlOk G ρ' H' σ env := ⟨h.len, fun i d q => by
  obtain ⟨v, h1, h2⟩ := h.at_ i d q
  exact ⟨v, h1, h2.mono e⟩⟩
theorem Dens.len : ∀ {vs ds}, Dens G ρ H vs ds → vs.length = ds.length
  | _, _, .nil => rfl
  | _, _, .cons _ t => by simp [Dens.len t]
theorem Dens.app : ∀ {vs ds vs' ds'}, Dens G ρ H vs ds → Dens G ρ H vs' ds' → Dens G ρ H (vs ++ vs') (ds ++ ds')
  | _, _, _, _, .nil, h => h
  | _, _, _, _, .cons h t, h' => .cons h (Dens.app t h')
theorem Dens.get : ∀ {vs ds} {i : Nat} {d}, Dens G ρ H vs ds → ds[i]? = some d → ∃ v, vs[i]? = some v ∧ Den G ρ H v d
  | _, _, _, _, .nil, h => by simp at h
  | _, _, 0, _, .cons h _, e => by simp at e; subst e; exact ⟨_, rfl, h⟩
  | _, _, i + 1, _, .cons _ t, e => by
    obtain ⟨v, h1, h2⟩ := Dens.get (i := i) t (by simpa using e)
    exact ⟨v, by simpa using h1, h2⟩
theorem Dens.getV : ∀ {vs ds} {i : Nat} {v}, Dens G ρ H vs ds → vs[i]? = some v → ∃ d, ds[i]? = some d ∧ Den G ρ H v d
  | _, _, _, _, .nil, h => by simp at h
  | _, _, 0, _, .cons h _, e => by simp at e; subst e; exact ⟨_, rfl, h⟩
  | _, _, i + 1, _, .cons _ t, e => by
    obtain ⟨v, h1, h2⟩ := Dens.getV (i := i) t (by simpa using e)
    exact ⟨v, by simpa using h1, h2⟩
theorem Dens.take : ∀ {vs ds} (n : Nat), Dens G ρ H vs ds → Dens G ρ H (vs.take n) (ds.take n)
  | _, _, 0, _ => by simpa using Dens.nil
  | _, _, _ + 1, .nil => by simpa using Dens.nil
  | _, _, n + 1, .cons h t => by simpa using Dens.cons h (Dens.take n t)
theorem Dens.drop : ∀ {vs ds} (n : Nat), Dens G ρ H vs ds → Dens G ρ H (vs.drop n) (ds.drop n)
  | _, _, 0, h => by simpa using h
  | _, _, _ + 1, .nil => by simpa using Dens.nil
  | _, _, n + 1, .cons h t => by simpa using Dens.drop n t
theorem Dens.set : ∀ {vs ds v d} (n : Nat), Dens G ρ H vs ds → Den G ρ H v d → Dens G ρ H (vs.set n v) (ds.set n d)
  | _, _, _, _, _, .nil, _ => by simpa using Dens.nil
  | _, _, _, _, 0, .cons _ t, q => by simpa using Dens.cons q t
  | _, _, _, _, n + 1, .cons h t, q => by simpa using Dens.cons h (Dens.set n t q)
theorem Dens.rev : ∀ {vs ds}, Dens G ρ H vs ds → Dens G ρ H vs.reverse ds.reverse
  | _, _, .nil => by simpa using Dens.nil
  | _, _, .cons h t => by
    rw [List.reverse_cons]; rw [List.reverse_cons]
    exact (Dens.rev t).app (.cons h .nil)

/-! ### new objects, written ones -/
theorem MemOk.ne (M : MemOk G ρ H μ) {p : Addr} (hp : H p = none) : p ∉ ρ := fun hm => by
  obtain ⟨n, hn, e⟩ := List.getElem_of_mem hm
  have h1 : ρ[n]? = some p := by rw [List.getElem?_eq_getElem hn, e]
  have hn2 : n < μ.length := M.len ▸ hn
  have ob := M.ob n p _ h1 (List.getElem?_eq_getElem hn2)
  exact ob_some ob hp
theorem sqt_upd {a p : Addr} {xs : List V} {o : HO} (hp : H p = none ∨ (∃ ys, H p = some (.lst ys)) ∨ (∃ c d f, H p = some (.ins c d f))) (h : SqT K H a xs) : SqT K (upd H p o) a xs := by
  rcases h with (h | ⟨u, h⟩) | h
  · have ne : a ≠ p := by
      rintro rfl; rw [h] at hp; rcases hp with q | ⟨_, q⟩ | ⟨_, _, _, q⟩ <;> cases q
    exact .inl (.inl (by rw [upd_ne ne]; exact h))
  · have ne : a ≠ p := by
      rintro rfl; rw [h] at hp; rcases hp with q | ⟨_, q⟩ | ⟨_, _, _, q⟩ <;> cases q
    exact .inl (.inr ⟨u, by rw [upd_ne ne]; exact h⟩)
  · exact .inr h
theorem sqf_upd {a p : Addr} {xs : List V} {o : HO} (hp : H p = none ∨ (∃ ys, H p = some (.lst ys)) ∨ (∃ c d f, H p = some (.ins c d f))) (h : SqF K H a xs) : SqF K (upd H p o) a xs := by
  rcases h with ⟨u, h⟩ | h
  · have ne : a ≠ p := by
      rintro rfl; rw [h] at hp; rcases hp with q | ⟨_, q⟩ | ⟨_, _, _, q⟩ <;> cases q
    exact .inl ⟨u, by rw [upd_ne ne]; exact h⟩
  · exact .inr h
/-- an untracked new thing (a tuple) -/
theorem ext_new {p : Addr} {o : HO} (hp : H p = none) : Ext K ρ H ρ (upd H p o) := ⟨⟨[], by simp⟩, fun _ _ h => sqt_upd (.inl hp) h, fun _ _ h => sqf_upd (.inl hp) h, fun a u _ h => by rw [upd_ne (ne_of_none h hp)]; exact h, fun _ h h' => absurd h h'⟩
theorem MemOk.new (M : MemOk G ρ H μ) {p : Addr} {o : HO} (hp : H p = none) : MemOk G ρ (upd H p o) μ := ⟨M.len, M.inj, fun n a ob h1 h2 => by
  have ne : a ≠ p := fun e => M.ne hp (e ▸ List.mem_of_getElem? h1)
  exact ob_keep (ext_new hp).ex (upd_ne ne) (M.ob n a ob h1 h2)⟩
/-- a new tracked object -/
theorem ext_push {p : Addr} {o : HO} (hp : H p = none) : Ext K ρ H (ρ ++ [p]) (upd H p o) := ⟨⟨[p], rfl⟩, fun _ _ h => sqt_upd (.inl hp) h, fun _ _ h => sqf_upd (.inl hp) h, fun a u _ h => by rw [upd_ne (ne_of_none h hp)]; exact h, fun a h h' => by
  rcases (List.mem_append.mp h) with q | q
  · exact absurd q h'
  · rw [List.mem_singleton.mp q]; exact hp⟩
theorem MemOk.push (M : MemOk G ρ H μ) {p : Addr} {o : HO} {m : MO} (hp : H p = none) (hm : ObD G (ρ ++ [p]) (upd H p o) p m) : MemOk G (ρ ++ [p]) (upd H p o) (μ ++ [m]) := by
  have nin := M.ne hp
  refine ⟨by simp [M.len], fun i j a h1 h2 => ?_, fun n a ob h1 h2 => ?_⟩
  · by_cases hi : i < ρ.length
    · rw [List.getElem?_append_left hi] at h1
      by_cases hj : j < ρ.length
      · rw [List.getElem?_append_left hj] at h2; exact M.inj i j a h1 h2
      · have l2 := (List.getElem?_eq_some_iff.mp h2).1
        simp at l2
        have e : j = ρ.length := by omega
        subst e; simp at h2; subst h2
        exact absurd (List.mem_of_getElem? h1) nin
    · have l1 := (List.getElem?_eq_some_iff.mp h1).1
      simp at l1
      have e : i = ρ.length := by omega
      subst e; simp at h1; subst h1
      by_cases hj : j < ρ.length
      · rw [List.getElem?_append_left hj] at h2
        exact absurd (List.mem_of_getElem? h2) nin
      · have l2 := (List.getElem?_eq_some_iff.mp h2).1
        simp at l2
        omega
  · by_cases hn : n < ρ.length
    · rw [List.getElem?_append_left hn] at h1
      rw [List.getElem?_append_left (M.len ▸ hn)] at h2
      have ne : a ≠ p := fun e => nin (e ▸ List.mem_of_getElem? h1)
      exact ob_keep (ext_push hp).ex (upd_ne ne) (M.ob n a ob h1 h2)
    · have l1 := (List.getElem?_eq_some_iff.mp h1).1
      simp at l1
      have e : n = ρ.length := by omega
      subst e
      simp at h1
      have e2 : ρ.length = μ.length := M.len
      rw [e2] at h2
      simp at h2
      subst h1; subst h2
      exact hm
/-- a list written -/
theorem ext_set {n : Nat} {p : Addr} {o : HO} {ds : List D} (M : MemOk G ρ H μ) (hr : ρ[n]? = some p) (hm : μ[n]? = some (.lst ds)) : Ext K ρ H ρ (upd H p o) := by
  obtain ⟨vs, h, _⟩ := M.ob n p _ hr hm
  exact ⟨⟨[], by simp⟩, fun _ _ q => sqt_upd (.inr (.inl ⟨_, h⟩)) q, fun _ _ q => sqf_upd (.inr (.inl ⟨_, h⟩)) q, fun a u ha q => by rw [upd_ne (show a ≠ p from fun e => ha (by rw [e]; exact List.mem_of_getElem? hr))]; exact q, fun _ h h' => absurd h h'⟩
theorem MemOk.set (M : MemOk G ρ H μ) {n : Nat} {p : Addr} {ds ds' : List D} {vs' : List V} (hr : ρ[n]? = some p) (hm : μ[n]? = some (.lst ds)) (hd : Dens G ρ H vs' ds') : MemOk G ρ (upd H p (.lst vs')) (μ.set n (.lst ds')) := by
  refine ⟨by simp [M.len], M.inj, fun k a ob h1 h2 => ?_⟩
  have e := ext_set (K := G.K) (o := .lst vs') M hr hm
  by_cases hk : k = n
  · subst hk
    rw [hr] at h1; cases h1
    rw [List.getElem?_set_self (List.getElem?_eq_some_iff.mp hm).1] at h2
    cases h2
    exact ⟨vs', upd_same, hd.mono e⟩
  · rw [List.getElem?_set_ne (Ne.symm hk)] at h2
    have ne : a ≠ p := fun q => hk (M.inj k n a h1 (by rw [hr, q]))
    exact ob_keep e.ex (upd_ne ne) (M.ob k a ob h1 h2)
end
end MR

/-! MR2: what readings give, on data. -/
namespace MR
open PySem L2

abbrev MEx := Sl → Mem → Option (D × Mem)
abbrev MTs := Sl → Mem → Option (Bool × Mem)
abbrev MAr := Sl → Mem → Option (List D × Mem)
inductive Fl | nx | rt (d : D) | bk | ct
abbrev MSt := Sl → Mem → Option (Fl × Sl × Mem)

section defs
variable (G : Gx)
def Post (ρ : List Addr) (H : Hp) (d : D) (μ' : Mem) (Q : VK) : Prop := ∀ ρ' H' v, Ext G.K ρ H ρ' H' → MemOk G ρ' H' μ' → Den G ρ' H' v d → Q v H'
def PostB (ρ : List Addr) (H : Hp) (b : Bool) (μ' : Mem) (Q : Bool → Hp → Prop) : Prop := ∀ ρ' H', Ext G.K ρ H ρ' H' → MemOk G ρ' H' μ' → Q b H'
def PostA (ρ : List Addr) (H : Hp) (ds : List D) (μ' : Mem) (Q : List V → Hp → Prop) : Prop := ∀ ρ' H' vs, Ext G.K ρ H ρ' H' → MemOk G ρ' H' μ' → Dens G ρ' H' vs ds → Q vs H'
def PostN (ρ : List Addr) (H : Hp) (env' : Sl) (μ' : Mem) (Q : St → Hp → Prop) : Prop := ∀ ρ' H' σ', Ext G.K ρ H ρ' H' → MemOk G ρ' H' μ' → SlOk G ρ' H' σ' env' → Q σ' H'
def PostS (ρ : List Addr) (H : Hp) (r : Fl × Sl × Mem) (E : Ends) : Prop := match r.1 with
  | .nx => PostN G ρ H r.2.1 r.2.2 E.nx
  | .bk => PostN G ρ H r.2.1 r.2.2 E.bk
  | .ct => PostN G ρ H r.2.1 r.2.2 E.ct
  | .rt d => Post G ρ H d r.2.2 E.rt
def RE (t : TE) (m : MEx) : Prop := ∀ ρ σ H env μ d μ' Q, MemOk G ρ H μ → SlOk G ρ H σ env → m env μ = some (d, μ') → Post G ρ H d μ' Q → t σ H Q
def RT (t : TT) (m : MTs) : Prop := ∀ ρ σ H env μ b μ' Q, MemOk G ρ H μ → SlOk G ρ H σ env → m env μ = some (b, μ') → PostB G ρ H b μ' Q → t σ H Q
def RA (t : TA) (m : MAr) : Prop := ∀ ρ σ H env μ ds μ' Q, MemOk G ρ H μ → SlOk G ρ H σ env → m env μ = some (ds, μ') → PostA G ρ H ds μ' Q → t σ H Q
def RS (t : TS) (m : MSt) : Prop := ∀ ρ σ H env μ r E, MemOk G ρ H μ → SlOk G ρ H σ env → m env μ = some r → PostS G ρ H r E → t E σ H
/-- an operation on two values; a call on values -/
def RR (r : R2) (f : D → D → Mem → Option (D × Mem)) : Prop := ∀ ρ H μ x y dx dy d μ' Q, MemOk G ρ H μ → Den G ρ H x dx → Den G ρ H y dy → f dx dy μ = some (d, μ') → Post G ρ H d μ' Q → r x y H Q
def RC (r : List V → Hp → VK → Prop) (f : List D → Mem → Option (D × Mem)) : Prop := ∀ ρ H μ vs ds d μ' Q, MemOk G ρ H μ → Dens G ρ H vs ds → f ds μ = some (d, μ') → Post G ρ H d μ' Q → r vs H Q
def RM (r : V → List V → Hp → VK → Prop) (f : D → List D → Mem → Option (D × Mem)) : Prop := ∀ ρ H μ x dx vs ds d μ' Q, MemOk G ρ H μ → Den G ρ H x dx → Dens G ρ H vs ds → f dx ds μ = some (d, μ') → Post G ρ H d μ' Q → r x vs H Q
end defs
section
variable {G : Gx} {ρ ρ' : List Addr} {H H' : Hp} {σ : St} {env : Sl} {μ μ' : Mem} {d : D} {Q : VK} {x y v : V}
theorem Post.go (p : Post G ρ H d μ' Q) (M : MemOk G ρ H μ') (h : Den G ρ H v d) : Q v H := p ρ H v .refl M h
theorem Post.of {ρ'} (p : Post G ρ H d μ' Q) (e : Ext G.K ρ H ρ' H') : Post G ρ' H' d μ' Q := fun a b c e2 M h => p a b c (e.trans e2) M h
theorem PostB.of {b Q} (p : PostB G ρ H b μ' Q) (e : Ext G.K ρ H ρ' H') : PostB G ρ' H' b μ' Q := fun a c e2 M => p a c (e.trans e2) M
theorem PostA.of {ds Q} (p : PostA G ρ H ds μ' Q) (e : Ext G.K ρ H ρ' H') : PostA G ρ' H' ds μ' Q := fun a b c e2 M h => p a b c (e.trans e2) M h
theorem PostN.of {env' Q} (p : PostN G ρ H env' μ' Q) (e : Ext G.K ρ H ρ' H') : PostN G ρ' H' env' μ' Q := fun a b c e2 M h => p a b c (e.trans e2) M h
theorem PostS.of {r E} (p : PostS G ρ H r E) (e : Ext G.K ρ H ρ' H') : PostS G ρ' H' r E := by
  obtain ⟨f, s, m⟩ := r
  cases f
  · exact PostN.of (show PostN G ρ H s m E.nx from p) e
  · exact Post.of (show Post G ρ H _ m E.rt from p) e
  · exact PostN.of (show PostN G ρ H s m E.bk from p) e
  · exact PostN.of (show PostN G ρ H s m E.ct from p) e
/-- a new tuple, a new list -/
theorem Post.newT {vs : List V} {ds : List D} (p : Post G ρ H (.tup ds) μ Q) (M : MemOk G ρ H μ) (h : Dens G ρ H vs ds) : ∀ a, H a = none → Q (.ref a) (upd H a (.tup vs)) := fun a ha =>
  p ρ _ _ (ext_new ha) (M.new ha) (.tup (.inl (.inl upd_same)) (h.mono (ext_new ha)))
theorem Post.newL {vs : List V} {ds : List D} (p : Post G ρ H (.ref μ.length) (μ ++ [.lst ds]) Q) (M : MemOk G ρ H μ) (h : Dens G ρ H vs ds) : ∀ a, H a = none → Q (.ref a) (upd H a (.lst vs)) := fun a ha =>
  p (ρ ++ [a]) _ _ (ext_push ha) (M.push ha ⟨vs, upd_same, h.mono (ext_push ha)⟩) (.ref (by rw [← M.len]; simp))

/-! ### names, constants -/
def mVar (i : Nat) : MEx := fun env μ => match env[i]? with
  | some (some d) => some (d, μ)
  | _ => none
theorem re_var {i : Nat} : RE G (tVar i) (mVar i) := by
  intro ρ σ H env μ d μ' Q M S h p
  unfold mVar at h
  split at h
  · rename_i d' hd
    cases h
    obtain ⟨v, h1, h2⟩ := S.at_ i _ hd
    exact ⟨v, h1, p.go M h2⟩
  · cases h
def mC (d : D) : MEx := fun _ μ => some (d, μ)
theorem re_c {v : V} {d : D} (hd : ∀ ρ H, Den G ρ H v d) : RE G (tC v) (mC d) := by
  intro ρ σ H env μ d' μ' Q M S h p
  cases h
  exact p.go M (hd ρ H)
theorem re_int {i : Int} : RE G (tC (.int i)) (mC (.int i)) := re_c fun _ _ => .int
theorem re_str {i : Str} : RE G (tC (.str i)) (mC (.str i)) := re_c fun _ _ => .str
theorem re_bl {i : Bool} : RE G (tC (.bl i)) (mC (.bl i)) := re_c fun _ _ => .bl
theorem re_non : RE G (tC .non) (mC .non) := re_c fun _ _ => .non

/-! ### operations -/
def mOp (f : D → D → Mem → Option (D × Mem)) (a b : MEx) : MEx := fun env μ => match a env μ with
  | some (x, μ1) => match b env μ1 with
    | some (y, μ2) => f x y μ2
    | none => none
  | none => none
theorem re_op {r : R2} {f} {ta tb : TE} {a b : MEx} (hr : RR G r f) (ha : RE G ta a) (hb : RE G tb b) : RE G (tOp r ta tb) (mOp f a b) := by
  intro ρ σ H env μ d μ' Q M S h p
  unfold mOp at h
  split at h
  · rename_i x μ1 h1
    split at h
    · rename_i y μ2 h2
      refine ha ρ σ H env μ x μ1 _ M S h1 fun ρ1 H1 v e1 M1 d1 => ?_
      refine hb ρ1 σ H1 env μ1 y μ2 _ M1 (S.mono e1) h2 fun ρ2 H2 u e2 M2 d2 => ?_
      exact hr ρ2 H2 μ2 v u x y d μ' Q M2 (d1.mono e2) d2 h (p.of (e1.trans e2))
    · cases h
  · cases h
theorem rr_or1 {r r' : R2} {f} (h : RR G r f) : RR G (fun x y H Q => r x y H Q ∨ r' x y H Q) f := fun a b c d e f g h1 h2 h3 m p q s u => .inl (h a b c d e f g h1 h2 h3 m p q s u)
/-- either of two: which, the data say -/
theorem rr_or {r r' : R2} {f f' : D → D → Mem → Option (D × Mem)} {c : D → D → Bool} (h : RR G r f) (h' : RR G r' f') : RR G (fun x y H Q => r x y H Q ∨ r' x y H Q) (fun x y μ => if c x y = true then f x y μ else f' x y μ) := by
  intro ρ H μ x y dx dy d μ' Q M d1 d2 e p
  dsimp only at e
  by_cases hc : c dx dy = true
  · rw [if_pos hc] at e; exact .inl (h ρ H μ x y dx dy d μ' Q M d1 d2 e p)
  · rw [if_neg hc] at e; exact .inr (h' ρ H μ x y dx dy d μ' Q M d1 d2 e p)
/-- ints to an int or a truth -/
def oI (C : Int → Int → Bool) (g : Int → Int → D) : D → D → Mem → Option (D × Mem) := fun x y μ => match x, y with
  | .int i, .int j => if C i j = true then some (g i j, μ) else none
  | _, _ => none
theorem rr_I {C : Int → Int → Prop} {gV : Int → Int → V} {Cb : Int → Int → Bool} {g : Int → Int → D} (hC : ∀ i j, Cb i j = true → C i j) (hg : ∀ i j ρ H, Den G ρ H (gV i j) (g i j)) : RR G (rI C gV) (oI Cb g) := by
  intro ρ H μ x y dx dy d μ' Q M d1 d2 e p
  unfold oI at e
  split at e
  · split at e
    · rename_i hc
      cases e
      cases d1; cases d2
      exact ⟨_, _, rfl, rfl, hC _ _ hc, p.go M (hg _ _ _ _)⟩
    · cases e
  · cases e
def oI0 (g : Int → Int → D) : D → D → Mem → Option (D × Mem) := fun x y μ => match x, y with
  | .int i, .int j => some (g i j, μ)
  | _, _ => none
theorem rr_I0 {gV : Int → Int → V} {g : Int → Int → D} (hg : ∀ i j ρ H, Den G ρ H (gV i j) (g i j)) : RR G (rI0 gV) (oI0 g) := by
  intro ρ H μ x y dx dy d μ' Q M d1 d2 e p
  unfold oI0 at e
  split at e
  · cases e
    cases d1; cases d2
    exact ⟨_, _, rfl, rfl, p.go M (hg _ _ _ _)⟩
  · cases e
def oSub := oI0 fun i j => .int (i - j)
def oMulI := oI (fun i j => decide (i.natAbs.log2 + j.natAbs.log2 < 1000000)) fun i j => .int (i * j)
def oDiv := oI (fun _ j => decide (0 < j ∧ j.natAbs.log2 < 9000)) fun i j => .int (i / j)
def oMod := oI (fun _ j => decide (0 < j)) fun i j => .int (i % j)
def oPow := oI (fun i j => decide (0 ≤ j ∧ j ≤ 1000000 ∧ i.natAbs < 2 ^ 64)) fun i j => .int (i ^ j.toNat)
def oLt := oI0 fun i j => .bl (decide (i < j))
def oLe := oI0 fun i j => .bl (decide (i ≤ j))
def oGt := oI0 fun i j => .bl (decide (j < i))
def oGe := oI0 fun i j => .bl (decide (j ≤ i))
theorem rr_sub : RR G (rI0 fun i j => .int (i - j)) oSub := rr_I0 fun _ _ _ _ => .int
theorem rr_mulI : RR G (rI CMulW fun i j => .int (i * j)) oMulI := rr_I (fun i j h => show i.natAbs.log2 + j.natAbs.log2 < 1000000 from of_decide_eq_true h) fun _ _ _ _ => .int
theorem rr_div : RR G (rI CDivW fun i j => .int (i / j)) oDiv := rr_I (fun i j h => show 0 < j ∧ j.natAbs.log2 < 9000 from of_decide_eq_true h) fun _ _ _ _ => .int
theorem rr_mod : RR G (rI (fun _ j => 0 < j) fun i j => .int (i % j)) oMod := rr_I (fun _ _ h => of_decide_eq_true h) fun _ _ _ _ => .int
theorem rr_pow : RR G (rI CPow fun i j => .int (i ^ j.toNat)) oPow := rr_I (fun i j h => show 0 ≤ j ∧ j ≤ 1000000 ∧ i.natAbs < 2 ^ 64 from of_decide_eq_true h) fun _ _ _ _ => .int
theorem rr_lt : RR G (rI0 fun i j => .bl (decide (i < j))) oLt := rr_I0 fun _ _ _ _ => .bl
theorem rr_le : RR G (rI0 fun i j => .bl (decide (i ≤ j))) oLe := rr_I0 fun _ _ _ _ => .bl
theorem rr_gt : RR G (rI0 fun i j => .bl (decide (j < i))) oGt := rr_I0 fun _ _ _ _ => .bl
theorem rr_ge : RR G (rI0 fun i j => .bl (decide (j ≤ i))) oGe := rr_I0 fun _ _ _ _ => .bl
/-- x + y -/
abbrev rAddU (K : PySem.W.Frag) : R2 := fun x y H Q => (rI0 fun i j => .int (i + j)) x y H Q ∨ (fun x y H Q => (fun x y H Q => ∃ i j, x = .str i ∧ y = .str j ∧ i.length + j.length ≤ sizeLine ∧ Q (.str (i ++ j)) H) x y H Q ∨ (fun x y H Q => rCat x y H Q ∨ rCatA K x y H Q) x y H Q) x y H Q
theorem op_addU {X : Cx} : OpR X (binaryOp .Add) (rAddU X.K) := op_add.or (op_add_str.or (op_cat.or op_catA))
def oAdd : D → D → Mem → Option (D × Mem) := fun x y μ => match x, y with
  | .int i, .int j => some (.int (i + j), μ)
  | .str a, .str b => if a.length + b.length ≤ 100000 then some (.str (a ++ b), μ) else none
  | .tup xs, .tup ys => if xs.length + ys.length ≤ 100000 then some (.tup (xs ++ ys), μ) else none
  | .ref m, .ref n => match μ[m]?, μ[n]? with
    | some (.lst xs), some (.lst ys) => if xs.length + ys.length ≤ 100000 then some (.ref μ.length, μ ++ [.lst (xs ++ ys)]) else none
    | _, _ => none
  | _, _ => none
theorem le_line {n : Nat} (h : n ≤ 100000) : n ≤ sizeLine := Nat.le_trans h (by decide)
theorem lt_line {n : Nat} (h : n < 100000) : n < sizeLine := Nat.lt_of_lt_of_le h (by decide)
theorem rr_add : RR G (rAddU G.K) oAdd := by
  intro ρ H μ x y dx dy d μ' Q M d1 d2 e p
  unfold oAdd at e
  split at e
  · cases e; cases d1; cases d2
    exact .inl ⟨_, _, rfl, rfl, p.go M .int⟩
  · split at e
    · rename_i hl
      cases e; cases d1; cases d2
      exact .inr (.inl ⟨_, _, rfl, rfl, le_line hl, p.go M .str⟩)
    · cases e
  · split at e
    · rename_i hl
      cases e
      cases d1 with | tup s1 t1 =>
      cases d2 with | tup s2 t2 =>
      rename_i xs ys a vs b us
      refine .inr (.inr (.inr ⟨a, b, vs, us, rfl, rfl, s1, s2, le_line (by rw [t1.len, t2.len]; exact hl), fun h0 => ?_, fun h0 h1 => ?_, fun h0 h1 => p.newT M (t1.app t2)⟩))
      · subst h0
        cases t1
        exact p.go M (.tup s2 (by simpa using t2))
      · subst h1
        cases t2
        exact p.go M (.tup s1 (by simpa using t1))
    · cases e
  · split at e
    · rename_i m n xs ys hm hn
      split at e
      · rename_i hl
        cases e
        cases d1 with | ref r1 =>
        cases d2 with | ref r2 =>
        obtain ⟨vs, h1, t1⟩ := M.ob _ _ _ r1 hm
        obtain ⟨us, h2, t2⟩ := M.ob _ _ _ r2 hn
        exact .inr (.inr (.inl ⟨_, _, vs, us, rfl, rfl, h1, h2, le_line (by rw [t1.len, t2.len]; exact hl), p.newL M (t1.app t2)⟩))
      · cases e
    · cases e
  · cases e

/-! ### == on data -/
def toPy (μ : Mem) : Nat → D → Option PyData
  | 0, _ => none
  | _ + 1, .non => some .none
  | _ + 1, .bl b => some (.bool b)
  | _ + 1, .int i => some (.int i)
  | _ + 1, .str s => some (.str s)
  | n + 1, .tup ds => (ds.mapM (toPy μ n)).map .tuple
  | n + 1, .scr ds => (ds.mapM (toPy μ n)).map .list
  | n + 1, .ref k => match μ[k]? with
    | some (.lst ds) => (ds.mapM (toPy μ n)).map .list
    | _ => none
  | _ + 1, _ => none
theorem toPys {n : Nat} (ih : ∀ v d p, Den G ρ H v d → toPy μ n d = some p → Dp G.K H v p) : ∀ (vs : List V) (ds : List D) (ps : List PyData), Dens G ρ H vs ds → ds.mapM (toPy μ n) = some ps → DpAll G.K H vs ps
  | _, [], ps, .nil, h => by
    simp at h; subst h; exact .nil
  | _, d :: ds, ps, .cons h1 h2, h => by
    simp only [List.mapM_cons, Option.bind_eq_bind, Option.bind_eq_some_iff, Option.pure_def] at h
    obtain ⟨p, hp, ps', hps, e⟩ := h
    cases e
    exact .cons (ih _ _ _ h1 hp) (toPys ih _ ds ps' h2 hps)
theorem toPy_dp (M : MemOk G ρ H μ) : ∀ (n : Nat) (v : V) (d : D) (p : PyData), Den G ρ H v d → toPy μ n d = some p → Dp G.K H v p
  | 0, _, _, _, _, h => by simp [toPy] at h
  | n + 1, v, d, p, hd, h => by
    cases hd with
    | non => simp [toPy] at h; subst h; exact .non
    | bl => simp [toPy] at h; subst h; exact .bl _
    | int => simp [toPy] at h; subst h; exact .int _
    | str => simp [toPy] at h; subst h; exact .str _
    | tup s t =>
      simp only [toPy, Option.map_eq_some_iff] at h
      obtain ⟨ps, h1, rfl⟩ := h
      exact .tup s (toPys (toPy_dp M n) _ _ _ t h1)
    | scr s t =>
      simp only [toPy, Option.map_eq_some_iff] at h
      obtain ⟨ps, h1, rfl⟩ := h
      exact .lst s.sq (toPys (toPy_dp M n) _ _ _ t h1)
    | ref r =>
      simp only [toPy] at h
      split at h
      · rename_i ds hm; simp only [Option.map_eq_some_iff] at h
        obtain ⟨ps, h1, rfl⟩ := h
        obtain ⟨vs, h2, t⟩ := M.ob _ _ _ r hm
        exact .lst (.inl (.inl h2)) (toPys (toPy_dp M n) _ _ _ t h1)
      · cases h
    | ty => simp [toPy] at h
    | cl => simp [toPy] at h
def oEq (neg : Bool) : D → D → Mem → Option (D × Mem) := fun x y μ => match toPy μ 40 x, toPy μ 40 y with
  | some a, some b => if SeqAt.shaped a = true ∧ SeqAt.shaped b = true then some (.bl (if neg then !PyData.eqv a b else PyData.eqv a b), μ) else none
  | _, _ => none
theorem rr_eq : RR G (rEqD G.K) (oEq false) := by
  intro ρ H μ x y dx dy d μ' Q M d1 d2 e p
  unfold oEq at e
  split at e
  · split at e
    · rename_i a b ha hb hs
      cases e
      exact ⟨a, b, toPy_dp M _ _ _ _ d1 ha, toPy_dp M _ _ _ _ d2 hb, hs.1, hs.2, p.go M .bl⟩
    · cases e
  · cases e
theorem rr_ne : RR G (rNeD G.K) (oEq true) := by
  intro ρ H μ x y dx dy d μ' Q M d1 d2 e p
  unfold oEq at e
  split at e
  · split at e
    · rename_i a b ha hb hs
      cases e
      exact ⟨a, b, toPy_dp M _ _ _ _ d1 ha, toPy_dp M _ _ _ _ d2 hb, hs.1, hs.2, p.go M .bl⟩
    · cases e
  · cases e
/-- x in y -/
def isFlat : D → Bool
  | .non => true | .bl _ => true | .int _ => true | .str _ => true | _ => false
def oIn (neg : Bool) : D → D → Mem → Option (D × Mem) := fun x y μ => match y with
  | .str z => match x with
    | .str s => match s.cps.toList with
      | [c] => some (.bl (if neg then !decide (c ∈ z.cps.toList) else decide (c ∈ z.cps.toList)), μ)
      | _ => none
    | _ => none
  | .tup ds => match toPy μ 40 x, ds.mapM (toPy μ 40) with
    | some a, some bs => if isFlat x = true ∧ ds.all isFlat = true then some (.bl (if neg then !bs.any fun z => PyData.eqv z a else bs.any fun z => PyData.eqv z a), μ) else none
    | _, _ => none
  | y => match toPy μ 40 x, toPy μ 40 y with
    | some a, some (.list bs) => if SeqAt.shaped a = true ∧ SeqAt.shaped (.list bs) = true then some (.bl (if neg then !bs.any fun z => PyData.eqv z a else bs.any fun z => PyData.eqv z a), μ) else none
    | _, _ => none
abbrev rInU (K : PySem.W.Frag) : R2 := fun x y H Q => (fun x y H Q => ∃ (c : Nat) (z : Str), x = .str ⟨#[c]⟩ ∧ y = .str z ∧ Q (.bl (decide (c ∈ z.cps.toList))) H) x y H Q ∨ (fun x y H Q => rIn K false x y H Q ∨ rInD K x y H Q) x y H Q
abbrev rNiU (K : PySem.W.Frag) : R2 := fun x y H Q => (fun x y H Q => ∃ (c : Nat) (z : Str), x = .str ⟨#[c]⟩ ∧ y = .str z ∧ Q (.bl (!decide (c ∈ z.cps.toList))) H) x y H Q ∨ (fun x y H Q => rIn K true x y H Q ∨ rNotInD K x y H Q) x y H Q
theorem op_inU {X : Cx} (hu : X.A.units + 65 < cLine) : OpR X (compareOp .In) (rInU X.K) := op_in_sign.or (op_in_seq.or (op_inD hu))
theorem op_niU {X : Cx} (hu : X.A.units + 65 < cLine) : OpR X (compareOp .NotIn) (rNiU X.K) := op_notIn_sign.or (op_notIn_seq.or (op_notInD hu))
def pyV : V → PyData
  | .non => .none | .bl b => .bool b | .int i => .int i | .str s => .str s | _ => .none
theorem flat_pyV {v : V} {d : D} {n : Nat} {p : PyData} (h : Den G ρ H v d) (f : isFlat d = true) (e : toPy μ (n + 1) d = some p) : flatV v = true ∧ p = pyV v := by
  cases h <;> first | (simp [toPy] at e; subst e; exact ⟨rfl, rfl⟩) | cases f
theorem str_beq (a b : Str) : (a == b) = decide (a = b) := by
  by_cases h : a = b
  · subst h; simp
  · rw [decide_eq_false h]; simpa using h
theorem eqV_py : ∀ {u v : V}, flatV u = true → flatV v = true → eqV u v = PyData.eqv (pyV u) (pyV v) := by
  intro u v hu hv
  cases u <;> cases v <;> first | exact absurd hu Bool.false_ne_true | exact absurd hv Bool.false_ne_true | rfl | simp [eqV, pyV, PyData.eqv]
theorem flats_py {n : Nat} : ∀ {vs : List V} {ds : List D} {ps : List PyData}, Dens G ρ H vs ds → ds.all isFlat = true → ds.mapM (toPy μ (n + 1)) = some ps → vs.all flatV = true ∧ ps = vs.map pyV
  | _, [], ps, .nil, _, h => by simp at h; subst h; exact ⟨rfl, rfl⟩
  | _, d :: ds, ps, .cons h1 h2, f, h => by
    simp only [List.mapM_cons, Option.bind_eq_bind, Option.bind_eq_some_iff, Option.pure_def] at h
    obtain ⟨p, hp, ps', hps, e⟩ := h
    cases e
    simp only [List.all_cons, Bool.and_eq_true] at f
    obtain ⟨a1, rfl⟩ := flat_pyV h1 f.1 hp
    obtain ⟨b1, rfl⟩ := flats_py h2 f.2 hps
    exact ⟨by simp [a1, b1], rfl⟩
theorem inV_py {x : V} {vs : List V} (hx : flatV x = true) (hv : vs.all flatV = true) : inV x vs = (vs.map pyV).any fun z => PyData.eqv z (pyV x) := by
  unfold inV
  induction vs with
  | nil => rfl
  | cons v vs ih =>
    simp only [List.all_cons, Bool.and_eq_true] at hv
    simp only [List.any_cons, List.map_cons, ih hv.2, eqV_py hv.1 hx]
theorem rr_inG (neg : Bool) {r1 : R2} (h1 : ∀ (c : Nat) (z : Str) H Q, Q (.bl (if neg then !decide (c ∈ z.cps.toList) else decide (c ∈ z.cps.toList))) H → r1 (.str ⟨#[c]⟩) (.str z) H Q) {r3 : R2}
    (h3 : ∀ x y d ds H Q, Dp G.K H x d → Dp G.K H y (.list ds) → SeqAt.shaped d = true → SeqAt.shaped (.list ds) = true → Q (.bl (if neg then !ds.any (fun z => PyData.eqv z d) else ds.any fun z => PyData.eqv z d)) H → r3 x y H Q) :
    RR G (fun x y H Q => r1 x y H Q ∨ (fun x y H Q => rIn G.K neg x y H Q ∨ r3 x y H Q) x y H Q) (oIn neg) := by
  intro ρ H μ x y dx dy d μ' Q M d1 d2 e p
  unfold oIn at e
  split at e
  · split at e
    · split at e
      · rename_i _ z _ s _ c hc
        cases e; cases d1; cases d2
        have hs : s = (⟨#[c]⟩ : Str) := by
          obtain ⟨a⟩ := s
          congr 1
          apply Array.toList_inj.mp
          simpa using hc
        subst hs
        exact .inl (h1 c z H Q (p.go M .bl))
      · cases e
    · cases e
  · split at e
    · split at e
      · rename_i ds a bs ha hb hf
        cases e
        cases d2 with | tup s t =>
        obtain ⟨q1, rfl⟩ := flat_pyV d1 hf.1 ha
        obtain ⟨q2, rfl⟩ := flats_py t hf.2 hb
        refine .inr (.inl ⟨_, _, rfl, .inr s, q1, q2, ?_⟩)
        rw [inV_py q1 q2]
        exact p.go M .bl
      · cases e
    · cases e
  · split at e
    · split at e
      · rename_i ha hb hs
        cases e
        exact .inr (.inr (h3 _ _ _ _ _ _ (toPy_dp M _ _ _ _ d1 ha) (toPy_dp M _ _ _ _ d2 hb) hs.1 hs.2 (p.go M .bl)))
      · cases e
    · cases e
theorem rr_in : RR G (rInU G.K) (oIn false) := rr_inG false (fun c z H Q q => ⟨c, z, rfl, rfl, q⟩) fun x y d ds H Q a b c e q => ⟨d, ds, a, b, c, e, q⟩
theorem rr_ni : RR G (rNiU G.K) (oIn true) := rr_inG true (fun c z H Q q => ⟨c, z, rfl, rfl, q⟩) fun x y d ds H Q a b c e q => ⟨d, ds, a, b, c, e, q⟩
/-- is None -/
def isN : D → Bool
  | .non => true | _ => false
def oIs (neg : Bool) : D → D → Mem → Option (D × Mem) := fun x y μ => match y with
  | .non => some (.bl (if neg then !isN x else isN x), μ)
  | _ => none
theorem den_isN {v : V} {d : D} (h : Den G ρ H v d) : isN d = decide (v = .non) := by cases h <;> simp [isN]
theorem rr_isN : RR G (fun x y H Q => y = .non ∧ Q (.bl (decide (x = .non))) H) (oIs false) := by
  intro ρ H μ x y dx dy d μ' Q M d1 d2 e p
  unfold oIs at e
  split at e
  · cases e; cases d2
    exact ⟨rfl, by rw [← den_isN d1]; exact p.go M .bl⟩
  · cases e
theorem rr_notN : RR G (fun x y H Q => y = .non ∧ Q (.bl (!decide (x = .non))) H) (oIs true) := by
  intro ρ H μ x y dx dy d μ' Q M d1 d2 e p
  unfold oIs at e
  split at e
  · cases e; cases d2
    exact ⟨rfl, by rw [← den_isN d1]; exact p.go M .bl⟩
  · cases e
end
end MR

/-! MR3: places, slices, displays, tests, calls, statements, loops. -/
namespace MR
open PySem L2
section
variable {G : Gx} {ρ ρ' : List Addr} {H H' : Hp} {σ : St} {env : Sl} {μ μ' : Mem} {d : D} {Q : VK} {x y v : V}

/-! ### rules joined -/
theorem ixOr {X : Cx} {r r' : R2} (h : IxR X r) (h' : IxR X r') : IxR X (fun x y H Q => r x y H Q ∨ r' x y H Q) := by
  intro a b c s e f i j k l q I rx ry hr z
  rcases hr with hr | hr
  · exact h a b c s e f i j k l q I rx ry hr z
  · exact h' a b c s e f i j k l q I rx ry hr z
theorem slOr {X : Cx} {r r' : V → Option Int → Option Int → Hp → VK → Prop} (h : SlR X r) (h' : SlR X r') : SlR X (fun x y z H Q => r x y z H Q ∨ r' x y z H Q) := by
  intro a b c e f i j k l q s t I rx h1 h2 h3 hr
  rcases hr with hr | hr
  · exact h a b c e f i j k l q s t I rx h1 h2 h3 hr
  · exact h' a b c e f i j k l q s t I rx h1 h2 h3 hr
abbrev rIxU (K : PySem.W.Frag) : R2 := fun x y H Q => rIxL K x y H Q ∨ (fun x y H Q => rIxT K x y H Q ∨ rIxS x y H Q) x y H Q
theorem ix_u {X : Cx} : IxR X (rIxU X.K) := ixOr ix_list (ixOr ix_tup ix_str)
abbrev rSlU (K : PySem.W.Frag) : V → Option Int → Option Int → Hp → VK → Prop := fun x y z H Q => rSlL K x y z H Q ∨ (fun x y z H Q => rSlA K x y z H Q ∨ rSlS x y z H Q) x y z H Q
theorem sl_u {X : Cx} : SlR X (rSlU X.K) := slOr sl_list (slOr sl_tupA sl_str)

/-! ### an item -/
def lstAt (μ : Mem) : D → Option (List D)
  | .scr ds => some ds
  | .ref k => match μ[k]? with
    | some (.lst ds) => some ds
    | _ => none
  | _ => none
theorem lstAt_sq (M : MemOk G ρ H μ) {v : V} {d : D} {ds : List D} (hd : Den G ρ H v d) (h : lstAt μ d = some ds) : ∃ a vs, v = .ref a ∧ SqL G.K H a vs ∧ Dens G ρ H vs ds := by
  cases hd with
  | scr s t => simp [lstAt] at h; subst h; exact ⟨_, _, rfl, s.sq, t⟩
  | ref r =>
    simp only [lstAt] at h
    split at h
    · rename_i ds' hm
      cases h
      obtain ⟨vs, h1, t⟩ := M.ob _ _ _ r hm
      exact ⟨_, vs, rfl, .inl (.inl h1), t⟩
    · cases h
  | _ => cases h
def oIx : D → D → Mem → Option (D × Mem) := fun x i μ => match i with
  | .int i => match x with
    | .tup ds => (atI ds i).map (·, μ)
    | .str z => if z.length ≤ 100000 then (atI z.cps.toList i).map (fun c => (.str ⟨#[c]⟩, μ)) else none
    | x => ((lstAt μ x).bind (atI · i)).map (·, μ)
  | _ => none
theorem Dens.atI {vs : List V} {ds : List D} {i : Int} (h : Dens G ρ H vs ds) {d : D} (e : L2.atI ds i = some d) : ∃ v, L2.atI vs i = some v ∧ Den G ρ H v d := by
  unfold L2.atI at e ⊢
  rw [h.len]
  cases hj : ixN ds.length i with
  | none => rw [hj] at e; cases e
  | some j => rw [hj] at e; exact h.get e
theorem rr_ix : RR G (rIxU G.K) oIx := by
  intro ρ H μ x y dx dy d μ' Q M d1 d2 e p
  unfold oIx at e
  split at e
  · split at e
    · simp only [Option.map_eq_some_iff, Prod.mk.injEq] at e
      obtain ⟨a, ha, rfl, rfl⟩ := e
      cases d2
      cases d1 with | tup s t =>
      obtain ⟨v, hv, hd⟩ := t.atI ha
      exact .inr (.inl ⟨_, _, _, v, rfl, rfl, s, hv, p.go M hd⟩)
    · split at e
      · rename_i hz
        simp only [Option.map_eq_some_iff, Prod.mk.injEq] at e
        obtain ⟨a, ha, rfl, rfl⟩ := e
        cases d2; cases d1
        exact .inr (.inr ⟨_, _, a, rfl, rfl, le_line hz, ha, p.go M .str⟩)
      · cases e
    · simp only [Option.map_eq_some_iff, Option.bind_eq_some_iff, Prod.mk.injEq] at e
      obtain ⟨a, ⟨ds, hl, ha⟩, rfl, rfl⟩ := e
      cases d2
      obtain ⟨b, vs, rfl, s, t⟩ := lstAt_sq M d1 hl
      obtain ⟨v, hv, hd⟩ := t.atI ha
      exact .inl ⟨_, _, _, v, rfl, rfl, s, hv, p.go M hd⟩
  · cases e

/-! ### a slice -/
def cut {α : Type} (xs : List α) (lo hi : Option Int) : List α := (xs.drop (HT.sIx xs.length 0 lo)).take (HT.sIx xs.length xs.length hi - HT.sIx xs.length 0 lo)
abbrev MPt := Sl → Mem → Option (Option Int × Mem)
def RO (G : Gx) (t : TO) (m : MPt) : Prop := ∀ ρ σ H env μ o μ' (Q : Option Int → Hp → Prop), MemOk G ρ H μ → SlOk G ρ H σ env → m env μ = some (o, μ') → (∀ ρ' H', Ext G.K ρ H ρ' H' → MemOk G ρ' H' μ' → Q o H') → t σ H Q
def mNo : MPt := fun _ μ => some (none, μ)
theorem ro_no : RO G tNoPart mNo := by
  intro ρ σ H env μ o μ' Q M S h p
  cases h
  exact p ρ H .refl M
def mPt (a : MEx) : MPt := fun env μ => match a env μ with
  | some (.int i, μ') => some (some i, μ')
  | _ => none
theorem ro_pt {t : TE} {a : MEx} (ha : RE G t a) : RO G (tPart t) (mPt a) := by
  intro ρ σ H env μ o μ' Q M S h p
  unfold mPt at h
  split at h
  · rename_i i μ1 h1
    cases h
    refine ha ρ σ H env μ _ _ _ M S h1 fun ρ1 H1 v e1 M1 d1 => ?_
    cases d1
    exact ⟨i, rfl, p ρ1 H1 e1 M1⟩
  · cases h
def oSl (x : D) (lo hi : Option Int) (μ : Mem) : Option (D × Mem) := match x with
  | .tup ds => some (.tup (cut ds lo hi), μ)
  | .str z => if z.length ≤ 100000 then some (.str (cutS z lo hi), μ) else none
  | x => (lstAt μ x).map fun ds => (.ref μ.length, μ ++ [.lst (cut ds lo hi)])
theorem Dens.cut {vs : List V} {ds : List D} (h : Dens G ρ H vs ds) (lo hi : Option Int) : Dens G ρ H (cutV vs lo hi) (MR.cut ds lo hi) := by
  unfold cutV MR.cut
  rw [h.len]
  exact (h.drop _).take _
theorem rr_sl {lo hi : Option Int} {d' : D} (M : MemOk G ρ H μ) (h : Den G ρ H x d) (e : oSl d lo hi μ = some (d', μ')) (p : Post G ρ H d' μ' Q) : rSlU G.K x lo hi H Q := by
  unfold oSl at e
  split at e
  · cases e
    cases h with | tup s t =>
    rename_i ds a vs
    refine .inr (.inl ⟨a, vs, rfl, s, fun hw => ?_, fun hn => p.newT M (t.cut lo hi)⟩)
    have q : MR.cut ds lo hi = ds := by
      unfold MR.cut
      rw [← t.len, hw.1, hw.2]
      simp [t.len]
    rw [q] at p
    exact p.go M (.tup s t)
  · split at e
    · rename_i hz
      cases e; cases h
      exact .inr (.inr ⟨_, rfl, le_line hz, p.go M .str⟩)
    · cases e
  · simp only [Option.map_eq_some_iff, Prod.mk.injEq] at e
    obtain ⟨ds, hl, rfl, rfl⟩ := e
    obtain ⟨b, vs, rfl, s, t⟩ := lstAt_sq M h hl
    exact .inl ⟨b, vs, rfl, s, p.newL M (t.cut lo hi)⟩
def mSl (a : MEx) (lo hi : MPt) : MEx := fun env μ => match a env μ with
  | some (x, μ1) => match lo env μ1 with
    | some (l, μ2) => match hi env μ2 with
      | some (h, μ3) => oSl x l h μ3
      | none => none
    | none => none
  | none => none
theorem re_sl {te : TE} {tl th : TO} {a : MEx} {lo hi : MPt} (ha : RE G te a) (hl : RO G tl lo) (hh : RO G th hi) : RE G (tSl (rSlU G.K) te tl th) (mSl a lo hi) := by
  intro ρ σ H env μ d μ' Q M S h p
  unfold mSl at h
  split at h
  · rename_i x μ1 h1
    split at h
    · rename_i l μ2 h2
      split at h
      · rename_i u μ3 h3
        refine ha ρ σ H env μ x μ1 _ M S h1 fun ρ1 H1 v e1 M1 d1 => ?_
        refine hl ρ1 σ H1 env μ1 l μ2 _ M1 (S.mono e1) h2 fun ρ2 H2 e2 M2 => ?_
        refine hh ρ2 σ H2 env μ2 u μ3 _ M2 (S.mono (e1.trans e2)) h3 fun ρ3 H3 e3 M3 => ?_
        exact rr_sl M3 (d1.mono (e2.trans e3)) h (p.of ((e1.trans e2).trans e3))
      · cases h
    · cases h
  · cases h

/-! ### arguments, displays -/
def mNil : MAr := fun _ μ => some ([], μ)
theorem ra_nil : RA G tNil mNil := by
  intro ρ σ H env μ ds μ' Q M S h p
  cases h
  exact p ρ H _ .refl M .nil
def mCons (a : MEx) (r : MAr) : MAr := fun env μ => match a env μ with
  | some (x, μ1) => match r env μ1 with
    | some (xs, μ2) => some (x :: xs, μ2)
    | none => none
  | none => none
theorem ra_cons {ta : TE} {tr : TA} {a : MEx} {r : MAr} (ha : RE G ta a) (hr : RA G tr r) : RA G (tCons ta tr) (mCons a r) := by
  intro ρ σ H env μ ds μ' Q M S h p
  unfold mCons at h
  split at h
  · rename_i x μ1 h1
    split at h
    · rename_i xs μ2 h2
      cases h
      refine ha ρ σ H env μ x μ1 _ M S h1 fun ρ1 H1 v e1 M1 d1 => ?_
      refine hr ρ1 σ H1 env μ1 xs _ _ M1 (S.mono e1) h2 fun ρ2 H2 vs e2 M2 d2 => ?_
      exact p ρ2 H2 _ (e1.trans e2) M2 (.cons (d1.mono e2) d2)
    · cases h
  · cases h
def mTup (r : MAr) : MEx := fun env μ => match r env μ with
  | some (xs, μ') => if xs.length ≤ 100000 then some (.tup xs, μ') else none
  | none => none
theorem re_tup {t : TA} {r : MAr} (h : RA G t r) : RE G (tTup t) (mTup r) := by
  intro ρ σ H env μ d μ' Q M S e p
  unfold mTup at e
  split at e
  · rename_i xs μ1 h1
    split at e
    · rename_i hz
      cases e
      refine h ρ σ H env μ xs _ _ M S h1 fun ρ1 H1 vs e1 M1 d1 => ⟨le_line (by rw [d1.len]; exact hz), (p.of e1).newT M1 d1⟩
    · cases e
  · cases e
def mLst (r : MAr) : MEx := fun env μ => match r env μ with
  | some (xs, μ') => if xs.length ≤ 100000 then some (.ref μ'.length, μ' ++ [.lst xs]) else none
  | none => none
theorem re_lst {t : TA} {r : MAr} (h : RA G t r) : RE G (tLst t) (mLst r) := by
  intro ρ σ H env μ d μ' Q M S e p
  unfold mLst at e
  split at e
  · rename_i xs μ1 h1
    split at e
    · rename_i hz
      cases e
      refine h ρ σ H env μ xs _ _ M S h1 fun ρ1 H1 vs e1 M1 d1 => ⟨le_line (by rw [d1.len]; exact hz), (p.of e1).newL M1 d1⟩
    · cases e
  · cases e

/-! ### tests -/
def mTs (a : MEx) : MTs := fun env μ => match a env μ with
  | some (.bl b, μ') => some (b, μ')
  | _ => none
theorem rt_g {t : TE} {a : MEx} {tt : TT} (ha : RE G t a) (h : ∀ σ H Q, t σ H (fun x H' => ∃ k, x = .bl k ∧ Q k H') → tt σ H Q) : RT G tt (mTs a) := by
  intro ρ σ H env μ b μ' Q M S e p
  unfold mTs at e
  split at e
  · rename_i c μ1 h1
    cases e
    refine h _ _ _ (ha ρ σ H env μ _ _ _ M S h1 fun ρ1 H1 v e1 M1 d1 => ?_)
    cases d1
    exact ⟨_, rfl, p ρ1 H1 e1 M1⟩
  · cases e
theorem rt_test {t : TE} {a : MEx} (ha : RE G t a) : RT G (tTest t) (mTs a) := rt_g ha fun _ _ _ h => h
theorem rt_b {t : TE} {a : MEx} (ha : RE G t a) : RT G (tB t) (mTs a) := rt_g ha fun _ _ _ h => h
def mAnd (a b : MTs) : MTs := fun env μ => match a env μ with
  | some (true, μ') => b env μ'
  | some (false, μ') => some (false, μ')
  | none => none
theorem rt_and {t u : TT} {a b : MTs} (ha : RT G t a) (hb : RT G u b) : RT G (tAnd t u) (mAnd a b) := by
  intro ρ σ H env μ c μ' Q M S e p
  unfold mAnd at e
  split at e
  · rename_i μ1 h1
    refine ha ρ σ H env μ _ _ _ M S h1 fun ρ1 H1 e1 M1 => ?_
    exact hb ρ1 σ H1 env μ1 c μ' Q M1 (S.mono e1) e (p.of e1)
  · rename_i μ1 h1
    cases e
    exact ha ρ σ H env μ _ _ _ M S h1 fun ρ1 H1 e1 M1 => p ρ1 H1 e1 M1
  · cases e
def mOr (a b : MTs) : MTs := fun env μ => match a env μ with
  | some (false, μ') => b env μ'
  | some (true, μ') => some (true, μ')
  | none => none
theorem rt_or {t u : TT} {a b : MTs} (ha : RT G t a) (hb : RT G u b) : RT G (tOr t u) (mOr a b) := by
  intro ρ σ H env μ c μ' Q M S e p
  unfold mOr at e
  split at e
  · rename_i μ1 h1
    refine ha ρ σ H env μ _ _ _ M S h1 fun ρ1 H1 e1 M1 => ?_
    exact hb ρ1 σ H1 env μ1 c μ' Q M1 (S.mono e1) e (p.of e1)
  · rename_i μ1 h1
    cases e
    exact ha ρ σ H env μ _ _ _ M S h1 fun ρ1 H1 e1 M1 => p ρ1 H1 e1 M1
  · cases e
def mNot (a : MTs) : MTs := fun env μ => match a env μ with
  | some (b, μ') => some (!b, μ')
  | none => none
theorem rt_not {t : TT} {a : MTs} (ha : RT G t a) : RT G (tNot t) (mNot a) := by
  intro ρ σ H env μ c μ' Q M S e p
  unfold mNot at e
  split at e
  · rename_i b μ1 h1
    cases e
    exact ha ρ σ H env μ _ _ _ M S h1 fun ρ1 H1 e1 M1 => p ρ1 H1 e1 M1
  · cases e
/-- .. as values -/
def mAndV (a b : MEx) : MEx := fun env μ => match a env μ with
  | some (.bl true, μ') => b env μ'
  | some (.bl false, μ') => some (.bl false, μ')
  | _ => none
theorem re_and {t u : TE} {a b : MEx} (ha : RE G t a) (hb : RE G u b) : RE G (tAndV t u) (mAndV a b) := by
  intro ρ σ H env μ c μ' Q M S e p
  unfold mAndV at e
  split at e
  · rename_i μ1 h1
    refine ha ρ σ H env μ _ _ _ M S h1 fun ρ1 H1 v e1 M1 d1 => ?_
    cases d1
    exact ⟨true, rfl, hb ρ1 σ H1 env μ1 c μ' Q M1 (S.mono e1) e (p.of e1)⟩
  · rename_i μ1 h1
    cases e
    refine ha ρ σ H env μ _ _ _ M S h1 fun ρ1 H1 v e1 M1 d1 => ?_
    cases d1
    exact ⟨false, rfl, p ρ1 H1 _ e1 M1 .bl⟩
  · cases e
def mOrV (a b : MEx) : MEx := fun env μ => match a env μ with
  | some (.bl false, μ') => b env μ'
  | some (.bl true, μ') => some (.bl true, μ')
  | _ => none
theorem re_or {t u : TE} {a b : MEx} (ha : RE G t a) (hb : RE G u b) : RE G (tOrV t u) (mOrV a b) := by
  intro ρ σ H env μ c μ' Q M S e p
  unfold mOrV at e
  split at e
  · rename_i μ1 h1
    refine ha ρ σ H env μ _ _ _ M S h1 fun ρ1 H1 v e1 M1 d1 => ?_
    cases d1
    exact ⟨false, rfl, hb ρ1 σ H1 env μ1 c μ' Q M1 (S.mono e1) e (p.of e1)⟩
  · rename_i μ1 h1
    cases e
    refine ha ρ σ H env μ _ _ _ M S h1 fun ρ1 H1 v e1 M1 d1 => ?_
    cases d1
    exact ⟨true, rfl, p ρ1 H1 _ e1 M1 .bl⟩
  · cases e
def mNotV (a : MEx) : MEx := fun env μ => match a env μ with
  | some (.bl b, μ') => some (.bl (!b), μ')
  | _ => none
theorem re_not {t : TE} {a : MEx} (ha : RE G t a) : RE G (tNotV t) (mNotV a) := by
  intro ρ σ H env μ c μ' Q M S e p
  unfold mNotV at e
  split at e
  · rename_i b μ1 h1
    cases e
    refine ha ρ σ H env μ _ _ _ M S h1 fun ρ1 H1 v e1 M1 d1 => ?_
    cases d1
    exact ⟨b, rfl, p ρ1 H1 _ e1 M1 .bl⟩
  · cases e
def mIte (c : MTs) (a b : MEx) : MEx := fun env μ => match c env μ with
  | some (true, μ') => a env μ'
  | some (false, μ') => b env μ'
  | none => none
theorem re_ite {t : TT} {ta tb : TE} {c : MTs} {a b : MEx} (hc : RT G t c) (ha : RE G ta a) (hb : RE G tb b) : RE G (tIf t ta tb) (mIte c a b) := by
  intro ρ σ H env μ d μ' Q M S e p
  unfold mIte at e
  split at e
  · rename_i μ1 h1
    exact hc ρ σ H env μ _ _ _ M S h1 fun ρ1 H1 e1 M1 => ha ρ1 σ H1 env μ1 d μ' Q M1 (S.mono e1) e (p.of e1)
  · rename_i μ1 h1
    exact hc ρ σ H env μ _ _ _ M S h1 fun ρ1 H1 e1 M1 => hb ρ1 σ H1 env μ1 d μ' Q M1 (S.mono e1) e (p.of e1)
  · cases e
/-- a < b < c -/
def mChain (f g : D → D → Mem → Option (D × Mem)) (a b c : MEx) : MEx := fun env μ => match a env μ with
  | some (x, μ1) => match b env μ1 with
    | some (y, μ2) => match f x y μ2 with
      | some (.bl true, μ3) => match c env μ3 with
        | some (z, μ4) => g y z μ4
        | none => none
      | some (.bl false, μ3) => some (.bl false, μ3)
      | _ => none
    | none => none
  | none => none
theorem re_chain {r r' : R2} {f g} {ta tb tc : TE} {a b c : MEx} (hr : RR G r f) (hr' : RR G r' g) (ha : RE G ta a) (hb : RE G tb b) (hc : RE G tc c) : RE G (tChain r r' ta tb tc) (mChain f g a b c) := by
  intro ρ σ H env μ d μ' Q M S h p
  unfold mChain at h
  split at h
  · rename_i x μ1 h1
    split at h
    · rename_i y μ2 h2
      refine ha ρ σ H env μ x μ1 _ M S h1 fun ρ1 H1 v e1 M1 d1 => ?_
      refine hb ρ1 σ H1 env μ1 y μ2 _ M1 (S.mono e1) h2 fun ρ2 H2 u e2 M2 d2 => ?_
      split at h
      · rename_i μ3 h3
        split at h
        · rename_i z μ4 h4
          refine hr ρ2 H2 μ2 v u x y _ μ3 _ M2 (d1.mono e2) d2 h3 fun ρ3 H3 w e3 M3 d3 => ?_
          cases d3
          refine ⟨true, rfl, ?_⟩
          refine hc ρ3 σ H3 env μ3 z μ4 _ M3 (S.mono ((e1.trans e2).trans e3)) h4 fun ρ4 H4 w e4 M4 d4 => ?_
          exact hr' ρ4 H4 μ4 u w y z d μ' Q M4 (d2.mono (e3.trans e4)) d4 h (p.of (((e1.trans e2).trans e3).trans e4))
        · cases h
      · rename_i μ3 h3
        cases h
        refine hr ρ2 H2 μ2 v u x y _ _ _ M2 (d1.mono e2) d2 h3 fun ρ3 H3 w e3 M3 d3 => ?_
        cases d3
        exact ⟨false, rfl, p ρ3 H3 _ ((e1.trans e2).trans e3) M3 .bl⟩
      · cases h
    · cases h
  · cases h

/-! ### calls -/
def mCall (f : List D → Mem → Option (D × Mem)) (r : MAr) : MEx := fun env μ => match r env μ with
  | some (xs, μ') => f xs μ'
  | none => none
theorem re_cb {r : List V → Hp → VK → Prop} {f} {t : TA} {a : MAr} (hr : RC G r f) (ha : RA G t a) : RE G (tCB r t) (mCall f a) := by
  intro ρ σ H env μ d μ' Q M S h p
  unfold mCall at h
  split at h
  · rename_i xs μ1 h1
    refine ha ρ σ H env μ xs μ1 _ M S h1 fun ρ1 H1 vs e1 M1 d1 => ?_
    exact hr ρ1 H1 μ1 vs xs d μ' Q M1 d1 h (p.of e1)
  · cases h
/-- a def's promise: what f gives of the arguments' data -/
def spM (G : Gx) (f : List D → Mem → Option (D × Mem)) (n : Nat) : Sp := fun vs H Q _ => ∃ ρ μ ds d μ', MemOk G ρ H μ ∧ Dens G ρ H vs ds ∧ ds.length = n ∧ f ds μ = some (d, μ') ∧ Post G ρ H d μ' Q
def lenIs (n : Nat) (f : List D → Mem → Option (D × Mem)) : List D → Mem → Option (D × Mem) := fun ds μ => if ds.length = n then f ds μ else none
theorem re_call {f} {n : Nat} {E : XK} {t : TA} {a : MAr} (ha : RA G t a) : RE G (tCall (spM G f n) [] E t) (mCall (lenIs n f) a) := by
  intro ρ σ H env μ d μ' Q M S h p
  unfold mCall lenIs at h
  split at h
  · rename_i xs μ1 h1
    split at h
    · rename_i hn
      refine ha ρ σ H env μ xs μ1 _ M S h1 fun ρ1 H1 vs e1 M1 d1 => ?_
      rw [List.append_nil]
      exact ⟨ρ1, μ1, xs, d, μ', M1, d1, hn, h, p.of e1⟩
    · cases h
  · cases h
def mDef (N n : Nat) (m : MSt) : List D → Mem → Option (D × Mem) := fun ds μ => match m (ds.map some ++ List.replicate (N - n) none) μ with
  | some (.nx, _, μ') => some (.non, μ')
  | some (.rt d, _, μ') => some (d, μ')
  | _ => none
theorem sl_start {vs : List V} {ds : List D} {k : Nat} (h : Dens G ρ H vs ds) : SlOk G ρ H (vs.map some ++ List.replicate k none) (ds.map some ++ List.replicate k none) := by
  refine ⟨by simp [h.len], fun i d e => ?_⟩
  by_cases hi : i < ds.length
  · rw [List.getElem?_append_left (by simpa using hi), List.getElem?_map] at e
    simp only [Option.map_eq_some_iff, Option.some.injEq, exists_eq_right] at e
    obtain ⟨v, h1, h2⟩ := h.get e
    refine ⟨v, ?_, h2⟩
    rw [List.getElem?_append_left (by simpa [h.len] using hi), List.getElem?_map, h1]
    rfl
  · rw [List.getElem?_append_right (by simpa using hi)] at e
    have := List.mem_of_getElem? e
    simp at this
theorem fn_ok {P : Program} {w : World} {mg : Str → Option Value} {base : Heap} {x qual : Str} {st : Stmt} {f : Addr} {fd : FuncData} {N ps : List Str} {k : Nat} {t : TS} {m : MSt} (F : Fun G.K x qual st f fd) (S : FnScope N ps (defScope st))
    (hb : ∀ (cdv : Value) (A : Around) (outer : List PySem.Env) (s : Shared) (H : Hp) (E : XK), Room k (A.deeper (PyProof.Rows.envOfC qual (defScope st) s.heap.objs.size f cdv)) → PSs (cxOf CX0 P w G.K mg base N qual (defScope st) f cdv A outer s H E).nox (defBody st) t)
    (hr : RS G t m) : FnOk P w G.K mg base CX0 (k + 1) f fd ps (spM G (mDef N.length ps.length m) ps.length) := by
  refine F.ok S (fun vs H Q E h => ?_) (fun cdv A outer s H vs Q E hr2 h => ⟨t, hb cdv A outer s H E hr2, ?_⟩)
  · obtain ⟨ρ, μ, ds, d, μ', M, dn, hl, _, _⟩ := h
    rw [dn.len, hl]
  · obtain ⟨ρ, μ, ds, d, μ', M, dn, hl, e, p⟩ := h
    unfold mDef at e
    have S0 : SlOk G ρ H (L2.start N vs) (ds.map some ++ List.replicate (N.length - ps.length) none) := by
      unfold L2.start
      rw [dn.len, hl]
      exact sl_start dn
    split at e
    · rename_i e' μ1 h1
      cases e
      exact hr ρ _ H _ μ _ _ M S0 h1 fun ρ1 H1 σ1 e1 M1 S1 => p ρ1 H1 _ e1 M1 .non
    · rename_i d' e' μ1 h1
      cases e
      exact hr ρ _ H _ μ _ _ M S0 h1 fun ρ1 H1 v e1 M1 d1 => p ρ1 H1 _ e1 M1 d1
    · cases e
end
end MR

/-! MR4: targets, statements, loops, comprehensions. -/
namespace MR
open PySem L2
section
variable {G : Gx} {ρ ρ' : List Addr} {H H' : Hp} {σ : St} {env : Sl} {μ μ' : Mem} {d : D} {Q : VK} {x y v : V}

/-! ### targets -/
abbrev MTg := D → Sl → Mem → Option (Sl × Mem)
abbrev MTgs := List D → Sl → Mem → Option (Sl × Mem)
def RG (G : Gx) (t : TG) (m : MTg) : Prop := ∀ ρ σ H env μ x d r Q, MemOk G ρ H μ → SlOk G ρ H σ env → Den G ρ H x d → m d env μ = some r → PostN G ρ H r.1 r.2 Q → t x σ H Q
def RGs (G : Gx) (t : TGs) (m : MTgs) : Prop := ∀ ρ σ H env μ xs ds r Q, MemOk G ρ H μ → SlOk G ρ H σ env → Dens G ρ H xs ds → m ds env μ = some r → PostN G ρ H r.1 r.2 Q → t xs σ H Q
theorem SlOk.set {i : Nat} (S : SlOk G ρ H σ env) (h : Den G ρ H x d) : SlOk G ρ H (σ.set i (some x)) (env.set i (some d)) := by
  refine ⟨by simp [S.len], fun j e q => ?_⟩
  by_cases hj : j = i
  · subst hj
    by_cases hl : j < env.length
    · rw [List.getElem?_set_self hl] at q
      cases q
      exact ⟨x, List.getElem?_set_self (S.len ▸ hl), h⟩
    · rw [List.getElem?_eq_none (by simpa using hl)] at q
      cases q
  · rw [List.getElem?_set_ne (Ne.symm hj)] at q
    obtain ⟨v, h1, h2⟩ := S.at_ j e q
    exact ⟨v, by rw [List.getElem?_set_ne (Ne.symm hj)]; exact h1, h2⟩
def gmN (i : Nat) : MTg := fun d env μ => some (env.set i (some d), μ)
theorem rg_n {i : Nat} : RG G (gName i) (gmN i) := by
  intro ρ σ H env μ x d r Q M S hd h p
  cases h
  exact p ρ H _ .refl M (S.set hd)
def gmNil : MTgs := fun ds env μ => match ds with
  | [] => some (env, μ)
  | _ => none
theorem rgs_nil : RGs G gNil gmNil := by
  intro ρ σ H env μ xs ds r Q M S hd h p
  unfold gmNil at h
  split at h
  · cases h; cases hd
    exact ⟨rfl, p ρ H _ .refl M S⟩
  · cases h
def gmCons (a : MTg) (b : MTgs) : MTgs := fun ds env μ => match ds with
  | [] => none
  | d :: ds => match a d env μ with
    | some (env1, μ1) => b ds env1 μ1
    | none => none
theorem rgs_cons {t : TG} {u : TGs} {a : MTg} {b : MTgs} (ha : RG G t a) (hb : RGs G u b) : RGs G (gCons t u) (gmCons a b) := by
  intro ρ σ H env μ xs ds r Q M S hd h p
  unfold gmCons at h
  split at h
  · cases h
  · split at h
    · rename_i d ds' _ env1 μ1 h1
      cases hd with | cons q t =>
      refine ⟨_, _, rfl, ha ρ σ H env μ _ d _ _ M S q h1 fun ρ1 H1 σ1 e1 M1 S1 => ?_⟩
      exact hb ρ1 σ1 H1 env1 μ1 _ ds' r Q M1 S1 (t.mono e1) h (p.of e1)
    · cases h
def gmTup (n : Nat) (b : MTgs) : MTg := fun d env μ => match d with
  | .tup ds => if ds.length = n then b ds env μ else none
  | _ => none
theorem rg_tup {n : Nat} {u : TGs} {b : MTgs} (hb : RGs G u b) : RG G (gTup G.K n u) (gmTup n b) := by
  intro ρ σ H env μ x d r Q M S hd h p
  unfold gmTup at h
  split at h
  · split at h
    · rename_i hn
      cases hd with | tup s t =>
      exact ⟨_, _, rfl, s, by rw [t.len]; exact hn, hb ρ σ H env μ _ _ r Q M S t h p⟩
    · cases h
  · cases h
/-- xs[i] = .. -/
def gmSub (o i : MEx) : MTg := fun d env μ => match o env μ with
  | some (.ref n, μ1) => match i env μ1 with
    | some (.int k, μ2) => match μ2[n]? with
      | some (.lst xs) => match ixN xs.length k with
        | some j => some (env, μ2.set n (.lst (xs.set j d)))
        | none => none
      | _ => none
    | _ => none
  | _ => none
theorem rg_sub {to ti : TE} {o i : MEx} (ho : RE G to o) (hi : RE G ti i) : RG G (gSub to ti rSetL) (gmSub o i) := by
  intro ρ σ H env μ x d r Q M S hd h p
  unfold gmSub at h
  split at h
  · rename_i n μ1 h1
    split at h
    · rename_i k μ2 h2
      split at h
      · rename_i xs hm
        split at h
        · rename_i j hj
          cases h
          refine ho ρ σ H env μ _ μ1 _ M S h1 fun ρ1 H1 v e1 M1 d1 => ?_
          refine hi ρ1 σ H1 env μ1 _ μ2 _ M1 (S.mono e1) h2 fun ρ2 H2 u e2 M2 d2 => ?_
          cases d2
          have d1' := d1.mono e2
          cases d1' with | ref r1 =>
          obtain ⟨vs, hv, t⟩ := M2.ob _ _ _ r1 hm
          refine ⟨_, vs, k, j, rfl, rfl, hv, by rw [t.len]; exact hj, ?_⟩
          have e3 := ext_set (K := G.K) (o := .lst (vs.set j x)) M2 r1 hm
          exact p ρ2 _ _ ((e1.trans e2).trans e3) (M2.set r1 hm (t.set j (hd.mono (e1.trans e2)))) (S.mono ((e1.trans e2).trans e3))
        · cases h
      · cases h
    · cases h
  · cases h

/-! ### statements -/
def mSkip : MSt := fun env μ => some (.nx, env, μ)
theorem rs_skip : RS G tNext mSkip := by
  intro ρ σ H env μ r E M S h p
  cases h
  exact p ρ H σ .refl M S
def mSeq (a b : MSt) : MSt := fun env μ => match a env μ with
  | some (.nx, env1, μ1) => b env1 μ1
  | r => r
theorem rs_seq {t u : TS} {a b : MSt} (ha : RS G t a) (hb : RS G u b) : RS G (tSeq t u) (mSeq a b) := by
  intro ρ σ H env μ r E M S h p
  unfold mSeq at h
  split at h
  · rename_i env1 μ1 h1
    refine ha ρ σ H env μ _ _ M S h1 (show PostN G ρ H env1 μ1 (u E) from fun ρ1 H1 σ1 e1 M1 S1 => ?_)
    exact hb ρ1 σ1 H1 env1 μ1 r E M1 S1 h (p.of e1)
  · rename_i hn
    obtain ⟨f, e', m'⟩ := r
    refine ha ρ σ H env μ (f, e', m') _ M S h ?_
    cases f with
    | nx => exact absurd h (hn e' m')
    | rt d => exact p
    | bk => exact p
    | ct => exact p
def mAsg (a : MEx) (g : MTg) : MSt := fun env μ => match a env μ with
  | some (d, μ1) => match g d env μ1 with
    | some (env', μ2) => some (.nx, env', μ2)
    | none => none
  | none => none
theorem rs_asg {t : TE} {g : TG} {a : MEx} {gm : MTg} (ha : RE G t a) (hg : RG G g gm) : RS G (tAsg t g) (mAsg a gm) := by
  intro ρ σ H env μ r E M S h p
  unfold mAsg at h
  split at h
  · rename_i d μ1 h1
    split at h
    · rename_i env' μ2 h2
      cases h
      refine ha ρ σ H env μ d μ1 _ M S h1 fun ρ1 H1 v e1 M1 d1 => ?_
      exact hg ρ1 σ H1 env μ1 v d _ _ M1 (S.mono e1) d1 h2 (PostN.of (show PostN G ρ H env' μ2 E.nx from p) e1)
    · cases h
  · cases h
def mPar (i j : Nat) (r : MAr) : MSt := fun env μ => match r env μ with
  | some ([a, b], μ1) => some (.nx, (env.set i (some a)).set j (some b), μ1)
  | _ => none
theorem rs_par {i j : Nat} {t : TA} {r : MAr} (ha : RA G t r) : RS G (tPar i j t) (mPar i j r) := by
  intro ρ σ H env μ r' E M S h p
  unfold mPar at h
  split at h
  · rename_i a b μ1 h1
    cases h
    refine ha ρ σ H env μ _ μ1 _ M S h1 fun ρ1 H1 vs e1 M1 d1 => ?_
    cases d1 with | cons q1 t1 =>
    cases t1 with | cons q2 t2 =>
    cases t2
    exact ⟨_, _, rfl, p ρ1 H1 _ e1 M1 (((S.mono e1).set q1).set q2)⟩
  · cases h
def mEx (a : MEx) : MSt := fun env μ => match a env μ with
  | some (_, μ1) => some (.nx, env, μ1)
  | none => none
theorem rs_ex {t : TE} {a : MEx} (ha : RE G t a) : RS G (tDrop t) (mEx a) := by
  intro ρ σ H env μ r E M S h p
  unfold mEx at h
  split at h
  · rename_i d μ1 h1
    cases h
    exact ha ρ σ H env μ d μ1 _ M S h1 fun ρ1 H1 v e1 M1 d1 => p ρ1 H1 σ e1 M1 (S.mono e1)
  · cases h
def mRet (a : MEx) : MSt := fun env μ => match a env μ with
  | some (d, μ1) => some (.rt d, env, μ1)
  | none => none
theorem rs_ret {t : TE} {a : MEx} (ha : RE G t a) : RS G (tRet t) (mRet a) := by
  intro ρ σ H env μ r E M S h p
  unfold mRet at h
  split at h
  · rename_i d μ1 h1
    cases h
    exact ha ρ σ H env μ d μ1 _ M S h1 p
  · cases h
def mIf (c : MTs) (a b : MSt) : MSt := fun env μ => match c env μ with
  | some (true, μ1) => a env μ1
  | some (false, μ1) => b env μ1
  | none => none
theorem rs_if {tc : TT} {t u : TS} {c : MTs} {a b : MSt} (hc : RT G tc c) (ha : RS G t a) (hb : RS G u b) : RS G (tIfS tc t u) (mIf c a b) := by
  intro ρ σ H env μ r E M S h p
  unfold mIf at h
  split at h
  · rename_i μ1 h1
    exact hc ρ σ H env μ _ _ _ M S h1 fun ρ1 H1 e1 M1 => ha ρ1 σ H1 env μ1 r E M1 (S.mono e1) h (p.of e1)
  · rename_i μ1 h1
    exact hc ρ σ H env μ _ _ _ M S h1 fun ρ1 H1 e1 M1 => hb ρ1 σ H1 env μ1 r E M1 (S.mono e1) h (p.of e1)
  · cases h
/-- what is never come to -/
def mBad : MSt := fun _ _ => none
theorem rs_bad {t : TS} : RS G t mBad := by
  intro ρ σ H env μ r E M S h p
  cases h
def mBrk : MSt := fun env μ => some (.bk, env, μ)
theorem rs_brk : RS G tBreak mBrk := by
  intro ρ σ H env μ r E M S h p
  cases h
  exact p ρ H σ .refl M S
def mCnt : MSt := fun env μ => some (.ct, env, μ)
theorem rs_cnt : RS G tCont mCnt := by
  intro ρ σ H env μ r E M S h p
  cases h
  exact p ρ H σ .refl M S

/-! ### what is walked -/
/-- a list that is walked stands still -/
def still (c : Option (Nat × List D)) (μ : Mem) : Prop := match c with
  | none => True
  | some (n, ys) => μ[n]? = some (.lst ys)
def SrcOk (G : Gx) (ρ0 : List Addr) (H0 : Hp) (J : It) (xs : List D) (c : Option (Nat × List D)) : Prop := ∀ ρ H μ, Ext G.K ρ0 H0 ρ H → MemOk G ρ H μ → still c μ →
  (∀ (i : Nat) d, xs[i]? = some d → J.go i H ∧ ∀ x H', J.yld i H x H' → Ext G.K ρ H ρ H' ∧ MemOk G ρ H' μ ∧ Den G ρ H' x d) ∧ J.stop xs.length H
abbrev MIt := Sl → Mem → Option (List D × Option (Nat × List D) × Mem)
def RI (G : Gx) (t : TI) (m : MIt) : Prop := ∀ ρ σ H env μ r (R : It → Hp → Prop), MemOk G ρ H μ → SlOk G ρ H σ env → m env μ = some r →
  (∀ ρ' H' J, Ext G.K ρ H ρ' H' → MemOk G ρ' H' r.2.2 → SrcOk G ρ' H' J r.1 r.2.1 → R J H') → t σ H R
def iL (a : MEx) : MIt := fun env μ => match a env μ with
  | some (.scr xs, μ1) => some (xs, none, μ1)
  | some (.ref n, μ1) => match μ1[n]? with
    | some (.lst xs) => some (xs, some (n, xs), μ1)
    | _ => none
  | _ => none
theorem ri_l {t : TE} {a : MEx} (ha : RE G t a) : RI G (iList G.K t) (iL a) := by
  intro ρ σ H env μ r R M S h p
  unfold iL at h
  split at h
  · rename_i xs μ1 h1
    cases h
    refine ha ρ σ H env μ _ μ1 _ M S h1 fun ρ1 H1 v e1 M1 d1 => ?_
    cases d1 with | scr s t =>
    rename_i a vs
    refine ⟨a, rfl, ⟨vs, s.sq⟩, p ρ1 H1 _ e1 M1 fun ρ2 H2 μ2 e2 M2 _ => ⟨fun i d hd => ?_, ?_⟩⟩
    · obtain ⟨v, hv, dv⟩ := t.get hd
      have s2 := (e2.fro _ _ s).sq
      refine ⟨⟨vs, v, s2, hv⟩, fun x H' hy => ?_⟩
      obtain ⟨rfl, hx⟩ := hy
      have q := hx vs s2
      rw [hv] at q; cases q
      exact ⟨.refl, M2, dv.mono e2⟩
    · exact ⟨vs, (e2.fro _ _ s).sq, by rw [t.len]; exact Nat.le_refl _⟩
  · rename_i n μ1 h1
    split at h
    · rename_i xs hm
      cases h
      refine ha ρ σ H env μ _ μ1 _ M S h1 fun ρ1 H1 v e1 M1 d1 => ?_
      cases d1 with | ref r1 =>
      rename_i a
      obtain ⟨vs, hv, t⟩ := M1.ob _ _ _ r1 hm
      refine ⟨a, rfl, ⟨vs, .inl (.inl hv)⟩, p ρ1 H1 _ e1 M1 fun ρ2 H2 μ2 e2 M2 st => ?_⟩
      obtain ⟨us, hu, t2⟩ := M2.ob _ _ _ (e2.at_ r1) st
      refine ⟨fun i d hd => ?_, ⟨us, .inl (.inl hu), by rw [t2.len]; exact Nat.le_refl _⟩⟩
      obtain ⟨v, hv2, dv⟩ := t2.get hd
      refine ⟨⟨us, v, .inl (.inl hu), hv2⟩, fun x H' hy => ?_⟩
      obtain ⟨rfl, hx⟩ := hy
      have q := hx us (.inl (.inl hu))
      rw [hv2] at q; cases q
      exact ⟨.refl, M2, dv⟩
    · cases h
  · cases h
def iT (a : MEx) : MIt := fun env μ => match a env μ with
  | some (.tup xs, μ1) => some (xs, none, μ1)
  | _ => none
theorem ri_t {t : TE} {a : MEx} (ha : RE G t a) : RI G (iTup G.K t) (iT a) := by
  intro ρ σ H env μ r R M S h p
  unfold iT at h
  split at h
  · rename_i xs μ1 h1
    cases h
    refine ha ρ σ H env μ _ μ1 _ M S h1 fun ρ1 H1 v e1 M1 d1 => ?_
    cases d1 with | tup s t =>
    rename_i a vs
    refine ⟨a, rfl, ⟨vs, s⟩, p ρ1 H1 _ e1 M1 fun ρ2 H2 μ2 e2 M2 _ => ⟨fun i d hd => ?_, ?_⟩⟩
    · obtain ⟨v, hv, dv⟩ := t.get hd
      have s2 := e2.tup _ _ s
      refine ⟨⟨vs, v, s2, hv⟩, fun x H' hy => ?_⟩
      obtain ⟨rfl, hx⟩ := hy
      have q := hx vs s2
      rw [hv] at q; cases q
      exact ⟨.refl, M2, dv.mono e2⟩
    · exact ⟨vs, e2.tup _ _ s, by rw [t.len]; exact Nat.le_refl _⟩
  · cases h
/-- range(n) -/
def rngD (lo : Int) (n : Nat) : List D := (List.range n).map fun (i : Nat) => .int (lo + (i : Int))
def iR1 (r : MAr) : MIt := fun env μ => match r env μ with
  | some ([.int j], μ1) => if -(2 ^ 62) ≤ j ∧ j < 2 ^ 62 then some (rngD 0 j.toNat, none, μ1) else none
  | _ => none
def iR2 (r : MAr) : MIt := fun env μ => match r env μ with
  | some ([.int i, .int j], μ1) => if -(2 ^ 62) ≤ i ∧ i < 2 ^ 62 ∧ -(2 ^ 62) ≤ j ∧ j < 2 ^ 62 then some (rngD i (j - i).toNat, none, μ1) else none
  | _ => none
theorem src_r {lo : Int} {n : Nat} : SrcOk G ρ H (Itr lo n) (rngD lo n) none := by
  intro ρ2 H2 μ2 e2 M2 _
  refine ⟨fun i d hd => ?_, by show n ≤ _; simp [rngD]⟩
  unfold rngD at hd
  rw [List.getElem?_map] at hd
  simp only [Option.map_eq_some_iff] at hd
  obtain ⟨k, hk, rfl⟩ := hd
  have hl := (List.getElem?_eq_some_iff.mp hk).1
  rw [List.length_range] at hl
  rw [List.getElem?_range hl] at hk
  cases hk
  refine ⟨hl, fun x H' hy => ?_⟩
  obtain ⟨rfl, rfl⟩ := hy
  exact ⟨.refl, M2, .int⟩
theorem ri_r1 {t : TA} {r : MAr} (ha : RA G t r) : RI G (iRng1 t) (iR1 r) := by
  intro ρ σ H env μ r' R M S h p
  unfold iR1 at h
  split at h
  · rename_i j μ1 h1
    split at h
    · rename_i hj
      cases h
      refine ha ρ σ H env μ _ μ1 _ M S h1 fun ρ1 H1 vs e1 M1 d1 => ?_
      cases d1 with | cons q t =>
      cases t; cases q
      exact ⟨j, rfl, hj.1, hj.2, p ρ1 H1 _ e1 M1 src_r⟩
    · cases h
  · cases h
theorem ri_r2 {t : TA} {r : MAr} (ha : RA G t r) : RI G (iRng2 t) (iR2 r) := by
  intro ρ σ H env μ r' R M S h p
  unfold iR2 at h
  split at h
  · rename_i i j μ1 h1
    split at h
    · rename_i hj
      cases h
      refine ha ρ σ H env μ _ μ1 _ M S h1 fun ρ1 H1 vs e1 M1 d1 => ?_
      cases d1 with | cons q t =>
      cases t with | cons q2 t2 =>
      cases t2; cases q; cases q2
      exact ⟨i, j, rfl, hj, p ρ1 H1 _ e1 M1 src_r⟩
    · cases h
  · cases h
/-- the signs of a text -/
def iS (a : MEx) : MIt := fun env μ => match a env μ with
  | some (.str z, μ1) => some (z.cps.toList.map fun c => .str ⟨#[c]⟩, none, μ1)
  | _ => none
theorem ri_s {t : TE} {a : MEx} (ha : RE G t a) : RI G (iStr t) (iS a) := by
  intro ρ σ H env μ r R M S h p
  unfold iS at h
  split at h
  · rename_i z μ1 h1
    cases h
    refine ha ρ σ H env μ _ μ1 _ M S h1 fun ρ1 H1 v e1 M1 d1 => ?_
    cases d1
    refine ⟨z, rfl, p ρ1 H1 _ e1 M1 fun ρ2 H2 μ2 e2 M2 _ => ⟨fun i d hd => ?_, by show z.cps.size ≤ _; simp⟩⟩
    rw [List.getElem?_map] at hd
    simp only [Option.map_eq_some_iff] at hd
    obtain ⟨c, hc, rfl⟩ := hd
    have hc2 : z.cps[i]? = some c := by rw [← Array.getElem?_toList]; exact hc
    refine ⟨(Array.getElem?_eq_some_iff.mp hc2).1, fun x H' hy => ?_⟩
    obtain ⟨rfl, c', h1, rfl⟩ := hy
    rw [hc2] at h1; cases h1
    exact ⟨.refl, M2, .str⟩
  · cases h
/-- enumerate -/
def enumD (xs : List D) : List D := (List.range xs.length).zipWith (fun i x => .tup [.int (i : Nat), x]) xs
def iE (r : MAr) : MIt := fun env μ => match r env μ with
  | some ([.scr xs], μ1) => some (enumD xs, none, μ1)
  | some ([.ref n], μ1) => match μ1[n]? with
    | some (.lst xs) => some (enumD xs, some (n, xs), μ1)
    | _ => none
  | _ => none

open Classical in
noncomputable def forGo (c : Option (Nat × List D)) (g : MTg) (b : MSt) : List D → MSt
  | [], env, μ => if still c μ then some (.nx, env, μ) else none
  | x :: r, env, μ => if still c μ then match g x env μ with
      | some (env1, μ1) => match b env1 μ1 with
        | some (.nx, e, m) => forGo c g b r e m
        | some (.ct, e, m) => forGo c g b r e m
        | some (.bk, e, m) => some (.nx, e, m)
        | some (.rt d, e, m) => some (.rt d, e, m)
        | none => none
      | none => none
    else none
noncomputable def mFor (it : MIt) (g : MTg) (b : MSt) : MSt := fun env μ => match it env μ with
  | some (xs, c, μ1) => forGo c g b xs env μ1
  | none => none
theorem drop_cons {α : Type} {xs : List α} {i : Nat} {x : α} {r : List α} (h : xs.drop i = x :: r) : xs[i]? = some x ∧ xs.drop (i + 1) = r ∧ i < xs.length := by
  have hl : i < xs.length := by
    apply Nat.lt_of_not_le
    intro hle
    rw [List.drop_of_length_le hle] at h
    cases h
  rw [List.drop_eq_getElem_cons hl] at h
  injection h with h1 h2
  exact ⟨by rw [List.getElem?_eq_getElem hl, h1], h2, hl⟩
theorem rs_for {wi : TI} {g : TG} {tb : TS} {it : MIt} {gm : MTg} {b : MSt} (hi : RI G wi it) (hg : RG G g gm) (hb : RS G tb b) : RS G (tFor wi g tb) (mFor it gm b) := by
  intro ρ σ H env μ r E M S h p
  unfold mFor at h
  split at h
  · rename_i xs c μ1 h1
    refine hi ρ σ H env μ _ _ M S h1 fun ρ1 H1 J e1 M1 J1 => ?_
    refine ⟨fun i m σ' H' => i ≤ xs.length ∧ m = xs.length - i ∧ ∃ ρ' env' μ', Ext G.K ρ1 H1 ρ' H' ∧ MemOk G ρ' H' μ' ∧ SlOk G ρ' H' σ' env' ∧ forGo c gm b (xs.drop i) env' μ' = some r,
      ⟨xs.length, Nat.zero_le _, rfl, ρ1, env, μ1, .refl, M1, S.mono e1, h⟩, ?_⟩
    rintro i m σ2 H2 ⟨hil, rfl, ρ2, env2, μ2, e2, M2, S2, f⟩
    cases hd : xs.drop i with
    | nil =>
      have hle : xs.length ≤ i := by simpa using hd
      have hii : i = xs.length := by omega
      rw [hd, forGo] at f
      split at f
      · rename_i hst
        cases f
        refine .inl ⟨?_, p ρ2 H2 σ2 (e1.trans e2) M2 S2⟩
        rw [hii]
        exact (J1 ρ2 H2 μ2 e2 M2 hst).2
      · cases f
    | cons x rest =>
      obtain ⟨hx, hr, hl⟩ := drop_cons hd
      rw [hd, forGo] at f
      split at f
      · rename_i hst
        obtain ⟨hgo, hy⟩ := (J1 ρ2 H2 μ2 e2 M2 hst).1 i x hx
        refine .inr ⟨hgo, fun σ' H' => i + 1 ≤ xs.length ∧ ∃ ρ' env' μ', Ext G.K ρ1 H1 ρ' H' ∧ MemOk G ρ' H' μ' ∧ SlOk G ρ' H' σ' env' ∧ forGo c gm b (xs.drop (i + 1)) env' μ' = some r,
          fun σ' H' hN => ⟨xs.length - (i + 1), by omega, hN.1, rfl, hN.2⟩, fun v H3 hyl => ?_⟩
        obtain ⟨e3, M3, dv⟩ := hy v H3 hyl
        split at f
        · rename_i env4 μ4 hg4
          refine hg ρ2 σ2 H3 env2 μ2 v x _ _ M3 (S2.mono e3) dv hg4 fun ρ4 H4 σ4 e4 M4 S4 => ?_
          split at f
          · rename_i en m5 hb5
            refine hb ρ4 σ4 H4 env4 μ4 _ _ M4 S4 hb5 (show PostN G ρ4 H4 en m5 _ from fun ρ5 H5 σ5 e5 M5 S5 => ⟨by omega, ρ5, en, m5, ((e2.trans e3).trans e4).trans e5, M5, S5, by rw [hr]; exact f⟩)
          · rename_i en m5 hb5
            refine hb ρ4 σ4 H4 env4 μ4 _ _ M4 S4 hb5 (show PostN G ρ4 H4 en m5 _ from fun ρ5 H5 σ5 e5 M5 S5 => ⟨by omega, ρ5, en, m5, ((e2.trans e3).trans e4).trans e5, M5, S5, by rw [hr]; exact f⟩)
          · rename_i en m5 hb5
            cases f
            refine hb ρ4 σ4 H4 env4 μ4 _ _ M4 S4 hb5 (show PostN G ρ4 H4 en m5 E.nx from PostN.of (show PostN G ρ H en m5 E.nx from p) ((((e1.trans e2).trans e3).trans e4)))
          · rename_i d' en m5 hb5
            cases f
            refine hb ρ4 σ4 H4 env4 μ4 _ _ M4 S4 hb5 (show Post G ρ4 H4 d' m5 E.rt from Post.of (show Post G ρ H d' m5 E.rt from p) ((((e1.trans e2).trans e3).trans e4)))
          · cases f
        · cases f
      · cases f
  · cases h
/-- while: so many turns at most -/
def whileGo (c : MTs) (b : MSt) : Nat → MSt
  | 0, _, _ => none
  | n + 1, env, μ => match c env μ with
    | some (false, μ1) => some (.nx, env, μ1)
    | some (true, μ1) => match b env μ1 with
      | some (.nx, e, m) => whileGo c b n e m
      | some (.ct, e, m) => whileGo c b n e m
      | some (.bk, e, m) => some (.nx, e, m)
      | some (.rt d, e, m) => some (.rt d, e, m)
      | none => none
    | none => none
theorem rs_while {tc : TT} {tb : TS} {c : MTs} {b : MSt} {n : Nat} (hc : RT G tc c) (hb : RS G tb b) : RS G (tWhile tc tb) (whileGo c b n) := by
  intro ρ σ H env μ r E M S h p
  refine ⟨fun m σ' H' => ∃ ρ' env' μ', Ext G.K ρ H ρ' H' ∧ MemOk G ρ' H' μ' ∧ SlOk G ρ' H' σ' env' ∧ whileGo c b m env' μ' = some r, ⟨n, ρ, env, μ, .refl, M, S, h⟩, ?_⟩
  rintro m σ2 H2 ⟨ρ2, env2, μ2, e2, M2, S2, f⟩
  cases m with
  | zero => cases f
  | succ m =>
    rw [whileGo] at f
    split at f
    · rename_i μ3 h3
      cases f
      exact hc ρ2 σ2 H2 env2 μ2 _ _ _ M2 S2 h3 fun ρ3 H3 e3 M3 => p ρ3 H3 σ2 (e2.trans e3) M3 (S2.mono e3)
    · rename_i μ3 h3
      refine hc ρ2 σ2 H2 env2 μ2 _ _ _ M2 S2 h3 fun ρ3 H3 e3 M3 => ?_
      refine ⟨fun σ' H' => ∃ ρ' env' μ', Ext G.K ρ H ρ' H' ∧ MemOk G ρ' H' μ' ∧ SlOk G ρ' H' σ' env' ∧ whileGo c b m env' μ' = some r, fun σ' H' hN => ⟨m, Nat.lt_succ_self m, hN⟩, ?_⟩
      split at f
      · rename_i en m5 hb5
        exact hb ρ3 σ2 H3 env2 μ3 _ _ M3 (S2.mono e3) hb5 (show PostN G ρ3 H3 en m5 _ from fun ρ5 H5 σ5 e5 M5 S5 => ⟨ρ5, en, m5, (e2.trans e3).trans e5, M5, S5, f⟩)
      · rename_i en m5 hb5
        exact hb ρ3 σ2 H3 env2 μ3 _ _ M3 (S2.mono e3) hb5 (show PostN G ρ3 H3 en m5 _ from fun ρ5 H5 σ5 e5 M5 S5 => ⟨ρ5, en, m5, (e2.trans e3).trans e5, M5, S5, f⟩)
      · rename_i en m5 hb5
        cases f
        exact hb ρ3 σ2 H3 env2 μ3 _ _ M3 (S2.mono e3) hb5 (PostN.of (show PostN G ρ H en m5 E.nx from p) (e2.trans e3))
      · rename_i d' en m5 hb5
        cases f
        exact hb ρ3 σ2 H3 env2 μ3 _ _ M3 (S2.mono e3) hb5 (Post.of (show Post G ρ H d' m5 E.rt from p) (e2.trans e3))
      · cases f
    · cases f

/-! ### comprehensions -/
def wipeD (env : Sl) : List Nat → Sl
  | [] => env
  | i :: r => (wipeD env r).set i none
theorem wipe_nil (σ : St) : wipe σ [] = σ := rfl
theorem wipe_cons (σ : St) (i : Nat) (r : List Nat) : wipe σ (i :: r) = (wipe σ r).set i none := rfl
end
end MR

/-! MR5: comprehensions; the built-ins that are met often. -/
namespace MR
open PySem L2
section
variable {G : Gx} {ρ ρ' : List Addr} {H H' : Hp} {σ : St} {env : Sl} {μ μ' : Mem} {d : D} {Q : VK} {x y v : V}

theorem set_set_same {α : Type} (l : List α) (i : Nat) (a b : α) : (l.set i a).set i b = l.set i b := by simp
theorem wipe_setIn : ∀ (vs : List Nat) (σ : St) (i : Nat) (x : Option V), wipe (σ.set i x) vs = if i ∈ vs then wipe σ vs else (wipe σ vs).set i x
  | [], σ, i, x => by simp [wipe]
  | v :: vs, σ, i, x => by
    have ih := wipe_setIn vs σ i x
    show (wipe (σ.set i x) vs).set v none = _
    rw [ih]
    by_cases hm : i ∈ vs
    · simp [hm, wipe]
    · by_cases hv : i = v
      · subst hv; simp [hm, wipe]
      · simp [hm, hv, wipe]
        exact List.set_comm _ _ hv
theorem wipe_wipe : ∀ (ws vs : List Nat) (σ : St), (∀ i ∈ ws, i ∈ vs) → wipe (wipe σ ws) vs = wipe σ vs
  | [], _, _, _ => rfl
  | w :: ws, vs, σ, h => by
    show wipe ((wipe σ ws).set w none) vs = _
    rw [wipe_setIn, if_pos (h w List.mem_cons_self), wipe_wipe ws vs σ fun i hi => h i (List.mem_cons_of_mem _ hi)]
/-- a target that touches the slots at vs alone -/
def Kps (vs : List Nat) (t : TG) : Prop := ∀ x σ H (Q : St → Hp → Prop), t x σ H Q → t x σ H fun σ' H' => wipe σ' vs = wipe σ vs ∧ Q σ' H'
def KpsL (vs : List Nat) (t : TGs) : Prop := ∀ xs σ H (Q : St → Hp → Prop), t xs σ H Q → t xs σ H fun σ' H' => wipe σ' vs = wipe σ vs ∧ Q σ' H'
theorem kp_n {vs : List Nat} {i : Nat} (h : i ∈ vs) : Kps vs (gName i) := fun x σ H Q q => ⟨by rw [wipe_setIn, if_pos h], q⟩
theorem kp_nil {vs : List Nat} : KpsL vs gNil := fun xs σ H Q q => ⟨q.1, rfl, q.2⟩
theorem kp_cons {vs : List Nat} {t : TG} {u : TGs} (ht : Kps vs t) (hu : KpsL vs u) (mt : ∀ x σ H (Q Q' : St → Hp → Prop), (∀ σ' H', Q σ' H' → Q' σ' H') → t x σ H Q → t x σ H Q') (mu : ∀ x σ H (Q Q' : St → Hp → Prop), (∀ σ' H', Q σ' H' → Q' σ' H') → u x σ H Q → u x σ H Q') : KpsL vs (gCons t u) := by
  rintro xs σ H Q ⟨v, r, rfl, q⟩
  refine ⟨v, r, rfl, mt _ _ _ _ _ (fun σ' H' z => ?_) (ht v σ H _ q)⟩
  refine mu _ _ _ _ _ (fun σ2 H2 z2 => ?_) (hu r σ' H' Q z.2)
  exact ⟨z2.1.trans z.1, z2.2⟩
def MonG (t : TG) : Prop := ∀ x σ H (Q Q' : St → Hp → Prop), (∀ σ' H', Q σ' H' → Q' σ' H') → t x σ H Q → t x σ H Q'
def MonGs (t : TGs) : Prop := ∀ x σ H (Q Q' : St → Hp → Prop), (∀ σ' H', Q σ' H' → Q' σ' H') → t x σ H Q → t x σ H Q'
theorem mg_n {i : Nat} : MonG (gName i) := fun _ _ _ _ _ h q => h _ _ q
theorem mg_nil : MonGs gNil := fun _ _ _ _ _ h q => ⟨q.1, h _ _ q.2⟩
theorem mg_cons {t : TG} {u : TGs} (ht : MonG t) (hu : MonGs u) : MonGs (gCons t u) := by
  rintro xs σ H Q Q' h ⟨v, r, rfl, q⟩
  exact ⟨v, r, rfl, ht _ _ _ _ _ (fun σ' H' z => hu _ _ _ _ _ h z) q⟩
theorem mg_tup {K : PySem.W.Frag} {n : Nat} {u : TGs} (hu : MonGs u) : MonG (gTup K n u) := by
  rintro x σ H Q Q' h ⟨a, xs, e1, e2, e3, q⟩
  exact ⟨a, xs, e1, e2, e3, hu _ _ _ _ _ h q⟩
theorem kp_c {vs : List Nat} {t : TG} {u : TGs} (ht : Kps vs t) (hu : KpsL vs u) (mt : MonG t) (mu : MonGs u) : KpsL vs (gCons t u) := kp_cons ht hu mt mu
theorem kp_tup {vs : List Nat} {K : PySem.W.Frag} {n : Nat} {u : TGs} (hu : KpsL vs u) : Kps vs (gTup K n u) := by
  rintro x σ H Q ⟨a, xs, e1, e2, e3, q⟩
  exact ⟨a, xs, e1, e2, e3, hu _ _ _ _ q⟩
theorem sl_wipe (S : SlOk G ρ H σ env) : ∀ vs : List Nat, SlOk G ρ H (wipe σ vs) (wipeD env vs)
  | [] => S
  | i :: vs => by
    have ih := sl_wipe S vs
    show SlOk G ρ H ((wipe σ vs).set i none) ((wipeD env vs).set i none)
    refine ⟨by simp [ih.len], fun j d q => ?_⟩
    by_cases hj : j = i
    · subst hj
      rw [List.getElem?_set] at q
      simp at q
    · rw [List.getElem?_set_ne (Ne.symm hj)] at q
      obtain ⟨v, h1, h2⟩ := ih.at_ j d q
      exact ⟨v, by rw [List.getElem?_set_ne (Ne.symm hj)]; exact h1, h2⟩
def mYes : MTs := fun _ μ => some (true, μ)
theorem rt_yes : RT G tYes mYes := by
  intro ρ σ H env μ b μ' Q M S h p
  cases h
  exact p ρ H .refl M
open Classical in
noncomputable def compGo (c : Option (Nat × List D)) (g : MTg) (tt : MTs) (e : MEx) (l : Nat) (env : Sl) : List D → Mem → Option Mem
  | [], μ => if still c μ then some μ else none
  | x :: r, μ => if still c μ then match g x env μ with
      | some (env1, μ1) => match tt env1 μ1 with
        | some (false, μ2) => compGo c g tt e l env r μ2
        | some (true, μ2) => match e env1 μ2 with
          | some (d, μ3) => match μ3[l]? with
            | some (.lst acc) => if acc.length < 100000 then compGo c g tt e l env r (μ3.set l (.lst (acc ++ [d]))) else none
            | _ => none
          | none => none
        | none => none
      | none => none
    else none
noncomputable def mLc (it : MIt) (g : MTg) (tt : MTs) (e : MEx) (vs : List Nat) : MEx := fun env μ => match it env μ with
  | some (xs, c, μ1) => match compGo c g tt e μ1.length (wipeD env vs) xs (μ1 ++ [.lst []]) with
    | some μ2 => some (.ref μ1.length, μ2)
    | none => none
  | none => none
theorem re_lc {wi : TI} {g : TG} {tt : TT} {te : TE} {vs : List Nat} {it : MIt} {gm : MTg} {tm : MTs} {em : MEx} (hi : RI G wi it) (hg : RG G g gm) (kg : Kps vs g) (mgg : MonG g) (ht : RT G tt tm) (he : RE G te em) :
    RE G (tLc wi g tt te vs) (mLc it gm tm em vs) := by
  intro ρ σ H env μ d μ' Q M S h p
  unfold mLc at h
  split at h
  · rename_i xs c μ1 h1
    split at h
    · rename_i μf h2
      cases h
      refine hi ρ σ H env μ _ _ M S h1 fun ρ1 H1 J e1 M1 J1 Dl hD => ?_
      have e0 : Ext G.K ρ1 H1 (ρ1 ++ [Dl]) (upd H1 Dl (.lst [])) := ext_push hD
      have M0 : MemOk G (ρ1 ++ [Dl]) (upd H1 Dl (.lst [])) (μ1 ++ [.lst []]) := M1.push hD ⟨[], upd_same, .nil⟩
      have hat : (ρ1 ++ [Dl])[μ1.length]? = some Dl := by rw [← M1.len]; simp
      refine ⟨fun i m H' => i ≤ xs.length ∧ m = xs.length - i ∧ ∃ ρ' μ2, Ext G.K (ρ1 ++ [Dl]) (upd H1 Dl (.lst [])) ρ' H' ∧ MemOk G ρ' H' μ2 ∧ compGo c gm tm em μ1.length (wipeD env vs) (xs.drop i) μ2 = some μ',
        ⟨xs.length, Nat.zero_le _, rfl, _, _, .refl, M0, h2⟩, ?_⟩
      rintro i m H2 ⟨hil, rfl, ρ2, μ2, e2, M2, f⟩
      have S2 : SlOk G ρ2 H2 (wipe σ vs) (wipeD env vs) := sl_wipe (S.mono ((e1.trans e0).trans e2)) vs
      cases hd : xs.drop i with
      | nil =>
        have hle : xs.length ≤ i := by simpa using hd
        have hii : i = xs.length := by omega
        rw [hd, compGo] at f
        split at f
        · rename_i hst
          cases f
          refine .inl ⟨?_, p ρ2 H2 _ ((e1.trans e0).trans e2) M2 (.ref (e2.at_ hat))⟩
          rw [hii]
          exact (J1 ρ2 H2 _ (e0.trans e2) M2 hst).2
        · cases f
      | cons z rest =>
        obtain ⟨hx, hr, hl⟩ := drop_cons hd
        rw [hd, compGo] at f
        split at f
        · rename_i hst
          obtain ⟨hgo, hy⟩ := (J1 ρ2 H2 μ2 (e0.trans e2) M2 hst).1 i z hx
          refine .inr ⟨hgo, fun H' => i + 1 ≤ xs.length ∧ ∃ ρ' μ2, Ext G.K (ρ1 ++ [Dl]) (upd H1 Dl (.lst [])) ρ' H' ∧ MemOk G ρ' H' μ2 ∧ compGo c gm tm em μ1.length (wipeD env vs) (xs.drop (i + 1)) μ2 = some μ',
            fun H' hN => ⟨xs.length - (i + 1), by omega, hN.1, rfl, hN.2⟩, fun v H3 hyl => ?_⟩
          obtain ⟨e3, M3, dv⟩ := hy v H3 hyl
          split at f
          · rename_i env4 μ4 hg4
            refine mgg _ _ _ _ _ (fun σ' H' z => ?_) (kg _ _ _ _ (hg ρ2 (wipe σ vs) H3 (wipeD env vs) μ2 v _ _ (fun σ4 H4 => ∃ ρ4, Ext G.K ρ2 H3 ρ4 H4 ∧ MemOk G ρ4 H4 μ4 ∧ SlOk G ρ4 H4 σ4 env4) M3 (S2.mono e3) dv hg4 fun ρ4 H4 σ4 e4 M4 S4 => ⟨ρ4, e4, M4, S4⟩))
            obtain ⟨zw, ρ4, e4, M4, S4⟩ := z
            refine ⟨zw.trans (wipe_wipe vs vs σ fun _ h => h) |>.trans rfl, ?_⟩
            split at f
            · rename_i μ5 h5
              exact ht ρ4 σ' H' env4 μ4 _ _ _ M4 S4 h5 fun ρ5 H5 e5 M5 => ⟨by omega, ρ5, μ5, ((e2.trans e3).trans e4).trans e5, M5, by rw [hr]; exact f⟩
            · rename_i μ5 h5
              refine ht ρ4 σ' H' env4 μ4 _ _ _ M4 S4 h5 fun ρ5 H5 e5 M5 => ?_
              split at f
              · rename_i d6 μ6 h6
                refine he ρ5 σ' H5 env4 μ5 d6 μ6 _ M5 (S4.mono e5) h6 fun ρ6 H6 y e6 M6 d6' => ?_
                split at f
                · rename_i acc hacc
                  split at f
                  · rename_i hsz
                    have e26 := (((e2.trans e3).trans e4).trans e5).trans e6
                    have hat6 := e26.at_ hat
                    obtain ⟨us, hu, tu⟩ := M6.ob _ _ _ hat6 hacc
                    refine ⟨us, hu, lt_line (by rw [tu.len]; exact hsz), by omega, ρ6, _, e26.trans (ext_set M6 hat6 hacc), M6.set hat6 hacc (tu.app (.cons d6' .nil)), by rw [hr]; exact f⟩
                  · cases f
                · cases f
              · cases f
            · cases f
          · cases f
        · cases f
    · cases h
  · cases h

/-! ### built-ins -/
def fLen : List D → Mem → Option (D × Mem) := fun ds μ => match ds with
  | [.tup xs] => some (.int (xs.length : Nat), μ)
  | [.str z] => if z.length ≤ 100000 then some (.int (z.length : Nat), μ) else none
  | [x] => (lstAt μ x).map fun xs => (.int (xs.length : Nat), μ)
  | _ => none
abbrev rLenU (K : PySem.W.Frag) : List V → Hp → VK → Prop := fun xs H Q => (fun xs H Q => ∃ p ys, xs = [.ref p] ∧ (SqL K H p ys ∨ SqT K H p ys) ∧ Q (.int ys.length) H) xs H Q ∨ (fun xs H Q => ∃ z, xs = [.str z] ∧ z.length ≤ sizeLine ∧ Q (.int z.length) H) xs H Q
theorem cr_lenU {X : Cx} : CallR X (.builtin "len") (rLenU X.K) := call_len_seq.or call_len_str
theorem rc_len : RC G (rLenU G.K) fLen := by
  intro ρ H μ vs ds d μ' Q M hd e p
  unfold fLen at e
  split at e
  · cases e
    cases hd with | cons h t =>
    cases t
    cases h with | tup s t =>
    refine .inl ⟨_, _, rfl, .inr s, ?_⟩
    rw [t.len]
    exact p.go M .int
  · split at e
    · rename_i hz
      cases e
      cases hd with | cons h t =>
      cases t
      cases h
      exact .inr ⟨_, rfl, le_line hz, p.go M .int⟩
    · cases e
  · simp only [Option.map_eq_some_iff, Prod.mk.injEq] at e
    obtain ⟨xs, hl, rfl, rfl⟩ := e
    cases hd with | cons h t =>
    cases t
    obtain ⟨a, us, rfl, s, tt⟩ := lstAt_sq M h hl
    refine .inl ⟨_, us, rfl, .inl s, ?_⟩
    rw [tt.len]
    exact p.go M .int
  · cases e
def fI2 (g : Int → Int → Int) : List D → Mem → Option (D × Mem) := fun ds μ => match ds with
  | [.int i, .int j] => some (.int (g i j), μ)
  | _ => none
theorem rc_I2 {g : Int → Int → Int} : RC G (fun xs H Q => ∃ i j, xs = [.int i, .int j] ∧ Q (.int (g i j)) H) (fI2 g) := by
  intro ρ H μ vs ds d μ' Q M hd e p
  unfold fI2 at e
  split at e
  · cases e
    cases hd with | cons h t =>
    cases t with | cons h2 t =>
    cases t; cases h; cases h2
    exact ⟨_, _, rfl, p.go M .int⟩
  · cases e
def fMax2 := fI2 fun i j => if j > i then j else i
def fMin2 := fI2 fun i j => if j < i then j else i
def fAbs : List D → Mem → Option (D × Mem) := fun ds μ => match ds with
  | [.int i] => some (.int (if i < 0 then -i else i), μ)
  | _ => none
theorem rc_abs : RC G (fun xs H Q => ∃ i, xs = [.int i] ∧ Q (.int (if i < 0 then -i else i)) H) fAbs := by
  intro ρ H μ vs ds d μ' Q M hd e p
  unfold fAbs at e
  split at e
  · cases e
    cases hd with | cons h t =>
    cases t; cases h
    exact ⟨_, rfl, p.go M .int⟩
  · cases e
def fInt : List D → Mem → Option (D × Mem) := fun ds μ => match ds with
  | [.int i] => some (.int i, μ)
  | [.bl b] => some (.int (if b then 1 else 0), μ)
  | _ => none
theorem rc_int : RC G (fun xs H Q => (∃ i, xs = [.int i] ∧ Q (.int i) H) ∨ ∃ k, xs = [.bl k] ∧ Q (.int (if k then 1 else 0)) H) fInt := by
  intro ρ H μ vs ds d μ' Q M hd e p
  unfold fInt at e
  split at e
  · cases e
    cases hd with | cons h t =>
    cases t; cases h
    exact .inl ⟨_, rfl, p.go M .int⟩
  · cases e
    cases hd with | cons h t =>
    cases t; cases h
    exact .inr ⟨_, rfl, p.go M .int⟩
  · cases e
/-- list(x), tuple(x) -/
def seqAt (μ : Mem) : D → Option (List D)
  | .tup ds => some ds
  | x => lstAt μ x
theorem seqAt_sq (M : MemOk G ρ H μ) {v : V} {d : D} {ds : List D} (hd : Den G ρ H v d) (h : seqAt μ d = some ds) : ∃ a vs, v = .ref a ∧ (SqL G.K H a vs ∨ SqT G.K H a vs) ∧ Dens G ρ H vs ds := by
  unfold seqAt at h
  split at h
  · cases h
    cases hd with | tup s t => exact ⟨_, _, rfl, .inr s, t⟩
  · obtain ⟨a, vs, e, s, t⟩ := lstAt_sq M hd h
    exact ⟨a, vs, e, .inl s, t⟩
def fList : List D → Mem → Option (D × Mem) := fun ds μ => match ds with
  | [x] => (seqAt μ x).map fun xs => (.ref μ.length, μ ++ [.lst xs])
  | _ => none
theorem rc_list : RC G (fun xs H Q => ∃ p ys, xs = [.ref p] ∧ (SqL G.K H p ys ∨ SqT G.K H p ys) ∧ ∀ l, H l = none → Q (.ref l) (upd H l (.lst ys))) fList := by
  intro ρ H μ vs ds d μ' Q M hd e p
  unfold fList at e
  split at e
  · simp only [Option.map_eq_some_iff, Prod.mk.injEq] at e
    obtain ⟨xs, hl, rfl, rfl⟩ := e
    cases hd with | cons h t =>
    cases t
    obtain ⟨a, us, rfl, s, tt⟩ := seqAt_sq M h hl
    exact ⟨a, us, rfl, s, p.newL M tt⟩
  · cases e
def fTuple : List D → Mem → Option (D × Mem) := fun ds μ => match ds with
  | [x] => (seqAt μ x).map fun xs => (.tup xs, μ)
  | _ => none
theorem rc_tuple : RC G (fun xs H Q => ∃ p ys, xs = [.ref p] ∧ ((SqL G.K H p ys ∧ ∀ l, H l = none → Q (.ref l) (upd H l (.tup ys))) ∨ (SqT G.K H p ys ∧ Q (.ref p) H))) fTuple := by
  intro ρ H μ vs ds d μ' Q M hd e p
  unfold fTuple at e
  split at e
  · simp only [Option.map_eq_some_iff, Prod.mk.injEq] at e
    obtain ⟨xs, hl, rfl, rfl⟩ := e
    cases hd with | cons h t =>
    cases t
    obtain ⟨a, us, rfl, s, tt⟩ := seqAt_sq M h hl
    rcases s with s | s
    · exact ⟨a, us, rfl, .inl ⟨s, p.newT M tt⟩⟩
    · exact ⟨a, us, rfl, .inr ⟨s, p.go M (.tup s tt)⟩⟩
  · cases e
/-- all(xs), any(xs), of truths -/
def blsOf : List D → Option (List Bool)
  | [] => some []
  | .bl b :: r => (blsOf r).map (b :: ·)
  | _ => none
theorem dens_bls : ∀ {vs : List V} {ds : List D} {bs : List Bool}, Dens G ρ H vs ds → blsOf ds = some bs → vs = bs.map V.bl
  | _, [], bs, .nil, h => by cases h; rfl
  | _, .bl b :: r, bs, .cons h t, e => by
    simp only [blsOf, Option.map_eq_some_iff] at e
    obtain ⟨bs', h1, rfl⟩ := e
    cases h
    rw [dens_bls t h1]
    rfl
  | _, .non :: r, bs, .cons h t, e => by cases e
  | _, .int _ :: r, bs, .cons h t, e => by cases e
  | _, .str _ :: r, bs, .cons h t, e => by cases e
  | _, .tup _ :: r, bs, .cons h t, e => by cases e
  | _, .scr _ :: r, bs, .cons h t, e => by cases e
  | _, .ref _ :: r, bs, .cons h t, e => by cases e
  | _, .ty _ :: r, bs, .cons h t, e => by cases e
  | _, .cl _ :: r, bs, .cons h t, e => by cases e
def fBls (g : List Bool → Bool) : List D → Mem → Option (D × Mem) := fun ds μ => match ds with
  | [x] => match lstAt μ x with
    | some xs => (blsOf xs).map fun bs => (.bl (g bs), μ)
    | none => none
  | _ => none
theorem rc_bls {g : List Bool → Bool} : RC G (fun vs H Q => ∃ (a : Addr) (bs : List Bool), vs = [V.ref a] ∧ SqL G.K H a (bs.map V.bl) ∧ Q (.bl (g bs)) H) (fBls g) := by
  intro ρ H μ vs ds d μ' Q M hd e p
  unfold fBls at e
  split at e
  · split at e
    · rename_i xs hl
      simp only [Option.map_eq_some_iff, Prod.mk.injEq] at e
      obtain ⟨bs, hb, rfl, rfl⟩ := e
      cases hd with | cons h t =>
      cases t
      obtain ⟨a, us, rfl, s, tt⟩ := lstAt_sq M h hl
      have := dens_bls tt hb
      subst this
      exact ⟨a, bs, rfl, s, p.go M .bl⟩
    · cases e
  · cases e
def fAll := fBls fun bs => bs.all id
def fAny := fBls fun bs => bs.any id
theorem rc_all : RC G (rAll G.K) fAll := rc_bls
theorem rc_any : RC G (rAny G.K) fAny := rc_bls
/-- isinstance(x, a built-in class) -/
def tyName (μ : Mem) : D → Option String
  | .non => some "NoneType" | .bl _ => some "bool" | .int _ => some "int" | .str _ => some "str" | .tup _ => some "tuple" | .scr _ => some "list"
  | .ref k => match μ[k]? with
    | some (.lst _) => (some "list")
    | _ => none
  | _ => none
theorem tyName_ok (M : MemOk G ρ H μ) {n : String} (h : Den G ρ H x d) (e : tyName μ d = some n) : TyX G.K H x (.type n) := by
  cases h with
  | non => cases e; exact .base .non
  | bl => cases e; exact .base (.bl _)
  | int => cases e; exact .base (.int _)
  | str => cases e; exact .base (.str _)
  | tup s t =>
    cases e
    rcases s with (s | ⟨o, s⟩) | ⟨o, its, k, h1, h2, _⟩
    · exact .base (.tup s)
    · exact .fTuple s
    · exact .kTuple h1 h2
  | scr s t =>
    cases e
    rcases s with ⟨o, s⟩ | (s | ⟨o, s⟩) | ⟨o, its, k, h1, h2, _⟩
    · exact .base (.frz s)
    · cases s
    · cases s
    · exact .kList h1 h2
  | ref r =>
    simp only [tyName] at e
    split at e
    · rename_i ds hm
      cases e
      obtain ⟨vs, hv, t⟩ := M.ob _ _ _ r hm
      exact .base (.lst hv)
    · cases e
  | ty => cases e
  | cl => cases e
def fIsi : List D → Mem → Option (D × Mem) := fun ds μ => match ds with
  | [x, .ty c] => match tyName μ x with
    | some n => (kitB n c).map fun b => (.bl b, μ)
    | none => none
  | _ => none
theorem rc_isi : RC G (rIsi G.K) fIsi := by
  intro ρ H μ vs ds d μ' Q M hd e p
  unfold fIsi at e
  split at e
  · split at e
    · rename_i n hn
      simp only [Option.map_eq_some_iff, Prod.mk.injEq] at e
      obtain ⟨b, hb, rfl, rfl⟩ := e
      cases hd with | cons h t =>
      cases t with | cons h2 t2 =>
      cases t2; cases h2
      exact ⟨_, _, _, _, b, rfl, .ty _, tyName_ok M h hn, kit_ty hb, p.go M .bl⟩
    · cases e
  · cases e

/-! ### methods of lists, texts -/
/-- o.m(args) of a list in memory -/
def mBM (f : D → List D → Mem → Option (D × Mem)) (o : MEx) (a : MAr) : MEx := fun env μ => match o env μ with
  | some (.ref n, μ1) => match μ1[n]? with
    | some (.lst _) => match a env μ1 with
      | some (ds, μ2) => f (.ref n) ds μ2
      | none => none
    | _ => none
  | _ => none
theorem re_bmL {r : V → List V → Hp → VK → Prop} {f} {to : TE} {ta : TA} {o : MEx} {a : MAr} (ho : RE G to o) (ha : RA G ta a) (hr : RM G r f) : RE G (tBM G.K "list" r to ta) (mBM f o a) := by
  intro ρ σ H env μ d μ' Q M S h p
  unfold mBM at h
  split at h
  · rename_i n μ1 h1
    split at h
    · rename_i xs hm
      split at h
      · rename_i ds μ2 h2
        refine ho ρ σ H env μ _ μ1 _ M S h1 fun ρ1 H1 v e1 M1 d1 => ?_
        have d1c := d1
        cases d1c with | ref r1 =>
        obtain ⟨vs, hv, t⟩ := M1.ob _ _ _ r1 hm
        refine ⟨.inl ⟨rfl, vs, .inl (.inl hv)⟩, ?_⟩
        refine ha ρ1 σ H1 env μ1 ds μ2 _ M1 (S.mono e1) h2 fun ρ2 H2 us e2 M2 d2 => ?_
        exact hr ρ2 H2 μ2 _ _ us ds d μ' Q M2 (d1.mono e2) d2 h (p.of (e1.trans e2))
      · cases h
    · cases h
  · cases h
def mBM0 (f : D → List D → Mem → Option (D × Mem)) (o : MEx) : MEx := mBM f o mNil
theorem re_bmL0 {r : V → List V → Hp → VK → Prop} {f} {to : TE} {o : MEx} (ho : RE G to o) (hr : RM G r f) : RE G (tBM0 G.K "list" r to) (mBM0 f o) := by
  intro ρ σ H env μ d μ' Q M S h p
  unfold mBM0 mBM at h
  split at h
  · rename_i n μ1 h1
    split at h
    · rename_i xs hm
      refine ho ρ σ H env μ _ μ1 _ M S h1 fun ρ1 H1 v e1 M1 d1 => ?_
      have d1c := d1
      cases d1c with | ref r1 =>
      obtain ⟨vs, hv, t⟩ := M1.ob _ _ _ r1 hm
      refine ⟨.inl ⟨rfl, vs, .inl (.inl hv)⟩, ?_⟩
      exact hr ρ1 H1 μ1 _ _ [] [] d μ' Q M1 d1 .nil h (p.of e1)
    · cases h
  · cases h
/-- a list that a method changes -/
def fMut (g : List D → List D → Option (List D)) : D → List D → Mem → Option (D × Mem) := fun x ds μ => match x with
  | .ref n => match μ[n]? with
    | some (.lst xs) => (g xs ds).map fun ys => (.non, μ.set n (.lst ys))
    | _ => none
  | _ => none
def fAppend := fMut fun xs ds => match ds with
  | [d] => if xs.length < 100000 then some (xs ++ [d]) else none
  | _ => none
theorem rm_append : RM G rAppend fAppend := by
  intro ρ H μ x dx vs ds d μ' Q M hx hd e p
  unfold fAppend fMut at e
  split at e
  · split at e
    · rename_i n xs hm
      simp only [Option.map_eq_some_iff, Prod.mk.injEq] at e
      obtain ⟨ys, hy, rfl, rfl⟩ := e
      split at hy
      · split at hy
        · rename_i hz
          cases hy
          cases hx with | ref r1 =>
          cases hd with | cons h t =>
          cases t
          obtain ⟨us, hv, tt⟩ := M.ob _ _ _ r1 hm
          exact ⟨_, us, _, rfl, rfl, hv, lt_line (by rw [tt.len]; exact hz), p ρ _ _ (ext_set M r1 hm) (M.set r1 hm (tt.app (.cons h .nil))) .non⟩
        · cases hy
      · cases hy
    · cases e
  · cases e
def fInsert := fMut fun xs ds => match ds with
  | [.int i, d] => if xs.length < 100000 ∧ 0 ≤ i ∧ i < 2 ^ 63 then some (xs.take i.toNat ++ [d] ++ xs.drop i.toNat) else none
  | _ => none
theorem rm_insert : RM G (fun x vs H Q => ∃ (l : Addr) (xs : List V) (i : Int) (y : V), x = .ref l ∧ vs = [.int i, y] ∧ H l = some (.lst xs) ∧ xs.length < sizeLine ∧ 0 ≤ i ∧ i < 2 ^ 63 ∧
    Q .non (upd H l (.lst (xs.take i.toNat ++ [y] ++ xs.drop i.toNat)))) fInsert := by
  intro ρ H μ x dx vs ds d μ' Q M hx hd e p
  unfold fInsert fMut at e
  split at e
  · split at e
    · rename_i n xs hm
      simp only [Option.map_eq_some_iff, Prod.mk.injEq] at e
      obtain ⟨ys, hy, rfl, rfl⟩ := e
      split at hy
      · split at hy
        · rename_i hz
          cases hy
          cases hx with | ref r1 =>
          cases hd with | cons h t =>
          cases t with | cons h2 t2 =>
          cases t2; cases h
          obtain ⟨us, hv, tt⟩ := M.ob _ _ _ r1 hm
          exact ⟨_, us, _, _, rfl, rfl, hv, lt_line (by rw [tt.len]; exact hz.1), hz.2.1, hz.2.2, p ρ _ _ (ext_set M r1 hm) (M.set r1 hm (((tt.take _).app (.cons h2 .nil)).app (tt.drop _))) .non⟩
        · cases hy
      · cases hy
    · cases e
  · cases e
end
end MR

/-! MR6: defs of a text and their calls. -/
namespace MR
open PySem L2
section
variable {G : Gx} {ρ ρ' : List Addr} {H H' : Hp} {σ : St} {env : Sl} {μ μ' : Mem} {d : D} {Q : VK} {x y v : V}
theorem hu64 {A : Around} {k : Nat} (hr : Room k A) : A.units + 64 < cLine := by have := hr.un; omega
theorem hu65 {A : Around} {k : Nat} (hr : Room k A) : A.units + 65 < cLine := by have := hr.un; omega
def mUn (f : D → Mem → Option (D × Mem)) (a : MEx) : MEx := fun env μ => match a env μ with
  | some (x, μ1) => f x μ1
  | none => none
def oNeg : D → Mem → Option (D × Mem) := fun x μ => match x with
  | .int i => some (.int (-i), μ)
  | _ => none
theorem re_neg {t : TE} {a : MEx} (ha : RE G t a) : RE G (tUn (rU fun i => .int (-i)) t) (mUn oNeg a) := by
  intro ρ σ H env μ d μ' Q M S h p
  unfold mUn at h
  split at h
  · rename_i x μ1 h1
    unfold oNeg at h
    split at h
    · cases h
      refine ha ρ σ H env μ _ _ _ M S h1 fun ρ1 H1 v e1 M1 d1 => ?_
      cases d1
      exact ⟨_, rfl, p ρ1 H1 _ e1 M1 .int⟩
    · cases h
  · cases h
/-- a def of the text that keeps the promise of f -/
def Df (P : Program) (w : World) (G : Gx) (mg : Str → Option Value) (base : Heap) (x : Str) (k : Nat) (ps : List Str) (f : List D → Mem → Option (D × Mem)) : Prop :=
  ∃ fd, FnOk P w G.K mg base CX0 k (He.ga G.K x) fd ps (spM G f ps.length) ∧ Binds G.K fd ps [] ∧ mg x = some (.ref (He.ga G.K x)) ∧ PySem.W.keepIn G.K (.ref (He.ga G.K x)) = true
theorem df_call {X : Cx} {ca : Nat → Addr} {k n : Nat} {x : Str} {ps : List Str} {f} {p pos : Pos} {e : Expr} {es : List Expr} {t : TA} (D : Df X.prog X.w ⟨X.K, ca⟩ X.mg X.base x k ps f) (hr : Room k X.A) (hg : Gl X x) (ha : PA X (e :: es) t)
    (hn : ps.length = n := by rfl) (hdb : (x == ("__debug__" : Str)) = false := by decide) (he : starEach (e :: es) X.env = (false, eval e X.env) :: starEach es X.env := by rfl) (hpl : ((backTo pos (starEach es X.env)).any (·.1)) = false := by rfl) :
    PE X (.Call (.Name x p) (e :: es) [] pos) (tCall (spM ⟨X.K, ca⟩ f n) [] E0 t) := by
  subst hn
  obtain ⟨fd, hF, hB, hm, hk⟩ := D
  exact pe_call hF hr hg hm hk hB .nil pass0 ha hdb he hpl
theorem fn_okD {P : Program} {w : World} {mg : Str → Option Value} {base : Heap} {x qual : Str} {params : Arguments} {body : List Stmt} {scope : Scope} {kws : List (Str × V)} {f : Addr} {fd : FuncData} {N ps : List Str} {k : Nat} {t : TS} {m : MSt}
    (F : FunD G.K x qual params body scope [] kws f fd) (S : FnScope N ps scope)
    (hb : ∀ (cdv : Value) (A : Around) (outer : List PySem.Env) (s : Shared) (H : Hp) (E : XK), Room k (A.deeper (PyProof.Rows.envOfC qual scope s.heap.objs.size f cdv)) → PSs (cxOf CX0 P w G.K mg base N qual scope f cdv A outer s H E).nox body t)
    (hr : RS G t m) : FnOk P w G.K mg base CX0 (k + 1) f fd ps (spM G (mDef N.length ps.length m) ps.length) := by
  refine F.ok S (fun vs H Q E h => ?_) (fun cdv A outer s H vs Q E hr2 h => ⟨t, (hb cdv A outer s H E hr2).nox, ?_⟩)
  · obtain ⟨ρ, μ, ds, d, μ', M, dn, hl, _, _⟩ := h
    rw [dn.len, hl]
  · obtain ⟨ρ, μ, ds, d, μ', M, dn, hl, e, p⟩ := h
    unfold mDef at e
    have S0 : SlOk G ρ H (L2.start N vs) (ds.map some ++ List.replicate (N.length - ps.length) none) := by
      unfold L2.start
      rw [dn.len, hl]
      exact sl_start dn
    split at e
    · rename_i e' μ1 h1
      cases e
      exact hr ρ _ H _ μ _ _ M S0 h1 fun ρ1 H1 σ1 e1 M1 S1 => p ρ1 H1 _ e1 M1 .non
    · rename_i d' e' μ1 h1
      cases e
      exact hr ρ _ H _ μ _ _ M S0 h1 fun ρ1 H1 v e1 M1 d1 => p ρ1 H1 _ e1 M1 d1
    · cases e
end
end MR

/-! MR7: texts. -/
namespace MR
open PySem L2
section
variable {G : Gx} {ρ ρ' : List Addr} {H H' : Hp} {σ : St} {env : Sl} {μ μ' : Mem} {d : D} {Q : VK} {x y v : V}
def strsOf : List D → Option (List Str)
  | [] => some []
  | .str b :: r => (strsOf r).map (b :: ·)
  | _ => none
theorem dens_strs : ∀ {vs : List V} {ds : List D} {bs : List Str}, Dens G ρ H vs ds → strsOf ds = some bs → vs = bs.map V.str
  | _, [], bs, .nil, h => by cases h; rfl
  | _, .str b :: r, bs, .cons h t, e => by
    simp only [strsOf, Option.map_eq_some_iff] at e
    obtain ⟨bs', h1, rfl⟩ := e
    cases h
    rw [dens_strs t h1]
    rfl
  | _, .non :: r, bs, .cons h t, e => by cases e
  | _, .int _ :: r, bs, .cons h t, e => by cases e
  | _, .bl _ :: r, bs, .cons h t, e => by cases e
  | _, .tup _ :: r, bs, .cons h t, e => by cases e
  | _, .scr _ :: r, bs, .cons h t, e => by cases e
  | _, .ref _ :: r, bs, .cons h t, e => by cases e
  | _, .ty _ :: r, bs, .cons h t, e => by cases e
  | _, .cl _ :: r, bs, .cons h t, e => by cases e
/-- sep.join(xs) -/
def mJoin (o e : MEx) : MEx := fun env μ => match o env μ with
  | some (.str a, μ1) => match e env μ1 with
    | some (x, μ2) => match (seqAt μ2 x).bind strsOf with
      | some ys => if (ys.map (·.length)).sum + ys.length * a.length ≤ 16777216 then some (.str (Txt.join a ys), μ2) else none
      | none => none
    | none => none
  | _ => none
theorem re_join {to te : TE} {o e : MEx} (ho : RE G to o) (he : RE G te e) :
    RE G (tM1 (fun x xs H Q => ∃ a p ys, x = .str a ∧ xs = [.ref p] ∧ (SqL G.K H p (ys.map V.str) ∨ SqT G.K H p (ys.map V.str)) ∧ (ys.map (·.length)).sum + ys.length * a.length ≤ 16777216 ∧ Q (.str (Txt.join a ys)) H) to te) (mJoin o e) := by
  intro ρ σ H env μ d μ' Q M S h p
  unfold mJoin at h
  split at h
  · rename_i a μ1 h1
    split at h
    · rename_i x μ2 h2
      split at h
      · rename_i ys h3
        split at h
        · rename_i hz
          cases h
          refine ho ρ σ H env μ _ μ1 _ M S h1 fun ρ1 H1 v e1 M1 d1 => ?_
          cases d1
          refine ⟨⟨_, rfl⟩, ?_⟩
          refine he ρ1 σ H1 env μ1 x _ _ M1 (S.mono e1) h2 fun ρ2 H2 u e2 M2 d2 => ?_
          obtain ⟨ds, h4, h5⟩ := Option.bind_eq_some_iff.mp h3
          obtain ⟨b, vs, rfl, s, t⟩ := seqAt_sq M2 d2 h4
          have := dens_strs t h5
          subst this
          exact ⟨a, b, ys, rfl, rfl, s, hz, p ρ2 H2 _ (e1.trans e2) M2 .str⟩
        · cases h
      · cases h
    · cases h
  · cases h
/-- o.m(args) of a text -/
def mBMS (f : D → List D → Mem → Option (D × Mem)) (o : MEx) (a : MAr) : MEx := fun env μ => match o env μ with
  | some (.str z, μ1) => match a env μ1 with
    | some (ds, μ2) => f (.str z) ds μ2
    | none => none
  | _ => none
theorem re_bmS {r : V → List V → Hp → VK → Prop} {f} {to : TE} {ta : TA} {o : MEx} {a : MAr} (ho : RE G to o) (ha : RA G ta a) (hr : RM G r f) : RE G (tBM G.K "str" r to ta) (mBMS f o a) := by
  intro ρ σ H env μ d μ' Q M S h p
  unfold mBMS at h
  split at h
  · rename_i z μ1 h1
    split at h
    · rename_i ds μ2 h2
      refine ho ρ σ H env μ _ μ1 _ M S h1 fun ρ1 H1 v e1 M1 d1 => ?_
      cases d1
      refine ⟨rfl, ?_⟩
      refine ha ρ1 σ H1 env μ1 ds μ2 _ M1 (S.mono e1) h2 fun ρ2 H2 us e2 M2 d2 => ?_
      exact hr ρ2 H2 μ2 _ _ us ds d μ' Q M2 .str d2 h (p.of (e1.trans e2))
    · cases h
  · cases h
def fSindex : D → List D → Mem → Option (D × Mem) := fun x ds μ => match x, ds with
  | .str a, [.str b] => match Builtin.Str.occurrences a b 0 a.length 1 with
    | i :: _ => some (.int (i : Nat), μ)
    | [] => none
  | _, _ => none
theorem rm_sindex : RM G (fun x xs H Q => ∃ a b i rest, x = .str a ∧ xs = [.str b] ∧ Builtin.Str.occurrences a b 0 a.length 1 = i :: rest ∧ Q (.int (i : Nat)) H) fSindex := by
  intro ρ H μ x dx vs ds d μ' Q M hx hd e p
  unfold fSindex at e
  split at e
  · split at e
    · rename_i i rest hi
      cases e
      cases hx
      cases hd with | cons h t =>
      cases t; cases h
      exact ⟨_, _, i, rest, rfl, rfl, hi, p.go M .int⟩
    · cases e
  · cases e
end
end MR

/-! NSet5: len(set(xs)) of nested tuples, over the hand layer and on data. -/
namespace MR
open PySem PyProof.Rows L2 NS
mutual
inductive KeyV (K : PySem.W.Frag) (H : Hp) : V → NestedKey → Prop
  | non : KeyV K H .non .none
  | bl {b} : KeyV K H (.bl b) (.num (if b = true then 1 else 0))
  | int {i} : KeyV K H (.int i) (.num i)
  | str {x} : KeyV K H (.str x) (.text x)
  | tup {a vs ks} : SqT K H a vs → KeyVs K H vs ks → KeyV K H (.ref a) (.tup ks)
inductive KeyVs (K : PySem.W.Frag) (H : Hp) : List V → List NestedKey → Prop
  | nil : KeyVs K H [] []
  | cons {v k vs ks} : KeyV K H v k → KeyVs K H vs ks → KeyVs K H (v :: vs) (k :: ks)
end
section
variable {s : Shared} {X : Cx} {pins : List (Addr × Obj)} {σ : L2.St} {H : Hp}
mutual
theorem KeyV.is_ (I : Inv X pins σ H s) : ∀ {v k u}, KeyV X.K H v k → L2.RelV v u → NestedIs s.heap k u
  | _, _, _, .non, r => by cases r; exact .none
  | _, _, _, .bl, r => by cases r; exact .bool rfl
  | _, _, _, .int, r => by obtain ⟨t, rfl⟩ := r; exact .int _ t
  | _, _, _, .str, r => by obtain ⟨t, rfl⟩ := r; exact .text _ t
  | _, _, _, .tup h t, r => by
    cases r
    obtain ⟨its, rv, ⟨o, ho, hc, n, hd⟩, _⟩ := I.tuple h
    exact .tup ho hc hd (by simpa using KeyVs.is_ I t rv)
theorem KeyVs.is_ (I : Inv X pins σ H s) : ∀ {vs ks us}, KeyVs X.K H vs ks → L2.Vals vs us → NestedAll s.heap ks us
  | _, _, _, .nil, .nil => .nil
  | _, _, _, .cons h t, .cons r q => .cons (KeyV.is_ I h r) (KeyVs.is_ I t q)
end
end
/-- how many unlike ones -/
def unlike : List NestedKey → List NestedKey
  | [] => []
  | k :: l => if (unlike l).any (NestedKey.beq k) = true then unlike l else k :: unlike l
theorem beq_iff {a b : NestedKey} : NestedKey.beq a b = true ↔ a = b := ⟨NestedKey.eq_of_beq a b, fun e => by rw [e]; exact NestedKey.beq_self b⟩
theorem mem_unlike {k : NestedKey} : ∀ {l : List NestedKey}, k ∈ unlike l ↔ k ∈ l
  | [] => Iff.rfl
  | x :: l => by
    have ih := mem_unlike (k := k) (l := l)
    unfold unlike
    by_cases h : (unlike l).any (NestedKey.beq x) = true
    · rw [if_pos h, List.mem_cons, ih]
      refine ⟨.inr, fun q => q.elim (fun e => ?_) id⟩
      obtain ⟨y, hy, e2⟩ := List.any_eq_true.mp h
      rw [beq_iff.mp e2] at e
      rw [e]; exact mem_unlike.mp hy
    · rw [if_neg h, List.mem_cons, List.mem_cons, ih]
theorem nodup_unlike : ∀ l : List NestedKey, (unlike l).Nodup
  | [] => List.nodup_nil
  | x :: l => by
    unfold unlike
    by_cases h : (unlike l).any (NestedKey.beq x) = true
    · rw [if_pos h]; exact nodup_unlike l
    · rw [if_neg h]
      refine List.nodup_cons.mpr ⟨fun hm => h ?_, nodup_unlike l⟩
      exact List.any_eq_true.mpr ⟨x, hm, NestedKey.beq_self x⟩
theorem unlike_len {l m : List NestedKey} (hn : m.Nodup) (h : ∀ k, k ∈ m ↔ k ∈ l) : m.length = (unlike l).length := by
  classical
  exact ((List.perm_ext_iff_of_nodup hn (nodup_unlike l)).mpr fun k => by rw [h, mem_unlike]).length_eq
def tLenSetN (K : PySem.W.Frag) (ta : TE) : TE := fun σ H Q => ta σ H fun x H1 => ∃ (l : Addr) (ps : List El), x = .ref l ∧ SqL K H1 l (ps.map fun e => V.ref e.1) ∧ (∀ e ∈ ps, KeyV K H1 (.ref e.1) e.2 ∧ e.2.depth ≤ 8) ∧ ps.length < 64 ∧ Q (.int ((unlike (ps.map (·.2))).length : Nat)) H1
theorem Of.count {w : World} {h : Heap} {a : Addr} {ks L : List El} {es : Array (Int × Value)} {ep : Nat} {t : SetTable} (R : Has w h a L es ep t) (g : Of ks ks.length L) : L.length = (unlike (ks.map (·.2))).length := by
  rw [← List.length_map (f := fun e : El => e.2) (as := L)]
  refine unlike_len R.nod fun k => ⟨fun hk => ?_, fun hk => ?_⟩
  · obtain ⟨e, he, rfl⟩ := List.mem_map.mp hk
    have := g.from_ e he
    rw [List.take_length] at this
    exact List.mem_map.mpr ⟨e, this, rfl⟩
  · obtain ⟨e, he, rfl⟩ := List.mem_map.mp hk
    exact g.all_ e (by rw [List.take_length]; exact he)
theorem pe_lenSetN {X : Cx} {a : Expr} {ta : TE} {p p2 q pos : Pos} {k : Nat} (hr : Room k X.A) (hg : Gl X "len") (hm : X.mg "len" = none) (hg2 : Gl X "set") (hm2 : X.mg "set" = none) (ha : PE X a ta) (hc : X.calm = true := by rfl)
    (na : starEach [a] X.env = (false, eval a X.env) :: starEach [] X.env := by rfl) : PE X (.Call (.Name "len" p) [.Call (.Name "set" p2) [a] [] q] [] pos) (tLenSetN X.K ta) := by
  refine ⟨fun pins s σ H Q I h => ?_⟩; refine Call_ (ld_blt I hg hm boot_len ?_); refine PyProof.Rows.callWith_builtin1 (PyProof.Rows.args_cons ?_ rfl) rfl rfl; refine Call_ (ld_blt I hg2 hm2 boot_set ?_); refine PyProof.Rows.callWith_type1 (PyProof.Rows.args_cons (thn (ha.run pins s σ H _ I h) fun v s1 ⟨x, H1, I1, r1, q1⟩ => PyProof.Rows.args_nil ?_) na) na rfl
  obtain ⟨l, ps, rfl, hq, hk, few, q1⟩ := q1
  cases r1; obtain ⟨its, r, pl, hz⟩ := I1.list hq
  have hits : ∀ (ps : List El) (its : List Value), Vals (ps.map fun e => V.ref e.1) its → its = ps.map fun e => Value.ref e.1 := by
    intro ps
    induction ps with
    | nil => intro its r; cases r; rfl
    | cons e ps ih =>
      intro its r
      cases r with | cons r1 r2 =>
      cases r1
      rw [ih _ r2]; rfl
  refine set_of ps (I1.ok.hd hc) pl.isList (by simpa using hits ps its r) (fun e he => ⟨KeyV.is_ I1 (hk e he).1 rfl, (hk e he).2⟩) few (by have := hr.un; omega) fun h' tk L es ep t R g kp => ?_; refine PyProof.Rows.args_nil ?_
  obtain ⟨o, ho, hex, hd⟩ := R.obj; have I2 : Inv X pins σ H1 { s1 with heap := h', toks := tk } := I1.kept kp
  have hn : es.size = (unlike (ps.map (·.2))).length := R.siz.trans (Of.count R g)
  exact call_len_set ho hex hd R.fit (by rw [R.siz]; have := R.few; omega) ⟨.int ((unlike (ps.map (·.2))).length : Nat), H1, I2.tok _, ⟨_, by rw [hn]⟩, q1⟩

/-! ### on data -/
mutual
def keyOf : D → Option NestedKey
  | .non => some .none
  | .bl b => some (.num (if b = true then 1 else 0))
  | .int i => some (.num i)
  | .str x => some (.text x)
  | .tup ds => (keysOf ds).map .tup
  | _ => none
def keysOf : List D → Option (List NestedKey)
  | [] => some []
  | d :: ds => match keyOf d, keysOf ds with
    | some k, some ks => some (k :: ks)
    | _, _ => none
end
section
variable {G : Gx} {ρ : List Addr} {H : Hp}
mutual
theorem den_key : ∀ {v d k}, Den G ρ H v d → keyOf d = some k → KeyV G.K H v k
  | _, _, _, .non, e => by cases e; exact .non
  | _, _, _, .bl, e => by cases e; exact .bl
  | _, _, _, .int, e => by cases e; exact .int
  | _, _, _, .str, e => by cases e; exact .str
  | _, _, _, .tup s t, e => by
    simp only [keyOf, Option.map_eq_some_iff] at e
    obtain ⟨ks, h, rfl⟩ := e
    exact .tup s (dens_keys t h)
  | _, _, _, .scr s t, e => by cases e
  | _, _, _, .ref r, e => by cases e
  | _, _, _, .ty, e => by cases e
  | _, _, _, .cl, e => by cases e
theorem dens_keys : ∀ {vs ds ks}, Dens G ρ H vs ds → keysOf ds = some ks → KeyVs G.K H vs ks
  | _, _, _, .nil, e => by cases e; exact .nil
  | _, _, _, .cons h t, e => by
    unfold keysOf at e
    split at e
    · rename_i k ks h1 h2
      cases e
      exact .cons (den_key h h1) (dens_keys t h2)
    · cases e
end
def isTup : D → Bool
  | .tup _ => true
  | _ => false
/-- len(set(xs)), xs a list of tuples -/
def mLenSet (a : MEx) : MEx := fun env μ => match a env μ with
  | some (x, μ1) => match lstAt μ1 x with
    | some ds => match keysOf ds with
      | some ks => if ds.length < 64 ∧ ds.all isTup = true ∧ (ks.all fun k => decide (k.depth ≤ 8)) = true then some (.int ((unlike ks).length : Nat), μ1) else none
      | none => none
    | none => none
  | none => none
theorem refs_of : ∀ {vs : List V} {ds : List D} {ks : List NestedKey}, Dens G ρ H vs ds → keysOf ds = some ks → ds.all isTup = true → (ks.all fun k => decide (k.depth ≤ 8)) = true →
    ∃ ps : List El, vs = ps.map (fun e => V.ref e.1) ∧ ks = ps.map (·.2) ∧ ps.length = ds.length ∧ ∀ e ∈ ps, KeyV G.K H (.ref e.1) e.2 ∧ e.2.depth ≤ 8
  | _, [], ks, .nil, e, _, _ => by cases e; exact ⟨[], rfl, rfl, rfl, fun e he => by cases he⟩
  | _, d :: ds, ks, .cons h t, e, ha, hd => by
    unfold keysOf at e
    split at e
    · rename_i k ks' h1 h2
      cases e
      simp only [List.all_cons, Bool.and_eq_true, decide_eq_true_eq] at ha hd
      obtain ⟨ps, e1, e2, e3, e4⟩ := refs_of t h2 ha.2 hd.2
      cases h with
      | @tup a us dd s tt =>
        refine ⟨(a, k) :: ps, by rw [e1]; rfl, by rw [e2]; rfl, by simp [e3], fun e he => ?_⟩
        rcases (List.mem_cons.mp he) with rfl | he
        · exact ⟨den_key (.tup s tt) h1, hd.1⟩
        · exact e4 e he
      | _ => simp [isTup] at ha
    · cases e
theorem re_lenSet {ta : TE} {a : MEx} (ha : RE G ta a) : RE G (tLenSetN G.K ta) (mLenSet a) := by
  intro ρ σ H env μ d μ' Q M S h p
  unfold mLenSet at h
  split at h
  · rename_i x μ1 h1
    split at h
    · rename_i ds h2
      split at h
      · rename_i ks h3
        split at h
        · rename_i hc
          cases h
          refine ha ρ σ H env μ x _ _ M S h1 fun ρ1 H1 v e1 M1 d1 => ?_
          obtain ⟨l, vs, rfl, sq, t⟩ := lstAt_sq M1 d1 h2
          obtain ⟨ps, e2, e3, e4, e5⟩ := refs_of t h3 hc.2.1 hc.2.2
          subst e2; subst e3
          exact ⟨l, ps, rfl, sq, e5, by rw [e4]; exact hc.1, p ρ1 H1 _ e1 M1 .int⟩
        · cases h
      · cases h
    · cases h
  · cases h
end
end MR

/-! SComp: set comprehensions, whatever the set is known by (τ, O); those of texts, their length. -/
namespace MR
open L2 PySem PySem.Spec PyProof.Rows
/-- a way to know a set: O D t at D; what may be added to it, and what it may be then -/
structure SetKind (τ : Type) (P : Program) (w : World) where
  O : Addr → τ → HO
  o0 : τ
  can : Hp → τ → V → Prop
  nxt : τ → V → τ → Prop
  new : ∀ (H : Hp) (h : Heap) (a : Addr), h.get? a = some (NS.set0 w) → ObjOk P w H h a (O a o0)
  add : ∀ (X : Cx) (pins : List (Addr × Obj)) (σ : L2.St) (H : Hp) (s : Shared) (E : Value → Shared → Prop) (a : Addr) (t : τ) (y : V) (u : Value) (Q : Value → Shared → Prop), X.prog = P → X.w = w → L2.Inv X pins σ H s → H a = some (O a t) → can H t y → L2.RelV y u → X.A.units + 16 < cLine →
    (∀ t' s', nxt t y t' → L2.Inv X pins σ (upd H a (O a t')) s' → Q .none s') → wpAny (model P w) X.A (call (.builtin "set.add") [.ref a, u]) Q E s
section
variable {τ : Type} {X : Cx}
def tScG {P : Program} {w : World} (Kd : SetKind τ P w) (wi : TI) (g : TG) (tt : TT) (te : TE) (vs : List Nat) : TE := fun σ H Q => wi σ H fun J H1 => ∀ D, H1 D = none → ∃ W : Nat → Nat → Hp → Prop, (∃ m, W 0 m (upd H1 D (Kd.O D Kd.o0))) ∧ ∀ i m H, W i m H →
  ((J.stop i H ∧ Q (.ref D) H)) ∨ (J.go i H ∧ ∃ Nx : Hp → Prop, (∀ H', Nx H' → ∃ m', m' < m ∧ W (i + 1) m' H') ∧ ∀ x H', J.yld i H x H' → g x (wipe σ vs) H' fun σ2 H2 => wipe σ2 vs = wipe σ vs ∧ tt σ2 H2 fun b H3 =>
    if b = true then te σ2 H3 fun y H4 => ∃ t, H4 D = some (Kd.O D t) ∧ Kd.can H4 t y ∧ ∀ t', Kd.nxt t y t' → Nx (upd H4 D (Kd.O D t')) else Nx H3)
theorem sc_coreG (Kd : SetKind τ X.prog X.w) {pins : List (Addr × Obj)} {s : Shared} {σ : L2.St} {H : Hp} {Q : VK} {elt tg iter : Expr} {ifs : List Expr} {scope : Scope} {own : List (PySem.Str × Nat)} {pos pos' : Pos} {wi : TI} {g : TG} {tt : TT} {te : TE} {use : Option (Value → Sem Unit)} {Qf : Value → Shared → Prop}
    (hu : X.A.units + 16 < cLine) (hc : X.calm = true) (hN : X.N.Nodup) (I : L2.Inv X pins σ H s) (hi : PI X tg iter wi) (ok : BlkOk X.N X.env.scope scope own) (hg : ∀ (s : Shared) (H : Hp) (C : Addr) (cl : List (PySem.Str × Addr)) (fp : List Addr), PG (X.blk s H scope (compEnvC scope cl C X.env) fp) tg g) (ht : ∀ (s : Shared) (H : Hp) (C : Addr) (cl : List (PySem.Str × Addr)) (fp : List Addr), PTs (X.blk s H scope (compEnvC scope cl C X.env) fp) ifs tt) (he : ∀ (s : Shared) (H : Hp) (C : Addr) (cl : List (PySem.Str × Addr)) (fp : List Addr), PE (X.blk s H scope (compEnvC scope cl C X.env) fp) elt te) (hs : ∀ x, foldedSetIterable iter X.env x = pure x)
    (h : tScG Kd wi g tt te (own.map (·.2)) σ H Q)
    (hend : ∀ D C s' m H', L2.Inv X pins σ H' s' → Q (.ref D) H' → s'.heap.Ns C m → FpOk X pins H' C → compPost (model X.prog X.w) X.A X.xe use Qf (.ref D) C (.ok .next) s') :
    wpAny (model X.prog X.w) (X.A) (comprehension (.SetComp elt [⟨tg, iter, ifs, 0⟩] scope pos) scope X.env pos' (newSet (.type "set")) false (eval iter X.env) use) Qf X.xe s := by
  have capt : ∀ y ∈ scope.names, y.2 = .free → ∃ c, X.env.cells.lookup y.1 = some c := fun y hy e => (ok.free y hy e).elim (fun k => I.ok.has _ (.inl k)) fun k => I.ok.has _ (.inr k)
  refine wpAny_comprehension_free (use := use) rfl hs (closure_ok capt) ok.kind (fun y hy e => by rw [ok.uniq y hy, e]) (thn (hi.run pins s σ H _ I h) fun xv s1 hx => thn hx fun itv s2 h2 => ?_); obtain ⟨it, fp, tn, J, H2, e, I2, T, tB, f2, q⟩ := h2
  subst e
  refine PpSet.newSet_ok (newEnv_comp ?_)
  generalize hDe : s2.heap.objs.size = D
  obtain ⟨W, ⟨m0, w0⟩, turn⟩ := q D (I2.hok.fresh (Nat.le_of_eq hDe))
  -- the set, empty
  generalize hs3 : ({ s2 with heap := s2.heap.push (NS.set0 X.w) } : Shared) = s3
  generalize hH3 : upd H2 D (Kd.O D Kd.o0) = H3 at w0
  have h3 : s3.heap = s2.heap.push (NS.set0 X.w) := by rw [← hs3]
  have I3 : L2.Inv X pins σ H3 s3 := by
    rw [← hs3, ← hH3]
    refine I2.laid (t' := s2.toks) (fun b o e => Heap.get?_push_of_some _ e) (Nat.le_of_eq hDe) (Kd.new _ _ _ ?_)
    rw [← hDe]; exact Heap.get?_push_size _ rfl
  have f3 : ∀ b ∈ fp, FpOk X pins H3 b ∧ b < s3.heap.objs.size := fun b hb => by
    obtain ⟨o, e, _⟩ := T.obj _ _ tB b hb
    have hlt := Heap.lt_size e; refine ⟨⟨?_, (f2 b hb).2⟩, by rw [h3, Heap.size_push]; exact Nat.lt_succ_of_lt hlt⟩
    rw [← hH3, upd_ne (by rw [← hDe]; exact Nat.ne_of_lt hlt)]; exact (f2 b hb).1
  have tC : tn 0 s3.heap := T.keep _ _ _ tB fun b _ o e => by rw [h3]; exact Heap.get?_push_of_some _ e
  generalize hcl : cellsFrom (s3.heap.objs.size + 1) scope.names (cloFrom X.env.cells scope.names []) = cl
  have Jd := block_start I3 ok hN f3
  rw [hcl] at Jd
  have pg := hg s3 H3 s3.heap.objs.size cl fp
  have pt := ht s3 H3 s3.heap.objs.size cl fp
  have pe := he s3 H3 s3.heap.objs.size cl fp
  have go : codeAny (model X.prog X.w) X.A (.compStart (.SetComp elt [⟨tg, iter, ifs, 0⟩] scope pos) 0 (.ref it) (.ref D) (compEnvC scope cl s3.heap.objs.size X.env)) (compPost (model X.prog X.w) X.A X.xe use Qf (.ref D) s3.heap.objs.size) { s3 with heap := pushCells (s3.heap.push { cls := .type "dict", data := .dict #[] }) scope.names } := by
    generalize hce : compEnvC scope cl s3.heap.objs.size X.env = ce at Jd pg pt pe ⊢
    have cLo : ce.locals = s3.heap.objs.size := by subst hce; rfl
    generalize hs4 : ({ s3 with heap := pushCells (s3.heap.push { cls := .type "dict", data := .dict #[] }) scope.names } : Shared) = s4 at Jd ⊢
    have tD : tn 0 s4.heap := T.keep _ _ _ tC fun b _ o e => by rw [← hs4]; exact pushCells_keeps _ _ _ _ (Heap.get?_push_of_some _ e)
    have stat : ∀ {σ' : L2.St} {H' : Hp} {s' : Shared}, L2.Inv (X.blk s3 H3 scope ce fp) [] σ' H' s' → (∀ b ∈ fp, H' b = none) → ∀ b ∈ fp, FpOk (X.blk s3 H3 scope ce fp) [] H' b := fun {σ' H' s'} Iz hn b hb =>
      ⟨hn b hb, (Iz.ok.exf b hb).1, Iz.ok.exfs b hb, .inl hb, fun x c e => (Iz.ok.exf b hb).2 x c e, fun p hp => absurd (show p ∈ ([] : List (Addr × Obj)) ++ [] from hp) (by simp)⟩
    have lp : codeAny (model X.prog X.w) X.A (.compLoop (.SetComp elt [⟨tg, iter, ifs, 0⟩] scope pos) 0 (.ref it) (.ref D) ce) (compPost (model X.prog X.w) X.A X.xe use Qf (.ref D) s3.heap.objs.size) s4 := by
      refine PpSet.compLoopS_any (fun n s' => ∃ i H', L2.Inv (X.blk s3 H3 scope ce fp) [] (wipe σ (own.map (·.2))) H' s' ∧ tn i s'.heap ∧ (∀ b ∈ fp, H' b = none) ∧ W i n H') ?_ m0 ⟨0, H3, Jd, tD, fun b hb => (f3 b hb).1.1, w0⟩
      rintro n s5 ⟨i, HE, I5, tE, nE, wE⟩
      rcases turn i n HE wE with ⟨stop, qq⟩ | ⟨go, Nx, hNz, step⟩
      · refine thnF (T.done (X.blk s3 H3 scope ce fp) rfl rfl rfl hc i [] s5 _ HE (fun _ _ => False) I5 (stat I5 nE) tE stop) fun r s6 ⟨hr, I6⟩ => ?_
        subst hr
        have I7 : L2.Inv X pins σ HE s6 := I3.call' (ch := fp) I6.os I6.base I6.hok I6.bare fun b hb => ⟨(f3 b hb).1.2.2.2.1, (f3 b hb).1.2.1, (f3 b hb).1.2.2.2.2.1, (f3 b hb).1.2.2.2.2.2⟩
        have nC : HE s3.heap.objs.size = none := cLo ▸ (show HE ce.locals = none from I6.free)
        obtain ⟨m, hn, _⟩ := I6.loc; have hn : s6.heap.Ns ce.locals m := hn
        rw [cLo] at hn
        exact hend D s3.heap.objs.size s6 m HE I7 qq hn (I3.fpOk (Nat.le_refl _) nC)
      · refine thnF (T.item (X.blk s3 H3 scope ce fp) rfl rfl rfl hc i [] s5 _ HE (fun _ _ => False) I5 (stat I5 nE) tE go) fun r s6 ⟨u, hr, h6⟩ => ?_
        subst hr; refine thnF h6 fun _ s7 ⟨x, H7, I7, r7, y7, tG, n7⟩ => ?_; have I7' := I7.pinned (stat I7 n7) (T.obj _ _ tG); refine thnF (pg.run _ s7 _ H7 x u _ I7' r7 (step x H7 y7)) fun _ s8 ⟨σE, H8, I8, hw8, q8⟩ => ?_; refine thnF (pt.run _ s8 σE H8 _ I8 q8) fun b s9 ⟨H9, I9, q9⟩ => ?_
        have fin : ∀ {s' : Shared} {H' : Hp}, L2.Inv (X.blk s3 H3 scope ce fp) ([] ++ pinsAt fp s7.heap) σE H' s' → Nx H' → ∃ m, m < n ∧ ∃ i H', L2.Inv (X.blk s3 H3 scope ce fp) [] (wipe σ (own.map (·.2))) H' s' ∧ tn i s'.heap ∧ (∀ b ∈ fp, H' b = none) ∧ W i m H' := fun {s' H'} Iz nx => by
          obtain ⟨m', hm, wz⟩ := hNz H' nx
          have pinz : ∀ b ∈ fp, ∀ o, s7.heap.get? b = some o → s'.heap.get? b = some o ∧ H' b = none := fun b hb o e =>
            let z := Iz.pin (b, o) (List.mem_append_right _ (List.mem_append_right _ (mem_pinsAt hb e)))
            ⟨z.1, z.2.1⟩
          have hl : (wipe σ (own.map (·.2))).length = σE.length := by rw [← hw8, wipe_length]
          refine ⟨m', hm, i + 1, H', (Iz.unpinned (pins := [])).weak hl (fun j v e => ?_), T.keep _ _ _ tG fun b hb o e => (pinz b hb o e).1, fun b hb => ?_, wz⟩
          · rw [← hw8] at e; exact (wipe_some e).1
          · obtain ⟨o, e, _⟩ := T.obj _ _ tG b hb; exact (pinz b hb o e).2
        cases b with
        | false => simp only [Bool.false_eq_true, if_false] at q9 ⊢; exact fin I9 q9
        | true =>
          simp only [if_true] at q9 ⊢
          refine thnF (pe.run _ s9 σE H9 _ I9 q9) fun z s10 ⟨yv, H10, I10, r10, t, hDt, hcan, nx⟩ => ?_
          exact Kd.add (X.blk s3 H3 scope ce fp) _ _ _ _ _ D t yv z _ rfl rfl I10 hDt hcan r10 hu fun t' s11 hn I11 => fin I11 (nx t' hn)
    exact PpSet.codeAny_compStart_set lp (T.self X.A 0 _ _ _ tD lp)
  exact go
theorem pe_scG (Kd : SetKind τ X.prog X.w) {elt tg iter : Expr} {ifs : List Expr} {scope : Scope} {own : List (PySem.Str × Nat)} {pos : Pos} {wi : TI} {g : TG} {tt : TT} {te : TE} (hu : X.A.units + 16 < cLine) (hc : X.calm = true) (hN : X.N.Nodup) (hi : PI X tg iter wi) (ok : BlkOk X.N X.env.scope scope own) (hg : ∀ (s : Shared) (H : Hp) (C : Addr) (cl : List (PySem.Str × Addr)) (fp : List Addr), PG (X.blk s H scope (compEnvC scope cl C X.env) fp) tg g) (ht : ∀ (s : Shared) (H : Hp) (C : Addr) (cl : List (PySem.Str × Addr)) (fp : List Addr), PTs (X.blk s H scope (compEnvC scope cl C X.env) fp) ifs tt) (he : ∀ (s : Shared) (H : Hp) (C : Addr) (cl : List (PySem.Str × Addr)) (fp : List Addr), PE (X.blk s H scope (compEnvC scope cl C X.env) fp) elt te) (hs : ∀ x, foldedSetIterable iter X.env x = pure x := by intro _; rfl) :
    PE X (.SetComp elt [⟨tg, iter, ifs, 0⟩] scope pos) (tScG Kd wi g tt te (own.map (·.2))) := by
  refine ⟨(fun pins s σ H Q I h => ?_)⟩
  rw [PpSet.eval_SetComp]
  refine sc_coreG Kd hu hc hN I hi ok hg ht he hs h fun D C s' m H' Iz q hn f => ⟨m, hn, fun h'' sb => ?_⟩; obtain ⟨f0, f1, f2, f3, f4, f5⟩ := f; exact ⟨.ref D, H', Iz.turned (t' := s'.toks) (fun b o hb e => (sb.2 b hb).trans e) f0 f1 f3 f4 f5, rfl, q⟩
end
end MR

/-! SComp2: len({text for ..}). -/
namespace MR
open L2 PySem PySem.Spec PyProof.Rows
/-- texts met, each once -/
def met (xs : List Str) (x : Str) : List Str := if x ∈ xs then xs else xs ++ [x]
abbrev txS (xs : List Str) : Key → Bool := fun k => xs.any fun x => decide (k = Sum.inr x)
theorem txS_iff {xs : List Str} {x : Str} : txS xs (.inr x) = true ↔ x ∈ xs := by
  unfold txS
  rw [List.any_eq_true]
  exact ⟨fun ⟨y, hy, e⟩ => by rw [Sum.inr.inj (of_decide_eq_true e)]; exact hy, fun h => ⟨x, h, decide_eq_true rfl⟩⟩
theorem txS_met (xs : List Str) (x : Str) : (fun k => txS xs k || decide (k = Sum.inr x)) = txS (met xs x) := by
  funext k
  unfold met
  by_cases h : x ∈ xs
  · rw [if_pos h]
    by_cases hk : k = .inr x
    · subst hk
      rw [txS_iff.mpr h]; rfl
    · rw [decide_eq_false hk, Bool.or_false]
  · rw [if_neg h]
    simp [txS, List.any_append]
theorem met_len (xs : List Str) (x : Str) : (if txS xs (.inr x) = true then xs.length else xs.length + 1) = (met xs x).length := by
  unfold met
  by_cases h : x ∈ xs
  · rw [if_pos h, if_pos (txS_iff.mpr h)]
  · rw [if_neg h, if_neg (fun q => h (txS_iff.mp q))]; simp
theorem set0_of (P : Program) (w : World) {h : Heap} {a : Addr} (ha : h.get? a = some (NS.set0 w)) : h.SetOf (mixKind P w) a (txS []) 0 :=
  ⟨_, #[], 0, _, ha, ⟨rfl, rfl, rfl⟩, rfl, (fun e he => by simp at he), (fun k => by simp [txS]), (by decide), (by rfl), rfl⟩
def txKind (P : Program) (w : World) : SetKind (List Str) P w where
  O a xs := SetK P w a (txS xs) xs.length
  o0 := []
  can _ xs y := ∃ x, y = .str x ∧ xs.length + 1 < scanBound
  nxt xs y xs' := ∀ x, y = .str x → xs' = met xs x
  new H h a ha := setK_new (set0_of P w ha)
  add := by
    rintro X pins σ H s E a xs y u Q rfl rfl I ha ⟨x, rfl, room⟩ ry hu h
    refine call_set_add (k := (Sum.inr x : Key)) (kV_is ry) (key_scan (k := Sum.inr x) ry) (setK_get I ha) room fun h' sb new => ?_
    rw [txS_met, met_len] at new
    have he : (∃ u, h'.get? a = some u) := by
      have ⟨o, _, _, _, ho, _⟩ := (new)
      exact ⟨o, ho⟩
    exact h (met xs x) _ (fun x' e => by cases e; rfl) (I.write (e := a) (t' := s.toks + 1) (by rw [ha]; trivial) (.inl rfl) (fun b u hb hu => (sb.2 b hb).trans hu) he (setK_new new))
def rLenTx (P : Program) (w : World) : List V → Hp → VK → Prop := fun vs H Q => ∃ a xs, vs = [.ref a] ∧ H a = some ((txKind P w).O a xs) ∧ xs.length < scanBound ∧ Q (.int (xs.length : Nat)) H
theorem cr_lenTx {X : Cx} : CallR X (.builtin "len") (rLenTx X.prog X.w) := by
  intro pins s σ H vs us; intro Q I r h
  obtain ⟨a, xs, rfl, ha, hz, q⟩ := h
  cases r with | cons r1 r2 =>
  cases r2; cases r1
  obtain ⟨o, es, ep, t, ho, hex, hd, _, _, _, hf, hn⟩ := setK_get I ha
  exact call_len_set ho hex hd hf (by rw [hn]; have : scanBound = 4096 := rfl; omega) ⟨.int (xs.length : Nat), H, I.tok _, ⟨_, by rw [hn]⟩, q⟩
section
variable {G : Gx} {ρ : List Addr} {H : Hp}
/-- a thing at p that the memory does not know, beside what goes on -/
structure Sx (K : PySem.W.Frag) (p : Addr) (ρ : List Addr) (H : Hp) (ρ' : List Addr) (H' : Hp) : Prop where
  ext : Ext K ρ H ρ' H'
  out : p ∉ ρ'
  fre : H p = none
section
variable {K : PySem.W.Frag} {p : Addr} {ρ' ρ2 : List Addr} {H' H2 : Hp} {φ ψ : Heap → Prop} {μ : Mem}
theorem Sx.start {o : HO} (e : Ext K ρ H ρ (upd H p o)) (hp : H p = none) (h : p ∉ ρ) : Sx K p ρ H ρ (upd H p o) := ⟨e, h, hp⟩
theorem Sx.then_ {u : HO} (x : Sx K p ρ H ρ' H') (e : Ext K ρ' H' ρ2 H2) (hp : H' p = some u) : Sx K p ρ H ρ2 H2 := by
  refine ⟨x.ext.trans e, fun h => ?_, x.fre⟩
  by_cases q : p ∈ ρ'
  · exact x.out q
  · have z := e.new p h q
    rw [hp] at z; cases z
theorem Sx.keeps {u : HO} (x : Sx K p ρ H ρ' H') (e : Ext K ρ' H' ρ2 H2) (hp : H' p = some u) : H2 p = some u := e.oth p u (x.then_ e hp).out hp
theorem Sx.upd (x : Sx K p ρ H ρ' H') (o : HO) (hp : H' p = some (.ext φ)) : Sx K p ρ H ρ' (upd H' p o) := by
  refine ⟨⟨x.ext.pre, fun a xs h => ?_, fun a xs h => ?_, fun a u ha h => ?_, x.ext.new⟩, x.out, x.fre⟩
  · have h1 := x.ext.tup a xs h
    rcases h1 with (h1 | ⟨u, h1⟩) | h1
    · exact .inl (.inl (by rw [upd_ne (ne_of h1 hp (by intro z; cases z))]; exact h1))
    · exact .inl (.inr ⟨u, by rw [upd_ne (ne_of h1 hp (by intro z; cases z))]; exact h1⟩)
    · exact .inr h1
  · have h1 := x.ext.fro a xs h
    rcases h1 with ⟨u, h1⟩ | h1
    · exact .inl ⟨u, by rw [upd_ne (ne_of h1 hp (by intro z; cases z))]; exact h1⟩
    · exact .inr h1
  · have ne : a ≠ p := fun e => by rw [e, x.fre] at h; cases h
    rw [upd_ne ne]; exact x.ext.oth a u ha h
theorem Sx.mem {G : Gx} (x : Sx G.K p ρ H ρ' H') (M : MemOk G ρ' H' μ) (o : HO) (hp : H' p = some (.ext φ)) : MemOk G ρ' (L2.upd H' p o) μ := by
  have e : Ex0 G.K ρ' H' ρ' (L2.upd H' p o) := by
    refine ⟨fun _ _ h => h, fun a xs h1 => ?_, fun a xs h1 => ?_⟩
    · rcases h1 with (h1 | ⟨u, h1⟩) | h1
      · exact .inl (.inl (by rw [upd_ne (ne_of h1 hp (by intro z; cases z))]; exact h1))
      · exact .inl (.inr ⟨u, by rw [upd_ne (ne_of h1 hp (by intro z; cases z))]; exact h1⟩)
      · exact .inr h1
    · rcases h1 with ⟨u, h1⟩ | h1
      · exact .inl ⟨u, by rw [upd_ne (ne_of h1 hp (by intro z; cases z))]; exact h1⟩
      · exact .inr h1
  refine ⟨M.len, M.inj, fun n a ob h1 h2 => ?_⟩
  have ne : a ≠ p := fun q => x.out (q ▸ List.mem_of_getElem? h1)
  exact ob_keep e (upd_ne ne) (M.ob n a ob h1 h2)
end
open Classical in
noncomputable def setGo (c : Option (Nat × List D)) (g : MTg) (tt : MTs) (e : MEx) (env : Sl) : List D → List Str → Mem → Option (List Str × Mem)
  | [], xs, μ => if still c μ then some (xs, μ) else none
  | x :: r, xs, μ => if still c μ then match g x env μ with
      | some (env1, μ1) => match tt env1 μ1 with
        | some (false, μ2) => setGo c g tt e env r xs μ2
        | some (true, μ2) => match e env1 μ2 with
          | some (.str z, μ3) => if xs.length + 1 < 4096 then setGo c g tt e env r (met xs z) μ3 else none
          | _ => none
        | none => none
      | none => none
    else none
noncomputable def mLenSc (it : MIt) (g : MTg) (tt : MTs) (e : MEx) (vs : List Nat) : MEx := fun env μ => match it env μ with
  | some (xs, c, μ1) => match setGo c g tt e (wipeD env vs) xs [] μ1 with
    | some (zs, μ2) => some (.int (zs.length : Nat), μ2)
    | none => none
  | none => none
theorem met_lt {xs : List Str} {x : Str} (h : xs.length + 1 < 4096) : (met xs x).length < 4096 := by
  unfold met
  split
  · omega
  · simp; omega
theorem re_lenSc {P : Program} {w : World} {wi : TI} {g : TG} {tt : TT} {te : TE} {vs : List Nat} {it : MIt} {gm : MTg} {tm : MTs} {em : MEx} (hi : RI G wi it) (hg : RG G g gm) (kg : Kps vs g) (mgg : MonG g) (ht : RT G tt tm) (he : RE G te em) :
    RE G (tCB (rLenTx P w) (tCons (tScG (txKind P w) wi g tt te vs) tNil)) (mLenSc it gm tm em vs) := by
  intro ρ σ H env μ d μ' Q M S h p
  unfold mLenSc at h
  split at h
  · rename_i xs c μ1 h1
    split at h
    · rename_i zs μf h2
      cases h
      refine hi ρ σ H env μ _ _ M S h1 fun ρ1 H1 J e1 M1 J1 Dl hD => ?_
      have e0 : Ext G.K ρ1 H1 ρ1 (upd H1 Dl ((txKind P w).O Dl [])) := ext_new hD
      have nin : Dl ∉ ρ1 := M1.ne hD
      refine ⟨fun i m H' => i ≤ xs.length ∧ m = xs.length - i ∧ ∃ ρ' acc μ2, Sx G.K Dl ρ1 H1 ρ' H' ∧ MemOk G ρ' H' μ2 ∧ H' Dl = some ((txKind P w).O Dl acc) ∧ acc.length < 4096 ∧ setGo c gm tm em (wipeD env vs) (xs.drop i) acc μ2 = some (zs, μ'),
        ⟨xs.length, Nat.zero_le _, rfl, ρ1, [], μ1, Sx.start e0 hD nin, M1.new hD, upd_same, by decide, h2⟩, ?_⟩
      rintro i m H2 ⟨hil, hm, ρ2, acc, μ2, x2, M2, a2, l2, f⟩
      subst hm
      have e2 := x2.ext
      have S2 : SlOk G ρ2 H2 (wipe σ vs) (wipeD env vs) := sl_wipe (S.mono (e1.trans e2)) vs
      cases hd : xs.drop i with
      | nil =>
        have hle : xs.length ≤ i := by simpa using hd
        have hii : i = xs.length := by omega
        rw [hd, setGo] at f
        split at f
        · rename_i hst
          cases f
          refine .inl ⟨?_, ⟨Dl, _, rfl, a2, l2, p ρ2 H2 _ (e1.trans e2) M2 .int⟩⟩
          rw [hii]
          exact (J1 ρ2 H2 _ e2 M2 hst).2
        · cases f
      | cons z rest =>
        obtain ⟨hx, hr, hl⟩ := drop_cons hd
        rw [hd, setGo] at f
        split at f
        · rename_i hst
          obtain ⟨hgo, hy⟩ := (J1 ρ2 H2 μ2 e2 M2 hst).1 i z hx
          refine .inr ⟨hgo, fun H' => i + 1 ≤ xs.length ∧ ∃ ρ' acc μ2, Sx G.K Dl ρ1 H1 ρ' H' ∧ MemOk G ρ' H' μ2 ∧ H' Dl = some ((txKind P w).O Dl acc) ∧ acc.length < 4096 ∧ setGo c gm tm em (wipeD env vs) (xs.drop (i + 1)) acc μ2 = some (zs, μ'),
            fun H' hN => ⟨xs.length - (i + 1), by omega, hN.1, rfl, hN.2⟩, fun v H3 hyl => ?_⟩
          obtain ⟨e3, M3, dv⟩ := hy v H3 hyl
          split at f
          · rename_i env4 μ4 hg4
            refine mgg _ _ _ _ _ (fun σ' H' z => ?_) (kg _ _ _ _ (hg ρ2 (wipe σ vs) H3 (wipeD env vs) μ2 v _ _ (fun σ4 H4 => ∃ ρ4, Ext G.K ρ2 H3 ρ4 H4 ∧ MemOk G ρ4 H4 μ4 ∧ SlOk G ρ4 H4 σ4 env4) M3 (S2.mono e3) dv hg4 fun ρ4 H4 σ4 e4 M4 S4 => ⟨ρ4, e4, M4, S4⟩))
            obtain ⟨zw, ρ4, e4, M4, S4⟩ := z
            refine ⟨zw.trans (wipe_wipe vs vs σ fun _ h => h), ?_⟩
            split at f
            · rename_i μ5 h5
              exact ht ρ4 σ' H' env4 μ4 _ _ _ M4 S4 h5 fun ρ5 H5 e5 M5 => ⟨by omega, ρ5, acc, μ5, x2.then_ ((e3.trans e4).trans e5) a2, M5, x2.keeps ((e3.trans e4).trans e5) a2, l2, by rw [hr]; exact f⟩
            · rename_i μ5 h5
              refine ht ρ4 σ' H' env4 μ4 _ _ _ M4 S4 h5 fun ρ5 H5 e5 M5 => ?_
              split at f
              · rename_i z6 μ6 h6
                split at f
                · rename_i hsz
                  refine he ρ5 σ' H5 env4 μ5 _ μ6 _ M5 (S4.mono e5) h6 fun ρ6 H6 y e6 M6 d6 => ?_
                  cases d6
                  have e26 := ((e3.trans e4).trans e5).trans e6
                  have a6 := x2.keeps e26 a2
                  refine ⟨acc, a6, ⟨_, rfl, hsz⟩, fun t' hn => ?_⟩
                  obtain rfl := hn _ rfl
                  have x6 := x2.then_ e26 a2
                  exact ⟨by omega, ρ6, met acc z6, μ6, x6.upd _ a6, x6.mem M6 _ a6, upd_same, met_lt hsz, by rw [hr]; exact f⟩
                · cases f
              · cases f
            · cases f
          · cases f
        · cases f
    · cases h
  · cases h
end
end MR

/-! MR8: objects: fields, making; what is never come to; starred items. -/
namespace MR
open PySem L2
section
variable {G : Gx} {ρ ρ' : List Addr} {H H' : Hp} {σ : L2.St} {env : Sl} {μ μ' : Mem} {d : D} {Q : VK} {x y v : V}
theorem ps_none {X : Cx} {st : Stmt} : PS X st (fun _ _ _ => False) := ⟨fun _ _ _ _ _ _ h => h.elim⟩
def lookD (f : Str) : List (Str × D) → Option D
  | [] => none
  | (g, d) :: r => if f = g then some d else lookD f r
theorem flds_look {f : Str} : ∀ {vs : List (Str × V)} {ds : List (Str × D)} {d : D}, Flds G ρ H vs ds → lookD f ds = some d → ∃ v, vs.lookup f = some v ∧ Den G ρ H v d
  | _, [], _, .nil, h => by cases h
  | _, (g, e) :: r, d, .cons (v := v) (vs := vs) h t, e2 => by
    unfold lookD at e2
    by_cases hf : f = g
    · rw [if_pos hf] at e2
      cases e2
      exact ⟨v, by subst hf; simp [List.lookup], h⟩
    · rw [if_neg hf] at e2
      obtain ⟨u, h1, h2⟩ := flds_look t e2
      refine ⟨u, ?_, h2⟩
      have : (f == g) = false := by simpa using hf
      simp [List.lookup, this, h1]
def putD (f : Str) (d : D) : List (Str × D) → List (Str × D)
  | [] => [(f, d)]
  | (g, e) :: r => if g = f then (g, d) :: r else (g, e) :: putD f d r
theorem flds_put {f : Str} : ∀ {vs : List (Str × V)} {ds : List (Str × D)}, Flds G ρ H vs ds → Den G ρ H v d → Flds G ρ H (putF f v vs) (putD f d ds)
  | _, [], .nil, h => .cons h .nil
  | _, (g, e) :: r, .cons (v := u) (vs := vs) h t, q => by
    unfold putD
    show Flds G ρ H (if g = f then (g, v) :: vs else (g, u) :: putF f v vs) _
    by_cases hg : g = f
    · rw [if_pos hg, if_pos hg]; exact .cons q t
    · rw [if_neg hg, if_neg hg]; exact .cons h (flds_put t q)
theorem flds_len : ∀ {vs : List (Str × V)} {ds : List (Str × D)}, Flds G ρ H vs ds → vs.length = ds.length
  | _, _, .nil => rfl
  | _, _, .cons _ t => by simp [flds_len t]
def mFld (c : Nat) (f : Str) (a : MEx) : MEx := fun env μ => match a env μ with
  | some (.ref n, μ1) => match μ1[n]? with
    | some (.ins c' fs) => if c' = c then (lookD f fs).map (·, μ1) else none
    | _ => none
  | _ => none
theorem re_fld {c : Nat} {f : Str} {t : TE} {a : MEx} (cl : Cls G.K (G.cA c)) (na : NoAttr G.K (G.cA c) f) (ha : RE G t a) : RE G (tFld G.K t f) (mFld c f a) := by
  intro ρ σ H env μ d μ' Q M S h p
  unfold mFld at h
  split at h
  · rename_i n μ1 h1
    split at h
    · rename_i c' fs hm
      split at h
      · rename_i hc
        subst hc
        simp only [Option.map_eq_some_iff, Prod.mk.injEq] at h
        obtain ⟨z, hz, rfl, rfl⟩ := h
        refine ha ρ σ H env μ _ _ _ M S h1 fun ρ1 H1 v e1 M1 d1 => ?_
        cases d1 with | ref r1 =>
        obtain ⟨dx, vs, ho, t⟩ := M1.ob _ _ _ r1 hm
        obtain ⟨u, hu, du⟩ := flds_look t hz
        exact ⟨_, _, dx, vs, u, rfl, ho, cl, na, hu, p ρ1 H1 _ e1 M1 du⟩
      · cases h
    · cases h
  · cases h
/-- an object written -/
theorem ext_setI {n c : Nat} {p : Addr} {o : HO} {fs : List (Str × D)} (M : MemOk G ρ H μ) (hr : ρ[n]? = some p) (hm : μ[n]? = some (.ins c fs)) {K : PySem.W.Frag} : Ext K ρ H ρ (upd H p o) := by
  obtain ⟨dx, vs, h, _⟩ := M.ob n p _ hr hm
  exact ⟨⟨[], by simp⟩, fun _ _ q => sqt_upd (.inr (.inr ⟨_, _, _, h⟩)) q, fun _ _ q => sqf_upd (.inr (.inr ⟨_, _, _, h⟩)) q, fun a u ha q => by rw [upd_ne (show a ≠ p from fun e => ha (by rw [e]; exact List.mem_of_getElem? hr))]; exact q, fun _ h h' => absurd h h'⟩
theorem MemOk.setI (M : MemOk G ρ H μ) {n c : Nat} {p dx : Addr} {fs fs' : List (Str × D)} {vs' : List (Str × V)} (hr : ρ[n]? = some p) (hm : μ[n]? = some (.ins c fs)) (hd : Flds G ρ H vs' fs') : MemOk G ρ (upd H p (.ins (G.cA c) dx vs')) (μ.set n (.ins c fs')) := by
  refine ⟨by simp [M.len], M.inj, fun k a ob h1 h2 => ?_⟩
  have e := ext_setI (K := G.K) (o := .ins (G.cA c) dx vs') M hr hm
  by_cases hk : k = n
  · subst hk
    rw [hr] at h1; cases h1
    rw [List.getElem?_set_self (List.getElem?_eq_some_iff.mp hm).1] at h2
    cases h2
    exact ⟨dx, vs', upd_same, hd.mono0 e.ex⟩
  · rw [List.getElem?_set_ne (Ne.symm hk)] at h2
    have ne : a ≠ p := fun q => hk (M.inj k n a h1 (by rw [hr, q]))
    exact ob_keep e.ex (upd_ne ne) (M.ob k a ob h1 h2)
def mSfld (c : Nat) (f : Str) (o v : MEx) : MSt := fun env μ => match v env μ with
  | some (d, μ1) => match o env μ1 with
    | some (.ref n, μ2) => match μ2[n]? with
      | some (.ins c' fs) => if c' = c ∧ fs.length < 1000 then some (.nx, env, μ2.set n (.ins c (putD f d fs))) else none
      | _ => none
    | _ => none
  | none => none
theorem rs_sfld {c : Nat} {f : Str} {ta tv : TE} {o v : MEx} (cl : Cls G.K (G.cA c)) (na : NoAttr G.K (G.cA c) f) (ho : RE G ta o) (hv : RE G tv v) : RS G (sFld G.K ta tv f) (mSfld c f o v) := by
  intro ρ σ H env μ r E M S h p
  unfold mSfld at h
  split at h
  · rename_i d μ1 h1
    split at h
    · rename_i n μ2 h2
      split at h
      · rename_i c' fs hm
        split at h
        · rename_i hc
          obtain ⟨rfl, hl⟩ := hc
          cases h
          refine hv ρ σ H env μ d μ1 _ M S h1 fun ρ1 H1 y e1 M1 d1 => ?_
          refine ho ρ1 σ H1 env μ1 _ μ2 _ M1 (S.mono e1) h2 fun ρ2 H2 x e2 M2 d2 => ?_
          cases d2 with | ref r1 =>
          obtain ⟨dx, vs, hob, t⟩ := M2.ob _ _ _ r1 hm
          have e3 := ext_setI (K := G.K) (o := .ins (G.cA c') dx (putF f y vs)) M2 r1 hm
          exact ⟨_, _, dx, vs, rfl, hob, cl, na, by rw [flds_len t]; exact hl, p ρ2 _ σ ((e1.trans e2).trans e3) (M2.setI r1 hm (flds_put t (d1.mono e2))) (S.mono ((e1.trans e2).trans e3))⟩
        · cases h
      · cases h
    · cases h
  · cases h
/-- C(.., k = ..) -/
def madeD (c k : Nat) (f : List D → Mem → Option (D × Mem)) (ds : List D) (μ : Mem) : Option (D × Mem) :=
  if ds.length + 1 = k then match f (.ref μ.length :: ds) (μ ++ [.ins c []]) with
    | some (.non, μ') => some (.ref μ.length, μ')
    | _ => none
  else none
theorem made {c k : Nat} {f} {ds : List D} {vs : List V} {d : D} {E : XK} (M : MemOk G ρ H μ) (dn : Dens G ρ H vs ds) (h : madeD c k f ds μ = some (d, μ')) (p : Post G ρ H d μ' Q) :
    ∀ x dx, H x = none → H dx = none → dx ≠ x → spM G f k (.ref x :: vs) (upd (upd H dx (.own x)) x (.ins (G.cA c) dx [])) (fun v H3 => v = .non ∧ Q (.ref x) H3) E := by
  intro x dx hx hdx ne
  unfold madeD at h
  split at h
  · rename_i hk
    split at h
    · rename_i μ1 hf
      cases h
      have e0 : Ext G.K ρ H ρ (upd H dx (.own x)) := ext_new hdx
      have hx' : (upd H dx (.own x)) x = none := by rw [upd_ne (Ne.symm ne)]; exact hx
      have e1 : Ext G.K ρ (upd H dx (.own x)) (ρ ++ [x]) (upd (upd H dx (.own x)) x (.ins (G.cA c) dx [])) := ext_push hx'
      have M1 : MemOk G (ρ ++ [x]) (upd (upd H dx (.own x)) x (.ins (G.cA c) dx [])) (μ ++ [.ins c []]) := (M.new hdx).push hx' ⟨dx, [], upd_same, .nil⟩
      have hat : (ρ ++ [x])[μ.length]? = some x := by rw [← M.len]; simp
      refine ⟨ρ ++ [x], μ ++ [.ins c []], .ref μ.length :: ds, .non, μ', M1, .cons (.ref hat) (dn.mono (e0.trans e1)), by simpa using hk, hf, fun ρ2 H2 v e2 M2 d2 => ?_⟩
      cases d2
      exact ⟨rfl, p ρ2 H2 _ ((e0.trans e1).trans e2) M2 (.ref (e2.at_ hat))⟩
    · cases h
  · cases h
def mMake (c k : Nat) (f : List D → Mem → Option (D × Mem)) (r : MAr) : MEx := fun env μ => match r env μ with
  | some (ds, μ1) => madeD c k f ds μ1
  | none => none
theorem re_make {c k : Nat} {f} {E : XK} {t : TA} {r : MAr} {dvs : List V} {dds : List D} (hd : ∀ ρ H, Dens G ρ H dvs dds) (hr : RA G t r) : RE G (tMake (G.cA c) (spM G f k) dvs E t) (mMake c k (fun ds => f ds) (fun env μ => match r env μ with
    | some (ds, μ1) => some (ds ++ dds, μ1)
    | none => none)) := by
  intro ρ σ H env μ d μ' Q M S h p
  unfold mMake at h
  split at h
  · rename_i ds μ1 h1
    dsimp only at h1
    split at h1
    · rename_i ds0 μ0 h0
      cases h1
      exact hr ρ σ H env μ ds0 _ _ M S h0 fun ρ1 H1 vs e1 M1 d1 => made M1 (d1.app (hd ρ1 H1)) h (p.of e1)
    · cases h1
  · cases h
def mMakeK (c k n m : Nat) (f : List D → Mem → Option (D × Mem)) (r q : MAr) : MEx := fun env μ => match r env μ with
  | some (ds, μ1) => match q env μ1 with
    | some (es, μ2) => if ds.length = n ∧ es.length = m then madeD c k f (ds ++ es) μ2 else none
    | none => none
  | none => none
theorem re_makeK {c k n m : Nat} {f} {E : XK} {t tk : TA} {r q : MAr} (hr : RA G t r) (hq : RA G tk q) : RE G (tMakeK (G.cA c) n m (spM G f k) (fun vs zs => vs ++ zs) E t tk) (mMakeK c k n m f r q) := by
  intro ρ σ H env μ d μ' Q M S h p
  unfold mMakeK at h
  split at h
  · rename_i ds μ1 h1
    split at h
    · rename_i es μ2 h2
      split at h
      · rename_i hl
        refine hr ρ σ H env μ ds μ1 _ M S h1 fun ρ1 H1 vs e1 M1 d1 => ?_
        refine hq ρ1 σ H1 env μ1 es μ2 _ M1 (S.mono e1) h2 fun ρ2 H2 zs e2 M2 d2 => ?_
        exact ⟨by rw [d1.len]; exact hl.1, by rw [d2.len]; exact hl.2, made M2 ((d1.mono e2).app d2) h (p.of (e1.trans e2))⟩
      · cases h
    · cases h
  · cases h
/-- a class of the text whose __init__ keeps the promise of f; ks its keyword-only parameters' defaults -/
def Dc (P : Program) (w : World) (G : Gx) (mg : Str → Option Value) (base : Heap) (x : Str) (c k : Nat) (ps : List Str) (f : List D → Mem → Option (D × Mem)) (n : Nat) (ks : List Str) (dvs : List V) : Prop :=
  G.cA c = He.ga G.K x ∧ mg x = some (.ref (He.ga G.K x)) ∧ ∃ fd, FnOk P w G.K mg base CX0 k (He.ma G.K (He.ga G.K x) "__init__") fd ps (spM G f ps.length) ∧ Mk G.K (He.ga G.K x) (He.ma G.K (He.ga G.K x) "__init__") ∧
    (∃ g, KBn G.K fd ps (n + 1) ks g (fun vs zs => vs ++ zs)) ∧ (∃ ds, Vals dvs ds ∧ Binds G.K fd ps ds)
theorem dc_make {X : Cx} {ca : Nat → Addr} {c k n m : Nat} {x : Str} {ps ks : List Str} {f} {dvs : List V} {p pos : Pos} {e : Expr} {es : List Expr} {t : TA} (Dd : Dc X.prog X.w ⟨X.K, ca⟩ X.mg X.base x c k ps f n ks dvs) (hr : Room (k + 1) X.A) (hg : Gl X x) (ha : PA X (e :: es) t)
    (hn : ps.length = m := by rfl) (hdb : (x == ("__debug__" : Str)) = false := by decide) (he : starEach (e :: es) X.env = (false, eval e X.env) :: starEach es X.env := by rfl) (hpl : ((backTo pos (starEach es X.env)).any (·.1)) = false := by rfl) :
    PE X (.Call (.Name x p) (e :: es) [] pos) (tMake (ca c) (spM ⟨X.K, ca⟩ f m) dvs E0 t) := by
  subst hn
  obtain ⟨hc, hm, fd, hF, M, _, ds, hv, hB⟩ := Dd
  have hc' : ca c = He.ga X.K x := hc
  rw [hc']
  exact pe_make M hF hr hg hm hB hv pass0 ha hdb he hpl
theorem dc_makeK {X : Cx} {ca : Nat → Addr} {c k n m j : Nat} {x : Str} {ps ks : List Str} {f} {dvs : List V} {p pos : Pos} {e : Expr} {es : List Expr} {kws : List Keyword} {t tk : TA} (Dd : Dc X.prog X.w ⟨X.K, ca⟩ X.mg X.base x c k ps f n ks dvs) (hr : Room (k + 1) X.A) (hg : Gl X x) (ha : PA X (e :: es) t) (hkw : PK X kws tk)
    (hn : ps.length = m := by rfl) (hj : ks.length = j := by rfl) (hall : (backToKw pos (keywordEach kws X.env)).all (·.1.isSome) = true := by rfl) (hks : (backToKw pos (keywordEach kws X.env)).filterMap (·.1) = ks := by rfl) (hdb : (x == ("__debug__" : Str)) = false := by decide) (he : starEach (e :: es) X.env = (false, eval e X.env) :: starEach es X.env := by rfl) (hpl : ((backTo pos (starEach (e :: es) X.env)).any (·.1) || (backToKw pos (keywordEach kws X.env)).any (·.1.isNone)) = false := by rfl) :
    PE X (.Call (.Name x p) (e :: es) kws pos) (tMakeK (ca c) n j (spM ⟨X.K, ca⟩ f m) (fun vs zs => vs ++ zs) E0 t tk) := by
  subst hn; subst hj
  obtain ⟨hc, hm, fd, hF, M, ⟨g, hK⟩, _⟩ := Dd
  have hc' : ca c = He.ga X.K x := hc
  rw [hc']
  exact pe_makeK M hF hr hg hm hK pass0 ha hkw hall hks hdb he hpl
/-! ### starred items -/
def mStar (a : MEx) (r : MAr) : MAr := fun env μ => match a env μ with
  | some (x, μ1) => match seqAt μ1 x with
    | some xs => match r env μ1 with
      | some (ys, μ2) => some (xs ++ ys, μ2)
      | none => none
    | none => none
  | none => none
theorem ra_star {te : TE} {t : TA} {a : MEx} {r : MAr} (ha : RE G te a) (hr : RA G t r) : RA G (StX.tStar G.K te t) (mStar a r) := by
  intro ρ σ H env μ ds μ' Q M S h p
  unfold mStar at h
  split at h
  · rename_i x μ1 h1
    split at h
    · rename_i xs hx
      split at h
      · rename_i ys μ2 h2
        cases h
        refine ha ρ σ H env μ _ _ _ M S h1 fun ρ1 H1 v e1 M1 d1 => ?_
        obtain ⟨a, vs, rfl, sq, dv⟩ := seqAt_sq M1 d1 hx
        refine ⟨a, vs, rfl, sq.symm, ?_⟩
        exact hr ρ1 σ H1 env μ1 _ _ _ M1 (S.mono e1) h2 fun ρ2 H2 us e2 M2 d2 => p ρ2 H2 _ (e1.trans e2) M2 ((dv.mono e2).app d2)
      · cases h
    · cases h
  · cases h
end
end MR

/-! MR9: enumerate, zip of tuples. -/
namespace MR
open PySem L2
section
variable {G : Gx} {ρ ρ' : List Addr} {H H' : Hp} {σ : L2.St} {env : Sl} {μ μ' : Mem} {d : D} {Q : VK} {x y v : V}
theorem enumD_at {xs : List D} {i : Nat} {d : D} (h : (enumD xs)[i]? = some d) : ∃ x, xs[i]? = some x ∧ d = .tup [.int (i : Nat), x] := by
  unfold enumD at h
  rw [List.getElem?_zipWith] at h
  cases hx : xs[i]? with
  | none =>
    rw [hx] at h
    cases hr : (List.range xs.length)[i]? <;> rw [hr] at h <;> cases h
  | some x =>
    have hi := (List.getElem?_eq_some_iff.mp hx).1
    rw [hx, List.getElem?_range hi] at h
    cases h
    exact ⟨x, rfl, rfl⟩
theorem enumD_len (xs : List D) : (enumD xs).length = xs.length := by simp [enumD]
theorem mk_tup {vs : List V} {ds : List D} {T : Addr} (M : MemOk G ρ H μ) (hT : H T = none) (h : Dens G ρ H vs ds) : Ext G.K ρ H ρ (upd H T (.tup vs)) ∧ MemOk G ρ (upd H T (.tup vs)) μ ∧ Den G ρ (upd H T (.tup vs)) (.ref T) (.tup ds) := by
  have e : Ext G.K ρ H ρ (upd H T (.tup vs)) := ext_new hT
  exact ⟨e, M.new hT, .tup (.inl (.inl upd_same)) (h.mono e)⟩
theorem ri_e {t : TA} {r : MAr} (hr : RA G t r) : RI G (iEnum G.K t) (iE r) := by
  intro ρ σ H env μ r' R M S h p
  unfold iE at h
  split at h
  · rename_i xs μ1 h1
    cases h
    refine hr ρ σ H env μ _ μ1 _ M S h1 fun ρ1 H1 vs e1 M1 dv => ?_
    cases dv with | cons d1 tl =>
    cases tl
    cases d1 with | scr s t =>
    rename_i a us
    refine ⟨a, us, rfl, s.sq, p ρ1 H1 _ e1 M1 fun ρ2 H2 μ2 e2 M2 _ => ⟨fun i d hd => ?_, ?_⟩⟩
    · obtain ⟨x, hx, rfl⟩ := enumD_at hd
      obtain ⟨v, hv, dv⟩ := t.get hx
      have s2 := (e2.fro _ _ s).sq
      refine ⟨⟨us, v, s2, hv⟩, fun z H' hy => ?_⟩
      obtain ⟨T, u, rfl, hT, rfl, hx'⟩ := hy
      have q := hx' us s2
      rw [hv] at q; cases q
      exact mk_tup M2 hT (.cons .int (.cons (dv.mono e2) .nil))
    · exact ⟨us, (e2.fro _ _ s).sq, by rw [enumD_len, t.len]; exact Nat.le_refl _⟩
  · rename_i n μ1 h1
    split at h
    · rename_i xs hm
      cases h
      refine hr ρ σ H env μ _ μ1 _ M S h1 fun ρ1 H1 vs e1 M1 dv => ?_
      cases dv with | cons d1 tl =>
      cases tl
      cases d1 with | ref r1 =>
      rename_i a
      obtain ⟨us, hv, t⟩ := M1.ob _ _ _ r1 hm
      refine ⟨a, us, rfl, .inl (.inl hv), p ρ1 H1 _ e1 M1 fun ρ2 H2 μ2 e2 M2 st => ?_⟩
      obtain ⟨us2, hu, t2⟩ := M2.ob _ _ _ (e2.at_ r1) st
      refine ⟨fun i d hd => ?_, ⟨us2, .inl (.inl hu), by rw [enumD_len, t2.len]; exact Nat.le_refl _⟩⟩
      obtain ⟨x, hx, rfl⟩ := enumD_at hd
      obtain ⟨v, hv2, dv⟩ := t2.get hx
      refine ⟨⟨us2, v, .inl (.inl hu), hv2⟩, fun z H' hy => ?_⟩
      obtain ⟨T, u, rfl, hT, rfl, hx'⟩ := hy
      have q := hx' us2 (.inl (.inl hu))
      rw [hv2] at q; cases q
      exact mk_tup M2 hT (.cons .int (.cons dv .nil))
    · cases h
  · cases h
/-- zip of two tuples -/
def zipD : List D → List D → List D
  | x :: xs, y :: ys => .tup [x, y] :: zipD xs ys
  | _, _ => []
theorem zipD_at : ∀ {xs ys : List D} {i : Nat} {d : D}, (zipD xs ys)[i]? = some d → ∃ x y, xs[i]? = some x ∧ ys[i]? = some y ∧ d = .tup [x, y]
  | [], _, _, _, h => by simp [zipD] at h
  | _ :: _, [], _, _, h => by simp [zipD] at h
  | x :: xs, y :: ys, 0, _, h => by
    simp [zipD] at h
    exact ⟨x, y, rfl, rfl, h.symm⟩
  | x :: xs, y :: ys, i + 1, _, h => by
    simp only [zipD, List.getElem?_cons_succ] at h
    obtain ⟨a, b, h1, h2, h3⟩ := zipD_at h
    exact ⟨a, b, by simpa using h1, by simpa using h2, h3⟩
theorem zipD_len : ∀ (xs ys : List D), (zipD xs ys).length = min xs.length ys.length
  | [], _ => by simp [zipD]
  | _ :: _, [] => by simp [zipD]
  | x :: xs, y :: ys => by simp [zipD, zipD_len xs ys]
def iZ (r : MAr) : MIt := fun env μ => match r env μ with
  | some ([.tup xs, .tup ys], μ1) => some (zipD xs ys, none, μ1)
  | some ([.scr xs, .scr ys], μ1) => some (zipD xs ys, none, μ1)
  | _ => none
theorem ri_z {t : TA} {r : MAr} (hr : RA G t r) : RI G (RZ.iZipA G.K t) (iZ r) := by
  intro ρ σ H env μ r' R M S h p
  unfold iZ at h
  split at h
  · rename_i xs ys μ1 h1
    cases h
    refine hr ρ σ H env μ _ μ1 _ M S h1 fun ρ1 H1 vs e1 M1 dv => ?_
    cases dv with | cons d1 tl =>
    cases tl with | cons d2 tl =>
    cases tl
    cases d1 with | tup s t =>
    cases d2 with | tup s2 t2 =>
    rename_i a us b ws
    refine ⟨a, b, us, ws, rfl, .inr ⟨s, s2, p ρ1 H1 _ e1 M1 fun ρ2 H2 μ2 e2 M2 _ => ⟨fun i d hd => ?_, ?_⟩⟩⟩
    · obtain ⟨x, y, hx, hy, rfl⟩ := zipD_at hd
      obtain ⟨v, hv, dv⟩ := t.get hx
      obtain ⟨w, hw, dw⟩ := t2.get hy
      refine ⟨⟨us, ws, v, w, e2.tup _ _ s, e2.tup _ _ s2, hv, hw⟩, fun z H' hz => ?_⟩
      obtain ⟨T, u1, u2, rfl, hT, rfl, q1, q2⟩ := hz
      have q1 := q1 us (e2.tup _ _ s)
      have q2 := q2 ws (e2.tup _ _ s2)
      rw [hv] at q1; cases q1
      rw [hw] at q2; cases q2
      exact mk_tup M2 hT (.cons (dv.mono e2) (.cons (dw.mono e2) .nil))
    · refine ⟨us, ws, e2.tup _ _ s, e2.tup _ _ s2, ?_⟩
      dsimp only
      rw [zipD_len, t.len, t2.len]
      omega
  · rename_i xs ys μ1 h1
    cases h
    refine hr ρ σ H env μ _ μ1 _ M S h1 fun ρ1 H1 vs e1 M1 dv => ?_
    cases dv with | cons d1 tl =>
    cases tl with | cons d2 tl =>
    cases tl
    cases d1 with | scr s t =>
    cases d2 with | scr s2 t2 =>
    rename_i a us b ws
    refine ⟨a, b, us, ws, rfl, .inl ⟨s.sq, s2.sq, p ρ1 H1 _ e1 M1 fun ρ2 H2 μ2 e2 M2 _ => ⟨fun i d hd => ?_, ?_⟩⟩⟩
    · obtain ⟨x, y, hx, hy, rfl⟩ := zipD_at hd
      obtain ⟨v, hv, dv⟩ := t.get hx
      obtain ⟨w, hw, dw⟩ := t2.get hy
      refine ⟨⟨us, ws, v, w, (e2.fro _ _ s).sq, (e2.fro _ _ s2).sq, hv, hw⟩, fun z H' hz => ?_⟩
      obtain ⟨T, u1, u2, rfl, hT, rfl, q1, q2⟩ := hz
      have q1 := q1 us (e2.fro _ _ s).sq
      have q2 := q2 ws (e2.fro _ _ s2).sq
      rw [hv] at q1; cases q1
      rw [hw] at q2; cases q2
      exact mk_tup M2 hT (.cons (dv.mono e2) (.cons (dw.mono e2) .nil))
    · refine ⟨us, ws, (e2.fro _ _ s).sq, (e2.fro _ _ s2).sq, ?_⟩
      dsimp only
      rw [zipD_len, t.len, t2.len]
      omega
  · cases h
/-- x += e, of whole numbers -/
def mAug (i : Nat) (g : Int → Int → Int) (a : MEx) : MSt := fun env μ => match env[i]? with
  | some (some (.int x)) => match a env μ with
    | some (.int y, μ1) => some (.nx, env.set i (some (.int (g x y))), μ1)
    | _ => none
  | _ => none
theorem rs_aug {i : Nat} {g : Int → Int → Int} {t : TE} {a : MEx} (ha : RE G t a) : RS G (tAug i t (ipI g)) (mAug i g a) := by
  intro ρ σ H env μ r E M S h p
  unfold mAug at h
  split at h
  · rename_i x hx
    split at h
    · rename_i y μ1 h1
      cases h
      obtain ⟨v, hv, dv⟩ := S.at_ i _ hx
      cases dv
      refine ⟨_, hv, ha ρ σ H env μ _ μ1 _ M S h1 fun ρ1 H1 u e1 M1 d1 => ?_⟩
      cases d1
      refine ⟨x, y, rfl, rfl, ?_⟩
      have := rg_n (G := G) (i := i) ρ1 σ H1 env μ1 (.int (g x y)) (.int (g x y)) _ E.nx M1 (S.mono e1) .int rfl
      exact this fun ρ2 H2 σ2 e2 M2 S2 => p ρ2 H2 σ2 (e1.trans e2) M2 S2
    · cases h
  · cases h
end
end MR

/-! MR10: sorted of alike data. -/
namespace MR
open PySem L2
/-- sorted(xs), xs alike data -/
def rSortedN (K : PySem.W.Frag) : List V → Hp → VK → Prop := fun vs H Q => ∃ (a : Addr) (xs : List V) (ps : List PyData), vs = [V.ref a] ∧ SqL K H a xs ∧ DpAll K H xs ps ∧ xs.length = ps.length ∧ PySem.W.AllAlike ps ∧ PySem.W.Sortable ps ∧ (∀ p ∈ ps, p.depth ≤ 60) ∧
  ∀ l, H l = none → Q (.ref l) (upd H l (.lst (((xs.zip ps).mergeSort (PySem.W.dataLe false Prod.snd)).map Prod.fst)))
theorem each_vals : ∀ {us : List Value} {bs : List (V × PyData)}, PySem.W.EachIs (fun u (b : V × PyData) => RelV b.1 u) us bs → Vals (bs.map Prod.fst) us
  | _, _, .nil => .nil
  | _, _, .cons h t => .cons h (each_vals t)
theorem each_of {X : Cx} {pins : List (Addr × Obj)} {σ : L2.St} {H : Hp} {s : Shared} (I : Inv X pins σ H s) : ∀ {xs : List V} {us : List Value} {ps : List PyData}, Vals xs us → DpAll X.K H xs ps →
    PySem.W.EachIs (fun u (b : V × PyData) => RelV b.1 u) us (xs.zip ps) ∧ PySem.W.EachIs (fun u (b : V × PyData) => ∃ as, Reads s.heap u b.2 as) us (xs.zip ps)
  | [], _, [], .nil, _ => ⟨.nil, .nil⟩
  | x :: xs, _, p :: ps, .cons r rr, d => by
    cases d with | cons d1 d2 =>
    obtain ⟨h1, h2⟩ := each_of I rr d2
    exact ⟨.cons r h1, .cons (Dp.reads I p x _ d1 r) h2⟩
  | [], _, _ :: _, .nil, d => by cases d
  | _ :: _, _, [], .cons _ _, d => by cases d
theorem cr_sortedN {X : Cx} (hu : X.A.units + 64 < cLine) : CallR X (.builtin "sorted") (rSortedN X.K) := by
  intro pins s σ H vs us; intro Q I r h
  obtain ⟨a, xs, ps, rfl, hs, hd, hlen, hal, hso, hdp, q⟩ := h; obtain ⟨its, rv, hl, hz⟩ := I.list hs
  cases r with | cons r1 r2 =>
  cases r2
  rename_i u
  obtain rfl : u = Value.ref a := (r1)
  obtain ⟨e1, e2⟩ := each_of I rv hd
  have em : (xs.zip ps).map Prod.snd = ps := List.map_snd_zip (by omega)
  refine PySem.W.sorted_data (bs := xs.zip ps) (enc := Prod.snd) hl.isList e1 e2 (by rw [em]; exact hal) (by rw [em]; exact hso) (by rw [List.length_zip]; omega) (fun b hb => ?_) fun out ho eo => ?_
  · have : b.2 ∈ ps := by rw [← em]; exact List.mem_map_of_mem hb
    have := hdp _ this
    omega
  · have hlen2 : (((xs.zip ps).mergeSort (PySem.W.dataLe false Prod.snd)).map Prod.fst).length ≤ sizeLine := by
      rw [List.length_map, List.length_mergeSort, List.length_zip]
      omega
    have hsz := I.hok.fresh (a := s.heap.objs.size + 1) (Nat.le_succ _)
    have hn := PyProof.Rows.sortedAll_at s.heap its out.toArray
    obtain ⟨n, hn⟩ := hn
    exact ⟨.ref (s.heap.objs.size + 1), upd H (s.heap.objs.size + 1) (.lst (((xs.zip ps).mergeSort (PySem.W.dataLe false Prod.snd)).map Prod.fst)), I.laid (t' := s.toks) (fun b o e => PyProof.Rows.sortedAll_old e) (Nat.le_succ _) ⟨hlen2, out, n, each_vals eo, hn⟩, rfl, q _ hsz⟩
/-! ### on data -/
section
variable {G : Gx} {ρ : List Addr} {H : Hp} {μ : Mem}
open Classical in
noncomputable def fSorted : List D → Mem → Option (D × Mem) := fun ds μ => match ds with
  | [x] => match lstAt μ x with
    | some xs => match xs.mapM (toPy μ 40) with
      | some ps => if PySem.W.AllAlike ps ∧ PySem.W.Sortable ps ∧ (∀ p ∈ ps, p.depth ≤ 60) ∧ xs.length = ps.length then some (.ref μ.length, μ ++ [.lst (((xs.zip ps).mergeSort (PySem.W.dataLe false Prod.snd)).map Prod.fst)]) else none
      | none => none
    | none => none
  | _ => none
theorem triples : ∀ {vs : List V} {ds : List D} (ps : List PyData), Dens G ρ H vs ds → ps.length = ds.length → ∃ T : List (V × D × PyData), T.map (fun t => (t.1, t.2.2)) = vs.zip ps ∧ T.map (fun t => (t.2.1, t.2.2)) = ds.zip ps ∧ ∀ t ∈ T, Den G ρ H t.1 t.2.1
  | _, _, [], .nil, _ => ⟨[], rfl, rfl, by simp⟩
  | _, _, p :: ps, .cons (v := v) (d := d) h t, hl => by
    obtain ⟨T, h1, h2, h3⟩ := triples ps t (by simpa using hl)
    refine ⟨(v, d, p) :: T, by simp [h1], by simp [h2], fun t ht => ?_⟩
    rcases List.mem_cons.mp ht with rfl | ht
    · exact h
    · exact h3 t ht
  | _, _, [], .cons _ _, hl => by simp at hl
  | _, _, _ :: _, .nil, hl => by simp at hl
theorem dens_of : ∀ {L : List (V × D × PyData)}, (∀ t ∈ L, Den G ρ H t.1 t.2.1) → Dens G ρ H (L.map (·.1)) (L.map (·.2.1))
  | [], _ => .nil
  | t :: L, h => .cons (h t List.mem_cons_self) (dens_of fun u hu => h u (List.mem_cons_of_mem _ hu))
theorem rc_sortedN : RC G (rSortedN G.K) fSorted := by
  intro ρ H μ vs ds d μ' Q M hd e p
  unfold fSorted at e
  split at e
  · split at e
    · rename_i xs hx
      split at e
      · rename_i ps hp
        split at e
        · rename_i hc
          obtain ⟨c1, c2, c3, c4⟩ := hc
          cases e
          cases hd with | cons h t =>
          cases t
          obtain ⟨a, us, rfl, s, tt⟩ := lstAt_sq M h hx
          refine ⟨a, us, ps, rfl, s, toPys (toPy_dp M 40) us xs ps tt hp, by rw [tt.len]; exact c4, c1, c2, c3, ?_⟩
          obtain ⟨T, t1, t2, t3⟩ := triples ps tt c4.symm
          have m1 : ((us.zip ps).mergeSort (PySem.W.dataLe false Prod.snd)).map Prod.fst = (T.mergeSort fun x y => PySem.W.dataLe false (Prod.snd : V × PyData → PyData) (x.1, x.2.2) (y.1, y.2.2)).map (·.1) := by
            rw [← t1, ← List.map_mergeSort (r := fun x y => PySem.W.dataLe false (Prod.snd : V × PyData → PyData) (x.1, x.2.2) (y.1, y.2.2)) (fun a _ b _ => rfl), List.map_map]
            rfl
          have m2 : ((xs.zip ps).mergeSort (PySem.W.dataLe false Prod.snd)).map Prod.fst = (T.mergeSort fun x y => PySem.W.dataLe false (Prod.snd : V × PyData → PyData) (x.1, x.2.2) (y.1, y.2.2)).map (·.2.1) := by
            rw [← t2, ← List.map_mergeSort (r := fun x y => PySem.W.dataLe false (Prod.snd : V × PyData → PyData) (x.1, x.2.2) (y.1, y.2.2)) (fun a _ b _ => rfl), List.map_map]
            rfl
          rw [m1]
          have p2 := p
          rw [m2] at p2
          exact p2.newL M (dens_of fun t ht => t3 t (List.mem_mergeSort.mp ht))
        · cases e
      · cases e
    · cases e
  · cases e
end
end MR

/-! OwnC: x == y by an own __eq__ of x, any y, any answer. -/
namespace MR
open PySem L2
def rEqOwn (K : PySem.W.Frag) (C : Addr) (sp : Sp) (E : XK) : R2 := fun x y H Q => ∃ a dx fs tb, x = .ref a ∧ H a = some (.ins C dx fs) ∧ TyX K H y tb ∧ PySem.W.notFirst K C tb = true ∧ sp [x, y] H (fun v H' => (∃ b, v = .bl b) ∧ Q v H') E
theorem op_eqOwn {X : Cx} {C f : Addr} {fd : FuncData} {ps : List Str} {sp : Sp} {n : Nat} (F : FnOk X.prog X.w X.K X.mg X.base CX0 n f fd ps sp) (hr : Room n X.A)
    (hs : PySem.W.findIn X.K (.ref C) "__eq__" = some (some (.ref f))) (hf : PySem.W.isFn X.K (.ref f) = true) (hb : Binds X.K fd ps []) : OpR X (compareOp .Eq) (rEqOwn X.K C sp E0) := by
  intro pins s σ H x y v u; intro Q I rx ry h
  obtain ⟨a, dx, fs, tb, rfl, ha, ty, hn, hsp⟩ := h; obtain rfl : v = Value.ref a := rx
  obtain ⟨P, kx, hP, _⟩ := kit_of I ry ty; obtain ⟨mA, J, _⟩ := ins_get I.hok ha
  obtain ⟨od, J, _⟩ := J.look
  obtain ⟨m, hF⟩ := I.fr
  show wpAny (model X.prog X.w) X.A (richCompare .Eq (.ref a) u) (EP X pins σ Q) X.xe s
  refine PySem.W.cmp_K (op := .Eq) (tb := tb) hr.units0 hF I.ok.mod.kin J (kx.ty _ _ I.kIn hP) hn hs hf ?_
  have hl := F.len _ _ _ _ hsp
  have r2 : Vals [V.ref a, y] [Value.ref a, u] := .cons rfl (.cons ry .nil)
  refine wpAny_call (codeAny_mono (F.run X.A X.stack s H ⟨[.ref a, u], []⟩ [.ref a, u] [.ref a, y] _ E0 hr I.env0 (by
    have := hb s [.ref a, u] I.kIn (by simpa using hl); simpa using this) r2 hsp) fun r s' hq => ?_)
  cases r with
  | error e => exact pass0 pins σ H s e s' I hq
  | ok fl =>
    cases fl with
    | ret w =>
      obtain ⟨z, H', I', rz, ⟨b, ez⟩, q⟩ := I.after hq
      subst ez
      have rz' : w = Value.bool b := rz
      subst rz'
      exact ⟨.bl b, H', I', rfl, q⟩
    | next => exact False.elim hq
    | brk => exact False.elim hq
    | cont => exact False.elim hq
end MR

/-! MR11: count, index, clear of lists; xs[::-1]. -/
namespace MR
open PySem L2
/-- l.count(x), of data -/
def rCountD (K : PySem.W.Frag) : V → List V → Hp → VK → Prop := fun x xs H Q => ∃ (a : Addr) (y : V) (d : PyData) (ds : List PyData), x = V.ref a ∧ xs = [y] ∧ Dp K H (V.ref a) (.list ds) ∧ Dp K H y d ∧
  SeqAt.shaped (.list ds) = true ∧ SeqAt.shaped d = true ∧ Q (.int (ds.countP fun z => PyData.eqv z d : Nat)) H
theorem mt_countD {X : Cx} (hu : X.A.units + 65 < cLine) : MtR X "list.count" (rCountD X.K) := by
  intro pins s σ H x xs v us; intro Q I rx rxs h
  obtain ⟨a, y, d, ds, rfl, rfl, hl, hy, sl, sd, q⟩ := h
  cases rx
  cases rxs with
  | cons ry rt =>
    rename_i uy ut
    cases rt; obtain ⟨bs, r1⟩ := Dp.reads I d y uy hy ry; have hxs : PyData.canLayAll0 ds = true := SeqAt.canLay_of_shaped sl
    have hroom : X.A.units + 1 + min (PyData.depthAll ds) d.depth < cLine := PyProof.Rows.room_in_shaped sd hu
    cases hl with
    | lst hs ha =>
      obtain ⟨its, rv, ⟨⟨cls, dd, data, sls⟩, n, ho, hc, hdn, hdt⟩, hlen⟩ := (I.list hs)
      simp only at hc hdt
      subst hc hdt; obtain ⟨as, h4⟩ := Dp.readsAll I ds _ its ha rv; have hmap : its.map (SeqAt.readOf s.heap) = ds := SeqAt.readsAll_map ds its as hxs h4
      have each := SeqAt.items_eqAt (A := X.A) (vs := its.toArray) (show ReadsAll s.heap its.toArray.toList ds as from h4) r1 hxs (SeqAt.canLay_of_shaped sd) hroom; refine call_meets PySem.F.slot_list_count ⟨_, ho, rfl⟩ PySem.F.entry_list_count (PySem.F.args_list_count_2 _ _)
        (SeqAt.list_countAt a its.toArray n dd sls uy (fun u => PyData.eqv (SeqAt.readOf s.heap u) d)) ⟨ho, each, ?_⟩
      have ec : its.toArray.toList.countP (fun u => PyData.eqv (SeqAt.readOf s.heap u) d) = ds.countP fun z => PyData.eqv z d := by
        rw [← hmap, List.countP_map]
        rfl
      refine ⟨.int (ds.countP fun z => PyData.eqv z d : Nat), H, I.tok _, ⟨s.toks, ?_⟩, q⟩
      show Value.int ((its.toArray.toList.countP _ : Nat) : Int) s.toks = _
      rw [ec]
section
variable {G : Gx}
def fCountD : D → List D → Mem → Option (D × Mem) := fun x ds μ => match ds with
  | [y] => match toPy μ 40 x, toPy μ 40 y with
    | some (.list ps), some p => if SeqAt.shaped (.list ps) = true ∧ SeqAt.shaped p = true then some (.int (ps.countP fun z => PyData.eqv z p : Nat), μ) else none
    | _, _ => none
  | _ => none
theorem rm_countD : RM G (rCountD G.K) fCountD := by
  intro ρ H μ x dx vs ds d μ' Q M hx hd e p
  unfold fCountD at e
  split at e
  · split at e
    · rename_i y ps p' h1 h2
      split at e
      · rename_i hc
        cases e
        cases hd with | cons hy t =>
        cases t
        have hl := toPy_dp M 40 _ _ _ hx h1
        have hl2 := hl
        cases hl2 with | lst hs ha =>
        exact ⟨_, _, _, _, rfl, rfl, hl, toPy_dp M 40 _ _ _ hy h2, hc.1, hc.2, p.go M .int⟩
      · cases e
    · cases e
  · cases e
def fIndexD : D → List D → Mem → Option (D × Mem) := fun x ds μ => match ds with
  | [y] => match toPy μ 40 x, toPy μ 40 y with
    | some (.list ps), some p => if SeqAt.shaped (.list ps) = true ∧ SeqAt.shaped p = true then match ps.findIdx? fun z => PyData.eqv z p with
        | some j => some (.int (j : Nat), μ)
        | none => none
      else none
    | _, _ => none
  | _ => none
theorem rm_indexD : RM G (rIndexD G.K) fIndexD := by
  intro ρ H μ x dx vs ds d μ' Q M hx hd e p
  unfold fIndexD at e
  split at e
  · split at e
    · rename_i y ps p' h1 h2
      split at e
      · rename_i hc
        split at e
        · rename_i j hj
          cases e
          cases hd with | cons hy t =>
          cases t
          have hl := toPy_dp M 40 _ _ _ hx h1
          have hl2 := hl
          cases hl2 with | lst hs ha =>
          rw [List.findIdx?_eq_some_iff_getElem] at hj
          obtain ⟨hlt, hp, hno⟩ := hj
          refine ⟨_, _, _, _, j, ps[j], rfl, rfl, hl, toPy_dp M 40 _ _ _ hy h2, hc.1, hc.2, List.getElem?_eq_getElem hlt, hp, fun m z' hm hz => ?_, p.go M .int⟩
          have hml : m < ps.length := by omega
          rw [List.getElem?_eq_getElem hml] at hz
          cases hz
          have := hno m hm
          simpa using this
        · cases e
      · cases e
    · cases e
  · cases e
def fClear := fMut fun xs ds => match ds with
  | [] => some []
  | _ => none
theorem rm_clear : RM G rClear fClear := by
  intro ρ H μ x dx vs ds d μ' Q M hx hd e p
  unfold fClear fMut at e
  split at e
  · split at e
    · rename_i n xs hm
      simp only [Option.map_eq_some_iff, Prod.mk.injEq] at e
      obtain ⟨ys, hy, rfl, rfl⟩ := e
      split at hy
      · cases hy
        cases hx with | ref r1 =>
        cases hd
        obtain ⟨us, hv, tt⟩ := M.ob _ _ _ r1 hm
        exact ⟨_, us, rfl, rfl, hv, p ρ _ _ (ext_set M r1 hm) (M.set r1 hm .nil) .non⟩
      · cases hy
    · cases e
  · cases e
/-- xs[::-1], xs a list -/
def mRevL (a : MEx) : MEx := fun env μ => match a env μ with
  | some (x, μ1) => (lstAt μ1 x).map fun ds => (.ref μ1.length, μ1 ++ [.lst ds.reverse])
  | none => none
theorem re_revL {t : TE} {a : MEx} (ha : RE G t a) : RE G (tRevL G.K t) (mRevL a) := by
  intro ρ σ H env μ d μ' Q M S h p
  unfold mRevL at h
  split at h
  · rename_i x μ1 h1
    simp only [Option.map_eq_some_iff, Prod.mk.injEq] at h
    obtain ⟨ds, hl, rfl, rfl⟩ := h
    refine ha ρ σ H env μ _ μ1 _ M S h1 fun ρ1 H1 v e1 M1 d1 => ?_
    obtain ⟨b, vs, rfl, s, tt⟩ := lstAt_sq M1 d1 hl
    exact ⟨b, vs, rfl, s, (p.of e1).newL M1 tt.rev⟩
  · cases h
end
end MR

/-! SortTup: sorted of a tuple of alike data. -/
namespace SortT
open PySem PySem.Calls PyProof.Rows PySem.W
section
variable {β : Type} {prog : Program} {w : World} {A : Around} {E : Value → Shared → Prop} {s : Shared} {vs : List Value} {bs : List β} {enc : β → PyData} {R : Value → β → Prop}
theorem sorted_tup {l : Addr} {o : Obj} {n : Nat} {Q : Value → Shared → Prop} (ho : s.heap.get? l = some o) (hc : o.cls = .type "tuple") (hd : o.data = .seq vs.toArray n) (e : EachIs R vs bs) (er : EachIs (fun v b => ∃ as, Reads s.heap v (enc b) as) vs bs) (hal : AllAlike (bs.map enc)) (hk : Sortable (bs.map enc)) (hL : bs.length ≤ sizeLine) (hu : ∀ b, b ∈ bs → A.units + 2 + (enc b).depth < cLine)
    (h : ∀ (h1 h' : Heap) (out : List Value), out.length = bs.length → EachIs R out (bs.mergeSort (dataLe false enc)) → (∀ b o, s.heap.get? b = some o → h1.get? b = some o) → (∀ b o, h1.get? b = some o → h'.get? b = some o) → (∃ n, h'.get? h1.objs.size = some (seqObj "list" out.toArray n)) → Q (.ref h1.objs.size) { s with heap := h' }) :
    (wpAny (model prog w) A (call (.builtin "sorted") [.ref l]) Q E s) := by
  have hz : vs.length ≤ sizeLine := by rw [e.length]; exact hL
  refine (call_function_entry kind_sorted plain_sorted entry_sorted (args_sorted1 _) ?_)
  unfold Builtin.«sorted»; refine wpAny_bind (m := checkCount "sorted" 1 1 _) (wpAny_pure ?_)
  refine wpAny_bind (wpAny_collect_seq l (.inr rfl) ho hc hd (fun h1 k1 => ?_) (by simpa using hz))
  rw [show vs.toArray.toList = vs by simp]
  refine (wpAny_bind (wpAny_newList ?_ hz))
  have ha : (h1.push (seqObj "list" vs.toArray 0)).get? h1.objs.size = some (seqObj "list" vs.toArray 0) := Heap.get?_push_size _ rfl
  have hlt : ∀ b o, s.heap.get? b = some o → b ≠ h1.objs.size ∧ (h1.push (seqObj "list" vs.toArray 0)).get? b = some o := fun b o q => ⟨Nat.ne_of_lt (Heap.lt_size (k1 b o q)), Heap.get?_push_of_some _ (k1 b o q)⟩
  have er' : EachIs (fun v b => ∃ as, Reads (sortingHeap (h1.push (seqObj "list" vs.toArray 0)) h1.objs.size vs) v (enc b) as) vs bs := er.mono fun _ _ ⟨as, r⟩ => ⟨as, PyProof.Rows.Reads.keeps (fun b o q => sortingHeap_old (hlt b o q).1 (hlt b o q).2) r⟩
  show wpAny _ _ _ _ _ { s with heap := h1.push (seqObj "list" vs.toArray 0) }
  refine wpAny_bind (wpAny_holding (wpAny_call_entry slot_list_sort ⟨_, ha, rfl⟩ entry_list_sort (list_sort_vals (s := { s with heap := h1.push (seqObj "list" vs.toArray 0) }) (κ := dataKind (sortingHeap (h1.push (seqObj "list" vs.toArray 0)) h1.objs.size vs) (bs.map enc)) ha
    (SortsAt.data (s := { s with heap := sortingHeap (h1.push (seqObj "list" vs.toArray 0)) h1.objs.size vs }) (each_map (R := fun v d => ∃ as, Reads (sortingHeap (h1.push (seqObj "list" vs.toArray 0)) h1.objs.size vs) v d as) enc er') hal hk (bound_map hu)) hz ⟨_, rfl, ?_⟩) (args_list_sort _)))
  have el : (sortVals (dataKind (sortingHeap (h1.push (seqObj "list" vs.toArray 0)) h1.objs.size vs) (bs.map enc)) false vs vs).length = bs.length := by rw [sortVals_length false rfl]; exact e.length
  refine wpAny_pure ⟨_, rfl, h h1 _ _ el (sortVals_data false e er' hal) k1 (fun b o q => ?_) (sortedHeap_at ha)⟩
  have hl := Heap.lt_size q
  rw [sortedHeap_old (Nat.ne_of_lt hl) (by rw [size_push']; exact Nat.lt_succ_of_lt hl)]; exact Heap.get?_push_of_some _ q
end
end SortT
namespace MR
open PySem L2
/-- sorted(t), t a tuple of alike data -/
def rSortedT (K : PySem.W.Frag) : List V → Hp → VK → Prop := fun vs H Q => ∃ (a : Addr) (xs : List V) (ps : List PyData), vs = [V.ref a] ∧ SqT K H a xs ∧ DpAll K H xs ps ∧ xs.length = ps.length ∧ PySem.W.AllAlike ps ∧ PySem.W.Sortable ps ∧ (∀ p ∈ ps, p.depth ≤ 60) ∧
  ∀ l, H l = none → Q (.ref l) (upd H l (.lst (((xs.zip ps).mergeSort (PySem.W.dataLe false Prod.snd)).map Prod.fst)))
theorem cr_sortedT {X : Cx} (hu : X.A.units + 64 < cLine) : CallR X (.builtin "sorted") (rSortedT X.K) := by
  intro pins s σ H vs us; intro Q I r h
  obtain ⟨a, xs, ps, rfl, hs, hd, hlen, hal, hso, hdp, q⟩ := h
  obtain ⟨its, rv, ht, hz⟩ := I.tuple hs
  cases r with | cons r1 r2 =>
  cases r2
  rename_i u
  obtain rfl : u = Value.ref a := (r1)
  obtain ⟨e1, e2⟩ := each_of I rv hd
  have em : (xs.zip ps).map Prod.snd = ps := List.map_snd_zip (by omega)
  obtain ⟨o, ho, hc, n, hdt⟩ := ht
  refine SortT.sorted_tup (bs := xs.zip ps) (enc := Prod.snd) ho hc hdt e1 e2 (by rw [em]; exact hal) (by rw [em]; exact hso) (by rw [List.length_zip]; omega) (fun b hb => ?_) fun h1 h' out ho eo k1 k2 hn => ?_
  · have : b.2 ∈ ps := by rw [← em]; exact List.mem_map_of_mem hb
    have := hdp _ this
    omega
  · have hlen2 : (((xs.zip ps).mergeSort (PySem.W.dataLe false Prod.snd)).map Prod.fst).length ≤ sizeLine := by
      rw [List.length_map, List.length_mergeSort, List.length_zip]
      omega
    have I1 : Inv X pins σ H { s with heap := h1 } := I.kept (t' := s.toks) k1
    obtain ⟨n, hn⟩ := hn
    exact ⟨.ref h1.objs.size, upd H h1.objs.size (.lst (((xs.zip ps).mergeSort (PySem.W.dataLe false Prod.snd)).map Prod.fst)), I1.laid (t' := s.toks) k2 (Nat.le_refl _) ⟨hlen2, out, n, each_vals eo, hn⟩, rfl, q _ (I1.hok.fresh (Nat.le_refl _))⟩
def rSortedU (K : PySem.W.Frag) : List V → Hp → VK → Prop := fun vs H Q => rSortedN K vs H Q ∨ rSortedT K vs H Q
theorem cr_sortedU {X : Cx} (hu : X.A.units + 64 < cLine) : CallR X (.builtin "sorted") (rSortedU X.K) := (cr_sortedN hu).or (cr_sortedT hu)
section
variable {G : Gx}
open Classical in
noncomputable def fSortedU : List D → Mem → Option (D × Mem) := fun ds μ => match ds with
  | [x] => match seqAt μ x with
    | some xs => match xs.mapM (toPy μ 40) with
      | some ps => if PySem.W.AllAlike ps ∧ PySem.W.Sortable ps ∧ (∀ p ∈ ps, p.depth ≤ 60) ∧ xs.length = ps.length then some (.ref μ.length, μ ++ [.lst (((xs.zip ps).mergeSort (PySem.W.dataLe false Prod.snd)).map Prod.fst)]) else none
      | none => none
    | none => none
  | _ => none
theorem rc_sortedU : RC G (rSortedU G.K) fSortedU := by
  intro ρ H μ vs ds d μ' Q M hd e p
  unfold fSortedU at e
  split at e
  · split at e
    · rename_i xs hx
      split at e
      · rename_i ps hp
        split at e
        · rename_i hc
          obtain ⟨c1, c2, c3, c4⟩ := hc
          cases e
          cases hd with | cons h t =>
          cases t
          obtain ⟨a, us, rfl, s, tt⟩ := seqAt_sq M h hx
          have fin : ∀ l, H l = none → Q (.ref l) (upd H l (.lst (((us.zip ps).mergeSort (PySem.W.dataLe false Prod.snd)).map Prod.fst))) := by
            obtain ⟨T, t1, t2, t3⟩ := triples ps tt c4.symm
            have m1 : ((us.zip ps).mergeSort (PySem.W.dataLe false Prod.snd)).map Prod.fst = (T.mergeSort fun x y => PySem.W.dataLe false (Prod.snd : V × PyData → PyData) (x.1, x.2.2) (y.1, y.2.2)).map (·.1) := by
              rw [← t1, ← List.map_mergeSort (r := fun x y => PySem.W.dataLe false (Prod.snd : V × PyData → PyData) (x.1, x.2.2) (y.1, y.2.2)) (fun a _ b _ => rfl), List.map_map]
              rfl
            have m2 : ((xs.zip ps).mergeSort (PySem.W.dataLe false Prod.snd)).map Prod.fst = (T.mergeSort fun x y => PySem.W.dataLe false (Prod.snd : V × PyData → PyData) (x.1, x.2.2) (y.1, y.2.2)).map (·.2.1) := by
              rw [← t2, ← List.map_mergeSort (r := fun x y => PySem.W.dataLe false (Prod.snd : V × PyData → PyData) (x.1, x.2.2) (y.1, y.2.2)) (fun a _ b _ => rfl), List.map_map]
              rfl
            rw [m1]
            have p2 := p
            rw [m2] at p2
            exact p2.newL M (dens_of fun t ht => t3 t (List.mem_mergeSort.mp ht))
          have dp := toPys (toPy_dp M 40) us xs ps tt hp
          have hl : us.length = ps.length := by rw [tt.len]; exact c4
          rcases s with s | s
          · exact .inl ⟨a, us, ps, rfl, s, dp, hl, c1, c2, c3, fin⟩
          · exact .inr ⟨a, us, ps, rfl, s, dp, hl, c1, c2, c3, fin⟩
        · cases e
      · cases e
    · cases e
  · cases e
end
end MR

/-! RevT: t[::-1], t a tuple. -/
namespace RevTS
open PySem PyProof.Rows HT
section
variable {s : Shared} {prog : Program} {w : World} {A : Around} {E : Value → Shared → Prop}
theorem adj_rev (n : Nat) : Builtin.Slice.sliceAdjust none none (-1) (n : Int) = ((n : Int) - 1, -1) := by
  simp [Builtin.Slice.sliceAdjust]
theorem plc_rev (n : Nat) : Builtin.Slice.slicePlaces ((n : Int) - 1) (-1) (-1) = n := by
  have h1 : ¬ ((-1 : Int) > 0) := by omega
  simp only [Builtin.Slice.slicePlaces, h1, if_false]
  split <;> simp <;> omega
theorem applied_rev {sl : Addr} {vs : Value} {n : Nat} {Q : Int × Int × Nat → Shared → Prop} (hs : s.heap.IsSliceOf sl .none .none vs) (ps : IsPart vs (some (-1)))
    (h : Q ((n : Int) - 1, -1, n) s) : wpAny (model prog w) A (Builtin.Slice.sliceApplied (.ref sl) (pure (n : Int))) Q E s := by
  obtain ⟨os, hos, hcs, hds⟩ := id hs; unfold Builtin.Slice.sliceApplied Builtin.Slice.sliceFields
  refine wpAny_bind (wpAny_bind (wpAny_field hos hds (x := .none) rfl (wpAny_bind (wpAny_field hos hds (x := .none) rfl (wpAny_bind (wpAny_field hos hds (x := vs) rfl (wpAny_pure ?_)))))))
  refine wpAny_bind (slicePart_ ps ?_)
  show wpAny _ _ (if ((-1 : Int) == 0) = true then _ else _) _ _ s
  rw [if_neg (by decide)]
  refine wpAny_bind (slicePart_ .none (wpAny_bind (slicePart_ .none (wpAny_bind (wpAny_pure ?_)))))
  show wpAny _ _ (match Builtin.Slice.sliceAdjust none none (-1) (n : Int) with | (lo, hi) => pure (lo, (-1 : Int), Builtin.Slice.slicePlaces lo hi (-1))) _ _ s
  rw [adj_rev n]
  show wpAny _ _ (pure ((n : Int) - 1, (-1 : Int), Builtin.Slice.slicePlaces ((n : Int) - 1) (-1) (-1))) _ _ s
  rw [plc_rev]
  exact wpAny_pure h
theorem fm_congr {α β : Type} {f g : α → Option β} : ∀ {l : List α}, (∀ m ∈ l, f m = g m) → l.filterMap f = l.filterMap g
  | [], _ => rfl
  | a :: l, h => by
    rw [List.filterMap_cons, List.filterMap_cons, h a List.mem_cons_self, fm_congr fun m hm => h m (List.mem_cons_of_mem _ hm)]
theorem pick_rev (xs : Array Value) : ((List.range xs.size).filterMap fun (m : Nat) => xs[(((xs.size : Int) - 1) + (m : Int) * (-1)).toNat]?).toArray = xs.toList.reverse.toArray := by
  congr 1
  apply List.ext_getElem?
  intro i
  have key : ∀ k, k ≤ xs.size → (List.range k).filterMap (fun (m : Nat) => xs[(((xs.size : Int) - 1) + (m : Int) * (-1)).toNat]?) = (List.range k).filterMap fun m => xs.toList.reverse[m]? := by
    intro k hk
    refine fm_congr fun m hm => ?_
    have hmk := List.mem_range.mp hm
    have e : (((xs.size : Int) - 1) + (m : Int) * (-1)).toNat = xs.size - 1 - m := by omega
    rw [e, List.getElem?_reverse (by simp; omega)]
    simp
  rw [key _ (Nat.le_refl _)]
  have : (List.range xs.size).filterMap (fun m => xs.toList.reverse[m]?) = xs.toList.reverse := by
    have g : ∀ (l : List Value), (List.range l.length).filterMap (fun m => l[m]?) = l := by
      intro l
      induction l with
      | nil => rfl
      | cons a l ih =>
        rw [List.length_cons, List.range_succ_eq_map, List.filterMap_cons]
        simp only [List.getElem?_cons_zero, List.filterMap_map]
        congr 1
    have := g xs.toList.reverse
    simpa using this
  rw [this]
theorem getItem_tuple_rev {t sl : Addr} {items : Array Value} {vs : Value} {Q : Value → Shared → Prop} (ht : IsTup s.heap t items) (hs : s.heap.IsSliceOf sl .none .none vs) (ps : IsPart vs (some (-1)))
    (h : Q (.ref s.heap.objs.size) { s with heap := s.heap.push { cls := .type "tuple", data := .seq items.toList.reverse.toArray } }) (hsz : items.size ≤ sizeLine) : wpAny (model prog w) A (getItem (.ref t) (.ref sl)) Q E s := by
  have htake : sizeOk (.seq items.toList.reverse.toArray) := by
    show items.toList.reverse.toArray.size ≤ sizeLine
    rw [List.size_toArray, List.length_reverse, Array.length_toList]
    omega
  obtain ⟨os, hos, hcs, hds⟩ := id hs; have hTs : s.TypeIs (.ref sl) "slice" := ⟨os, hos, hcs⟩
  unfold getItem; try with_reducible refine wpAny_holding ?_; first | refine wpAny_bind (wpAny_pure ?_) | skip; refine wpAny_bind (wpAny_sequenceKey ht.typeIs (by decide) ?_); refine wpAny_bind (wpAny_callSpecial?_slot (name := Str.ofString "__getitem__") ht.typeIs PyProof.Rows.slot_tuple_getitem
    ((wpAny_call_entry PyProof.Rows.slot_tuple_getitem ht.typeIs entry_tuple_getitem ?_ (args_tuple_getitem _ _))))
  show wpAny _ _ (Builtin.Tuple.tupleItemsOf (.ref t) >>= _) _ _ s; refine wpAny_bind (tupleItemsOf_ ht ?_); refine wpAny_bind (wpAny_typeOf hTs ?_)
  rw [if_pos (by decide)]
  refine wpAny_bind (applied_rev hs ps ?_)
  have hno : ¬ ((((items.size : Int) - 1) == 0 && (-1 : Int) == 1 && items.size == items.size) = true) := by
    intro q; rw [Bool.and_eq_true, Bool.and_eq_true] at q
    exact absurd q.1.2 (by decide)
  show wpAny _ _ (if (((items.size : Int) - 1) == 0 && (-1 : Int) == 1 && items.size == items.size) = true then _ else _) _ _ s
  rw [if_neg hno, pick_rev]
  refine wpAny_bind (m := Builtin.Tuple.tupleExact _) (wpAny_newObj_type (wpAny_pure ⟨_, rfl, (wpAny_pure h)⟩) htake)
end
end RevTS
namespace MR
open PySem PyProof.Rows L2
/-- x[::-1], a list or a tuple -/
def tRevU (K : PySem.W.Frag) (te : TE) : TE := fun σ H Q => te σ H fun x H1 => ∃ a xs, x = .ref a ∧ ((SqL K H1 a xs ∧ ∀ p, H1 p = none → Q (.ref p) (upd H1 p (.lst xs.reverse))) ∨ (SqT K H1 a xs ∧ ∀ p, H1 p = none → Q (.ref p) (upd H1 p (.tup xs.reverse))))
theorem pe_revU {X : Cx} {e : Expr} {te : TE} {k : Nat} {p1 p2 p3 pos : Pos} (he : PE X e te) : PE X (.Subscript e (.Slice none none (some (.UnaryOp .USub (.Constant (.int 1) k p1) p2)) p3) pos) (tRevU X.K te) := by
  constructor
  intro pins s σ H Q I h
  refine Subscript_ (thn (he.run pins s σ H _ I h) fun v s1 hv => ?_)
  obtain ⟨x, H1, I1, r1, a, xs, rfl, hx⟩ := hv; obtain rfl : v = Value.ref a := r1
  have step : PO X (some (.UnaryOp .USub (.Constant (.int 1) k p1) p2)) (tPart (tUn (rU fun i => .int (-i)) (tC (.int 1)))) := po_some (pe_un un_neg pe_int)
  refine wpAny_Slice ?_
  refine thn (po_none.run pins s1 σ H1 (fun o HH => o = none ∧ HH = H1) I1 ⟨rfl, rfl⟩) fun w1 s2 hw1 => ?_
  obtain ⟨o1, H2, I2, pl, rfl, rfl⟩ := hw1
  refine thn (po_none.run pins s2 σ H2 (fun o HH => o = none ∧ HH = H2) I2 ⟨rfl, rfl⟩) fun w2 s3 hw2 => ?_
  obtain ⟨o2, H3, I3, pu, rfl, rfl⟩ := hw2
  refine thn (step.run pins s3 σ H3 (fun o HH => o = some (-1) ∧ HH = H3) I3 ⟨1, rfl, -1, rfl, rfl, rfl⟩) fun w3 s4 hw3 => ?_
  obtain ⟨o3, H4, I4, pt, rfl, rfl⟩ := hw3
  cases pl
  cases pu
  have J : Inv X pins σ H4 { s4 with heap := s4.heap.push { cls := .type "slice", data := .fields #[.none, .none, w3] } } := I4.kept (t' := s4.toks) fun b ob qq => Heap.get?_push_of_some _ qq
  rcases hx with ⟨hx, q⟩ | ⟨hx, q⟩
  · obtain ⟨its, r, ht, hz⟩ := J.list hx
    have hlen := r.length
    refine tail_any (s := { s4 with heap := s4.heap.push { cls := .type "slice", data := .fields #[.none, .none, w3] } }) (ops := [.ref a, .ref s4.heap.objs.size]) ht.isList.typeIs PySem.slot_list_getitem.lookup ?_ (by with_unfolding_all rfl)
    refine wpAny_getItem_list_slice ht.isList (Heap.IsSliceOf.new _ .none .none w3) .none .none pt (by decide) ?_ (by rw [List.size_toArray]; omega)
    rw [PySem.W.krv_pick]
    exact ⟨.ref _, _, J.laid (t' := s4.toks) (o := .lst xs.reverse) (fun b ob qq => Heap.get?_push_of_some _ qq) (Nat.le_refl _) ⟨by rw [List.length_reverse]; exact hz, _, 0, r.reverse, Heap.get?_push_size _ rfl⟩, rfl, q _ (J.hok.fresh (Nat.le_refl _))⟩
  · obtain ⟨its, r, ht, hz⟩ := J.tuple hx
    have hlen := r.length
    refine tail_any (s := { s4 with heap := s4.heap.push { cls := .type "slice", data := .fields #[.none, .none, w3] } }) (ops := [.ref a, .ref s4.heap.objs.size]) ht.typeIs PyProof.Rows.slot_tuple_getitem.lookup ?_ (by with_unfolding_all rfl)
    refine RevTS.getItem_tuple_rev ht (Heap.IsSliceOf.new _ .none .none w3) pt ?_ (by rw [List.size_toArray]; omega)
    exact ⟨.ref _, _, J.laid (t' := s4.toks) (o := .tup xs.reverse) (fun b ob qq => Heap.get?_push_of_some _ qq) (Nat.le_refl _) ⟨by rw [List.length_reverse]; exact hz, _, r.reverse, IsTup.new _ _⟩, rfl, q _ (J.hok.fresh (Nat.le_refl _))⟩
section
variable {G : Gx}
def mRevU (a : MEx) : MEx := fun env μ => match a env μ with
  | some (.tup ds, μ1) => some (.tup ds.reverse, μ1)
  | some (x, μ1) => (lstAt μ1 x).map fun ds => (.ref μ1.length, μ1 ++ [.lst ds.reverse])
  | none => none
theorem re_revU {t : TE} {a : MEx} (ha : RE G t a) : RE G (tRevU G.K t) (mRevU a) := by
  intro ρ σ H env μ d μ' Q M S h p
  unfold mRevU at h
  split at h
  · rename_i ds μ1 h1
    cases h
    refine ha ρ σ H env μ _ _ _ M S h1 fun ρ1 H1 v e1 M1 d1 => ?_
    cases d1 with | tup s tt =>
    exact ⟨_, _, rfl, .inr ⟨s, (p.of e1).newT M1 tt.rev⟩⟩
  · rename_i x μ1 hnt h1
    simp only [Option.map_eq_some_iff, Prod.mk.injEq] at h
    obtain ⟨ds, hl, rfl, rfl⟩ := h
    refine ha ρ σ H env μ _ _ _ M S h1 fun ρ1 H1 v e1 M1 d1 => ?_
    obtain ⟨b, vs, rfl, s, tt⟩ := lstAt_sq M1 d1 hl
    exact ⟨b, vs, rfl, .inl ⟨s, (p.of e1).newL M1 tt.rev⟩⟩
  · cases h
end
end MR

/-! XHook: the head told with tests of one's own beside the kit's facts. -/
namespace XH
open L2 PySem PySem.Spec PyProof.Rows
abbrev Tests := List (PySem.W.Frag → Bool)
def told (n : Nat) (fa : List He.Fa) (fn : List He.DefD) (ex : Tests) (g : Addr → Option Obj) : He.AlD × Bool := (He.obsDG n fa fn g, ex.all fun f => f (He.frG g (He.asD g n)))
def hookX (n : Nat) (fa : List He.Fa) (fn : List He.DefD) (ex : Tests) : PySem.W.Hook where
  α := He.AlD × Bool
  obs := fun s => told n fa fn ex s.heap.get?
  val := fun _ => (He.valD fn, true)
  says := fun _ h => ∃ K : PySem.W.Frag, K.In h ∧ He.SaysD fa fn K ∧ (ex.all fun f => f K) = true
  of := fun _ _ e => ⟨_, He.frG_in, congrArg Prod.fst e, congrArg Prod.snd e⟩
  keeps := fun _ _ _ ⟨K, hK, c, x⟩ k => ⟨K, PySem.W.Frag.In.keeps hK k, c, x⟩
theorem told_eq {n : Nat} {fa : List He.Fa} {fn : List He.DefD} {ex : Tests} {g : Addr → Option Obj} {s : Shared} (h : ∀ a, g a = s.heap.get? a) : told n fa fn ex g = (hookX n fa fn ex).obs s := by
  have e : g = s.heap.get? := funext fun a => h a
  subst e
  rfl
theorem test_ok {ex : Tests} {K : PySem.W.Frag} (h : (ex.all fun f => f K) = true) (i : Nat) {f : PySem.W.Frag → Bool} (e : ex[i]? = some f := by rfl) : f K = true := List.all_eq_true.mp h f (List.mem_of_getElem? e)
/-! ### what an own class says -/
def clsT (x : Str) : PySem.W.Frag → Bool := fun K => (PySem.W.clsIn K (He.ga K x)).isSome && (decide (PySem.W.typeIn K (.ref (He.ga K x)) = some (.type "type")) && (decide (PySem.W.mroIn K (He.ga K x) (.type "object") = some true) &&
  (decide (PySem.W.findIn K (.ref (He.ga K x)) "__class__" = some (some (.builtin "object.__class__"))) && (decide (PySem.W.specialIn K (.builtin "object.__class__") "__get__" = some (some (.builtin "getset_descriptor.__get__"))) && decide (PySem.W.takesIn K (.builtin "object.__class__") = some true)))))
structure ClsX (K : PySem.W.Frag) (C : Addr) : Prop where
  cs : (PySem.W.clsIn K C).isSome = true
  ty : PySem.W.typeIn K (.ref C) = some (.type "type")
  ob : PySem.W.mroIn K C (.type "object") = some true
  ca : (PySem.W.findIn K (.ref C) "__class__" = some (some (.builtin "object.__class__")))
  cg : PySem.W.specialIn K (.builtin "object.__class__") "__get__" = some (some (.builtin "getset_descriptor.__get__"))
  tk : PySem.W.takesIn K (.builtin "object.__class__") = some true
theorem clsT_ok {K : PySem.W.Frag} {x : Str} (h : clsT x K = true) : ClsX K (He.ga K x) := by
  unfold clsT at h; simp only [Bool.and_eq_true, decide_eq_true_eq] at h
  obtain ⟨h1, h2, h3, h4, h5, h6⟩ := h
  exact ⟨h1, h2, h3, h4, h5, h6⟩
/-- x has its own m, that is no def: the library's id -/
def bltT (x m : Str) (id : String) : PySem.W.Frag → Bool := fun K => decide (PySem.W.findIn K (.ref (He.ga K x)) m = some (some (.builtin id)))
theorem bltT_ok {K : PySem.W.Frag} {x m : Str} {id : String} (h : bltT x m id K = true) : PySem.W.findIn K (.ref (He.ga K x)) m = some (some (.builtin id)) := of_decide_eq_true h
theorem kit_own {K : PySem.W.Frag} {C : Addr} : PySem.W.kitOne K (.ref C) (.ref C) = some true := by
  unfold PySem.W.kitOne
  simp
theorem kit_blt {K : PySem.W.Frag} {C : Addr} (c : ClsX K C) {T : String} (h : (PySem.W.subIn K (.type T) (.ref C)) = some false) : PySem.W.kitOne K (.type T) (.ref C) = some false := by
  unfold PySem.W.kitOne PySem.W.kitCls
  have e : ((Value.type T == Value.ref C) = true) = False := by simp
  rw [if_neg (by simp)]
  dsimp only
  rw [if_pos (by rw [c.cs, c.ty]; rfl)]
  exact h
theorem sub_int {K : PySem.W.Frag} {C : Addr} : PySem.W.subIn K (.type "int") (.ref C) = some false := by rfl
theorem sub_str {K : PySem.W.Frag} {C : Addr} : PySem.W.subIn K (.type "str") (.ref C) = some false := by rfl
theorem sub_bool {K : PySem.W.Frag} {C : Addr} : PySem.W.subIn K (.type "bool") (.ref C) = some false := by rfl
theorem sub_none {K : PySem.W.Frag} {C : Addr} : PySem.W.subIn K (.type "NoneType") (.ref C) = some false := by rfl
theorem sub_list {K : PySem.W.Frag} {C : Addr} : PySem.W.subIn K (.type "list") (.ref C) = some false := by rfl
theorem sub_tuple {K : PySem.W.Frag} {C : Addr} : PySem.W.subIn K (.type "tuple") (.ref C) = some false := by rfl
end XH

/-! ExcKw: an own exception class with an own __init__, called with names, too. -/
namespace EXK
open PySem PySem.Spec PySem.Calls PySem.HandSPX PyProof.Rows
section
variable {prog : Program} {w : World} {A : Around} {E : Value → Shared → Prop} {R : Result → Shared → Prop} {s : Shared} {C : Addr} {B nw it : String} {bs tl : List Value}
/-- the class object as it stands, over the library's base B -/
def Stands (h : Heap) (C : Addr) (nw : String) (bs tl : List Value) : Prop := (∀ T : String, tl.contains (.type T) = bs.contains (.type T)) ∧
  ∃ nm q N b0 hd sn sub ab col dd k0 k1 k2 k3 k5, h.get? C = some (excClassObj nm q C N b0 tl hd sn sub ab col dd k0 k1 k2 k3 k5 nw)
theorem Stands.push {h : Heap} {o : Obj} (z : Stands h C nw bs tl) : Stands (h.push o) C nw bs tl := by
  obtain ⟨z1, nm, q, N, b0, hd, sn, sub, ab, col, dd, k0, k1, k2, k3, k5, e⟩ := z
  exact ⟨z1, nm, q, N, b0, hd, sn, sub, ab, col, dd, k0, k1, k2, k3, k5, Heap.get?_push_of_some _ e⟩
theorem under (z : ∀ T : String, tl.contains (.type T) = bs.contains (.type T)) (T : String) : (Value.ref C :: tl).contains (.type T) = bs.contains (.type T) := by rw [List.contains_cons, z]; rfl
theorem asked (F : ExcBaseFacts B nw it bs) (z : Stands s.heap C nw bs tl) {us : List Value} {ks : List (Str × Value)} {Q : Unit → Shared → Prop} (q : Q () s) : wpAny (model prog w) A (checkBuiltinCall nw ⟨.ref C :: us, ks⟩) Q E s := by
  obtain ⟨z1, nm, q1, N, b0, hd, sn, sub, ab, col, dd, k0, k1, k2, k3, k5, e⟩ := z
  have up := under (C := C) z1 B
  rw [F.hasB] at up
  have ns := F.noStar
  obtain ⟨h, g, d, t, os⟩ := s
  simp only [checkBuiltinCall, F.newSplit, F.newRow, F.newKind]
  repeat first
    | refine wpAny_staticBase_exc e ?_
    | refine wpAny_madeBy_exc e ?_
    | refine wpAny_loadPart_at e ?_
    | (refine wpAny_isSubtype_exc e ?_; rw [up])
    | simp only [bne_self_eq_false, Bool.false_eq_true, if_false]
    | wp_step
  exact q
/-- what it is when it is made: bare, its values behind it -/
abbrev laidOut (s : Shared) (C : Addr) (us : List Value) : Shared := { s with heap := (s.heap.push (W.kdv_tup us)).push (excO C s.heap.objs.size) }
theorem bare (F : ExcBaseFacts B nw it bs) (z : Stands s.heap C nw bs tl) {us : List Value} {ks : List (Str × Value)} (l : us.length ≤ sizeLine) (q : R (.ok (.ret (.ref (s.heap.objs.size + 1)))) (laidOut s C us)) :
    codeAny (model prog w) A (.builtin nw ⟨.ref C :: us, ks⟩) R s := by
  obtain ⟨z1, nm, q1, N, b0, hd, sn, sub, ab, col, dd, k0, k1, k2, k3, k5, e⟩ := z
  have up := under (C := C) z1
  have fe := F.ends
  apply codeAny_builtinAt F.entry
  unfold Builtin.«BaseException.__new__»; refine PySem.wpAt_bind (show PySem.wpAt _ _ _ (stack >>= _) _ _ _ from PySem.wpAt_bind (PySem.wpAt_stack fun p b => PySem.wpAt_of_wpAny ?_))
  obtain ⟨h, g, d, t, os⟩ := s
  wp_walk
  refine PySem.wpAt_of_wpAny ?_
  rw [F.owner]
  repeat first
    | (with_reducible refine wpAny_loadPart_at e ?_)
    | (with_reducible refine wpAny_madeHere_exc F.canon e ?_)
    | (with_reducible refine wpAny_isSubtype_exc e ?_; rw [up]; first | rw [F.hasB] | rw [F.noAttr] | rw [F.noName])
    | wp_step
  show R _ _
  rw [Heap.size_push]
  exact q
/-- C(.., k = v): bare, then the def at fI with what was handed in -/
theorem call_kw (F : ExcBaseFacts B nw it bs) (z : Stands s.heap C nw bs tl) {us : List Value} {ks : List (Str × Value)} {fI : Addr} (l : us.length ≤ sizeLine)
    (lk : W.Looks (model prog w) s.heap (typeLookup (.ref C) "__init__") (some (.ref fI))) (bd : ∀ x, W.Looks (model prog w) s.heap (bindSpecial (.ref fI) x) (.ref fI, [x]))
    (run : codeAny (model prog w) (A.under (.builtin "type.__call__" ⟨.ref C :: us, ks⟩)) (.call (.ref fI) ⟨.ref (s.heap.objs.size + 1) :: us, ks⟩) (W.InitBack (s.heap.objs.size + 1) R) (laidOut s C us)) :
    codeAny (model prog w) A (.call (.ref C) ⟨us, ks⟩) R s := by
  have z' := z
  obtain ⟨z1, nm, q1, N, b0, hd, sn, sub, ab, col, dd, k0, k1, k2, k3, k5, e⟩ := z'
  obtain ⟨h, g, d, t, os⟩ := s
  have more : ∀ b o, h.get? b = some o → ((h.push (W.kdv_tup us)).push (excO C h.objs.size)).get? b = some o := fun b o y => Heap.get?_push_of_some _ (Heap.get?_push_of_some _ y)
  have e' := more _ _ e
  have new : ((h.push (W.kdv_tup us)).push (excO C h.objs.size)).get? (h.objs.size + 1) = some (excO C h.objs.size) := by heap_get
  have self : (Value.ref C :: tl).contains (.ref C) = true := by simp
  have lk' := lk.keeps more
  have bd' := (bd (.ref (h.objs.size + 1))).keeps more
  have ofType : (⟨h, g, d, t, os⟩ : Shared).TypeIs (.ref C) "type" := ⟨_, e, rfl⟩
  have look := tc_lookup
  have bind := tc_bind (.ref C)
  refine codeAny_of_tree (show wpAny _ _ (callAny (.ref C) _) _ _ _ from ?_)
  repeat any_goals first
    | assumption
    | (with_reducible refine wpAny_loadPart_at e ?_)
    | wp_step
  refine ⟨rfl, codeAny_call_builtin_at (Code.quiet_builtin _ (by decide +kernel)) entry_typeCall (wpAny_check_type_call_sub e ?_)⟩
  repeat first
    | (with_reducible refine wpAny_madeBy_exc e ?_)
    | (with_reducible refine wpAny_loadPart_at e ?_)
    | wp_step
  refine codeAny_call_builtin_code (Code.quiet_builtin _ F.quiet) (asked F z (bare F z l ?_))
  show wpAny _ _ _ _ _ (⟨(h.push (W.kdv_tup us)).push (excO C h.objs.size), g, d, t, os⟩ : Shared)
  unfold isInstance
  repeat first
    | (with_reducible refine wpAny_loadPart_at new ?_)
    | (with_reducible refine wpAny_isSubtype_exc e' ?_; rw [self])
    | wp_step
  refine (show wpAny _ _ (typeLookup (.ref C) _) _ _ _ from lk'.at (wpAny_holding (wpAny_bind (bd'.at (wpAny_bind (wpAny_call (codeAny_mono run fun r s' y => ?_)))))))
  cases r with
  | error x => exact y
  | ok f =>
    cases f with
    | ret v =>
      obtain ⟨rfl, y⟩ := y
      first
        | exact wpAny_pure (wpAny_pure y)
        | (wp_walk; exact y)
    | next => exact y.elim
    | brk => exact y.elim
    | cont => exact y.elim
end
end EXK

/-! ExcV: own exceptions over ValueError, LookupError, OverflowError, RuntimeError, held as values: their field stored and read, isinstance of them. -/
namespace EXV
open PySem L2
/-- a built-in exception class that own ones stand over -/
structure Base (B newId initId : String) (bmB : List Value) : Prop where
  ex : ExcBaseFacts B newId initId bmB
  st : StoreFacts B bmB "object.__setattr__" "object"
theorem bVE : Base "ValueError" "ValueError.__new__" "ValueError.__init__" [.type "ValueError", .type "Exception", .type "BaseException", .type "object"] := ⟨PySem.F.excBase_ValueError, PySem.F.store_ValueError⟩
theorem bLE : Base "LookupError" "LookupError.__new__" "LookupError.__init__" [.type "LookupError", .type "Exception", .type "BaseException", .type "object"] := ⟨PySem.F.excBase_LookupError, PySem.F.store_LookupError⟩
theorem bOE : Base "OverflowError" "OverflowError.__new__" "OverflowError.__init__" [.type "OverflowError", .type "ArithmeticError", .type "Exception", .type "BaseException", .type "object"] := ⟨PySem.F.excBase_OverflowError, PySem.F.store_OverflowError⟩
theorem bRE : Base "RuntimeError" "RuntimeError.__new__" "RuntimeError.__init__" [.type "RuntimeError", .type "Exception", .type "BaseException", .type "object"] := ⟨PySem.F.excBase_RuntimeError, PySem.F.store_RuntimeError⟩
/-- what the class says so that its instances' fields are read and they are asked for their class -/
structure Asks (K : PySem.W.Frag) (C : Addr) : Prop where
  (ga : PySem.W.findIn K (.ref C) "__getattribute__" = some (some (.builtin "BaseException.__getattribute__"))) (gt : PySem.W.findIn K (.ref C) "__getattr__" = some none)
  (su : PySem.W.subIn K (.ref C) (.type "BaseException") = some true) (hd : PySem.W.hasDictIn K C = true) (ca : PySem.W.findIn K (.ref C) "__class__" = some (some (.builtin "object.__class__")))
  (cg : PySem.W.specialIn K (.builtin "object.__class__") "__get__" = some (some (.builtin "getset_descriptor.__get__"))) (ct : PySem.W.takesIn K (.builtin "object.__class__") = some true)
  (ob : PySem.W.mroIn K C (.type "object") = some true)
/-- what an own exception class says: storing, reading, asking -/
structure Cl (K : PySem.W.Frag) (C : Addr) (bmB : List Value) : Prop where
  (ov : PySem.W.excOver K C bmB = true) (sa : PySem.W.findIn K (.ref C) "__setattr__" = some (some (.builtin "object.__setattr__"))) (kp : PySem.W.keepIn K (.ref C) = true)
  (ec : Asks K C)
def clB (K : PySem.W.Frag) (C : Addr) (bmB : List Value) : Bool := PySem.W.excOver K C bmB && (decide (PySem.W.findIn K (.ref C) "__setattr__" = some (some (.builtin "object.__setattr__"))) && (PySem.W.keepIn K (.ref C) &&
  (decide (PySem.W.findIn K (.ref C) "__getattribute__" = some (some (.builtin "BaseException.__getattribute__"))) && (decide (PySem.W.findIn K (.ref C) "__getattr__" = some none) && (decide (PySem.W.subIn K (.ref C) (.type "BaseException") = some true) &&
  (PySem.W.hasDictIn K C && (decide (PySem.W.findIn K (.ref C) "__class__" = some (some (.builtin "object.__class__"))) && (decide (PySem.W.specialIn K (.builtin "object.__class__") "__get__" = some (some (.builtin "getset_descriptor.__get__"))) &&
  (decide (PySem.W.takesIn K (.builtin "object.__class__") = some true) && decide (PySem.W.mroIn K C (.type "object") = some true))))))))))
theorem clB_ok {K : PySem.W.Frag} {C : Addr} {bmB : List Value} (h : clB K C bmB = true) : Cl K C bmB := by
  unfold clB at h; simp only [Bool.and_eq_true, decide_eq_true_eq] at h
  obtain ⟨h1, h2, h3, h4, h5, h6, h7, h8, h9, h10, h11⟩ := h
  exact ⟨h1, h2, h3, h4, h5, h6, h7, h8, h9, h10, h11⟩
/-- a bare exception's object; with its dict -/
abbrev bareO (C t : Addr) : Obj := { cls := .ref C, dict := none, data := .fields #[.ref t, .none, .none, .none, .bool false, .none] }
abbrev fullO (C t dx : Addr) : Obj := { cls := .ref C, dict := some dx, data := .fields #[.ref t, .none, .none, .none, .bool false, .none] }
section
variable {X : Cx} {pins : List (Addr × Obj)} {σ : St} {H : Hp} {s : Shared} {a C dx : Addr} {f : Str} {y : V} {u : Value} {fs : List (Str × V)} {B newId initId : String} {bmB : List Value}
/-- a bare exception of ours gets its dict: two steps, the dict laid beside the old object, then the object written -/
theorem gets_dict {h' : Heap} {t tk : Nat} (I : Inv X pins σ H s) (e : H a = some (exo a C none)) (ho : s.heap.get? a = some (bareO C t)) (k : ∀ b o, b ≠ a → s.heap.get? b = some o → h'.get? b = some o) (dn : s.heap.objs.size ≤ dx) (dne : dx ≠ a)
    (hx : h'.get? a = some (fullO C t dx)) (hn : h'.Ns1 dx (fun y => if y = f then some u else none)) (ry : RelV y u) : Inv X pins σ (upd (upd H dx (exd dx [(f, y)])) a (exo a C (some dx))) { s with heap := h', toks := tk } := by
  generalize hm : h'.update a (fun _ => bareO C t) = m
  have m1 : m.get? a = some (bareO C t) := by rw [← hm]; exact Heap.get?_update_self _ hx rfl
  have m2 : ∀ b, b ≠ a → m.get? b = h'.get? b := fun b hb => by rw [← hm]; exact Heap.get?_update_ne _ _ _ _ hb
  have hnm : m.Ns1 dx (fun y => if y = f then some u else none) := hn.at fun o q => (m2 dx dne).trans q
  have I1 : Inv X pins σ (upd H dx (exd dx [(f, y)])) { s with heap := m, toks := tk } := I.laid (fun b o q => by
    by_cases hb : b = a
    · subst hb; rw [ho] at q; rw [m1]; exact q
    · rw [m2 b hb]; exact k b o hb q) dn (exd_ok hnm (relO_put (fs := []) ry fun g => True.intro))
  have e1 : (upd H dx (exd dx [(f, y)])) a = some (exo a C none) := by rw [upd_ne (Ne.symm dne)]; exact e
  exact I1.write (t' := tk) (h' := h') (x := a) (e := a) (o := exo a C (some dx)) (by rw [e1]; exact True.intro) (.inl rfl) (fun b o hb q => by
    have q' : m.get? b = some o := q
    rw [m2 b hb] at q'; exact q') ⟨_, hx⟩ (exo_ok hx)
/-- a field stored, the first of an exception -/
theorem st_new {Q : Unit → Shared → Prop} {E : Value → Shared → Prop} {A : Around} (Bs : Base B newId initId bmB) (T : Cl X.K C bmB) (I : Inv X pins σ H s) (e : H a = some (exo a C none)) (hno : PySem.W.findIn X.K (.ref C) f = some none) (ry : RelV y u)
    (h : ∀ (dx : Addr) (s' : Shared), H dx = none → dx ≠ a → Inv X pins σ (upd (upd H dx (exd dx [(f, y)])) a (exo a C (some dx))) s' → Q () s') : wpAny (model X.prog X.w) A (setAttr (.ref a) f u) Q E s := by
  obtain ⟨cd, hcl, hh⟩ := PySem.W.any_some T.ec.hd
  obtain ⟨t1, ho⟩ := exo_at I.hok e; have at0 : PySem.W.InstAt s.heap a (bareO C t1) C none := ⟨ho, rfl, rfl, trivial⟩
  refine PySem.W.set_plain I.kIn at0 T.sa ?_
  refine PySem.W.osa_openX (K := X.K) (s := { s with toks := s.toks + 1 }) (r := none) Bs.st I.kIn at0 T.ov (by unfold PySem.W.takerIn; rw [hno]; rfl) fun b => ?_
  obtain ⟨hp, g, d, t, os⟩ := s
  have hcls : PySem.W.Looks (model X.prog X.w) hp (classData C) cd := PySem.W.looks_clsIn I.kIn hcl
  have lt : a < hp.objs.size := Heap.lt_size ho
  have apart : hp.objs.size ≠ a := Nat.ne_of_gt lt
  show wpAny _ _ (Builtin.ObjectAttr.storeInOwnDict (.ref a) (.ref C) (.str f t) f u b) _ _ _
  obtain ⟨_, _, _, _, _, hd, _, _, _, _, _⟩ := cd
  obtain rfl : hd = true := hh
  unfold Builtin.ObjectAttr.storeInOwnDict Builtin.ObjectAttr.ownDictForStores
  repeat first
    | (with_reducible refine hcls.at ?_)
    | (with_reducible refine wpAny_loadPart_at ho ?_)
    | (with_reducible refine PySem.HandSPX.store_in_new ?_ ?_)
    | wp_step
  · exact ⟨_, #[], _, (Heap.get?_update_ne _ _ _ _ apart).trans (Heap.get?_push_at rfl rfl), rfl, fun _ z => absurd z (by simp), fun _ => rfl⟩
  · intro h' tk' hn same
    refine h hp.objs.size _ (I.hok.fresh (Nat.le_refl _)) apart (gets_dict (tk := tk') (h' := h') I e ho (fun b o hb q => ?_) (Nat.le_refl _) apart ?_ hn ry)
    · exact (same.2 b (Nat.ne_of_lt (Heap.lt_size q))).trans ((Heap.get?_update_ne _ _ _ _ hb).trans (Heap.get?_push_of_some _ q))
    · exact (same.2 a (Ne.symm apart)).trans (Heap.get?_update_self _ (Heap.get?_push_of_some _ ho) rfl)
end
end EXV

/-! ExcV2: isinstance of an exception that is held as a value, whatever its dict; its field. -/
namespace EXV
open PySem L2
section
variable {X : Cx} {pins : List (Addr × Obj)} {σ : St} {H : Hp} {s : Shared} {a C : Addr} {d : Option Addr}
/-- an exception as it stands: its dict, if any, tracked -/
def Held (H : Hp) (a C : Addr) (d : Option Addr) : Prop := H a = some (exo a C d) ∧ (d = none ∨ ∃ dx fs, d = some dx ∧ H dx = some (exd dx fs))
theorem Held.inst (h : Held H a C d) (I : Inv X pins σ H s) : ∃ ox od, PySem.W.InstAt s.heap a ox C od := by
  obtain ⟨t1, ho⟩ := exo_at I.hok h.1
  rcases h.2 with z | ⟨dx, fs, z, hd⟩
  · subst z
    exact ⟨_, none, ho, rfl, rfl, trivial⟩
  · subst z
    obtain ⟨mA, ⟨o, _, _, eo, _⟩, _⟩ := exd_at I.hok hd
    exact ⟨_, some o, ho, rfl, rfl, eo⟩
theorem kit_held {K : PySem.W.Frag} {ox : Obj} {od : Option Obj} (T : Asks K C) : PySem.W.KitX K (.ref a) (.ref C) (fun h => PySem.W.InstAt h a ox C od) :=
  PySem.W.kitx_exc (by obtain ⟨cd, hc, _⟩ := PySem.W.any_some T.hd; exact Option.isSome_iff_exists.mpr ⟨cd, hc⟩) T.ga T.gt T.su T.ca T.cg T.ct T.ob
/-- isinstance(e, c) -/
def rIsV (K : PySem.W.Frag) : List V → Hp → VK → Prop := fun xs H Q => ∃ (a C : Addr) (d : Option Addr) (c : V) (u : Value) (b : Bool), xs = [.ref a, c] ∧ ClsV c u ∧ Asks K C ∧ Held H a C d ∧ PySem.W.kitOne K (.ref C) u = some b ∧ Q (.bl b) H
/-- isinstance(e, (c1, ..)) -/
def rIsVT (K : PySem.W.Frag) : List V → Hp → VK → Prop := fun xs H Q => ∃ (a C : Addr) (d : Option Addr) (tp : Addr) (cs : List V) (us : List Value) (b : Bool), xs = [.ref a, .ref tp] ∧ H tp = some (.tup cs) ∧ Paired ClsV cs us ∧ Asks K C ∧ Held H a C d ∧ PySem.W.kitAny K (.ref C) us = some b ∧ Q (.bl b) H
/-- the two values of such a call -/
theorem two_vals {a : Addr} {c : V} {us : List Value} (r : Vals [.ref a, c] us) : ∃ u, us = [.ref a, u] ∧ RelV c u := by
  obtain ⟨w, u, rfl, r1, r2⟩ := vals2 r
  obtain rfl : w = Value.ref a := r1
  exact ⟨u, rfl, r2⟩
theorem call_isV : CallR X (.builtin "isinstance") (rIsV X.K) := fun pins s σ H xs us Q I r h => by
  obtain ⟨a, C, d, c, u, b, ex, k, T, hh, e, q⟩ := h
  subst ex
  obtain ⟨w, eu, r2⟩ := two_vals r
  obtain rfl : w = u := k.eq r2
  subst eu
  obtain ⟨_, _, J⟩ := hh.inst I
  exact PySem.W.kia_one (kit_held T) I.kIn J e (fun z => nomatch z) fun tk => ⟨.bl b, H, I.tok tk, rfl, q⟩
theorem call_isVT : CallR X (.builtin "isinstance") (rIsVT X.K) := fun pins s σ H xs us Q I r h => by
  obtain ⟨a, C, d, tp, cs, ws, b, ex, hT, k, T, hh, e, q⟩ := h
  subst ex
  obtain ⟨w, eu, r2⟩ := two_vals r
  obtain rfl : w = Value.ref tp := r2
  subst eu
  obtain ⟨_, _, J⟩ := hh.inst I
  have laid : ObjOk X.prog X.w H s.heap tp (.tup cs) := I.hok tp _ hT
  obtain ⟨_, its, rv, ⟨oc, od', dt, sl⟩, h1, h2, n, h3⟩ := laid
  obtain rfl : its = ws := ClsV.all k rv
  obtain rfl : oc = Value.type "tuple" := h2
  obtain rfl : dt = .seq its.toArray n := h3
  exact PySem.W.kia_tup (kit_held T) I.kIn J h1 e (fun z => nomatch z) fun tk => ⟨.bl b, H, I.tok tk, rfl, q⟩
/-- either rule of a call -/
theorem call_or {f : Value} {r1 r2 : List V → Hp → VK → Prop} (h1 : CallR X f r1) (h2 : CallR X f r2) : CallR X f (fun xs H Q => r1 xs H Q ∨ r2 xs H Q) := fun pins s σ H xs us Q I r h => h.elim (h1 pins s σ H xs us Q I r) (h2 pins s σ H xs us Q I r)
/-- e.f -/
def tFv (K : PySem.W.Frag) (f : Str) (te : TE) : TE := fun σ H Q => te σ H fun x H1 => ∃ (a C dx : Addr) (fs : List (Str × V)) (v : V), x = .ref a ∧ Asks K C ∧ PySem.W.findIn K (.ref C) f = some none ∧ H1 a = some (exo a C (some dx)) ∧ H1 dx = some (exd dx fs) ∧ fs.lookup f = some v ∧ Q v H1
theorem pe_fv {e : Expr} {te : TE} {pos : Pos} {n : Str} (he : PE X e te) (hb : attributeBase e n X.env (eval e X.env) = eval e X.env := by rfl) : PE X (.Attribute e n pos) (tFv X.K n te) := ⟨fun pins s σ H Q I h => by
  refine attr_of hb (thn (he.run pins s σ H _ I h) fun u s1 ⟨x, H1, J, rx, a, C, dx, fs, v, ex, T, hno, ea, ed, l, q⟩ => ?_)
  subst ex
  obtain rfl : u = Value.ref a := rx; obtain ⟨t1, ho⟩ := exo_at J.hok ea
  obtain ⟨mA, ns, rel⟩ := exd_at J.hok ed
  obtain ⟨od, hod, look⟩ := lookIn_ns ns
  have rn := rel n
  rw [l] at rn
  obtain ⟨w, hw, rw'⟩ := RelO.some_of (v := v) (o := mA n) rn
  exact HandSPX.exc_get J.kIn (ox := fullO C t1 dx) (od := some od) ⟨ho, rfl, rfl, hod⟩ T.ga T.gt T.su (PySem.W.findObj_own T.hd hno rfl ((look n).trans (congrArg some hw))) (handed_of rw') ⟨v, H1, J.tok _, rw', q⟩⟩
/-- self.f = e, the first field -/
def tSt (K : PySem.W.Frag) (f : Str) (to te : TE) : TS := fun D σ H => te σ H fun y H1 => to σ H1 fun x H2 => ∃ (a C : Addr) (B n i : String) (bm : List Value), x = .ref a ∧ Base B n i bm ∧ Cl K C bm ∧ PySem.W.findIn K (.ref C) f = some none ∧
  H2 a = some (exo a C none) ∧ ∀ dx, H2 dx = none → dx ≠ a → D.nx σ (upd (upd H2 dx (exd dx [(f, y)])) a (exo a C (some dx)))
theorem ps_st {o e : Expr} {to te : TE} {f : Str} {p' pos : Pos} (ho : PE X o to) (he : PE X e te) (hs : swapsWith e (some (.Attribute o f p')) pos.line X.env = pure false := by rfl) : PS X (.Assign [.Attribute o f p'] e pos) (tSt X.K f to te) := ⟨fun pins s σ H D I h => by
  refine plainObj_wpAny_Assign_Attribute (thn (he.run pins s σ H _ I h) fun v s1 ⟨y, H1, J, rv, q1⟩ => thn (ho.run pins s1 σ H1 _ J q1) fun w s2 ⟨x, H2, J2, rx, a, C, _, _, _, _, ex, Bs, T, hno, ea, q⟩ => ?_) hs
  subst ex
  obtain rfl : w = Value.ref a := rx; exact st_new Bs T J2 ea hno rv fun dx s' n ne J3 => ⟨σ, _, J3, q dx n ne⟩⟩
end
end EXV

/-! ExcV3: an exception made as a value: by its own __init__, values or names handed in; with no __init__ of its own. -/
namespace EXV
open PySem L2
/-- what the class says of its making by the def at fI -/
structure MkI (K : PySem.W.Frag) (C fI : Addr) (newId : String) (bmB : List Value) : Prop where
  ini : PySem.W.excInitIn K C bmB newId = true
  fn : PySem.W.findIn K (.ref C) "__init__" = some (some (.ref fI))
  ty : PySem.W.typeIn K (.ref fI) = some (.type "function")
  (kp : PySem.W.keepIn K (.ref C) = true)
/-- C(..): the exception, bare, then its __init__ -/
def tMkV (C : Addr) (sp : Sp) (ta : TA) : TE := fun σ H Q => ta σ H fun vs H1 => vs.length ≤ 1000 ∧ ∀ a, H1 a = none → sp (.ref a :: vs) (upd H1 a (exo a C none)) (fun v H2 => v = .non ∧ Q (.ref a) H2) (fun _ _ _ => False)
/-- C(k = ..) -/
def tMkVK (C : Addr) (m : Nat) (sp : Sp) (gV : List V → List V → List V) (tk : TA) : TE := fun σ H Q => tk σ H fun zs H1 => zs.length = m ∧ ∀ a, H1 a = none → sp (gV [.ref a] zs) (upd H1 a (exo a C none)) (fun v H2 => v = .non ∧ Q (.ref a) H2) (fun _ _ _ => False)
theorem few {α β : Type} {P : α → β → Prop} {vs : List α} {us : List β} (r : Paired P vs us) (h : vs.length ≤ 1000) : us.length ≤ sizeLine := by
  have := Paired.length r
  rw [sizeLine_eq]; omega
section
variable {X : Cx} {CX : CXT} {k : Nat} {fI C : Addr} {fd : FuncData} {ps ks : List Str} {sp : Sp} {x : Str} {p pos : Pos} {e : Expr} {es : List Expr} {kws : List Keyword} {ta : TA} {tk : TA} {B newId initId : String} {bmB : List Value} {g : List Value → List Value → List Value} {gV : List V → List V → List V}
variable {pins : List (Addr × Obj)} {σ : St} {H : Hp} {s : Shared} {Q : VK} {us : List Value}
/-- what was handed in and the bare exception, laid: ours is the exception -/
theorem laid_bare (I : Inv X pins σ H s) : Inv X pins σ (upd H (s.heap.objs.size + 1) (exo (s.heap.objs.size + 1) C none)) (EXK.laidOut s C us) :=
  Inv.laid (t' := s.toks) (h' := (EXK.laidOut s C us).heap) I (fun b o z => Heap.get?_push_of_some _ (Heap.get?_push_of_some _ z)) (Nat.le_succ _) (exo_ok (t1 := s.heap.objs.size) (by
    show ((s.heap.push (PySem.W.kdv_tup us)).push (PySem.HandSPX.excO C s.heap.objs.size)).get? (s.heap.objs.size + 1) = _
    heap_get))
theorem run_mk {kw : List (Str × Value)} (Bs : Base B newId initId bmB) (M : MkI X.K C fI newId bmB) (F : FnOk X.prog X.w X.K X.mg X.base CX k fI fd ps sp) (hr : Room (k + 1) X.A)
    (hx : Passes CX X (fun _ _ _ => False)) (I : Inv X pins σ H s) (hl : us.length ≤ sizeLine)
    (h : ∀ a, H a = none → ∃ zs ys, sp zs (upd H a (exo a C none)) (fun v H2 => v = .non ∧ Q (.ref a) H2) (fun _ _ _ => False) ∧ Vals zs ys ∧ ∀ s', X.K.In s'.heap → BindsTo s' fd ⟨.ref a :: us, kw⟩ (ps.zip ys)) :
    wpAny (model X.prog X.w) X.A (call (.ref C) us kw) (EP X pins σ Q) X.xe s := by
  have z : ∃ tl, EXK.Stands s.heap C newId bmB tl := by
    obtain ⟨nm, N, q, bs, tl, hd, sn, sub, ab, col, dd, k0, k1, k2, k3, k5, hC, hT⟩ := PySem.W.excInit_of I.kIn M.ini
    exact ⟨tl, hT, nm, q, N, bs, hd, sn, sub, ab, col, dd, k0, k1, k2, k3, k5, hC⟩
  obtain ⟨tl, z⟩ := z
  obtain ⟨zs, ys, hq, rz, hb⟩ := h (s.heap.objs.size + 1) (I.hok.fresh (Nat.le_succ _))
  have J : Inv X pins σ (upd H (s.heap.objs.size + 1) (exo (s.heap.objs.size + 1) C none)) (EXK.laidOut s C us) := laid_bare I
  refine wpAny_call (EXK.call_kw Bs.ex z hl (PySem.W.looks_findIn I.kIn M.fn) (fun x => PySem.W.bind_fn I.kIn x M.ty) (codeAny_mono (F.run _ X.stack _ _ ⟨_, kw⟩ ys zs _ _ (hr.make C us kw) (J.env0.make C us kw) (hb _ J.kIn) rz hq) fun r s' y => ?_))
  match r, y with
  | .error er, y => exact hx pins σ _ _ er s' J y
  | .ok (.ret u), y =>
    obtain ⟨v, H2, J2, rv, ev, q2⟩ := J.after y
    subst ev
    exact ⟨rv, .ref (s.heap.objs.size + 1), H2, J2, rfl, q2⟩
theorem pe_mkV (Bs : Base B newId initId bmB) (M : MkI X.K C fI newId bmB) (F : FnOk X.prog X.w X.K X.mg X.base CX k fI fd ps sp) (hr : Room (k + 1) X.A) (hb : Binds X.K fd ps []) (hx : Passes CX X (fun _ _ _ => False)) (hg : Gl X x) (hm : X.mg x = some (.ref C)) (ha : PA X (e :: es) ta) (hdb : (x == ("__debug__" : Str)) = false := by decide)
    (he : starEach (e :: es) X.env = (false, eval e X.env) :: starEach es X.env := by rfl)
    (hpl : (backTo pos (starEach es X.env)).any (·.1) = false := by rfl) : PE X (.Call (.Name x p) (e :: es) [] pos) (tMkV C sp ta) := ⟨fun pins s σ H Q I h => wpAny_Call_Name_kw (ld_glob I hg hm (PySem.W.callWith_K (h₀ := X.base) I.ok.mod.kin M.kp (thn (ha.run pos pins s σ H _ I h) fun us s1 ⟨vs, H1, J, r, l, q⟩ => ⟨J.kIn, by
      refine show wpAny _ _ (call (.ref C) us) _ _ _ from ?_; refine run_mk Bs M F hr hx J (few r l) fun a n => ⟨_, Value.ref a :: us, q a n, .cons rfl r, fun s' X' => ?_⟩
      have lp := F.len _ _ _ _ (q a n)
      have b := hb s' (.ref a :: us) X' (by simp only [List.append_nil, List.length_cons] at lp ⊢; rw [← lp, Paired.length r])
      simpa only [List.append_nil] using b⟩) he hpl) hdb)⟩
theorem pe_mkVK (Bs : Base B newId initId bmB) (M : MkI X.K C fI newId bmB) (F : FnOk X.prog X.w X.K X.mg X.base CX k fI fd ps sp) (hr : Room (k + 1) X.A) (hb : KBn X.K fd ps 1 ks g gV) (hx : Passes CX X (fun _ _ _ => False)) (hg : Gl X x) (hm : X.mg x = some (.ref C)) (hkw : PK X kws tk) (hall : (backToKw pos (keywordEach kws X.env)).all (·.1.isSome) = true := by rfl) (hks : (backToKw pos (keywordEach kws X.env)).filterMap (·.1) = ks := by rfl) (hdb : (x == ("__debug__" : Str)) = false := by decide) (hpl : ((backTo pos (starEach [] X.env)).any (·.1) || (backToKw pos (keywordEach kws X.env)).any (·.1.isNone)) = false := by rfl) :
    PE X (.Call (.Name x p) [] kws pos) (tMkVK C ks.length sp gV tk) := ⟨fun pins s σ H Q I h => wpAny_Call_Name_kw (ld_glob I hg hm (PySem.W.callWith_KW0 (h₀ := X.base) I.ok.mod.kin M.kp hall (thn (hkw.run pos pins s σ H _ I h) fun ws s2 ⟨zs, H2, J, r, l, q⟩ => ⟨J.kIn, by
      rw [hks]
      exact run_mk (us := []) Bs M F hr hx J (Nat.zero_le _) fun a n => ⟨_, g [.ref a] ws, q a n, hb.rel (.cons rfl .nil) r, fun s' X' => hb.to s' [.ref a] ws X' rfl ((Paired.length r).symm.trans l)⟩⟩) hpl) hdb)⟩
/-- C(..), C without an __init__ of its own -/
theorem run_mk0 (Bs : Base B newId initId bmB) (q : PySem.W.excIn X.K C bmB newId = true) (I : Inv X pins σ H s) (hl : us.length ≤ sizeLine)
    (h : ∀ a, H a = none → Q (.ref a) (upd H a (exo a C none))) : wpAny (model X.prog X.w) X.A (call (.ref C) us) (EP X pins σ Q) X.xe s := by
  obtain ⟨tl, N, nm, qn, bs, hd, sn, sub, ab, col, dd, k0, k1, k2, k3, k5, mN, eC, eN, no, T⟩ := exc_obj I.kIn q
  obtain ⟨hp, gs, dr, t, os⟩ := s
  refine wpAny_call_exc_subT Bs.ex T eC eN no (fun h' a made => ?_) hl
  obtain ⟨t0, ea, _⟩ := made.there
  have n : H a = none := I.hok.gone made.new
  exact ⟨.ref a, _, I.laidN made.keeps made.new n (exo_ok ea), rfl, h a n⟩
def tMk0 (C : Addr) (ta : TA) : TE := fun σ H Q => ta σ H fun vs H1 => vs.length ≤ 1000 ∧ ∀ a, H1 a = none → Q (.ref a) (upd H1 a (exo a C none))
theorem pe_mk0 (Bs : Base B newId initId bmB) (q : PySem.W.excIn X.K C bmB newId = true) (kC : PySem.W.keepIn X.K (.ref C) = true) (hg : Gl X x) (hm : X.mg x = some (.ref C)) (ha : PA X (e :: es) ta) (hdb : (x == ("__debug__" : Str)) = false := by decide)
    (he : starEach (e :: es) X.env = (false, eval e X.env) :: starEach es X.env := by rfl)
    (hpl : (backTo pos (starEach es X.env)).any (·.1) = false := by rfl) : PE X (.Call (.Name x p) (e :: es) [] pos) (tMk0 C ta) := ⟨fun pins s σ H Q I h => wpAny_Call_Name_kw (ld_glob I hg hm (PySem.W.callWith_K (h₀ := X.base) I.ok.mod.kin kC (thn (ha.run pos pins s σ H _ I h) fun us s1 ⟨vs, H1, J, r, l, z⟩ => ⟨J.kIn, by
      exact show wpAny _ _ (call (.ref C) us) _ _ _ from run_mk0 Bs q J (few r l) z⟩) he hpl) hdb)⟩
theorem pe_mk00 (Bs : Base B newId initId bmB) (q : PySem.W.excIn X.K C bmB newId = true) (kC : PySem.W.keepIn X.K (.ref C) = true) (hg : Gl X x) (hm : X.mg x = some (.ref C)) (hdb : (x == ("__debug__" : Str)) = false := by decide) :
    PE X (.Call (.Name x p) [] [] pos) (tMk0 C tNil) := ⟨fun pins s σ H Q I h => wpAny_Call_Name_kw (ld_glob I hg hm (PySem.W.callWith_K0 I.kIn kC (run_mk0 (us := []) Bs q I (Nat.zero_le _) h.2)) hdb)⟩
end
end EXV

/-! MR12: isinstance against an own class; x == y by x's own __eq__. -/
namespace MR
open PySem L2
section
variable {G : Gx} {c : Nat}
/-- the type of y, as an own class sees it -/
inductive Seen (K : PySem.W.Frag) (H : Hp) (C : Addr) (y : V) : Bool → Prop
  | own {t : Value} : TyX K H y (.ref C) → Seen K H C y true
  | blt {T : String} : TyX K H y (.type T) → PySem.W.subIn K (.type T) (.ref C) = some false → Seen K H C y false
def plainTy (t : String) : Bool := t == "int" || t == "str" || t == "bool" || t == "NoneType" || t == "list" || t == "tuple"
theorem sub_plain {K : PySem.W.Frag} {C : Addr} {t : String} (h : plainTy t = true) : PySem.W.subIn K (.type t) (.ref C) = some false := by
  unfold plainTy at h
  simp only [Bool.or_eq_true, beq_iff_eq] at h
  rcases h with ((((h | h) | h) | h) | h) | h <;> subst h
  · exact XH.sub_int
  · exact XH.sub_str
  · exact XH.sub_bool
  · exact XH.sub_none
  · exact XH.sub_list
  · exact XH.sub_tuple
/-- whether x is an instance of the own class c -/
def seenBy (c : Nat) (μ : Mem) (x : D) : Option Bool := match tyName μ x with
  | some t => if plainTy t = true then some false else none
  | none => match x with
    | .ref n => match μ[n]? with
      | some (.ins c' _) => if c' = c then some true else none
      | _ => none
    | _ => none
theorem seen_ok {ρ : List Addr} {H : Hp} {μ : Mem} {x : V} {d : D} {b : Bool} (M : MemOk G ρ H μ) (cl : Cls G.K (G.cA c)) (cx : XH.ClsX G.K (G.cA c)) (h : Den G ρ H x d) (e : seenBy c μ d = some b) : Seen G.K H (G.cA c) x b := by
  unfold seenBy at e
  split at e
  · rename_i t ht
    split at e
    · rename_i hp
      cases e
      exact .blt (tyName_ok M h ht) (sub_plain hp)
    · cases e
  · split at e
    · split at e
      · rename_i n c' fs hm
        split at e
        · rename_i hc
          subst hc
          cases e
          cases h with | ref r1 =>
          obtain ⟨dx, vs, ho, t⟩ := M.ob _ _ _ r1 hm
          exact .own (t := .none) (.base (.ins ho cl cx.ca cx.cg cx.tk cx.ob))
        · cases e
      · cases e
    · cases e
def fIsiO (c : Nat) : List D → Mem → Option (D × Mem) := fun ds μ => match ds with
  | [x, .cl c'] => if c' = c then (seenBy c μ x).map fun b => (.bl b, μ) else none
  | _ => none
theorem rc_isiO (cl : Cls G.K (G.cA c)) (cx : XH.ClsX G.K (G.cA c)) : RC G (rIsi G.K) (fIsiO c) := by
  intro ρ H μ vs ds d μ' Q M hd e p
  unfold fIsiO at e
  split at e
  · split at e
    · rename_i hc
      subst hc
      simp only [Option.map_eq_some_iff, Prod.mk.injEq] at e
      obtain ⟨b, hb, rfl, rfl⟩ := e
      cases hd with | cons h t =>
      cases t with | cons h2 t2 =>
      cases t2; cases h2
      cases seen_ok M cl cx h hb with
      | own ty => exact ⟨_, _, _, _, true, rfl, .own _, ty, XH.kit_own, p.go M .bl⟩
      | blt ty hs => exact ⟨_, _, _, _, false, rfl, .own _, ty, XH.kit_blt cx hs, p.go M .bl⟩
    · cases e
  · cases e
/-- x == y, x an instance of the own class c whose __eq__ keeps the promise of f -/
def oEqOwn (c : Nat) (f : List D → Mem → Option (D × Mem)) : D → D → Mem → Option (D × Mem) := fun x y μ => match x with
  | .ref n => match μ[n]? with
    | some (.ins c' _) => if c' = c then match seenBy c μ y with
        | some _ => match f [x, y] μ with
          | some (.bl b, μ') => some (.bl b, μ')
          | _ => none
        | none => none
      else none
    | _ => none
  | _ => none
theorem rr_eqOwn {f : List D → Mem → Option (D × Mem)} (cl : Cls G.K (G.cA c)) (cx : XH.ClsX G.K (G.cA c)) : RR G (rEqOwn G.K (G.cA c) (spM G f 2) E0) (oEqOwn c f) := by
  intro ρ H μ x y dx dy d μ' Q M hx hy e p
  unfold oEqOwn at e
  split at e
  · split at e
    · rename_i n c' fs hm
      split at e
      · rename_i hc
        subst hc
        split at e
        · rename_i b hb
          split at e
          · rename_i b' μ1 hf
            cases e
            have sy := seen_ok M cl cx hy hb
            have hx2 := hx
            cases hx2 with | ref r1 =>
            obtain ⟨dx, vs, ho, t⟩ := M.ob _ _ _ r1 hm
            have sp : spM G f 2 [_, y] H (fun v H' => (∃ b, v = .bl b) ∧ Q v H') E0 := ⟨ρ, μ, [_, dy], .bl b', μ', M, .cons hx (.cons hy .nil), rfl, hf, fun ρ2 H2 v e2 M2 d2 => by
              cases d2
              exact ⟨⟨_, rfl⟩, p ρ2 H2 _ e2 M2 .bl⟩⟩
            cases sy with
            | own ty => exact ⟨_, dx, vs, _, rfl, ho, ty, by unfold PySem.W.notFirst; simp, sp⟩
            | blt ty hs => exact ⟨_, dx, vs, _, rfl, ho, ty, by unfold PySem.W.notFirst; rw [hs]; simp, sp⟩
          · cases e
        · cases e
      · cases e
    · cases e
  · cases e
end
end MR

/-! NeOwn: x != y by x's own __eq__, where __ne__ is the library's. -/
namespace NeO
open PySem.W PySem PySem.Spec PySem.Calls PyProof.Rows
section
variable {prog : Program} {w : World} {A : Around} {E : Value → Shared → Prop} {s : Shared} {K : Frag} {x C L f : Addr} {h₀ : Heap} {m : Str → Option Value} {ox : Obj} {od : Option Obj} {b tb : Value}
theorem callNe {Q : Value → Shared → Prop} (hu : A.units + 1 < cLine) (X : K.In s.heap) (I : PySem.W.InstAt s.heap x ox C od) (hsub : mroIn K C (.type "object") = some true)
    (hs : findIn K (.ref C) "__eq__" = some (some (.ref f))) (hf : isFn K (.ref f) = true)
    (h : wpAny (model prog w) A.in1 (call (.ref f) [.ref x, b]) (fun v s' => ∃ k, v = .bool k ∧ Q (.bool (!k)) s') E s) :
    wpAny (model prog w) A (call (.builtin "object.__ne__") [.ref x, b]) Q E s := by
  have sub : Looks (model prog w) s.heap (isInstance (.ref x) (.type "object")) true := I.type.andThen (looks_subIn X hsub)
  refine wpAny_call (codeAny_call_builtin PySem.F.cmp_object.ne.plain PySem.F.cmpEntry_ne ?_)
  refine @check_slot (model prog w) _ _ s "object.__ne__" "object" "__ne__" (.ref x) [b] [] _ PySem.F.cmpKind_ne PySem.F.cmpSplit_ne sub (PySem.F.cmpArgs_ne (.ref x) b) ?_; unfold Builtin.«object.__ne__»
  refine wpAny_bind (wpAny_of_eq (a := ((Value.ref x : Value), [b])) (by first | rfl | (simp only [slotArgs]; rfl)) ?_)
  have hu1 : A.in1.units < cLine := by
    have : A.in1.units = A.units + 1 := by first | rfl | simp
    omega
  refine wpAny_bind (wpAny_cRoomFor hu1 ?_)
  refine wpAny_bind (ifBound_K X I hs hf (wpAny_mono h (fun v s' hv => ?_) fun _ _ z => z))
  obtain ⟨k, rfl, q⟩ := hv
  refine wpAny_bind (wpAny_truthy_bool ?_)
  exact wpAny_pure q
theorem ne_K {Q : Value → Shared → Prop} (hu : A.units + 1 < cLine) (F : Fr h₀ L s.heap m) (X₀ : K.In h₀) (I : PySem.W.InstAt s.heap x ox C od) (hb : Looks (model prog w) s.heap (typeOf b) tb) (hn : notFirst K C tb = true)
    (hne : findIn K (.ref C) "__ne__" = some (some (.builtin "object.__ne__"))) (hsub : mroIn K C (.type "object") = some true) (hs : findIn K (.ref C) "__eq__" = some (some (.ref f))) (hf : isFn K (.ref f) = true)
    (h : wpAny (model prog w) A.in1 (call (.ref f) [.ref x, b]) (fun v s' => ∃ k, v = .bool k ∧ Q (.bool (!k)) s') E s) : wpAny (model prog w) A (richCompare .NotEq (.ref x) b) Q E s := by
  have X := X₀.keeps F.keep
  have tried : wpAny (model prog w) A (tryCompare (.ref x) "__ne__" b) (fun r s' => ∃ v, r = some v ∧ Q v s') E s := by
    have body := callNe (Q := fun v s' => ∃ k, v = Value.bool k ∧ Q v s') hu X I hsub hs hf (wpAny_mono h (fun v s' ⟨k, e, q⟩ => ⟨k, e, !k, rfl, q⟩) fun _ _ z => z)
    unfold tryCompare
    refine wpAny_bind (m := callSpecialIfBound? (.ref x) (Str.ofString "__ne__") [b]) ?_; simp only [callSpecialIfBound?, bindSpecialIfBound?]
    refine wpAny_holding (wpAny_bind (wpAny_bind (wpAny_bind (I.type.here ((looks_findIn X hne).here ?_))))); refine wpAny_bind (wpAny_askSetting (wpAny_ite ?_))
    have fin : wpAny (model prog w) A (call (.builtin "object.__ne__") ([.ref x] ++ [b]) >>= fun v => pure (some v)) (fun r s' => wpAny (model prog w) A (match r with
      | some .notImplemented | none => (pure none)
      | some v => pure (some v)) (fun r s' => ∃ v, r = some v ∧ Q v s') E s') E s := wpAny_bind (wpAny_mono body (fun v s' hv => wpAny_pure (by
        obtain ⟨k, rfl, q⟩ := hv
        exact wpAny_pure ⟨_, rfl, q⟩)) fun _ _ z => z)
    rw [PySem.F.cmp_object.ne.bind (.ref x)]
    split
    · exact (wpAny_bind (wpAny_pure (wpAny_pure fin)))
    · exact (wpAny_tryCatch (wpAny_bind (wpAny_pure (wpAny_pure fin))))
  unfold richCompare
  simp only [oneThing_ref]
  refine wpAny_holding (wpAny_bind (wpAny_cRoomFor (by omega) ?_)); refine wpAny_bind (I.type.here (wpAny_bind (hb.here ?_)))
  by_cases same : (Value.ref C != tb) = true
  · rw [if_pos same]
    have no : subIn K tb (.ref C) = some false := by
      rcases Bool.or_eq_true_iff.mp hn with z | z
      · rw [beq_iff_eq.mp z] at same
        simp at same
      · exact (beq_iff_eq.mp z)
    refine wpAny_bind ((looks_subIn X no).here ?_); rw [if_neg Bool.false_ne_true]
    refine wpAny_bind (wpAny_mono tried (fun r s' hr => ?_) fun _ _ z => z)
    obtain ⟨v, rfl, q⟩ := hr
    exact (wpAny_pure q)
  · rw [if_neg same]; refine wpAny_bind (wpAny_pure ?_); rw [if_neg Bool.false_ne_true]
    refine wpAny_bind (wpAny_mono tried (fun r s' hr => ?_) fun _ _ z => z)
    obtain ⟨v, rfl, q⟩ := hr
    exact (wpAny_pure q)
end
end NeO
namespace MR
open PySem L2
def rNeOwn (K : PySem.W.Frag) (C : Addr) (sp : Sp) (E : XK) : R2 := fun x y H Q => ∃ a dx fs tb, x = .ref a ∧ H a = some (.ins C dx fs) ∧ TyX K H y tb ∧ PySem.W.notFirst K C tb = true ∧ sp [x, y] H (fun v H' => ∃ b, v = .bl b ∧ Q (.bl (!b)) H') E
theorem op_neOwn {X : Cx} {C f : Addr} {fd : FuncData} {ps : List Str} {sp : Sp} {n : Nat} (F : FnOk X.prog X.w X.K X.mg X.base CX0 n f fd ps sp) (hr : Room (n + 1) X.A) (hu : X.A.units + 1 < cLine)
    (hne : PySem.W.findIn X.K (.ref C) "__ne__" = some (some (.builtin "object.__ne__"))) (hsub : PySem.W.mroIn X.K C (.type "object") = some true)
    (hs : PySem.W.findIn X.K (.ref C) "__eq__" = some (some (.ref f))) (hf : PySem.W.isFn X.K (.ref f) = true) (hb : Binds X.K fd ps []) : OpR X (compareOp .NotEq) (rNeOwn X.K C sp E0) := by
  intro pins s σ H x y v u; intro Q I rx ry h
  obtain ⟨a, dx, fs, tb, rfl, ha, ty, hn, hsp⟩ := h
  obtain rfl : v = Value.ref a := (rx)
  obtain ⟨P, kx, hP, _⟩ := kit_of I ry ty; obtain ⟨mA, J, _⟩ := ins_get I.hok ha
  obtain ⟨od, J, _⟩ := J.look
  obtain ⟨m, hF⟩ := I.fr
  show wpAny (model X.prog X.w) X.A (richCompare .NotEq (.ref a) u) (EP X pins σ Q) X.xe s
  refine NeO.ne_K (tb := tb) hu hF I.ok.mod.kin J (kx.ty _ _ I.kIn hP) hn hne hsub hs hf ?_
  have hl := F.len _ _ _ _ hsp
  have r2 : Vals [V.ref a, y] [Value.ref a, u] := .cons rfl (.cons ry .nil)
  refine wpAny_call (codeAny_mono (F.run X.A.in1 X.stack s H ⟨[.ref a, u], []⟩ [.ref a, u] [.ref a, y] _ E0 hr.in1 I.env0.in1 (by
    have := hb s [.ref a, u] I.kIn (by simpa using hl); simpa using this) r2 hsp) fun r s' hq => ?_)
  cases r with
  | error e => exact pass0 pins σ H s e s' I hq
  | ok fl =>
    cases fl with
    | ret w =>
      obtain ⟨z, H', I', rz, b, ez, q⟩ := I.after hq
      subst ez
      have rz' : w = Value.bool b := (rz)
      subst rz'
      exact ⟨b, rfl, .bl (!b), H', I', rfl, q⟩
    | next => exact False.elim hq
    | brk => exact False.elim hq
    | cont => exact False.elim hq
section
variable {G : Gx} {c : Nat}
/-- x != y by x's own __eq__ -/
def oNeOwn (c : Nat) (f : List D → Mem → Option (D × Mem)) : D → D → Mem → Option (D × Mem) := fun x y μ => match x with
  | .ref n => match μ[n]? with
    | some (.ins c' _) => if c' = c then match seenBy c μ y with
        | some _ => match f [x, y] μ with
          | some (.bl b, μ') => some (.bl (!b), μ')
          | _ => none
        | none => none
      else none
    | _ => none
  | _ => none
theorem rr_neOwn {f : List D → Mem → Option (D × Mem)} (cl : Cls G.K (G.cA c)) (cx : XH.ClsX G.K (G.cA c)) : RR G (rNeOwn G.K (G.cA c) (spM G f 2) E0) (oNeOwn c f) := by
  intro ρ H μ x y dx dy d μ' Q M hx hy e p
  unfold oNeOwn at e
  split at e
  · split at e
    · rename_i n c' fs hm
      split at e
      · rename_i hc
        subst hc
        split at e
        · rename_i b hb
          split at e
          · rename_i b' μ1 hf
            cases e
            have sy := seen_ok M cl cx hy hb
            have hx2 := hx
            cases hx2 with | ref r1 =>
            obtain ⟨dx, vs, ho, t⟩ := M.ob _ _ _ r1 hm
            have sp : spM G f 2 [_, y] H (fun v H' => ∃ b, v = .bl b ∧ Q (.bl (!b)) H') E0 := ⟨ρ, μ, [_, dy], .bl b', μ', M, .cons hx (.cons hy .nil), rfl, hf, fun ρ2 H2 v e2 M2 d2 => by
              cases d2
              exact ⟨_, rfl, p ρ2 H2 _ e2 M2 .bl⟩⟩
            cases sy with
            | own ty => exact ⟨_, dx, vs, _, rfl, ho, ty, by unfold PySem.W.notFirst; simp, sp⟩
            | blt ty hs => exact ⟨_, dx, vs, _, rfl, ho, ty, by unfold PySem.W.notFirst; rw [hs]; simp, sp⟩
          · cases e
        · cases e
      · cases e
    · cases e
  · cases e
end
end MR

/-! ReflOwn: v == x where v is plain and x has an own __eq__: the built-in declines, x is asked. -/
namespace RfO
open PySem.W PySem PySem.Spec PySem.Calls PyProof.Rows
open AutoSeq1
section
variable {prog : Program}
variable {w : World} {A : Around} {E : Value → Shared → Prop} {s : Shared} {K : Frag} {x C L f : Addr} {h₀ : Heap} {m : Str → Option Value} {ox : Obj} {od : Option Obj}
theorem refl_K {T id : String} {v : Value} {Q : Value → Shared → Prop} (hu : A.units < cLine) (F : Fr h₀ L s.heap m) (X₀ : K.In h₀) (I : PySem.W.InstAt s.heap x ox C od)
    (hT : s.TypeIs v T) (hsub : subIn K (.ref C) (.type T) = some false) (slot : Slot T (cmpInfo .Eq).2.1 id)
    (decl : ∀ Q' : Value → Shared → Prop, Q' .notImplemented s → wpAny (model prog w) A (call (.builtin id) [v, .ref x]) Q' E s)
    (hs : findIn K (.ref C) "__eq__" = some (some (.ref f))) (hf : isFn K (.ref f) = true)
    (h : wpAny (model prog w) A (call (.ref f) [.ref x, v]) (PySem.W.CmpBack Q) E s) : wpAny (model prog w) A (richCompare .Eq v (.ref x)) Q E s := by
  have X := X₀.keeps F.keep
  have one : wpAny (model prog w) A (tryCompare (.ref x) "__eq__" v) (fun r s' => ∃ v, r = some v ∧ Q v s') E s := by
    unfold tryCompare
    (refine wpAny_bind (ifBound_K X I hs hf (wpAny_mono h (fun v s' hv => ?_) fun _ _ e => e)))
    (cases v <;> first | exact hv.elim | exact wpAny_pure ⟨_, rfl, hv⟩)
  simp only [richCompare, cmpInfo, hT.oneThing_none] at slot ⊢
  (refine wpAny_holding (wpAny_bind (wpAny_cRoomFor hu ?_)))
  refine wpAny_bind (wpAny_typeOf hT (wpAny_bind (I.type.here ?_)))
  have hne : (Value.type T != Value.ref C) = true := rfl
  rw [if_pos hne]
  refine wpAny_bind ((looks_subIn X hsub).here ?_)
  (simp only [Bool.false_eq_true, if_false, Bool.not_false, if_true])
  refine wpAny_bind (m := tryCompare v _ (.ref x)) (wpAny_tryCompare_declines hT slot (decl _ ⟨rfl, ?_⟩))
  refine wpAny_bind (m := tryCompare (.ref x) _ v) (wpAny_mono one (fun r s' z => ?_) fun _ _ e => e)
  obtain ⟨v, rfl, hq⟩ := z
  exact wpAny_pure hq
theorem dec_call {T id : String} {B : Builtin} {v : Value} (slot : Slot T (cmpInfo .Eq).2.1 id) (hT : s.TypeIs v T) (entry : entryFor table id = some B) (args : argsOk id ⟨[v, .ref x], []⟩)
    (body : ∀ (Q : Fin → Shared → Prop) (E' : Value → Shared → Prop), Q (.done (.ret .notImplemented)) s → wpAny (model prog w) A.in1 (B ⟨[v, .ref x], []⟩) Q E' s) (Q' : Value → Shared → Prop) (q : Q' .notImplemented s) :
    wpAny (model prog w) A (call (.builtin id) [v, .ref x]) Q' E s :=
  GQ.call_here slot hT entry args (body _ _ q)
end
section
variable {M : Model} {A : Around} {E : Value → Shared → Prop} {s : Shared} {x dx C : Addr}
theorem dec_int {i : Int} {t : Tok} (hx : s.heap.get? x = some (instObj C dx)) {Q : Fin → Shared → Prop} (q : Q (.done (.ret .notImplemented)) s) : wpAny M A (Builtin.«int.__eq__» ⟨[.int i t, .ref x], []⟩) Q E s := by
  (obtain ⟨hp, g, d, tk, os⟩ := s)
  wp_walk using wpAny_loadPart' hx
  exact q
theorem dec_bool {b : Bool} (hx : s.heap.get? x = some (instObj C dx)) {Q : Fin → Shared → Prop} (q : Q (.done (.ret .notImplemented)) s) : wpAny M A (Builtin.«int.__eq__» ⟨[.bool b, .ref x], []⟩) Q E s := by
  (obtain ⟨hp, g, d, tk, os⟩ := s)
  wp_walk using wpAny_loadPart' hx
  exact q
theorem dec_str {z : Str} {t : Tok} (hx : s.heap.get? x = some (instObj C dx)) {Q : Fin → Shared → Prop} (q : Q (.done (.ret .notImplemented)) s) : wpAny M A (Builtin.«str.__eq__» ⟨[.str z t, .ref x], []⟩) Q E s := by
  (obtain ⟨hp, g, d, tk, os⟩ := s)
  wp_walk using wpAny_loadPart' hx
  exact q
theorem dec_none {Q : Fin → Shared → Prop} (q : Q (.done (.ret .notImplemented)) s) : wpAny M A (Builtin.«NoneType.__eq__» ⟨[.none, .ref x], []⟩) Q E s := by
  (obtain ⟨hp, g, d, tk, os⟩ := s)
  wp_walk
  exact q
end
end RfO
namespace MR
open PySem L2
section
variable {X : Cx}
variable {pins : List (Addr × Obj)} {σ : St} {H : Hp} {s : Shared}
inductive PlV (K : PySem.W.Frag) (H : Hp) : V → String → Prop
  | non : PlV K H .non "NoneType"
  | bl {b} : PlV K H (.bl b) "bool"
  | int {i} : PlV K H (.int i) "int"
  | str {z} : PlV K H (.str z) "str"
  | lst {a xs} : SqL K H a xs → PlV K H (.ref a) "list"
  | tup {a xs} : SqT K H a xs → PlV K H (.ref a) "tuple"
/-- an own class is under none of the plain types -/
structure NoPl (K : PySem.W.Frag) (C : Addr) : Prop where
  no : ∀ T, plainTy T = true → PySem.W.subIn K (.ref C) (.type T) = some false
def noplT (x : Str) : PySem.W.Frag → Bool := fun K => ["int", "str", "bool", "NoneType", "list", "tuple"].all fun T => decide (PySem.W.subIn K (.ref (He.ga K x)) (.type T) = some false)
theorem noplT_ok {K : PySem.W.Frag} {x : Str} (h : noplT x K = true) : NoPl K (He.ga K x) := ⟨fun T hT => by
  unfold noplT at h
  simp only [List.all_cons, List.all_nil, Bool.and_eq_true, decide_eq_true_eq, and_true] at h
  obtain ⟨h1, h2, h3, h4, h5, h6⟩ := h
  unfold plainTy at hT
  simp only [Bool.or_eq_true, beq_iff_eq] at hT
  rcases hT with ((((e | e) | e) | e) | e) | e <;> subst e <;> assumption⟩
/-- how the built-in == of a plain value declines an own object -/
theorem pl_dec {K : PySem.W.Frag} {C o dx : Addr} {od : Option Obj} {x : V} {u : Value} {T : String} (I : Inv X pins σ H s) (rx : RelV x u) (p : PlV X.K H x T)
    (J : PySem.W.InstAt s.heap o (PySem.W.instObj C dx) C od) (kin : X.K.In s.heap) (np : NoPl X.K C) {prog : Program} {w : World} {A : Around} {E : Value → Shared → Prop} :
    plainTy T = true ∧ s.TypeIs u T ∧ ∃ id, Slot T (cmpInfo .Eq).2.1 id ∧ ∀ Q' : Value → Shared → Prop, Q' .notImplemented s → wpAny (model prog w) A (call (.builtin id) [u, .ref o]) Q' E s := by
  cases p with
  | non =>
    cases (show u = Value.none from rx)
    exact ⟨by decide, rfl, _, F.slot_NoneType_eq, RfO.dec_call F.slot_NoneType_eq rfl F.entry_NoneType_eq (F.args_NoneType_eq_2 _ _) fun Q E' q => RfO.dec_none q⟩
  | bl =>
    cases (show u = Value.bool _ from rx)
    exact ⟨by decide, rfl, _, F.slot_bool_eq, RfO.dec_call F.slot_bool_eq rfl F.entry_int_eq (F.args_int_eq_2 _ _) fun Q E' q => RfO.dec_bool J.at_ q⟩
  | int =>
    obtain ⟨t, rfl⟩ := (show ∃ t, u = Value.int _ t from rx)
    exact ⟨by decide, rfl, _, F.slot_int_eq, RfO.dec_call F.slot_int_eq rfl F.entry_int_eq (F.args_int_eq_2 _ _) fun Q E' q => RfO.dec_int J.at_ q⟩
  | str =>
    obtain ⟨t, rfl⟩ := (show ∃ t, u = Value.str _ t from rx)
    exact ⟨by decide, rfl, _, F.slot_str_eq, RfO.dec_call F.slot_str_eq rfl F.entry_str_eq (F.args_str_eq_2 _ _) fun Q E' q => RfO.dec_str J.at_ q⟩
  | lst h =>
    cases (show u = Value.ref _ from rx)
    obtain ⟨its, rv, pl, _⟩ := I.list h
    have hT := pl.isList.typeIs
    refine ⟨by decide, hT, _, F.slot_list_eq, RfO.dec_call F.slot_list_eq hT F.entry_list_eq (F.args_list_eq_2 _ _) fun Q E' q => ?_⟩
    refine wpAny_bind (wpAny_of_eq (a := ((Value.ref _ : Value), [Value.ref o])) (by first | rfl | (simp only [slotArgs]; rfl)) ?_)
    have lk : PySem.W.Looks (model prog w) s.heap (isInstance (.ref o) (.type "list")) false := J.type.andThen (PySem.W.looks_subIn kin (np.no "list" (by decide)))
    refine wpAny_bind (lk.here ?_)
    (rw [if_pos (show (!false) = true from rfl)])
    first | exact wpAny_pure q | exact wpAny_bind (wpAny_pure (wpAny_pure q))
  | tup h =>
    cases (show u = Value.ref _ from rx)
    obtain ⟨its, rv, pl, _⟩ := I.tuple h
    have hT := pl.typeIs
    refine ⟨by decide, hT, _, F.slot_tuple_eq, RfO.dec_call F.slot_tuple_eq hT F.entry_tuple_eq (F.args_tuple_eq_2 _ _) fun Q E' q => ?_⟩
    refine wpAny_bind (wpAny_of_eq (a := ((Value.ref _ : Value), [Value.ref o])) (by first | rfl | (simp only [slotArgs]; rfl)) ?_)
    have lk : PySem.W.Looks (model prog w) s.heap (isInstance (.ref o) (.type "tuple")) false := J.type.andThen (PySem.W.looks_subIn kin (np.no "tuple" (by decide)))
    refine wpAny_bind (lk.here ?_)
    (rw [if_pos (show (!false) = true from rfl)])
    first | exact wpAny_pure q | exact wpAny_bind (wpAny_pure (wpAny_pure q))
end
/-- x == y, where one of them at least is an instance of the own class C with its own __eq__ -/
inductive EqA (K : PySem.W.Frag) (C : Addr) (sp : Sp) : V → V → Hp → VK → Prop
  | own {a dx fs tb y H Q} : H a = some (.ins C dx fs) → TyX K H y tb → PySem.W.notFirst K C tb = true → sp [.ref a, y] H (fun v H' => (∃ b, v = .bl b) ∧ Q v H') E0 → EqA K C sp (.ref a) y H Q
  | plain {b dx fs T x H Q} : H b = some (.ins C dx fs) → PlV K H x T → sp [.ref b, x] H (fun v H' => (∃ b, v = .bl b) ∧ Q v H') E0 → EqA K C sp x (.ref b) H Q
structure EqFn (X : Cx) (C f : Addr) (sp : Sp) (n : Nat) : Prop where
  fn : ∃ fd ps, FnOk X.prog X.w X.K X.mg X.base CX0 n f fd ps sp ∧ Binds X.K fd ps []
  at_ : PySem.W.findIn X.K (.ref C) "__eq__" = some (some (.ref f))
  isf : PySem.W.isFn X.K (.ref f) = true
  np : NoPl X.K C
section
variable {X : Cx} {pins : List (Addr × Obj)} {σ : St} {H : Hp} {s : Shared} {C f : Addr} {sp : Sp} {n : Nat}
theorem eqA_run (F : EqFn X C f sp n) {A : Around} (sb : Sub X n A) (I : Inv X pins σ H s) {x y : V} {v u : Value} (rx : RelV x v) (ry : RelV y u) {Q : VK} (h : EqA X.K C sp x y H Q) :
    wpAny (model X.prog X.w) A (richCompare .Eq v u) (fun r s' => ∃ b H', r = .bool b ∧ Inv X pins σ H' s' ∧ Q (.bl b) H') X.xe s := by
  obtain ⟨fd, ps, Fn, hb⟩ := F.fn
  have e0 : (Env0 X.prog X.w X.K X.mg X.base A X.stack s H) := by
    have e := I.env0
    (exact ⟨by rw [sb.fr]; exact e.frames, e.mod, e.bs, e.bsz, e.funs, e.frf, e.hok, e.bare⟩)
  have go : ∀ (a : Addr) (z : V) (vz : Value), RelV z vz → sp [.ref a, z] H (fun v H' => (∃ b, v = .bl b) ∧ Q v H') E0 →
      wpAny (model X.prog X.w) A (call (.ref f) [.ref a, vz]) (PySem.W.CmpBack fun r s' => ∃ b H', r = .bool b ∧ Inv X pins σ H' s' ∧ Q (.bl b) H') X.xe s := by
    intro a z vz rz hsp
    have hl := Fn.len _ _ _ _ hsp
    have r2 : Vals [V.ref a, z] [Value.ref a, vz] := .cons rfl (.cons rz .nil)
    refine wpAny_call (codeAny_mono (Fn.run A X.stack s H ⟨[.ref a, vz], []⟩ [.ref a, vz] [.ref a, z] _ E0 sb.room e0 (by
      have := hb s [.ref a, vz] I.kIn (by simpa using hl); simpa using this) r2 hsp) fun r s' hq => ?_)
    cases r with
    | error e => exact pass0 pins σ H s e s' I hq
    | ok fl =>
      cases fl with
      | ret w =>
        obtain ⟨z, H', I', rz, ⟨b, ez⟩, q⟩ := I.after hq
        subst ez
        have rz' : w = Value.bool b := rz
        subst rz'
        exact ⟨b, H', rfl, I', q⟩
      | next => exact False.elim hq
      | brk => exact False.elim hq
      | cont => exact False.elim hq
  obtain ⟨m, hF⟩ := I.fr
  cases h with
  | own ha ty hn hsp =>
    obtain rfl : v = Value.ref _ := rx
    obtain ⟨P, kx, hP, _⟩ := kit_of I ry ty
    (obtain ⟨mA, J, _⟩ := ins_get I.hok ha)
    obtain ⟨od, J, _⟩ := J.look
    exact PySem.W.cmp_K (op := .Eq) sb.room.units0 hF I.ok.mod.kin J (kx.ty _ _ I.kIn hP) hn F.at_ F.isf (go _ _ _ ry hsp)
  | plain hb' pv hsp =>
    obtain rfl : u = Value.ref _ := ry
    obtain ⟨mA, J, _⟩ := ins_get I.hok hb'
    obtain ⟨od, J, _⟩ := J.look
    obtain ⟨pT, hT, id, slot, dec⟩ := pl_dec (prog := X.prog) (w := X.w) (A := A) (E := X.xe) (K := X.K) I rx pv J I.kIn F.np
    exact RfO.refl_K sb.room.units0 hF I.ok.mod.kin J hT (F.np.no _ pT) slot dec F.at_ F.isf (go _ _ _ rx hsp)
theorem op_eqA (F : EqFn X C f sp n) (hr : Room n X.A) : OpR X (compareOp .Eq) (EqA X.K C sp) := by
  intro pins s σ H x y v u; intro Q I rx ry h
  (show wpAny (model X.prog X.w) X.A (richCompare .Eq v u) (EP X pins σ Q) X.xe s)
  refine wpAny_mono (eqA_run F ⟨hr, rfl⟩ I rx ry h) (fun r s' q => ?_) fun _ _ x => x
  obtain ⟨b, H', rfl, I', q⟩ := q
  exact ⟨.bl b, H', I', rfl, q⟩
end
end MR

/-! InOwn: x in xs, x an instance of an own class with its own __eq__, xs a list in memory. -/
namespace InO
open PySem PySem.SeqAt PySem.Spec PyProof.Rows
open AutoSeq1
open MeetsSeq
open MeetsSeq2 MeetsSeq3 SeqRoads2
section
variable {prog : Program}
variable {w : World} {A : Around} {R : Result → Shared → Prop}
/-- what a turn needs -/
def Turn (prog : Program) (w : World) (A : Around) (R : Result → Shared → Prop) (l : Addr) (x : Value) (P : Nat → Nat → Shared → Prop) : Prop :=
  ∀ k i s, P k i s → ∃ (items : Array Value) (n : Nat), s.heap.get? l = some { cls := .type "list", data := .seq items n } ∧
    (∀ h : i < items.size, wpAny (model prog w) A.in1 (eqBool items[i] x) (fun r s' => if r = true then R (.ok (.ret (.bool true))) s' else ∃ k', k' < k ∧ P k' (i + 1) s') (fun e s' => R (.error e) s') s) ∧
    (¬ i < items.size → R (.ok (.ret (.bool false))) s)
theorem loopG (l : Addr) (x : Value) (P : Nat → Nat → Shared → Prop) (T : Turn prog w A R l x P) (k : Nat) :
    ∀ (i : Nat) (s : Shared), P k i s → wpAny (model prog w) A.in1 (Builtin.«list.__contains__.loop» ⟨[.ref l, x, rawInt i], []⟩) (GQ.FinOf prog w A R) (fun e s' => R (.error e) s') s := by
  induction k using Nat.strongRecOn with
  | ind k ih =>
    intro i s h
    obtain ⟨items, n, hl, t1, t2⟩ := T k i s h
    by_cases hlt : i < items.size
    · have ht := t1 hlt
      (obtain ⟨hp, g, d, tk, os⟩ := s)
      (wp_walk using wpAny_loadPart' hl)
      (have hi : items[((i : Nat) : Int).toNat]? = some items[i] := by simp [hlt])
      (have hc : ((i : Int) + 1) = ((i + 1 : Nat) : Int) := by omega)
      rw [hi]
      refine wpAny_bind (wpAny_mono ht (fun r s2 h2 => ?_) fun _ _ z => z)
      cases r with
      | true =>
        rw [if_pos rfl] at h2
        (obtain ⟨hp2, g2, d2, tk2, os2⟩ := s2)
        wp_walk
        exact h2
      | false =>
        rw [if_neg Bool.false_ne_true] at h2
        obtain ⟨k', hk, h3⟩ := h2
        have hrec := ih k' hk (i + 1) s2 h3
        (obtain ⟨hp2, g2, d2, tk2, os2⟩ := s2)
        wp_walk
        rw [hc]
        refine ⟨plainId_quiet plain_contains_loop _, codeAny_builtin entry_contains_loop ?_⟩
        (rw [Around.under_plainId plain_contains_loop _])
        exact hrec
    · have hR := t2 hlt
      (obtain ⟨hp, g, d, tk, os⟩ := s)
      (wp_walk using wpAny_loadPart' hl)
      (have hi : items[((i : Nat) : Int).toNat]? = none := by simp; omega)
      rw [hi]
      wp_walk
      exact hR
theorem bodyG (l : Addr) (x : Value) (P : Nat → Nat → Shared → Prop) (T : Turn prog w A R l x P) {k : Nat} {s : Shared} (h : P k 0 s) :
    wpAny (model prog w) A.in1 (Builtin.«list.__contains__» ⟨[.ref l, x], []⟩) (GQ.FinOf prog w A R) (fun e s' => R (.error e) s') s := by
  have hrec := loopG l x P T k 0 s h
  obtain ⟨items, n, hl, _, _⟩ := T k 0 s h
  (obtain ⟨hp, g, d, tk, os⟩ := s)
  (wp_walk using wpAny_loadPart' hl)
  refine ⟨plainId_quiet plain_contains_loop _, codeAny_builtin entry_contains_loop ?_⟩
  (rw [Around.under_plainId plain_contains_loop _])
  exact hrec
end
section
variable {prog : Program}
variable {w : World} {A : Around} {E : Value → Shared → Prop} {s : Shared}
theorem in_K {l : Addr} {x : Value} {Q : Value → Shared → Prop} (P : Nat → Nat → Shared → Prop) (T : Turn prog w A (wants (fun v s' => ∃ b, v = .bool b ∧ Q (.bool b) s') E) l x P) {k : Nat} (h : P k 0 s) :
    wpAny (model prog w) A (compareOp .In x (.ref l)) Q E s := by
  obtain ⟨items, n, hl, _, _⟩ := T k 0 s h
  show wpAny _ A (do return .bool (← contains (.ref l) x)) Q E s
  refine wpAny_bind (wpAny_contains_slot (T := "list") ⟨_, hl, rfl⟩ F.slot_list_contains (wpAny_mono (GQ.call_here F.slot_list_contains ⟨_, hl, rfl⟩ F.entry_list_contains (F.args_list_contains_2 _ _) (bodyG l x P T h)) (fun v s' hv => ?_) fun _ _ e => e))
  obtain ⟨b, rfl, hq⟩ := hv
  (exact wpAny_truthy_bool (wpAny_pure hq))
theorem notIn_K {l : Addr} {x : Value} {Q : Value → Shared → Prop} (P : Nat → Nat → Shared → Prop) (T : Turn prog w A (wants (fun v s' => ∃ b, v = .bool b ∧ Q (.bool (!b)) s') E) l x P) {k : Nat} (h : P k 0 s) :
    wpAny (model prog w) A (compareOp .NotIn x (.ref l)) Q E s := by
  obtain ⟨items, n, hl, _, _⟩ := T k 0 s h
  show wpAny _ A (do return .bool (!(← contains (.ref l) x))) Q E s
  refine wpAny_bind (wpAny_contains_slot (T := "list") ⟨_, hl, rfl⟩ F.slot_list_contains (wpAny_mono (GQ.call_here F.slot_list_contains ⟨_, hl, rfl⟩ F.entry_list_contains (F.args_list_contains_2 _ _) (bodyG l x P T h)) (fun v s' hv => ?_) fun _ _ e => e))
  obtain ⟨b, rfl, hq⟩ := hv
  (exact wpAny_truthy_bool (wpAny_pure hq))
/-- == inside a list, by the rich comparison -/
theorem eqBool_G {u : Value} {b : Addr} {Q : Bool → Shared → Prop} (hne : u ≠ .ref b) (h : wpAny (model prog w) A (richCompare .Eq u (.ref b)) (fun v s' => ∃ r, v = .bool r ∧ Q r s') E s) : wpAny (model prog w) A (eqBool u (.ref b)) Q E s := by
  unfold eqBool
  refine wpAny_holding ?_
  refine wpAny_ite_split (fun hab => absurd (eq_of_beq hab) hne) (fun _ => ?_)
  have fin : wpAny (model prog w) A (richCompare .Eq u (.ref b) >>= truthOfDropped) Q E s := by
    (refine wpAny_bind (wpAny_mono h (fun v s' hv => ?_) fun _ _ x => x))
    obtain ⟨r, rfl, q⟩ := hv
    exact wpAny_truthy_bool q
  cases u <;> exact fin
end
end InO
namespace MR
open PySem L2
/-- x in xs: turn by turn -/
abbrev Trn (K : PySem.W.Frag) (C : Addr) (sp : Sp) (a : Addr) (Q : Bool → Hp → Prop) (P : Nat → Nat → Hp → Prop) (k i : Nat) (H : Hp) : Option V → Prop
  | none => Q false H
  | some z => (z = .ref a ∧ Q true H) ∨ (((∃ b, z = .ref b ∧ b ≠ a) ∨ ∃ T, PlV K H z T) ∧ EqA K C sp z (.ref a) H (fun v H2 => ∃ b, v = .bl b ∧ (b = true → Q true H2) ∧ (b = false → ∃ k', k' < k ∧ P k' (i + 1) H2)))
def rInA (K : PySem.W.Frag) (C : Addr) (sp : Sp) (neg : Bool) : R2 := fun x y H Q => ∃ a l, x = .ref a ∧ y = .ref l ∧ ∃ P : Nat → Nat → Hp → Prop, (∃ k, P k 0 H) ∧ ∀ k i H', P k i H' →
  (∃ dx fs, H' a = some (.ins C dx fs)) ∧ ∃ xs, H' l = some (.lst xs) ∧ Trn K C sp a (fun b H2 => Q (.bl (if neg then !b else b)) H2) P k i H' xs[i]?
section
variable {X : Cx} {pins : List (Addr × Obj)} {σ : St} {H : Hp} {s : Shared} {C f : Addr} {sp : Sp} {n : Nat}
theorem in_turn (F : EqFn X C f sp n) (hr : Room (n + 1) X.A) {a l : Addr} {QB : Bool → Hp → Prop} {R : Result → Shared → Prop} (hR : ∀ b H' s', Inv X pins σ H' s' → QB b H' → R (.ok (.ret (.bool b))) s') (hE : ∀ e s', X.xe e s' → R (.error e) s')
    (P : Nat → Nat → Hp → Prop) (hP : ∀ k i H', P k i H' → (∃ dx fs, H' a = some (.ins C dx fs)) ∧ ∃ xs, H' l = some (.lst xs) ∧ Trn X.K C sp a QB P k i H' xs[i]?) :
    InO.Turn X.prog X.w X.A R l (.ref a) (fun k i s => ∃ H', Inv X pins σ H' s ∧ P k i H') := by
  intro k i s h
  obtain ⟨H', I, p⟩ := h
  obtain ⟨⟨dx, fs, ha⟩, xs, hl, t⟩ := hP k i H' p
  obtain ⟨_, its, n, rv, hlen, ho⟩ := I.lstM hl
  refine ⟨its.toArray, n, ho, fun hi => ?_, fun hi => ?_⟩
  · have hi' : i < its.length := by simpa using hi
    have k1 : i < xs.length := by omega
    rw [List.getElem?_eq_getElem k1] at t
    obtain ⟨u, hu, ru⟩ := rv.get (List.getElem?_eq_getElem k1)
    rw [List.getElem?_eq_getElem hi'] at hu
    have hu2 : its.toArray[i] = u := by simpa using hu
    rw [hu2]
    rcases t with ⟨hz, q⟩ | ⟨hz, e⟩
    · rw [hz] at ru
      (cases (show u = Value.ref a from ru))
      exact SeqAt.EqAt.same (A := X.A.in1) (s := s) (.ref a) X.prog X.w _ _ (by rw [if_pos rfl]; exact hR true H' s I q)
    · have hne : u ≠ .ref a := by
        intro hu3
        rcases hz with ⟨b, hb, hn⟩ | ⟨T, pT⟩
        · rw [hb] at ru
          have : u = Value.ref b := ru
          rw [this] at hu3
          injection hu3 with h4
          exact hn h4
        · obtain ⟨mA, J, _⟩ := ins_get I.hok ha
          obtain ⟨od, J, _⟩ := J.look
          obtain ⟨_, hT, _⟩ := pl_dec (prog := X.prog) (w := X.w) (A := X.A) (E := X.xe) (K := X.K) I ru pT J I.kIn F.np
          rw [hu3] at hT
          obtain ⟨o, h5, h6⟩ := hT
          rw [J.at_] at h5
          cases h5
          cases h6
      refine InO.eqBool_G hne (wpAny_mono (eqA_run F (A := X.A.in1) ⟨hr.in1, rfl⟩ I ru (show RelV (.ref a) (Value.ref a) from rfl) e) (fun r s' q => ?_) fun e s' x => hE e s' x)
      obtain ⟨b, H2, rfl, I2, b2, hb2, q1, q2⟩ := q
      cases hb2
      refine ⟨b, rfl, ?_⟩
      cases b with
      | true => rw [if_pos rfl]; exact hR true H2 s' I2 (q1 rfl)
      | false =>
        (rw [if_neg Bool.false_ne_true])
        obtain ⟨k', hk, p'⟩ := q2 rfl
        exact ⟨k', hk, H2, I2, p'⟩
  · have k1 : ¬ i < xs.length := by
      have : ¬ i < its.length := by simpa using hi
      omega
    rw [List.getElem?_eq_none (by omega)] at t
    exact hR false H' s I t
theorem op_inA (F : EqFn X C f sp n) (hr : Room (n + 1) X.A) : OpR X (compareOp .In) (rInA X.K C sp false) := by
  intro pins s σ H x y v u; intro Q I rx ry h
  obtain ⟨a, l, rfl, rfl, P, ⟨k, p⟩, hP⟩ := h
  (obtain rfl : v = Value.ref a := rx)
  obtain rfl : u = Value.ref l := ry
  refine InO.in_K (fun k i s => ∃ H', Inv X pins σ H' s ∧ P k i H') (in_turn F hr (QB := fun b H2 => Q (.bl b) H2) (fun b H' s' I' q => ?_) (fun e s' x => x) P hP) (k := k) ⟨H, I, p⟩
  exact ⟨b, rfl, .bl b, H', I', rfl, q⟩
theorem op_niA (F : EqFn X C f sp n) (hr : Room (n + 1) X.A) : OpR X (compareOp .NotIn) (rInA X.K C sp true) := by
  intro pins s σ H x y v u; intro Q I rx ry h
  obtain ⟨a, l, rfl, rfl, P, ⟨k, p⟩, hP⟩ := h
  (obtain rfl : v = Value.ref a := rx)
  obtain rfl : u = Value.ref l := ry
  refine InO.notIn_K (fun k i s => ∃ H', Inv X pins σ H' s ∧ P k i H') (in_turn F hr (QB := fun b H2 => Q (.bl (!b)) H2) (fun b H' s' I' q => ?_) (fun e s' x => x) P hP) (k := k) ⟨H, I, p⟩
  exact ⟨b, rfl, .bl (!b), H', I', rfl, q⟩
end
/-! ### on data -/
section
variable {G : Gx} {c : Nat}
def plainD (μ : Mem) : D → Bool
  | .non => true | .bl _ => true | .int _ => true | .str _ => true | .tup _ => true | .scr _ => true
  | .ref n => match μ[n]? with
    | some (.lst _) => true
    | _ => false
  | _ => false
theorem plainD_ok {ρ : List Addr} {H : Hp} {μ : Mem} {x : V} {d : D} (M : MemOk G ρ H μ) (h : Den G ρ H x d) (e : plainD μ d = true) : ∃ T, PlV G.K H x T := by
  cases h with
  | non => exact ⟨_, .non⟩
  | bl => exact ⟨_, .bl⟩
  | int => exact ⟨_, .int⟩
  | str => exact ⟨_, .str⟩
  | tup s _ => exact ⟨_, .tup s⟩
  | scr s _ => exact ⟨_, .lst s.sq⟩
  | ref r =>
    simp only [plainD] at e
    split at e
    · rename_i ds hm
      obtain ⟨vs, h1, _⟩ := M.ob _ _ _ r hm
      exact ⟨_, .lst (.inl (.inl h1))⟩
    · cases e
  | ty => cases e
  | cl => cases e
def insOf (c : Nat) (μ : Mem) : D → Bool
  | .ref n => match μ[n]? with
    | some (.ins c' _) => decide (c' = c)
    | _ => false
  | _ => false
theorem insOf_ok {ρ : List Addr} {H : Hp} {μ : Mem} {x : V} {d : D} (M : MemOk G ρ H μ) (h : Den G ρ H x d) (e : insOf c μ d = true) : ∃ a dx fs n, d = .ref n ∧ ρ[n]? = some a ∧ x = .ref a ∧ H a = some (.ins (G.cA c) dx fs) := by
  cases h with
  | @ref a n r =>
    simp only [insOf] at e
    split at e
    · rename_i c' fs hm
      have hc := of_decide_eq_true e
      subst hc
      obtain ⟨dx, vs, h1, _⟩ := M.ob _ _ _ r hm
      exact ⟨_, dx, vs, n, rfl, r, rfl, h1⟩
    · cases e
  | _ => cases e
/-- x == y, one of them own -/
def oEqA (c : Nat) (f : List D → Mem → Option (D × Mem)) : D → D → Mem → Option (D × Mem) := fun x y μ =>
  if insOf c μ x = true then match seenBy c μ y with
    | some _ => match f [x, y] μ with
      | some (.bl b, μ') => some (.bl b, μ')
      | _ => none
    | none => none
  else if insOf c μ y = true ∧ plainD μ x = true then match f [y, x] μ with
    | some (.bl b, μ') => some (.bl b, μ')
    | _ => none
  else none
theorem rr_eqA {f : List D → Mem → Option (D × Mem)} (cl : Cls G.K (G.cA c)) (cx : XH.ClsX G.K (G.cA c)) : RR G (EqA G.K (G.cA c) (spM G f 2)) (oEqA c f) := by
  intro ρ H μ x y dx dy d μ' Q M hx hy e p
  unfold oEqA at e
  split at e
  · rename_i hi
    obtain ⟨a, dxx, fs, n, rfl, r1, rfl, ha⟩ := insOf_ok M hx hi
    split at e
    · rename_i b hb
      split at e
      · rename_i b' μ1 hf
        cases e
        have sp : spM G f 2 [_, y] H (fun v H' => (∃ b, v = .bl b) ∧ Q v H') E0 := ⟨ρ, μ, [_, dy], .bl b', μ', M, .cons hx (.cons hy .nil), rfl, hf, fun ρ2 H2 v e2 M2 d2 => by
          cases d2
          exact ⟨⟨_, rfl⟩, p ρ2 H2 _ e2 M2 .bl⟩⟩
        cases seen_ok M cl cx hy hb with
        | own ty => exact .own ha ty (by unfold PySem.W.notFirst; simp) sp
        | blt ty hs => exact .own ha ty (by unfold PySem.W.notFirst; rw [hs]; simp) sp
      · cases e
    · cases e
  · split at e
    · rename_i hc
      obtain ⟨a, dxx, fs, n, rfl, r1, rfl, ha⟩ := insOf_ok M hy hc.1
      obtain ⟨T, pT⟩ := plainD_ok M hx hc.2
      split at e
      · rename_i b' μ1 hf
        cases e
        have sp : spM G f 2 [_, x] H (fun v H' => (∃ b, v = .bl b) ∧ Q v H') E0 := ⟨ρ, μ, [_, dx], .bl b', μ', M, .cons hy (.cons hx .nil), rfl, hf, fun ρ2 H2 v e2 M2 d2 => by
          cases d2
          exact ⟨⟨_, rfl⟩, p ρ2 H2 _ e2 M2 .bl⟩⟩
        exact .plain ha pT sp
      · cases e
    · cases e
def sameRef : D → Nat → Bool
  | .ref m, n => decide (m = n)
  | _, _ => false
/-- the turns: fuel, place -/
def inGo (c : Nat) (f : List D → Mem → Option (D × Mem)) (n l : Nat) : Nat → Nat → Mem → Option (Bool × Mem)
  | 0, _, _ => none
  | k + 1, i, μ => match μ[l]? with
    | some (.lst ds) => if insOf c μ (.ref n) = true then match ds[i]? with
        | none => some (false, μ)
        | some z => if sameRef z n = true then some (true, μ) else if (insOf c μ z || plainD μ z) = true then match oEqA c f z (.ref n) μ with
            | some (.bl true, μ') => some (true, μ')
            | some (.bl false, μ') => inGo c f n l k (i + 1) μ'
            | _ => none
          else none
      else none
    | _ => none
def oInA (c : Nat) (f : List D → Mem → Option (D × Mem)) (neg : Bool) : D → D → Mem → Option (D × Mem) := fun x y μ => match x, y with
  | .ref n, .ref l => match μ[n]?, μ[l]? with
    | some (.ins _ _), some (.lst ds) => match inGo c f n l (ds.length + 1) 0 μ with
      | some (b, μ') => some (.bl (if neg then !b else b), μ')
      | none => none
    | _, _ => none
  | _, _ => none
theorem rr_inA {f : List D → Mem → Option (D × Mem)} (neg : Bool) (cl : Cls G.K (G.cA c)) (cx : XH.ClsX G.K (G.cA c)) : RR G (rInA G.K (G.cA c) (spM G f 2) neg) (oInA c f neg) := by
  intro ρ H μ x y dx dy d μ' Q M hx hy e p
  unfold oInA at e
  split at e
  · rename_i n l
    split at e
    · rename_i c0 fs0 ds hn hl0
      split at e
      · rename_i b μ1 hg
        cases e
        cases hx with | ref r1 =>
        cases hy with | ref r2 =>
        rename_i a la
        refine ⟨a, la, rfl, rfl, fun k i H' => ∃ ρ' μ2, Ext G.K ρ H ρ' H' ∧ MemOk G ρ' H' μ2 ∧ inGo c f n l k i μ2 = some (b, μ'), ⟨_, ρ, μ, .refl, M, hg⟩, fun k i H' h => ?_⟩
        obtain ⟨ρ', μ2, ex, M2, g⟩ := h
        cases k with
        | zero => cases g
        | succ k =>
          unfold inGo at g
          split at g
          · rename_i ds2 hl2
            split at g
            · rename_i hi2
              obtain ⟨a2, dx2, fs2, n2, e3, r3, e4, ha2⟩ := insOf_ok M2 (.ref (ex.at_ r1)) hi2
              cases e3
              cases e4
              obtain ⟨vs, hv, tt⟩ := M2.ob _ _ _ (ex.at_ r2) hl2
              refine ⟨⟨dx2, fs2, ha2⟩, vs, hv, ?_⟩
              split at g
              · rename_i hq
                have hlen := tt.len
                have h0 : vs[i]? = none := by
                  rw [List.getElem?_eq_none_iff] at hq ⊢
                  omega
                rw [h0]
                cases g
                exact p ρ' H' _ ex M2 .bl
              · rename_i z hq
                obtain ⟨v, hv2, hd⟩ := tt.get hq
                rw [hv2]
                split at g
                · rename_i hs
                  cases g
                  cases z with
                  | ref m =>
                    have hm : m = n := of_decide_eq_true hs
                    subst hm
                    cases hd with | ref r4 =>
                    rw [ex.at_ r1] at r4
                    cases r4
                    exact .inl ⟨rfl, p ρ' H' _ ex M2 .bl⟩
                  | _ => cases hs
                · rename_i hs
                  split at g
                  · rename_i hz
                    have key : ∀ b2 μ3, oEqA c f z (.ref n) μ2 = some (.bl b2, μ3) → (b2 = true → b = true ∧ μ' = μ3) → (b2 = false → inGo c f n l k (i + 1) μ3 = some (b, μ')) →
                        Trn G.K (G.cA c) (spM G f 2) a (fun b H2 => Q (.bl (if neg then !b else b)) H2) (fun k i H' => ∃ ρ' μ2, Ext G.K ρ H ρ' H' ∧ MemOk G ρ' H' μ2 ∧ inGo c f n l k i μ2 = some (b, μ')) (k + 1) i H' (some v) := by
                      intro b2 μ3 he h1 h2
                      refine .inr ⟨?_, rr_eqA cl cx ρ' H' μ2 v (.ref a) z (.ref n) (.bl b2) μ3 _ M2 hd (.ref (ex.at_ r1)) he fun ρ4 H4 w4 e4 M4 d4 => ?_⟩
                      · rcases Bool.or_eq_true_iff.mp hz with hz | hz
                        · obtain ⟨a5, _, _, m, e5, r5, e6, _⟩ := insOf_ok M2 hd hz
                          subst e5
                          subst e6
                          refine .inl ⟨a5, rfl, fun h6 => ?_⟩
                          subst h6
                          have := M2.inj m n _ r5 (ex.at_ r1)
                          exact hs (decide_eq_true this)
                        · exact .inr (plainD_ok M2 hd hz)
                      · cases d4
                        refine ⟨b2, rfl, fun h6 => ?_, fun h6 => ?_⟩
                        · obtain ⟨rfl, rfl⟩ := h1 h6
                          exact p ρ4 H4 _ (ex.trans e4) M4 .bl
                        · exact ⟨k, by omega, ρ4, μ3, ex.trans e4, M4, h2 h6⟩
                    split at g
                    · rename_i μ3 he
                      cases g
                      exact key true _ he (fun _ => ⟨rfl, rfl⟩) (fun h => nomatch h)
                    · rename_i μ3 he
                      exact key false _ he (fun h => nomatch h) fun _ => g
                    · cases g
                  · cases g
            · cases g
          · cases g
      · cases e
    · cases e
  · cases e
end
end MR

/-! LenOwn: len(o) by an own __len__. -/
namespace MR
open PySem L2
def rLenOwn (C : Addr) (sp : Sp) (E : XK) : List V → Hp → VK → Prop := fun vs H Q => ∃ a dx fs, vs = [V.ref a] ∧ H a = some (.ins C dx fs) ∧ sp [.ref a] H (fun v H' => ∃ n : Int, v = .int n ∧ 0 ≤ n ∧ n < 2 ^ 63 ∧ Q (.int n) H') E
theorem cr_lenOwn {X : Cx} {C f : Addr} {fd : FuncData} {ps : List Str} {sp : Sp} {n : Nat} (F : FnOk X.prog X.w X.K X.mg X.base CX0 n f fd ps sp) (hr : Room (n + 1) X.A)
    (hs : PySem.W.findIn X.K (.ref C) "__len__" = some (some (.ref f))) (hf : PySem.W.isFn X.K (.ref f) = true) (hb : Binds X.K fd ps []) : CallR X (.builtin "len") (rLenOwn C sp E0) := by
  intro pins s σ H vs us; intro Q I r h
  obtain ⟨a, dx, fs, rfl, ha, hsp⟩ := h
  cases r with | cons r1 r2 =>
  cases r2
  rename_i u
  obtain rfl : u = Value.ref a := (r1)
  (obtain ⟨mA, J, _⟩ := ins_get I.hok ha)
  obtain ⟨od, J, _⟩ := J.look
  obtain ⟨m, hF⟩ := I.fr
  refine PySem.W.len_K hF I.ok.mod.kin J hs hf ?_
  have hl := F.len _ _ _ _ hsp
  have r3 : Vals [V.ref a] [Value.ref a] := .cons rfl .nil
  refine wpAny_call (codeAny_mono (F.run X.A.in1 X.stack s H ⟨[.ref a], []⟩ [.ref a] [.ref a] _ E0 hr.in1 I.env0.in1 (by
    have := hb s [.ref a] I.kIn (by simpa using hl)
    simpa using this) r3 hsp) fun r s' hq => ?_)
  cases r with
  | error e => exact pass0 pins σ H s e s' I hq
  | ok fl =>
    cases fl with
    | ret w =>
      obtain ⟨z, H', I', rz, k, ez, k0, k1, q⟩ := I.after hq
      subst ez
      obtain ⟨t, rfl⟩ : ∃ t, w = Value.int k t := rz
      exact ⟨⟨k0, k1⟩, .int k, H', I'.tok _, ⟨_, rfl⟩, q⟩
    | next => exact False.elim hq
    | brk => exact False.elim hq
    | cont => exact False.elim hq
section
variable {G : Gx} {c : Nat}
def fLenOwn (c : Nat) (f : List D → Mem → Option (D × Mem)) : List D → Mem → Option (D × Mem) := fun ds μ => match ds with
  | [.ref n] => match μ[n]? with
    | some (.ins c' _) => if c' = c then match f [.ref n] μ with
        | some (.int k, μ') => if 0 ≤ k ∧ k < 2 ^ 63 then some (.int k, μ') else none
        | _ => none
      else none
    | _ => none
  | _ => none
theorem rc_lenOwn {f : List D → Mem → Option (D × Mem)} : RC G (rLenOwn (G.cA c) (spM G f 1) E0) (fLenOwn c f) := by
  intro ρ H μ vs ds d μ' Q M hd e p
  unfold fLenOwn at e
  split at e
  · split at e
    · rename_i n c' fs hm
      split at e
      · rename_i hc
        subst hc
        split at e
        · rename_i k μ1 hf
          split at e
          · rename_i hk
            cases e
            cases hd with | cons h t =>
            cases t
            have h2 := h
            cases h2 with | ref r1 =>
            obtain ⟨dx, vs, ho, t⟩ := M.ob _ _ _ r1 hm
            refine ⟨_, dx, vs, rfl, ho, ρ, μ, [_], _, _, M, .cons h .nil, rfl, hf, fun ρ2 H2 v e2 M2 d2 => ?_⟩
            cases d2
            exact ⟨_, rfl, hk.1, hk.2, p ρ2 H2 _ e2 M2 .int⟩
          · cases e
        · cases e
      · cases e
    · cases e
  · cases e
end
end MR

/-! OwnOps: a class's own method by its promise; ==, !=, in, len by it. -/
namespace MR
open PySem L2
def Dm (P : Program) (w : World) (G : Gx) (mg : Str → Option Value) (base : Heap) (x : Str) (c k : Nat) (m : Str) (ps : List Str) (f : List D → Mem → Option (D × Mem)) : Prop :=
  G.cA c = He.ga G.K x ∧ ∃ fd, FnOk P w G.K mg base CX0 k (He.ma G.K (He.ga G.K x) m) fd ps (spM G f ps.length) ∧ Binds G.K fd ps [] ∧ Meth G.K (He.ga G.K x) m (He.ma G.K (He.ga G.K x) m)
section
variable {X : Cx} {ca : Nat → Addr} {c k : Nat} {x : Str} {ps : List Str} {f : List D → Mem → Option (D × Mem)}
theorem dm_eq (d : Dm X.prog X.w ⟨X.K, ca⟩ X.mg X.base x c k "__eq__" ps f) (hn : ps.length = 2) (np : NoPl X.K (ca c)) : EqFn X (ca c) (He.ma X.K (He.ga X.K x) "__eq__") (spM ⟨X.K, ca⟩ f 2) k := by
  obtain ⟨hc, fd, F, B, M⟩ := d
  have hc' : ca c = He.ga X.K x := hc
  refine ⟨⟨fd, ps, by rw [← hn]; exact F, B⟩, ?_, M.fn, np⟩
  rw [hc']
  exact M.at_
theorem dm_ne (d : Dm X.prog X.w ⟨X.K, ca⟩ X.mg X.base x c k "__eq__" ps f) (hn : ps.length = 2) (hr : Room (k + 1) X.A)
    (hne : PySem.W.findIn X.K (.ref (ca c)) "__ne__" = some (some (.builtin "object.__ne__"))) (cx : XH.ClsX X.K (ca c)) : OpR X (compareOp .NotEq) (rNeOwn X.K (ca c) (spM ⟨X.K, ca⟩ f 2) E0) := by
  obtain ⟨hc, fd, F, B, M⟩ := d
  have hc' : ca c = He.ga X.K x := hc
  have hu := hr.un
  exact op_neOwn (by rw [← hn]; exact F) hr (by omega) hne cx.ob (by rw [hc']; exact M.at_) M.fn B
theorem dm_len (d : Dm X.prog X.w ⟨X.K, ca⟩ X.mg X.base x c k "__len__" ps f) (hn : ps.length = 1) (hr : Room (k + 1) X.A) : CallR X (.builtin "len") (rLenOwn (ca c) (spM ⟨X.K, ca⟩ f 1) E0) := by
  obtain ⟨hc, fd, F, B, M⟩ := d
  have hc' : ca c = He.ga X.K x := hc
  exact cr_lenOwn (by rw [← hn]; exact F) hr (by rw [hc']; exact M.at_) M.fn B
end
end MR

/-! EnumT: enumerate(t), t a tuple. -/
namespace EnT
open PySem
open AutoSeq1
theorem new_tuple (l : Addr) (items : Array Value) (n : Nat) (dct : Option Addr) (sl : Array (Option Value)) :
    Meets (Builtin.«enumerate.__new__» ⟨[.type "enumerate", .ref l], []⟩) (fun _ R s => s.heap.get? l = some { cls := .type "tuple", dict := dct, data := .seq items n, slots := sl } ∧
      R (.ok (.ret (.ref (s.heap.push { cls := .type "tuple_iterator", data := .fields #[.ref l, .int 0 0] }).objs.size)))
        { s with heap := (s.heap.push { cls := .type "tuple_iterator", data := .fields #[.ref l, .int 0 0] }).push { cls := .type "enumerate", data := .fields #[.none, .bool false, .ref s.heap.objs.size, rawInt 0, .none, .none] } }) :=
  .of_wp fun prog w A R sh hh => by
    obtain ⟨ho, gg, dd, tk, oo⟩ := sh
    obtain ⟨hl, h⟩ := hh
    have hsub := sub_enumerate
    have hL : Heap.IsTuple (Shared.heap ⟨ho, gg, dd, tk, oo⟩) l items := ⟨_, hl, rfl, n, rfl⟩
    (wp_walk using wpAny_loadPart' hl)
    (refine wpAny_stack_any fun st => wpAny_pure ?_)
    split
    · rename_i c _ _ _ _ _
      (cases (c == Value.type "enumerate"))
      · wp_walk using wpAny_loadPart' hl, wpAny_pyIter_tuple hL
        exact ⟨_, rfl, h⟩
      · wp_walk using wpAny_loadPart' hl, wpAny_pyIter_tuple hL
        exact ⟨_, rfl, h⟩
    · wp_walk using wpAny_loadPart' hl, wpAny_pyIter_tuple hL
      exact ⟨_, rfl, h⟩
section
variable {prog : Program}
variable {w : World} {A : Around} {E : Value → Shared → Prop} {s : Shared}
theorem call_tuple {l : Addr} {items : Array Value} {Q : Value → Shared → Prop} (hL : s.heap.IsTuple l items)
    (h : ∀ h', IsEnum h' (s.heap.objs.size + 1) s.heap.objs.size 0 .none → h'.IsTupleIter s.heap.objs.size l 0 → h'.objs.size = s.heap.objs.size + 2 →
      (∀ (b : Addr) (o : Obj), s.heap.get? b = some o → h'.get? b = some o) → Q (.ref (s.heap.objs.size + 1)) { s with heap := h' }) : wpAny (model prog w) A (call (.type "enumerate") [.ref l]) Q E s := by
  (obtain ⟨⟨c, dct, dt, sl⟩, hl, hc, n, hd⟩ := hL)
  have hc' : c = .type "tuple" := hc
  have hd' : dt = .seq items n := hd
  subst hc' hd'
  refine callType_new F.called_enumerate (by decide) (F.typeCall_enumerate_1 _) (F.newCall_enumerate_1 _) (fun obj => F.args_object_init_2 obj _) F.entry_enumerate_new (new_tuple l items n dct sl) ⟨hl, ?_⟩
  have hz : (s.heap.push { cls := .type "tuple_iterator", data := .fields #[.ref l, .int 0 0] }).objs.size = s.heap.objs.size + 1 := Heap.size_push ..
  show _ ∧ _
  rw [hz]
  have he : IsEnum ((s.heap.push { cls := .type "tuple_iterator", data := .fields #[.ref l, .int 0 0] }).push { cls := .type "enumerate", data := .fields #[.none, .bool false, .ref s.heap.objs.size, rawInt 0, .none, .none] }) (s.heap.objs.size + 1) s.heap.objs.size 0 .none := by
    have q := Heap.get?_push_size (s.heap.push { cls := .type "tuple_iterator", data := .fields #[.ref l, .int 0 0] }) (o := { cls := .type "enumerate", data := .fields #[.none, .bool false, .ref s.heap.objs.size, rawInt 0, .none, .none] }) rfl
    rw [hz] at q; exact q
  exact ⟨⟨_, he, rfl⟩, h _ he ⟨_, Heap.get?_push_of_some _ (Heap.get?_push_size _ rfl), rfl, rfl⟩ (by rw [Heap.size_push, hz]) fun b o y => Heap.get?_push_of_some _ (Heap.get?_push_of_some _ y)⟩
end
end EnT
namespace MR
open PySem L2 PySem.Spec PyProof.Rows
/-- the tuple at a, each item in a new pair with its place -/
def IteT (K : PySem.W.Frag) (a : Addr) : It :=
  ⟨fun i H => ∃ (xs : List V) (x : V), SqT K H a xs ∧ xs[i]? = some x, fun i H v H' => ∃ T x, v = .ref T ∧ H T = none ∧ H' = upd H T (.tup [.int (i : Nat), x]) ∧ ∀ xs, SqT K H a xs → xs[i]? = some x, fun i H => ∃ xs : List V, SqT K H a xs ∧ i = xs.length⟩
theorem turn_enumT {P : Program} {w : World} {K : PySem.W.Frag} {elts : List Expr} {kk : Nat} {tpos : Pos} (a e it : Addr) :
    Turn P w K (.Tuple elts kk tpos) (IteT K a) [e, it] e (fun i h => (∃ old, IsEnum h e it ((i : Nat) : Int) old) ∧ h.IsTupleIter it a i ∧ e ≠ it) where
  mem := by simp
  obj := fun i h st b hb => by
    (obtain ⟨⟨old, he⟩, ⟨o, ho, hc, hd⟩, _⟩ := st)
    (have e' : b = e ∨ b = it := by simpa using hb)
    rcases e' with z | z
    · (rw [z]; exact ⟨_, he, fun v q => nomatch q⟩)
    · (rw [z]; exact ⟨o, ho, fun v q => by rw [hd] at q; cases q⟩)
  keep := fun i g g' st kk => let ⟨⟨old, he⟩, hi, hne⟩ := st; ⟨⟨old, kk e (by simp) _ he⟩, hi.at fun o q => kk it (by simp) o q, hne⟩
  item := by
    (intro X hP hw hK hc i pins s σ H E I hf st hg)
    subst hP hw hK
    (obtain ⟨⟨old, he⟩, hit, hne⟩ := st)
    obtain ⟨xs, x, hq, hx⟩ := hg
    (obtain ⟨its, rv, p, hz⟩ := I.tuple hq)
    (obtain ⟨u, hu, ru⟩ := rv.get hx)
    (have hel : e < s.heap.objs.size := Heap.lt_size he)
    (have hil : it < s.heap.objs.size := by obtain ⟨_, q, _⟩ := hit; exact Heap.lt_size q)
    have hait : a ≠ it := by
      rintro rfl
      obtain ⟨o1, q1, c1, _⟩ := hit
      obtain ⟨o2, q2, c2, _⟩ := p
      rw [q1] at q2
      cases q2
      rw [c1] at c2
      exact absurd c2 (by decide)
    have hea : e ≠ a := by
      rintro rfl
      obtain ⟨o2, q2, c2, _⟩ := p
      rw [he] at q2
      cases q2
      have c3 : (Value.type "enumerate") = .type "tuple" := c2
      simp at c3
    have hlen : its.toArray[i]? = some u := by simpa using hu
    have hlt : i < its.toArray.size := by
      have := (Array.getElem?_eq_some_iff.mp hlen).1
      exact this
    refine wpAny_pyNext_enum_itemD (Draws.tuple (A := X.A.in1) (I.ok.hd hc) it a hait its.toArray) he ⟨hit, p⟩ hlt hne (by simp [hne, hea]) fun x' h' tk hx' ho hst hT hsz hk => ?_
    have hxu : x' = u := by
      have h1 : its.toArray[i]? = some x' := hx'
      rw [hlen] at h1
      cases h1
      rfl
    subst hxu
    refine ⟨_, rfl, wpAny_letOwnedTupleGo_enum (s := { s with heap := h', toks := tk + 1 }) ho fun h'' he' sb => ?_⟩
    have hT2 : h''.get? s.heap.objs.size = some { cls := .type "tuple", data := .seq #[.int i tk, x'] } := (sb.2 _ (Nat.ne_of_gt hel)).trans hT
    have nw : ObjOk X.prog X.w (upd H s.heap.objs.size (.tup [.int (i : Nat), x])) h'' s.heap.objs.size (.tup [.int (i : Nat), x]) := ⟨by show 2 ≤ sizeLine; decide, [.int i tk, x'], .cons ⟨_, rfl⟩ (.cons ru .nil), ⟨_, hT2, rfl, _, rfl⟩⟩
    have I1 : Inv X pins σ (upd H s.heap.objs.size (.tup [.int (i : Nat), x])) { s with heap := h'', toks := tk + 1 } := I.turnedNew (ch := [e, it]) (fun b ob hb q => (sb.2 b (fun z => hb (by simp [z]))).trans (hk b ob (fun z => hb (by simp [z])) (fun z => hb (by simp [z])) q)) hf (Nat.le_refl _) nw
    refine ⟨.ref s.heap.objs.size, _, I1, rfl, ⟨_, x, rfl, I.hok.fresh (Nat.le_refl _), rfl, fun ys hy => by rw [I.tuple_inj hy hq]; exact hx⟩, ⟨⟨x', ?_⟩, hst.1.at fun o q => (sb.2 it (Ne.symm hne)).trans q, hne⟩, fun b hb => ?_⟩
    · (have e1 : ((i + 1 : Nat) : Int) = (i : Int) + 1 := by omega)
      rw [e1]; exact he'
    · have hbl : b < s.heap.objs.size := by
        (have e' : b = e ∨ b = it := by simpa using hb)
        rcases e' with z | z
        · rw [z]; exact hel
        · rw [z]; exact hil
      (rw [upd_ne (Nat.ne_of_lt hbl)])
      exact (hf b hb).1
  done := by
    (intro X hP hw hK hc i pins s σ H E I hf st hg)
    subst hP hw hK
    (obtain ⟨⟨old, he⟩, hit, hne⟩ := st)
    obtain ⟨xs, hq, hx⟩ := hg
    (obtain ⟨its, rv, p, hz⟩ := I.tuple hq)
    (obtain ⟨f0, f1, f2, f3, f4, f5⟩ := hf it (by simp))
    have hl := rv.length
    have hait : a ≠ it := by
      rintro rfl
      obtain ⟨o1, q1, c1, _⟩ := hit
      obtain ⟨o2, q2, c2, _⟩ := p
      rw [q1] at q2
      cases q2
      rw [c1] at c2
      exact absurd c2 (by decide)
    have hn : its.toArray.size = i := by simp; omega
    refine wpAny_pyNext_enum_endD (Draws.tuple (A := X.A.in1) (I.ok.hd hc) it a hait its.toArray) he (by rw [hn]; exact ⟨hit, p⟩) fun h' eb => ⟨rfl, I.turned (t' := s.toks) (fun b o hb q => eb b o hb q) f0 f1 f3 f4 f5⟩
  self := fun A i s Q E st hq => let ⟨⟨_, he⟩, _⟩ := st; wpAny_pyIter_enum he hq
def iEnT (K : PySem.W.Frag) (ta : TA) : TI := fun σ H R => ta σ H fun vs H1 => ∃ a xs, vs = [.ref a] ∧ SqT K H1 a xs ∧ R (IteT K a) H1
theorem pi_enumT {X : Cx} {e : Expr} {ta : TA} {p pos tpos : Pos} {elts : List Expr} {kk : Nat} (hg : Gl X "enumerate") (hm : X.mg "enumerate" = none) (ha : PA X [e] ta) (hs : starEach [e] X.env = [(false, eval e X.env)] := by rfl) :
    PI X (.Tuple elts kk tpos) (.Call (.Name "enumerate" p) [e] [] pos) (iEnT X.K ta) := by
  (refine ⟨fun pins s σ H R I h => ?_⟩)
  (refine Call_ (ld_blt I hg hm boot_enumerate (PyProof.Rows.callWith_type1 (thn (ha.run pos pins s σ H _ I h) fun us s1 ⟨vs, H1, I1, r1, q1⟩ => ?_) hs rfl)))
  (obtain ⟨a, xs, ex, hq, q⟩ := q1)
  subst ex
  cases r1 with
  | cons r rr =>
    cases rr
    cases r
    obtain ⟨its, rv, p', hz⟩ := I1.tuple hq
    refine EnT.call_tuple p' fun h' he hit hsz hk => wpAny_pyIter_enum he ?_
    (have I2 : Inv X pins σ H1 { s1 with heap := h' } := I1.kept (t' := s1.toks) hk)
    refine ⟨s1.heap.objs.size + 1, [s1.heap.objs.size + 1, s1.heap.objs.size], _, _, H1, rfl, I2, turn_enumT a (s1.heap.objs.size + 1) s1.heap.objs.size, ⟨⟨.none, he⟩, hit, Nat.succ_ne_self _⟩, fun b hb => ?_, q⟩
    (have e' : b = s1.heap.objs.size + 1 ∨ b = s1.heap.objs.size := by simpa using hb)
    have hle : (s1.heap.objs.size ≤ b) := by
      rcases e' with z | z
      · (rw [z]; exact Nat.le_add_right _ _)
      · rw [z]; exact Nat.le_refl _
    (exact I1.fpOk hle (I1.hok.fresh hle))
section
variable {G : Gx}
def iET (r : MAr) : MIt := fun env μ => match r env μ with
  | some ([.tup xs], μ1) => some (enumD xs, none, μ1)
  | _ => none
theorem ri_eT {t : TA} {r : MAr} (hr : RA G t r) : RI G (iEnT G.K t) (iET r) := by
  intro ρ σ H env μ r' R M S h p
  unfold iET at h
  split at h
  · rename_i xs μ1 h1
    cases h
    refine hr ρ σ H env μ _ μ1 _ M S h1 fun ρ1 H1 vs e1 M1 dv => ?_
    cases dv with | cons d1 tl =>
    cases tl
    cases d1 with | tup s t =>
    rename_i a us
    refine ⟨a, us, rfl, s, p ρ1 H1 _ e1 M1 fun ρ2 H2 μ2 e2 M2 _ => ⟨fun i d hd => ?_, ?_⟩⟩
    · obtain ⟨x, hx, rfl⟩ := enumD_at hd
      obtain ⟨v, hv, dv⟩ := t.get hx
      have s2 := e2.tup _ _ s
      refine ⟨⟨us, v, s2, hv⟩, fun z H' hy => ?_⟩
      obtain ⟨T, u, rfl, hT, rfl, hx'⟩ := hy
      have q := hx' us s2
      rw [hv] at q; cases q
      exact mk_tup M2 hT (.cons .int (.cons (dv.mono e2) .nil))
    · exact ⟨us, e2.tup _ _ s, by rw [enumD_len, t.len]⟩
  · cases h
end
end MR

/-! LcTwo: [e for x in a for y in b]. -/
namespace MR
open PySem L2
section
variable {G : Gx}
open Classical in
noncomputable def comp2Go (c : Option (Nat × List D)) (g : MTg) (tt : MTs) (i1 : MIt) (g1 : MTg) (t1 : MTs) (e : MEx) (vs1 : List Nat) (l : Nat) (env : Sl) : List D → Mem → Option Mem
  | [], μ => if still c μ then some μ else none
  | x :: r, μ => if still c μ then match g x env μ with
      | some (env1, μ1) => match tt env1 μ1 with
        | some (false, μ2) => comp2Go c g tt i1 g1 t1 e vs1 l env r μ2
        | some (true, μ2) => match i1 env1 μ2 with
          | some (ys, c1, μ3) => match compGo c1 g1 t1 e l (wipeD env1 vs1) ys μ3 with
            | some μ4 => comp2Go c g tt i1 g1 t1 e vs1 l env r μ4
            | none => none
          | none => none
        | none => none
      | none => none
    else none
noncomputable def mLc2 (it : MIt) (g : MTg) (tt : MTs) (i1 : MIt) (g1 : MTg) (t1 : MTs) (e : MEx) (vs vs1 : List Nat) : MEx := fun env μ => match it env μ with
  | some (xs, c, μ1) => match comp2Go c g tt i1 g1 t1 e vs1 μ1.length (wipeD env vs) xs (μ1 ++ [.lst []]) with
    | some μ2 => some (.ref μ1.length, μ2)
    | none => none
  | none => none
theorem re_lc2 {wi wi1 : TI} {g g1 : TG} {tt tt1 : TT} {te : TE} {vs vs1 : List Nat} {it it1 : MIt} {gm gm1 : MTg} {tm tm1 : MTs} {em : MEx} (hi : RI G wi it) (hg : RG G g gm) (kg : Kps vs g) (mgg : MonG g) (ht : RT G tt tm)
    (hi1 : RI G wi1 it1) (hg1 : RG G g1 gm1) (kg1 : Kps vs1 g1) (mgg1 : MonG g1) (ht1 : RT G tt1 tm1) (he : RE G te em) :
    RE G (tLc2 wi g tt wi1 g1 tt1 te vs vs1) (mLc2 it gm tm it1 gm1 tm1 em vs vs1) := by
  intro ρ σ H env μ d μ' Q M S h p
  unfold mLc2 at h
  split at h
  · rename_i xs c μ1 h1
    split at h
    · rename_i μf h2
      cases h
      refine hi ρ σ H env μ _ _ M S h1 fun ρ1 H1 J e1 M1 J1 Dl hD => ?_
      have e0 : Ext G.K ρ1 H1 (ρ1 ++ [Dl]) (upd H1 Dl (.lst [])) := ext_push hD
      have M0 : MemOk G (ρ1 ++ [Dl]) (upd H1 Dl (.lst [])) (μ1 ++ [.lst []]) := M1.push hD ⟨[], upd_same, .nil⟩
      have hat : (ρ1 ++ [Dl])[μ1.length]? = some Dl := by rw [← M1.len]; simp
      refine ⟨fun i m H' => i ≤ xs.length ∧ m = xs.length - i ∧ ∃ ρ' μ2, Ext G.K (ρ1 ++ [Dl]) (upd H1 Dl (.lst [])) ρ' H' ∧ MemOk G ρ' H' μ2 ∧ comp2Go c gm tm it1 gm1 tm1 em vs1 μ1.length (wipeD env vs) (xs.drop i) μ2 = some μ',
        ⟨xs.length, Nat.zero_le _, rfl, _, _, .refl, M0, h2⟩, ?_⟩
      rintro i m H2 ⟨hil, rfl, ρ2, μ2, e2, M2, f⟩
      have S2 : SlOk G ρ2 H2 (wipe σ vs) (wipeD env vs) := sl_wipe (S.mono ((e1.trans e0).trans e2)) vs
      cases hd : xs.drop i with
      | nil =>
        have hle : xs.length ≤ i := by simpa using hd
        have hii : i = xs.length := by omega
        rw [hd, comp2Go] at f
        split at f
        · rename_i hst
          cases f
          refine .inl ⟨?_, p ρ2 H2 _ ((e1.trans e0).trans e2) M2 (.ref (e2.at_ hat))⟩
          rw [hii]
          exact (J1 ρ2 H2 _ (e0.trans e2) M2 hst).2
        · cases f
      | cons z rest =>
        obtain ⟨hx, hr, hl⟩ := drop_cons hd
        rw [hd, comp2Go] at f
        split at f
        · rename_i hst
          obtain ⟨hgo, hy⟩ := (J1 ρ2 H2 μ2 (e0.trans e2) M2 hst).1 i z hx
          refine .inr ⟨hgo, fun H' => i + 1 ≤ xs.length ∧ ∃ ρ' μ2, Ext G.K (ρ1 ++ [Dl]) (upd H1 Dl (.lst [])) ρ' H' ∧ MemOk G ρ' H' μ2 ∧ comp2Go c gm tm it1 gm1 tm1 em vs1 μ1.length (wipeD env vs) (xs.drop (i + 1)) μ2 = some μ',
            fun H' hN => ⟨xs.length - (i + 1), by omega, hN.1, rfl, hN.2⟩, fun v H3 hyl => ?_⟩
          obtain ⟨e3, M3, dv⟩ := hy v H3 hyl
          split at f
          · rename_i env4 μ4 hg4
            refine mgg _ _ _ _ _ (fun σ' H' z => ?_) (kg _ _ _ _ (hg ρ2 (wipe σ vs) H3 (wipeD env vs) μ2 v _ _ (fun σ4 H4 => ∃ ρ4, Ext G.K ρ2 H3 ρ4 H4 ∧ MemOk G ρ4 H4 μ4 ∧ SlOk G ρ4 H4 σ4 env4) M3 (S2.mono e3) dv hg4 fun ρ4 H4 σ4 e4 M4 S4 => ⟨ρ4, e4, M4, S4⟩))
            obtain ⟨zw, ρ4, e4, M4, S4⟩ := z
            refine ⟨zw.trans (wipe_wipe vs vs σ fun _ h => h) |>.trans rfl, ?_⟩
            split at f
            · rename_i μ5 h5
              exact ht ρ4 σ' H' env4 μ4 _ _ _ M4 S4 h5 fun ρ5 H5 e5 M5 => ⟨by omega, ρ5, μ5, ((e2.trans e3).trans e4).trans e5, M5, by rw [hr]; exact f⟩
            · rename_i μ5 h5
              refine ht ρ4 σ' H' env4 μ4 _ _ _ M4 S4 h5 fun ρ5 H5 e5 M5 => ?_
              split at f
              · rename_i ys c1 μ6 h6
                split at f
                · rename_i μ7 h7
                  refine hi1 ρ5 σ' H5 env4 μ5 _ _ M5 (S4.mono e5) h6 fun ρ6 H6 Jy e6 M6 Jy1 => ?_
                  have e26 := (((e2.trans e3).trans e4).trans e5).trans e6
                  have S6 : SlOk G ρ6 H6 σ' env4 := (S4.mono e5).mono e6
                  refine ⟨fun j k H' => j ≤ ys.length ∧ k = ys.length - j ∧ ∃ ρ' μ8, Ext G.K ρ6 H6 ρ' H' ∧ MemOk G ρ' H' μ8 ∧ compGo c1 gm1 tm1 em μ1.length (wipeD env4 vs1) (ys.drop j) μ8 = some μ7,
                    ⟨ys.length, Nat.zero_le _, rfl, _, _, .refl, M6, h7⟩, ?_⟩
                  rintro j k H7 ⟨hjl, rfl, ρ7, μ8, e7, M7, f7⟩
                  have S7 : SlOk G ρ7 H7 (wipe σ' vs1) (wipeD env4 vs1) := sl_wipe (S6.mono e7) vs1
                  cases hd7 : ys.drop j with
                  | nil =>
                    have hle : ys.length ≤ j := by simpa using hd7
                    have hjj : j = ys.length := by omega
                    rw [hd7, compGo] at f7
                    split at f7
                    · rename_i hst7
                      cases f7
                      refine .inl ⟨?_, by omega, ρ7, _, e26.trans e7, M7, by rw [hr]; exact f⟩
                      rw [hjj]
                      exact (Jy1 ρ7 H7 _ e7 M7 hst7).2
                    · cases f7
                  | cons z7 rest7 =>
                    obtain ⟨hx7, hr7, hl7⟩ := drop_cons hd7
                    rw [hd7, compGo] at f7
                    split at f7
                    · rename_i hst7
                      obtain ⟨hgo7, hy7⟩ := (Jy1 ρ7 H7 μ8 e7 M7 hst7).1 j z7 hx7
                      refine .inr ⟨hgo7, fun H' => j + 1 ≤ ys.length ∧ ∃ ρ' μ8, Ext G.K ρ6 H6 ρ' H' ∧ MemOk G ρ' H' μ8 ∧ compGo c1 gm1 tm1 em μ1.length (wipeD env4 vs1) (ys.drop (j + 1)) μ8 = some μ7,
                        fun H' hN => ⟨ys.length - (j + 1), by omega, hN.1, rfl, hN.2⟩, fun v8 H8 hyl8 => ?_⟩
                      obtain ⟨e8, M8, dv8⟩ := hy7 v8 H8 hyl8
                      split at f7
                      · rename_i env9 μ9 hg9
                        refine mgg1 _ _ _ _ _ (fun σ9 H9 z => ?_) (kg1 _ _ _ _ (hg1 ρ7 (wipe σ' vs1) H8 (wipeD env4 vs1) μ8 v8 _ _ (fun σ4 H4 => ∃ ρ4, Ext G.K ρ7 H8 ρ4 H4 ∧ MemOk G ρ4 H4 μ9 ∧ SlOk G ρ4 H4 σ4 env9) M8 (S7.mono e8) dv8 hg9 fun ρ4 H4 σ4 e4 M4 S4 => ⟨ρ4, e4, M4, S4⟩))
                        obtain ⟨zw9, ρ9, e9, M9, S9⟩ := z
                        refine ⟨zw9.trans (wipe_wipe vs1 vs1 σ' fun _ h => h) |>.trans rfl, ?_⟩
                        split at f7
                        · rename_i μA hA
                          exact ht1 ρ9 σ9 H9 env9 μ9 _ _ _ M9 S9 hA fun ρA HA eA MA => ⟨by omega, ρA, μA, ((e7.trans e8).trans e9).trans eA, MA, by rw [hr7]; exact f7⟩
                        · rename_i μA hA
                          refine ht1 ρ9 σ9 H9 env9 μ9 _ _ _ M9 S9 hA fun ρA HA eA MA => ?_
                          split at f7
                          · rename_i dB μB hB
                            refine he ρA σ9 HA env9 μA dB μB _ MA (S9.mono eA) hB fun ρB HB y eB MB dB' => ?_
                            split at f7
                            · rename_i acc hacc
                              split at f7
                              · rename_i hsz
                                have e2B := (((e7.trans e8).trans e9).trans eA).trans eB
                                have hatB := (e26.trans e2B).at_ hat
                                obtain ⟨us, hu, tu⟩ := MB.ob _ _ _ hatB hacc
                                refine ⟨us, hu, lt_line (by rw [tu.len]; exact hsz), by omega, ρB, _, e2B.trans (ext_set MB hatB hacc), MB.set hatB hacc (tu.app (.cons dB' .nil)), by rw [hr7]; exact f7⟩
                              · cases f7
                            · cases f7
                          · cases f7
                        · cases f7
                      · cases f7
                    · cases f7
                · cases f
              · cases f
            · cases f
          · cases f
        · cases f
    · cases h
  · cases h
end
end MR

/-! MRx: min, max, sum of a list of numbers; list(range(n)); isinstance(x, (A, B)); zip of two lists in memory; a def that is never called. -/
namespace MR
open PySem L2
section
variable {G : Gx}
def intsD : List D → Option (List Int)
  | [] => some []
  | .int i :: r => (intsD r).map (i :: ·)
  | _ => none
theorem ints_dens {ρ : List Addr} {H : Hp} : ∀ {vs : List V} {ds : List D} {ns : List Int}, Dens G ρ H vs ds → intsD ds = some ns → vs = ns.map V.int
  | _, _, ns, .nil, e => by cases e; rfl
  | _, _, ns, .cons h t, e => by
    cases h <;> first | (cases e; done) | skip
    simp only [intsD, Option.map_eq_some_iff] at e
    obtain ⟨ms, e1, rfl⟩ := e
    rw [ints_dens t e1]
    rfl
theorem lst_ints {ρ : List Addr} {H : Hp} {μ : Mem} {v : V} {d : D} {ds : List D} {ns : List Int} (M : MemOk G ρ H μ) (hd : Den G ρ H v d) (h : lstAt μ d = some ds) (e : intsD ds = some ns) : ∃ a, v = .ref a ∧ SqL G.K H a (ns.map V.int) := by
  obtain ⟨a, vs, rfl, s, t⟩ := lstAt_sq M hd h
  exact ⟨a, rfl, by rw [← ints_dens t e]; exact s⟩
def fNums (g : List Int → Option Int) : List D → Mem → Option (D × Mem) := fun ds μ => match ds with
  | [x] => match (lstAt μ x).bind intsD with
    | some ns => (g ns).map fun i => (.int i, μ)
    | none => none
  | _ => none
theorem rc_nums {r : List V → Hp → VK → Prop} {g : List Int → Option Int} (h : ∀ (a : Addr) (ns : List Int) (i : Int) (H : Hp) (Q : VK), SqL G.K H a (ns.map V.int) → g ns = some i → Q (.int i) H → r [V.ref a] H Q) : RC G r (fNums g) := by
  intro ρ H μ vs ds d μ' Q M hd e p
  unfold fNums at e
  split at e
  · split at e
    · rename_i ns hn
      simp only [Option.map_eq_some_iff, Prod.mk.injEq] at e
      obtain ⟨i, hg, rfl, rfl⟩ := e
      obtain ⟨ds, h1, h2⟩ := Option.bind_eq_some_iff.mp hn
      cases hd with | cons hx t =>
      cases t
      obtain ⟨a, rfl, s⟩ := lst_ints M hx h1 h2
      exact h a ns i H Q s hg (p.go M .int)
    · cases e
  · cases e
def gMin : List Int → Option Int
  | [] => none
  | i :: r => some (r.foldl (fun a b => if b < a then b else a) i)
def gMax : List Int → Option Int
  | [] => none
  | i :: r => some (r.foldl (fun a b => if a < b then b else a) i)
theorem fold_min : ∀ (r : List Int) (i : Int), (r.foldl (fun a b => if b < a then b else a) i) ∈ i :: r ∧ ∀ y ∈ i :: r, (r.foldl (fun a b => if b < a then b else a) i) ≤ y
  | [], i => ⟨by simp, by simp⟩
  | b :: r, i => by
    have ih := fold_min r (if b < i then b else i)
    simp only [List.foldl_cons]
    constructor
    · rcases List.mem_cons.mp ih.1 with h | h
      · rw [h]; split <;> simp
      · simp [h]
    · intro y hy
      have h0 := ih.2 (if b < i then b else i) List.mem_cons_self
      have h3 : ∀ z, (if b < i then b else i) ≤ z → r.foldl (fun a b => if b < a then b else a) (if b < i then b else i) ≤ z := fun z hz => Int.le_trans h0 hz
      (rcases List.mem_cons.mp hy with e | hy)
      · refine h3 y ?_; rw [e]; split <;> omega
      · rcases List.mem_cons.mp hy with e | hy
        · refine h3 y ?_; rw [e]; split <;> omega
        · exact ih.2 y (List.mem_cons_of_mem _ hy)
theorem fold_max : ∀ (r : List Int) (i : Int), (r.foldl (fun a b => if a < b then b else a) i) ∈ i :: r ∧ ∀ y ∈ i :: r, y ≤ (r.foldl (fun a b => if a < b then b else a) i)
  | [], i => ⟨by simp, by simp⟩
  | b :: r, i => by
    have ih := fold_max r (if i < b then b else i)
    simp only [List.foldl_cons]
    constructor
    · rcases List.mem_cons.mp ih.1 with h | h
      · rw [h]; split <;> simp
      · simp [h]
    · intro y hy
      have h0 := ih.2 (if i < b then b else i) List.mem_cons_self
      have h3 : ∀ z, z ≤ (if i < b then b else i) → z ≤ r.foldl (fun a b => if a < b then b else a) (if i < b then b else i) := fun z hz => Int.le_trans hz h0
      (rcases List.mem_cons.mp hy with e | hy)
      · refine h3 y ?_; rw [e]; split <;> omega
      · rcases List.mem_cons.mp hy with e | hy
        · refine h3 y ?_; rw [e]; split <;> omega
        · exact ih.2 y (List.mem_cons_of_mem _ hy)
theorem rc_min : RC G (rMin G.K) (fNums gMin) := rc_nums fun a ns i H Q s e q => by
  cases ns with
  | nil => cases e
  | cons n r =>
    cases e
    refine ⟨a, _, rfl, s, by simp, fun m hm hle => ?_⟩
    have f := fold_min r n
    have : m = r.foldl (fun a b => if b < a then b else a) n := Int.le_antisymm (hle _ f.1) (f.2 m hm)
    rw [this]
    exact q
theorem rc_max : RC G (rMax G.K) (fNums gMax) := rc_nums fun a ns i H Q s e q => by
  cases ns with
  | nil => cases e
  | cons n r =>
    cases e
    refine ⟨a, _, rfl, s, by simp, fun m hm hle => ?_⟩
    have f := fold_max r n
    have : m = r.foldl (fun a b => if a < b then b else a) n := Int.le_antisymm (f.2 m hm) (hle _ f.1)
    rw [this]
    exact q
theorem rc_sum : RC G (rSum G.K) (fNums fun ns => some ns.sum) := rc_nums fun a ns i H Q s e q => by
  cases e
  exact ⟨a, ns, rfl, s, q⟩
/-- list(range(n)) -/
def mListRg (a : MEx) : MEx := fun env μ => match a env μ with
  | some (.int n, μ1) => if n ≤ 16777216 ∧ 0 ≤ n then some (.ref μ1.length, μ1 ++ [.lst (rngD 0 n.toNat)]) else none
  | _ => none
theorem rg_dens {ρ : List Addr} {H : Hp} {n : Int} : Dens G ρ H (rgV 0 n) (rngD 0 n.toNat) := by
  unfold rgV rngD
  have e : (n - 0).toNat = n.toNat := by omega
  rw [e]
  generalize List.range n.toNat = l
  induction l with
  | nil => exact .nil
  | cons x r ih => exact .cons .int ih
theorem re_listRg {t : TE} {a : MEx} (ha : RE G t a) : RE G (tLstRg (tRg1 t)) (mListRg a) := by
  intro ρ σ H env μ d μ' Q M S h p
  unfold mListRg at h
  split at h
  · rename_i n μ1 h1
    split at h
    · rename_i hn
      cases h
      refine ha ρ σ H env μ _ _ _ M S h1 fun ρ1 H1 v e1 M1 d1 => ?_
      cases d1
      exact ⟨n, rfl, RgOk.of_le (by omega) hn.1 (by omega) hn.2, (p.of e1).newL M1 rg_dens⟩
    · cases h
  · cases h
/-- isinstance(x, (A, B)) -/
def kit2 (t a b : String) : Option Bool := match kitB t a with
  | some true => some true
  | some false => match kitB t b with
    | some r => some r
    | none => none
  | none => none
def mIsi2 (A B : String) (a : MEx) : MEx := fun env μ => match a env μ with
  | some (x, μ1) => match tyName μ1 x with
    | some t => (kit2 t A B).map fun b => (.bl b, μ1)
    | none => none
  | none => none
theorem re_isi2 {A B : String} {t : TE} {a : MEx} (ha : RE G t a) : RE G (tCB (rIsiT G.K) (tCons t (tCons (tTup (tCons (tC (.ty A)) (tCons (tC (.ty B)) tNil))) tNil))) (mIsi2 A B a) := by
  intro ρ σ H env μ d μ' Q M S h p
  unfold mIsi2 at h
  split at h
  · rename_i x μ1 h1
    split at h
    · rename_i ty hty
      simp only [Option.map_eq_some_iff, Prod.mk.injEq] at h
      obtain ⟨b, hb, rfl, rfl⟩ := h
      refine ha ρ σ H env μ _ _ _ M S h1 fun ρ1 H1 v e1 M1 d1 => ?_
      refine ⟨by show 2 ≤ sizeLine; decide, fun q hq => ?_⟩
      have e2 : Ext G.K ρ1 H1 ρ1 (upd H1 q (.tup [.ty A, .ty B])) := ext_new hq
      have M2 : MemOk G ρ1 (upd H1 q (.tup [.ty A, .ty B])) μ1 := M1.new hq
      refine ⟨v, q, [.ty A, .ty B], .type ty, [.type A, .type B], b, rfl, upd_same, .cons (.ty _) (.cons (.ty _) .nil), tyName_ok M2 (d1.mono e2) hty, ?_, p ρ1 _ _ (e1.trans e2) M2 .bl⟩
      unfold kit2 at hb
      split at hb
      · rename_i hA
        cases hb
        exact kitAny_cons (kit_ty hA) (fun z => by cases z) fun _ => rfl
      · rename_i hA
        split at hb
        · rename_i r hB
          cases hb
          refine kitAny_cons (kit_ty hA) (fun _ => ?_) fun z => by cases z
          cases b with
          | true => exact kitAny_cons (kit_ty hB) (fun z => by cases z) fun _ => rfl
          | false => exact kitAny_cons (kit_ty hB) (fun _ => rfl) fun z => by cases z
        · cases hb
      · cases hb
    · cases h
  · cases h
/-! ### comprehensions over a source with a wish of its own -/
def SrcP (G : Gx) (ρ0 : List Addr) (H0 : Hp) (J : It) (xs : List D) (st : Mem → Prop) : Prop := ∀ ρ H μ, Ext G.K ρ0 H0 ρ H → MemOk G ρ H μ → st μ →
  (∀ (i : Nat) d, xs[i]? = some d → J.go i H ∧ ∀ x H', J.yld i H x H' → Ext G.K ρ H ρ H' ∧ MemOk G ρ H' μ ∧ Den G ρ H' x d) ∧ J.stop xs.length H
abbrev MItP := Sl → Mem → Option (List D × (Mem → Prop) × Mem)
def RIP (G : Gx) (t : TI) (m : MItP) : Prop := ∀ ρ σ H env μ r (R : It → Hp → Prop), MemOk G ρ H μ → SlOk G ρ H σ env → m env μ = some r →
  (∀ ρ' H' J, Ext G.K ρ H ρ' H' → MemOk G ρ' H' r.2.2 → SrcP G ρ' H' J r.1 r.2.1 → R J H') → t σ H R
open Classical in
noncomputable def compGoP (st : Mem → Prop) (g : MTg) (tt : MTs) (e : MEx) (l : Nat) (env : Sl) : List D → Mem → Option Mem
  | [], μ => if st μ then some μ else none
  | x :: r, μ => if st μ then match g x env μ with
      | some (env1, μ1) => match tt env1 μ1 with
        | some (false, μ2) => compGoP st g tt e l env r μ2
        | some (true, μ2) => match e env1 μ2 with
          | some (d, μ3) => match μ3[l]? with
            | some (.lst acc) => if acc.length < 100000 then compGoP st g tt e l env r (μ3.set l (.lst (acc ++ [d]))) else none
            | _ => none
          | none => none
        | none => none
      | none => none
    else none
noncomputable def mLcP (it : MItP) (g : MTg) (tt : MTs) (e : MEx) (vs : List Nat) : MEx := fun env μ => match it env μ with
  | some (xs, st, μ1) => match compGoP st g tt e μ1.length (wipeD env vs) xs (μ1 ++ [.lst []]) with
    | some μ2 => some (.ref μ1.length, μ2)
    | none => none
  | none => none
theorem re_lcP {wi : TI} {g : TG} {tt : TT} {te : TE} {vs : List Nat} {it : MItP} {gm : MTg} {tm : MTs} {em : MEx} (hi : RIP G wi it) (hg : RG G g gm) (kg : Kps vs g) (mgg : MonG g) (ht : RT G tt tm) (he : RE G te em) :
    RE G (tLc wi g tt te vs) (mLcP it gm tm em vs) := by
  intro ρ σ H env μ d μ' Q M S h p
  unfold mLcP at h
  split at h
  · rename_i xs st μ1 h1
    split at h
    · rename_i μf h2
      cases h
      refine hi ρ σ H env μ _ _ M S h1 fun ρ1 H1 J e1 M1 J1 Dl hD => ?_
      have e0 : Ext G.K ρ1 H1 (ρ1 ++ [Dl]) (upd H1 Dl (.lst [])) := ext_push hD
      have M0 : MemOk G (ρ1 ++ [Dl]) (upd H1 Dl (.lst [])) (μ1 ++ [.lst []]) := M1.push hD ⟨[], upd_same, .nil⟩
      have hat : (ρ1 ++ [Dl])[μ1.length]? = some Dl := by rw [← M1.len]; simp
      refine ⟨fun i m H' => i ≤ xs.length ∧ m = xs.length - i ∧ ∃ ρ' μ2, Ext G.K (ρ1 ++ [Dl]) (upd H1 Dl (.lst [])) ρ' H' ∧ MemOk G ρ' H' μ2 ∧ compGoP st gm tm em μ1.length (wipeD env vs) (xs.drop i) μ2 = some μ',
        ⟨xs.length, Nat.zero_le _, rfl, _, _, .refl, M0, h2⟩, ?_⟩
      rintro i m H2 ⟨hil, rfl, ρ2, μ2, e2, M2, f⟩
      have S2 : SlOk G ρ2 H2 (wipe σ vs) (wipeD env vs) := sl_wipe (S.mono ((e1.trans e0).trans e2)) vs
      cases hd : xs.drop i with
      | nil =>
        have hle : xs.length ≤ i := by simpa using hd
        have hii : i = xs.length := by omega
        rw [hd, compGoP] at f
        split at f
        · rename_i hst
          cases f
          refine .inl ⟨?_, p ρ2 H2 _ ((e1.trans e0).trans e2) M2 (.ref (e2.at_ hat))⟩
          rw [hii]
          exact (J1 ρ2 H2 _ (e0.trans e2) M2 hst).2
        · cases f
      | cons z rest =>
        obtain ⟨hx, hr, hl⟩ := drop_cons hd
        rw [hd, compGoP] at f
        split at f
        · rename_i hst
          obtain ⟨hgo, hy⟩ := (J1 ρ2 H2 μ2 (e0.trans e2) M2 hst).1 i z hx
          refine .inr ⟨hgo, fun H' => i + 1 ≤ xs.length ∧ ∃ ρ' μ2, Ext G.K (ρ1 ++ [Dl]) (upd H1 Dl (.lst [])) ρ' H' ∧ MemOk G ρ' H' μ2 ∧ compGoP st gm tm em μ1.length (wipeD env vs) (xs.drop (i + 1)) μ2 = some μ',
            fun H' hN => ⟨xs.length - (i + 1), by omega, hN.1, rfl, hN.2⟩, fun v H3 hyl => ?_⟩
          obtain ⟨e3, M3, dv⟩ := hy v H3 hyl
          split at f
          · rename_i env4 μ4 hg4
            refine mgg _ _ _ _ _ (fun σ' H' z => ?_) (kg _ _ _ _ (hg ρ2 (wipe σ vs) H3 (wipeD env vs) μ2 v _ _ (fun σ4 H4 => ∃ ρ4, Ext G.K ρ2 H3 ρ4 H4 ∧ MemOk G ρ4 H4 μ4 ∧ SlOk G ρ4 H4 σ4 env4) M3 (S2.mono e3) dv hg4 fun ρ4 H4 σ4 e4 M4 S4 => ⟨ρ4, e4, M4, S4⟩))
            obtain ⟨zw, ρ4, e4, M4, S4⟩ := z
            refine ⟨zw.trans (wipe_wipe vs vs σ fun _ h => h) |>.trans rfl, ?_⟩
            split at f
            · rename_i μ5 h5
              exact ht ρ4 σ' H' env4 μ4 _ _ _ M4 S4 h5 fun ρ5 H5 e5 M5 => ⟨by omega, ρ5, μ5, ((e2.trans e3).trans e4).trans e5, M5, by rw [hr]; exact f⟩
            · rename_i μ5 h5
              refine ht ρ4 σ' H' env4 μ4 _ _ _ M4 S4 h5 fun ρ5 H5 e5 M5 => ?_
              split at f
              · rename_i d6 μ6 h6
                refine he ρ5 σ' H5 env4 μ5 d6 μ6 _ M5 (S4.mono e5) h6 fun ρ6 H6 y e6 M6 d6' => ?_
                split at f
                · rename_i acc hacc
                  split at f
                  · rename_i hsz
                    have e26 := (((e2.trans e3).trans e4).trans e5).trans e6
                    have hat6 := e26.at_ hat
                    obtain ⟨us, hu, tu⟩ := M6.ob _ _ _ hat6 hacc
                    refine ⟨us, hu, lt_line (by rw [tu.len]; exact hsz), by omega, ρ6, _, e26.trans (ext_set M6 hat6 hacc), M6.set hat6 hacc (tu.app (.cons d6' .nil)), by rw [hr]; exact f⟩
                  · cases f
                · cases f
              · cases f
            · cases f
          · cases f
        · cases f
    · cases h
  · cases h
/-- zip of two lists in memory, or of two tuples -/
def iZM (r : MAr) : MItP := fun env μ => match r env μ with
  | some ([.tup xs, .tup ys], μ1) => some (zipD xs ys, (fun _ => True), μ1)
  | some ([.ref m, .ref n], μ1) => match μ1[m]?, μ1[n]? with
    | some (.lst xs), some (.lst ys) => some (zipD xs ys, (fun μ => μ[m]? = some (.lst xs) ∧ μ[n]? = some (.lst ys)), μ1)
    | _, _ => none
  | _ => none
theorem ri_zM {t : TA} {r : MAr} (hr : RA G t r) : RIP G (RZ.iZipA G.K t) (iZM r) := by
  intro ρ σ H env μ r' R M S h p
  unfold iZM at h
  split at h
  · rename_i xs ys μ1 h1
    cases h
    refine hr ρ σ H env μ _ μ1 _ M S h1 fun ρ1 H1 vs e1 M1 dv => ?_
    cases dv with | cons d1 tl =>
    cases tl with | cons d2 tl =>
    cases tl
    cases d1 with | tup s1 t1 =>
    cases d2 with | tup s2 t2 =>
    rename_i us ws a vs b
    refine ⟨_, _, _, _, rfl, .inr ⟨s1, s2, p ρ1 H1 _ e1 M1 fun ρ2 H2 μ2 e2 M2 _ => ⟨fun i d hd => ?_, ?_⟩⟩⟩
    · obtain ⟨x, y, hx, hy, rfl⟩ := zipD_at hd
      obtain ⟨u, hu, du⟩ := t1.get hx
      obtain ⟨w, hw, dw⟩ := t2.get hy
      have q1 := e2.tup _ _ s1
      have q2 := e2.tup _ _ s2
      refine ⟨⟨_, _, u, w, q1, q2, hu, hw⟩, fun z H' hyl => ?_⟩
      obtain ⟨T, x', y', rfl, hT, rfl, h5, h6⟩ := hyl
      have z1 := h5 _ q1
      have z2 := h6 _ q2
      rw [hu] at z1; cases z1
      rw [hw] at z2; cases z2
      exact mk_tup M2 hT (.cons (du.mono e2) (.cons (dw.mono e2) .nil))
    · refine ⟨_, _, e2.tup _ _ s1, e2.tup _ _ s2, ?_⟩
      rw [zipD_len, t1.len, t2.len]
      omega
  · rename_i m n μ1 h1
    split at h
    · rename_i xs ys hm hn
      cases h
      refine hr ρ σ H env μ _ μ1 _ M S h1 fun ρ1 H1 vs e1 M1 dv => ?_
      cases dv with | cons d1 tl =>
      cases tl with | cons d2 tl =>
      cases tl
      cases d1 with | ref r1 =>
      cases d2 with | ref r2 =>
      obtain ⟨us, hu1, t1⟩ := M1.ob _ _ _ r1 hm
      obtain ⟨ws, hw1, t2⟩ := M1.ob _ _ _ r2 hn
      refine ⟨_, _, us, ws, rfl, .inl ⟨.inl (.inl hu1), .inl (.inl hw1), p ρ1 H1 _ e1 M1 fun ρ2 H2 μ2 e2 M2 st => ⟨fun i d hd => ?_, ?_⟩⟩⟩
      · obtain ⟨x, y, hx, hy, rfl⟩ := zipD_at hd
        obtain ⟨us2, hu2, t12⟩ := M2.ob _ _ _ (e2.at_ r1) st.1
        obtain ⟨ws2, hw2, t22⟩ := M2.ob _ _ _ (e2.at_ r2) st.2
        obtain ⟨u, hu, du⟩ := t12.get hx
        obtain ⟨w, hw, dw⟩ := t22.get hy
        refine ⟨⟨us2, ws2, u, w, .inl (.inl hu2), .inl (.inl hw2), hu, hw⟩, fun z H' hyl => ?_⟩
        obtain ⟨T, x', y', rfl, hT, rfl, h5, h6⟩ := hyl
        have z1 := h5 us2 (.inl (.inl hu2))
        have z2 := h6 ws2 (.inl (.inl hw2))
        rw [hu] at z1; cases z1
        rw [hw] at z2; cases z2
        exact mk_tup M2 hT (.cons du (.cons dw .nil))
      · obtain ⟨us2, hu2, t12⟩ := M2.ob _ _ _ (e2.at_ r1) st.1
        obtain ⟨ws2, hw2, t22⟩ := M2.ob _ _ _ (e2.at_ r2) st.2
        refine ⟨us2, ws2, .inl (.inl hu2), .inl (.inl hw2), ?_⟩
        rw [zipD_len, t12.len, t22.len]
        omega
    · cases h
  · cases h
/-- the promise of a call that never comes -/
theorem fn_never {P : Program} {w : World} {mg : Str → Option Value} {base : Heap} {f : Addr} {fd : FuncData} {ps : List Str} {n : Nat} : FnOk P w G.K mg base CX0 n f fd ps (spM G (fun _ _ => none) ps.length) :=
  ⟨fun vs H Q E h => (by obtain ⟨_, _, _, _, _, _, _, _, e, _⟩ := h; cases e), fun A outer s H args us vs Q E _ _ _ _ h => (by obtain ⟨_, _, _, _, _, _, _, _, e, _⟩ := h; cases e)⟩
end
end MR

/-! ExcM: exceptions as data: made, stored into, read, asked for their class. -/
namespace MR
open PySem L2 EXV
section
variable {G : Gx} {ρ ρ' : List Addr} {H H' : Hp} {σ : L2.St} {env : Sl} {μ μ' : Mem} {d : D} {Q : VK} {x y v : V}
theorem sqt_ext {K : PySem.W.Frag} {a p : Addr} {xs : List V} {o : HO} {φ : Heap → Prop} (hp : H p = some (.ext φ)) (h : SqT K H a xs) : SqT K (upd H p o) a xs := by
  rcases h with (h | ⟨u, h⟩) | h
  · have ne : a ≠ p := by
      rintro rfl; rw [h] at hp; cases hp
    exact .inl (.inl (by rw [upd_ne ne]; exact h))
  · have ne : a ≠ p := by
      rintro rfl; rw [h] at hp; cases hp
    exact .inl (.inr ⟨u, by rw [upd_ne ne]; exact h⟩)
  · exact .inr h
theorem sqf_ext {K : PySem.W.Frag} {a p : Addr} {xs : List V} {o : HO} {φ : Heap → Prop} (hp : H p = some (.ext φ)) (h : SqF K H a xs) : SqF K (upd H p o) a xs := by
  rcases h with ⟨u, h⟩ | h
  · have ne : a ≠ p := by
      rintro rfl; rw [h] at hp; cases hp
    exact .inl ⟨u, by rw [upd_ne ne]; exact h⟩
  · exact .inr h
/-- an exception that gets its dict -/
theorem ext_setX {n c : Nat} {p : Addr} {o : HO} (M : MemOk G ρ H μ) (hr : ρ[n]? = some p) (hm : μ[n]? = some (.exc c none)) {K : PySem.W.Frag} : Ext K ρ H ρ (upd H p o) := by
  have h : H p = some (exo p (G.cA c) none) := M.ob n p _ hr hm
  exact ⟨⟨[], by simp⟩, fun _ _ q => sqt_ext h q, fun _ _ q => sqf_ext h q, fun a u ha q => by rw [upd_ne (show a ≠ p from fun e => ha (by rw [e]; exact List.mem_of_getElem? hr))]; exact q, fun _ h h' => absurd h h'⟩
theorem MemOk.setX (M : MemOk G ρ H μ) {n c m : Nat} {p dx : Addr} (hr : ρ[n]? = some p) (hm : μ[n]? = some (.exc c none)) (hd : ρ[m]? = some dx) : MemOk G ρ (upd H p (exo p (G.cA c) (some dx))) (μ.set n (.exc c (some m))) := by
  refine ⟨by simp [M.len], M.inj, fun k a ob h1 h2 => ?_⟩
  have e := ext_setX (K := G.K) (o := exo p (G.cA c) (some dx)) M hr hm
  by_cases hk : k = n
  · subst hk
    rw [hr] at h1; cases h1
    rw [List.getElem?_set_self (List.getElem?_eq_some_iff.mp hm).1] at h2
    cases h2
    exact ⟨dx, hd, upd_same⟩
  · rw [List.getElem?_set_ne (Ne.symm hk)] at h2
    have ne : a ≠ p := fun q => hk (M.inj k n a h1 (by rw [hr, q]))
    exact ob_keep e.ex (upd_ne ne) (M.ob k a ob h1 h2)
/-- self.f = e, in an exception's __init__ -/
def mStX (c : Nat) (f : Str) (o v : MEx) : MSt := fun env μ => match v env μ with
  | some (d, μ1) => match o env μ1 with
    | some (.ref n, μ2) => match μ2[n]? with
      | some (.exc c' none) => if c' = c then some (.nx, env, (μ2 ++ [MO.xdt [(f, d)]]).set n (.exc c (some μ2.length))) else none
      | _ => none
    | _ => none
  | none => none
theorem rs_stX {c : Nat} {f : Str} {to te : TE} {o v : MEx} {B n i : String} {bm : List Value} (Bs : Base B n i bm) (T : Cl G.K (G.cA c) bm) (hno : PySem.W.findIn G.K (.ref (G.cA c)) f = some none) (ho : RE G to o) (hv : RE G te v) : RS G (tSt G.K f to te) (mStX c f o v) := by
  intro ρ σ H env μ r E M S h p
  unfold mStX at h
  split at h
  · rename_i d μ1 h1
    split at h
    · rename_i n' μ2 h2
      split at h
      · rename_i c' hm
        split at h
        · rename_i hc
          subst hc
          cases h
          refine hv ρ σ H env μ d μ1 _ M S h1 fun ρ1 H1 y e1 M1 d1 => ?_
          refine ho ρ1 σ H1 env μ1 _ μ2 _ M1 (S.mono e1) h2 fun ρ2 H2 x e2 M2 d2 => ?_
          cases d2 with | ref r1 =>
          rename_i a
          have ea : H2 a = some (exo a (G.cA c') none) := M2.ob _ _ _ r1 hm
          refine ⟨a, G.cA c', B, n, i, bm, rfl, Bs, T, hno, ea, fun dx hdx ne => ?_⟩
          have e3 : Ext G.K ρ2 H2 (ρ2 ++ [dx]) (upd H2 dx (exd dx [(f, y)])) := ext_push hdx
          have M3 : MemOk G (ρ2 ++ [dx]) (upd H2 dx (exd dx [(f, y)])) (μ2 ++ [.xdt [(f, d)]]) := M2.push hdx ⟨_, upd_same, .cons ((d1.mono e2).mono e3) .nil⟩
          have l2 := M2.len
          have hr3 : (ρ2 ++ [dx])[n']? = some a := e3.at_ r1
          have hm3 : (μ2 ++ [MO.xdt [(f, d)]])[n']? = some (.exc c' none) := by rw [List.getElem?_append_left (List.getElem?_eq_some_iff.mp hm).1]; exact hm
          have hd3 : (ρ2 ++ [dx])[μ2.length]? = some dx := by rw [← l2]; simp
          have e4 := ext_setX (K := G.K) (o := exo a (G.cA c') (some dx)) M3 hr3 hm3
          have M4 := M3.setX hr3 hm3 hd3
          exact p _ _ σ (((e1.trans e2).trans e3).trans e4) M4 (S.mono (((e1.trans e2).trans e3).trans e4))
        · cases h
      · cases h
    · cases h
  · cases h
/-- C(..), by its own __init__ -/
def madeX (c k : Nat) (f : List D → Mem → Option (D × Mem)) (ds : List D) (μ : Mem) : Option (D × Mem) :=
  if ds.length + 1 = k ∧ k < 900 then match f (.ref μ.length :: ds) (μ ++ [.exc c none]) with
    | some (.non, μ') => some (.ref μ.length, μ')
    | _ => none
  else none
theorem made_X {c k : Nat} {f} {ds : List D} {vs : List V} {d : D} {E : XK} (M : MemOk G ρ H μ) (dn : Dens G ρ H vs ds) (h : madeX c k f ds μ = some (d, μ')) (p : Post G ρ H d μ' Q) :
    ∀ x, H x = none → spM G f k (.ref x :: vs) (upd H x (exo x (G.cA c) none)) (fun v H3 => v = .non ∧ Q (.ref x) H3) E := by
  intro x hx
  unfold madeX at h
  split at h
  · rename_i hk
    split at h
    · rename_i μ1 hf
      cases h
      have e1 : Ext G.K ρ H (ρ ++ [x]) (upd H x (exo x (G.cA c) none)) := ext_push hx
      have M1 : MemOk G (ρ ++ [x]) (upd H x (exo x (G.cA c) none)) (μ ++ [.exc c none]) := M.push hx upd_same
      have hat : (ρ ++ [x])[μ.length]? = some x := by rw [← M.len]; simp
      refine ⟨ρ ++ [x], μ ++ [.exc c none], .ref μ.length :: ds, .non, μ', M1, .cons (.ref hat) (dn.mono e1), by simpa using hk.1, hf, fun ρ2 H2 v e2 M2 d2 => ?_⟩
      cases d2
      exact ⟨rfl, p ρ2 H2 _ (e1.trans e2) M2 (.ref (e2.at_ hat))⟩
    · cases h
  · cases h
def mMkX (c k : Nat) (f : List D → Mem → Option (D × Mem)) (r : MAr) : MEx := fun env μ => match r env μ with
  | some (ds, μ1) => madeX c k f ds μ1
  | none => none
theorem madeX_len {c k : Nat} {f} {ds : List D} {d : D} (h : madeX c k f ds μ = some (d, μ')) : ds.length + 1 = k ∧ k < 900 := by
  unfold madeX at h
  split at h
  · assumption
  · cases h
theorem re_mkX {c k : Nat} {f} {t : TA} {r : MAr} (hr : RA G t r) : RE G (tMkV (G.cA c) (spM G f k) t) (mMkX c k f r) := by
  intro ρ σ H env μ d μ' Q M S h p
  unfold mMkX at h
  split at h
  · rename_i ds μ1 h1
    have hl := madeX_len h
    exact hr ρ σ H env μ ds _ _ M S h1 fun ρ1 H1 vs e1 M1 d1 => ⟨by rw [d1.len]; omega, made_X M1 d1 h (p.of e1)⟩
  · cases h
theorem re_mkXK {c k m : Nat} {f} {t : TA} {r : MAr} (hm : m + 1 = k) (hr : RA G t r) : RE G (tMkVK (G.cA c) m (spM G f k) (fun vs zs => vs ++ zs) t) (mMkX c k f r) := by
  intro ρ σ H env μ d μ' Q M S h p
  unfold mMkX at h
  split at h
  · rename_i ds μ1 h1
    have hl := madeX_len h
    exact hr ρ σ H env μ ds _ _ M S h1 fun ρ1 H1 vs e1 M1 d1 => ⟨by rw [d1.len]; omega, made_X M1 d1 h (p.of e1)⟩
  · cases h
/-- C(..), no __init__ of its own -/
def mMk0 (c : Nat) (r : MAr) : MEx := fun env μ => match r env μ with
  | some (ds, μ1) => if ds.length < 900 then some (.ref μ1.length, μ1 ++ [.exc c none]) else none
  | none => none
theorem re_mk0 {c : Nat} {t : TA} {r : MAr} (hr : RA G t r) : RE G (tMk0 (G.cA c) t) (mMk0 c r) := by
  intro ρ σ H env μ d μ' Q M S h p
  unfold mMk0 at h
  split at h
  · rename_i ds μ1 h1
    split at h
    · rename_i hl
      cases h
      refine hr ρ σ H env μ ds _ _ M S h1 fun ρ1 H1 vs e1 M1 d1 => ⟨by rw [d1.len]; omega, fun x hx => ?_⟩
      have e2 : Ext G.K ρ1 H1 (ρ1 ++ [x]) (upd H1 x (exo x (G.cA c) none)) := ext_push hx
      exact p _ _ _ (e1.trans e2) (M1.push hx upd_same) (.ref (by rw [← M1.len]; simp))
    · cases h
  · cases h
/-! ### asked for their class -/
def clsD (G : Gx) : D → Option Value
  | .cl n => some (.ref (G.cA n))
  | .ty n => some (.type n)
  | _ => none
/-- what isub tells is so -/
def SubOk (G : Gx) (isub : Nat → D → Option Bool) : Prop := ∀ c x b, isub c x = some b → Asks G.K (G.cA c) ∧ ∃ u, clsD G x = some u ∧ PySem.W.kitOne G.K (.ref (G.cA c)) u = some b
theorem held_of {n c : Nat} {m : Option Nat} {a : Addr} (M : MemOk G ρ H μ) (hr : ρ[n]? = some a) (hm : μ[n]? = some (.exc c m)) (hx : ∀ k, m = some k → ∃ fs, μ[k]? = some (.xdt fs)) : ∃ dd, Held H a (G.cA c) dd := by
  cases m with
  | none => exact ⟨none, M.ob _ _ _ hr hm, .inl rfl⟩
  | some k =>
    obtain ⟨dx, h1, h2⟩ := M.ob _ _ _ hr hm
    obtain ⟨fs, hf⟩ := hx k rfl
    obtain ⟨vs, h3, _⟩ := M.ob _ _ _ h1 hf
    exact ⟨some dx, h2, .inr ⟨dx, vs, rfl, h3⟩⟩
/-- the class of an exception in the memory -/
def excOf (μ : Mem) (d : D) : Option Nat := match d with
  | .ref n => match μ[n]? with
    | some (.exc c none) => some c
    | some (.exc c (some k)) => match μ[k]? with
      | some (.xdt _) => some c
      | _ => none
    | _ => none
  | _ => none
theorem excOf_held {c : Nat} (M : MemOk G ρ H μ) (h : Den G ρ H v d) (e : excOf μ d = some c) : ∃ a dd, v = .ref a ∧ Held H a (G.cA c) dd := by
  unfold excOf at e
  split at e
  · rename_i n
    cases h with | ref r1 =>
    rename_i a
    split at e
    · rename_i c' hm
      cases e
      obtain ⟨dd, q⟩ := held_of M r1 hm (fun k z => by cases z)
      exact ⟨a, dd, rfl, q⟩
    · rename_i c' k hm
      split at e
      · rename_i fs hf
        cases e
        obtain ⟨dd, q⟩ := held_of M r1 hm (fun k z => by cases z; exact ⟨_, hf⟩)
        exact ⟨a, dd, rfl, q⟩
      · cases e
    · cases e
  · cases e
theorem den_cls {c : D} {u : Value} (h : Den G ρ H v c) (e : clsD G c = some u) : ClsV v u := by
  unfold clsD at e
  split at e
  · cases e; cases h; exact .own _
  · cases e; cases h; exact .ty _
  · cases e
/-- isinstance(x, c): x an exception, or what g tells of -/
def fIsX (isub : Nat → D → Option Bool) (g : List D → Mem → Option (D × Mem)) : List D → Mem → Option (D × Mem) := fun ds μ => match ds with
  | [x, c] => match excOf μ x with
    | some k => (isub k c).map fun b => (.bl b, μ)
    | none => g ds μ
  | _ => none
theorem rc_isX {isub : Nat → D → Option Bool} {r : List V → Hp → VK → Prop} {g} (hS : SubOk G isub) (hg : RC G r g) : RC G (fun xs H Q => rIsV G.K xs H Q ∨ r xs H Q) (fIsX isub g) := by
  intro ρ H μ vs ds d μ' Q M hd e p
  unfold fIsX at e
  split at e
  · split at e
    · rename_i x c k hk
      simp only [Option.map_eq_some_iff, Prod.mk.injEq] at e
      obtain ⟨b, hb, rfl, rfl⟩ := e
      cases hd with | cons h t =>
      cases t with | cons h2 t2 =>
      cases t2
      obtain ⟨a, dd, rfl, hh⟩ := excOf_held M h hk
      obtain ⟨ec, u, hu, hk2⟩ := hS _ _ _ hb
      exact .inl ⟨a, _, dd, _, u, b, rfl, den_cls h2 hu, ec, hh, hk2, p.go M .bl⟩
    · exact .inr (hg ρ H μ vs _ d μ' Q M hd e p)
  · cases e
/-- isinstance(x, (c1, ..)), the classes told -/
def subAny (isub : Nat → D → Option Bool) (k : Nat) : List D → Option Bool
  | [] => some false
  | c :: r => match isub k c with
    | some true => some true
    | some false => subAny isub k r
    | none => none
def mIsXT (isub : Nat → D → Option Bool) (cs : List D) (a : MEx) : MEx := fun env μ => match a env μ with
  | some (x, μ1) => match excOf μ1 x with
    | some k => (subAny isub k cs).map fun b => (.bl b, μ1)
    | none => none
  | none => none
def clsVal (G : Gx) : List D → List V
  | [] => []
  | .cl n :: r => .ref (G.cA n) :: clsVal G r
  | .ty n :: r => .ty n :: clsVal G r
  | _ :: r => .non :: clsVal G r
def tCs : List V → TA
  | [] => tNil
  | c :: r => tCons (tC c) (tCs r)
theorem tCs_run {Q : List V → Hp → Prop} : ∀ {cs : List V}, Q cs H → tCs cs σ H Q := by
  intro cs
  induction cs generalizing Q with
  | nil => exact fun h => h
  | cons c r ih => exact fun h => ih (Q := fun vs H1 => Q (c :: vs) H1) h
theorem subAny_kit {isub : Nat → D → Option Bool} (hS : SubOk G isub) {k : Nat} : ∀ {cs : List D} {b : Bool}, (∀ c ∈ cs, clsD G c ≠ none) → subAny isub k cs = some b → ∃ us, Paired ClsV (clsVal G cs) us ∧ PySem.W.kitAny G.K (.ref (G.cA k)) us = some b
  | [], b, _, h => ⟨[], .nil, h⟩
  | c :: r, b, hc, h => by
    have hv : ∃ u, clsD G c = some u ∧ ∃ w, clsVal G (c :: r) = w :: clsVal G r ∧ ClsV w u := by
      have := hc c (List.mem_cons_self ..)
      cases c with
      | cl n => exact ⟨_, rfl, _, rfl, .own _⟩
      | ty n => exact ⟨_, rfl, _, rfl, .ty _⟩
      | _ => exact absurd rfl this
    obtain ⟨u, hu, w, hw, kw⟩ := hv
    unfold subAny at h
    have all : ∀ us', Paired ClsV (clsVal G r) us' → Paired ClsV (clsVal G (c :: r)) (u :: us') := fun us' q => by rw [hw]; exact .cons kw q
    split at h
    · rename_i hi
      cases h
      obtain ⟨_, u', hu', hk⟩ := hS _ _ _ hi
      rw [hu] at hu'; cases hu'
      have some_us : ∃ us', Paired ClsV (clsVal G r) us' := by
        have hr : ∀ c ∈ r, clsD G c ≠ none := fun c hm => hc c (List.mem_cons_of_mem _ hm)
        clear all hw hc
        induction r with
        | nil => exact ⟨[], .nil⟩
        | cons c2 r2 ih =>
          obtain ⟨us', q⟩ := ih (fun c hm => hr c (List.mem_cons_of_mem _ hm))
          have := hr c2 (List.mem_cons_self ..)
          cases c2 with
          | cl n => exact ⟨_, .cons (.own _) q⟩
          | ty n => exact ⟨_, .cons (.ty _) q⟩
          | _ => exact absurd rfl this
      obtain ⟨us', q⟩ := some_us
      refine ⟨u :: us', all us' q, ?_⟩
      unfold PySem.W.kitAny
      rw [hk]
    · rename_i hi
      obtain ⟨_, u', hu', hk⟩ := hS _ _ _ hi
      rw [hu] at hu'; cases hu'
      obtain ⟨us', q, e⟩ := subAny_kit hS (fun c hm => hc c (List.mem_cons_of_mem _ hm)) h
      refine ⟨u :: us', all us' q, ?_⟩
      unfold PySem.W.kitAny
      rw [hk]
      exact e
    · cases h
theorem re_isXT {isub : Nat → D → Option Bool} (hS : SubOk G isub) {cs : List D} {t : TE} {a : MEx} (hl : (clsVal G cs).length ≤ sizeLine) (hc : ∀ c ∈ cs, clsD G c ≠ none) (hne : cs ≠ []) (ha : RE G t a) :
    RE G (tCB (rIsVT G.K) (tCons t (tCons (tTup (tCs (clsVal G cs))) tNil))) (mIsXT isub cs a) := by
  intro ρ σ H env μ d μ' Q M S h p
  unfold mIsXT at h
  split at h
  · rename_i x μ1 h1
    split at h
    · rename_i k hk
      simp only [Option.map_eq_some_iff, Prod.mk.injEq] at h
      obtain ⟨b, hb, rfl, rfl⟩ := h
      refine ha ρ σ H env μ _ _ _ M S h1 fun ρ1 H1 v e1 M1 d1 => ?_
      refine tCs_run ⟨hl, fun q hq => ?_⟩
      have e2 : Ext G.K ρ1 H1 ρ1 (upd H1 q (.tup (clsVal G cs))) := ext_new hq
      have M2 : MemOk G ρ1 (upd H1 q (.tup (clsVal G cs))) μ1 := M1.new hq
      obtain ⟨a', dd, rfl, hh⟩ := excOf_held M2 (d1.mono e2) hk
      obtain ⟨us, hp, hka⟩ := subAny_kit hS hc hb
      have ec : Asks G.K (G.cA k) := by
        cases cs with
        | nil => exact absurd rfl hne
        | cons c r =>
          unfold subAny at hb
          split at hb
          · rename_i hi; exact (hS _ _ _ hi).1
          · rename_i hi; exact (hS _ _ _ hi).1
          · cases hb
      exact ⟨a', _, dd, q, clsVal G cs, us, b, rfl, upd_same, hp, ec, hh, hka, p ρ1 _ _ (e1.trans e2) M2 .bl⟩
    · cases h
  · cases h
/-- e.f -/
def mFvX (okf : Nat → Bool) (f : Str) (a : MEx) : MEx := fun env μ => match a env μ with
  | some (.ref n, μ1) => match μ1[n]? with
    | some (.exc c (some k)) => match μ1[k]? with
      | some (.xdt fs) => if okf c = true then (lookD f fs).map (·, μ1) else none
      | _ => none
    | _ => none
  | _ => none
theorem re_fvX {okf : Nat → Bool} {f : Str} {t : TE} {a : MEx} (ho : ∀ c, okf c = true → Asks G.K (G.cA c) ∧ PySem.W.findIn G.K (.ref (G.cA c)) f = some none) (ha : RE G t a) : RE G (tFv G.K f t) (mFvX okf f a) := by
  intro ρ σ H env μ d μ' Q M S h p
  unfold mFvX at h
  split at h
  · rename_i n μ1 h1
    split at h
    · rename_i c k hm
      split at h
      · rename_i fs hf
        split at h
        · rename_i hk
          simp only [Option.map_eq_some_iff, Prod.mk.injEq] at h
          obtain ⟨z, hz, rfl, rfl⟩ := h
          refine ha ρ σ H env μ _ _ _ M S h1 fun ρ1 H1 v e1 M1 d1 => ?_
          cases d1 with | ref r1 =>
          obtain ⟨dx, h2, h3⟩ := M1.ob _ _ _ r1 hm
          obtain ⟨vs, h4, t4⟩ := M1.ob _ _ _ h2 hf
          obtain ⟨u, hu, du⟩ := flds_look t4 hz
          obtain ⟨ec, hno⟩ := ho _ hk
          exact ⟨_, _, dx, vs, u, rfl, ec, hno, h3, h4, hu, p ρ1 H1 _ e1 M1 du⟩
        · cases h
      · cases h
    · cases h
  · cases h
end
end MR

/-! ExcG: what a text says of its exception classes, as tests of the head; a class that is made. -/
namespace MR
open PySem L2 EXV
/-- the class facts that isinstance and a field's reading ask for -/
def ecB (K : PySem.W.Frag) (C : Addr) : Bool :=
  decide (PySem.W.findIn K (.ref C) "__getattribute__" = some (some (.builtin "BaseException.__getattribute__"))) && (decide (PySem.W.findIn K (.ref C) "__getattr__" = some none) && (decide (PySem.W.subIn K (.ref C) (.type "BaseException") = some true) &&
  (PySem.W.hasDictIn K C && (decide (PySem.W.findIn K (.ref C) "__class__" = some (some (.builtin "object.__class__"))) && (decide (PySem.W.specialIn K (.builtin "object.__class__") "__get__" = some (some (.builtin "getset_descriptor.__get__"))) &&
  (decide (PySem.W.takesIn K (.builtin "object.__class__") = some true) && decide (PySem.W.mroIn K C (.type "object") = some true)))))))
theorem ecB_ok {K : PySem.W.Frag} {C : Addr} (h : ecB K C = true) : Asks K C := by
  unfold ecB at h; simp only [Bool.and_eq_true, decide_eq_true_eq] at h
  obtain ⟨h4, h5, h6, h7, h8, h9, h10, h11⟩ := h
  exact ⟨h4, h5, h6, h7, h8, h9, h10, h11⟩
/-- who stands under whom: rows of own classes, rows of the library's -/
def isubL (tC : List (List Bool)) (tT : List (List (String × Bool))) : Nat → D → Option Bool
  | c, .cl n => (tC.getD c [])[n]?
  | c, .ty t => (tT.getD c []).lookup t
  | _, _ => none
def rowB (K : PySem.W.Frag) (names : List Str) (C : Addr) : Nat → List Bool → Bool
  | _, [] => true
  | n, b :: r => decide (PySem.W.kitOne K (.ref C) (.ref (He.ga K (names.getD n ""))) = some b) && rowB K names C (n + 1) r
def rowT (K : PySem.W.Frag) (C : Addr) : List (String × Bool) → Bool
  | [] => true
  | (t, b) :: r => decide (PySem.W.kitOne K (.ref C) (.type t) = some b) && rowT K C r
def subB (names : List Str) (tC : List (List Bool)) (tT : List (List (String × Bool))) (K : PySem.W.Frag) : Bool :=
  (List.range names.length).all fun c => ((tC.getD c []).isEmpty && (tT.getD c []).isEmpty) || (ecB K (He.ga K (names.getD c "")) && (rowB K names (He.ga K (names.getD c "")) 0 (tC.getD c []) && rowT K (He.ga K (names.getD c "")) (tT.getD c [])))
theorem rowB_ok {K : PySem.W.Frag} {names : List Str} {C : Addr} : ∀ {r : List Bool} {k n : Nat} {b : Bool}, rowB K names C k r = true → r[n]? = some b → PySem.W.kitOne K (.ref C) (.ref (He.ga K (names.getD (k + n) ""))) = some b
  | [], _, _, _, _, h => (by simp at h)
  | x :: r, k, 0, b, h, e => by
    unfold rowB at h
    (simp only [Bool.and_eq_true, decide_eq_true_eq] at h)
    simp at e
    subst e
    exact h.1
  | x :: r, k, n + 1, b, h, e => by
    unfold rowB at h
    (simp only [Bool.and_eq_true, decide_eq_true_eq] at h)
    have := rowB_ok (n := n) h.2 (by simpa using e)
    rw [show k + (n + 1) = k + 1 + n by omega]
    exact this
theorem rowT_ok {K : PySem.W.Frag} {C : Addr} : ∀ {r : List (String × Bool)} {t : String} {b : Bool}, rowT K C r = true → r.lookup t = some b → PySem.W.kitOne K (.ref C) (.type t) = some b
  | [], _, _, _, h => (by cases h)
  | (t', x) :: r, t, b, h, e => by
    unfold rowT at h
    (simp only [Bool.and_eq_true, decide_eq_true_eq] at h)
    by_cases z : t = t'
    · subst z
      simp [List.lookup] at e
      subst e
      exact h.1
    · have : (t == t') = false := by simpa using z
      simp [List.lookup, this] at e
      exact rowT_ok h.2 e
section
variable {G : Gx} {names : List Str}
theorem subB_ok {tC : List (List Bool)} {tT : List (List (String × Bool))} (h : subB names tC tT G.K = true) (hG : ∀ c, G.cA c = He.ga G.K (names.getD c "")) (l1 : tC.length ≤ names.length) (l2 : tT.length ≤ names.length) : SubOk G (isubL tC tT) := by
  intro c x b e
  have hc : c < names.length ∧ ¬ ((tC.getD c []).isEmpty = true ∧ (tT.getD c []).isEmpty = true) := by
    unfold isubL at e
    split at e
    · have hlt : c < tC.length := by
        by_cases q : c < tC.length
        · exact q
        · rw [List.getD_eq_getElem?_getD, List.getElem?_eq_none (l := tC) (by omega)] at e; simp at e
      refine ⟨by omega, fun q => ?_⟩
      rw [List.isEmpty_iff.mp q.1] at e; simp at e
    · have hlt : c < tT.length := by
        by_cases q : c < tT.length
        · exact q
        · rw [List.getD_eq_getElem?_getD, List.getElem?_eq_none (l := tT) (by omega)] at e; simp at e
      refine ⟨by omega, fun q => ?_⟩
      rw [List.isEmpty_iff.mp q.2] at e; simp at e
    · cases e
  unfold subB at h
  have h1 := List.all_eq_true.mp h c (List.mem_range.mpr hc.1)
  rw [Bool.or_eq_true, Bool.and_eq_true, Bool.and_eq_true, Bool.and_eq_true] at h1
  rcases h1 with h1 | ⟨h1, h2, h3⟩
  · exact absurd h1 hc.2
  · have he := ecB_ok h1
    rw [← hG c] at he
    refine ⟨he, ?_⟩
    rw [hG c]
    unfold isubL at e
    split at e
    · rename_i n
      refine ⟨_, rfl, ?_⟩
      have := rowB_ok h2 e
      rw [Nat.zero_add] at this
      rw [hG n]; exact this
    · exact ⟨_, rfl, rowT_ok h3 e⟩
    · cases e
def okfB (names : List Str) (cs : List Nat) (f : Str) (K : PySem.W.Frag) : Bool := cs.all fun c => ecB K (He.ga K (names.getD c "")) && decide (PySem.W.findIn K (.ref (He.ga K (names.getD c ""))) f = some none)
theorem okfB_ok {cs : List Nat} {f : Str} (h : okfB names cs f G.K = true) (hG : ∀ c, G.cA c = He.ga G.K (names.getD c "")) : ∀ c, cs.contains c = true → Asks G.K (G.cA c) ∧ PySem.W.findIn G.K (.ref (G.cA c)) f = some none := by
  intro c hc
  have h1 := List.all_eq_true.mp h c (by simpa using hc)
  rw [Bool.and_eq_true, decide_eq_true_eq] at h1
  rw [hG c]
  exact ⟨ecB_ok h1.1, h1.2⟩
def mkB (x : Str) (newId : String) (bmB : List Value) (K : PySem.W.Frag) : Bool := PySem.W.excInitIn K (He.ga K x) bmB newId && (decide (PySem.W.findIn K (.ref (He.ga K x)) "__init__" = some (some (.ref (He.ma K (He.ga K x) "__init__")))) &&
  (decide (PySem.W.typeIn K (.ref (He.ma K (He.ga K x) "__init__")) = some (.type "function")) && PySem.W.keepIn K (.ref (He.ga K x))))
theorem mkB_ok {x : Str} {newId : String} {bmB : List Value} {K : PySem.W.Frag} (h : mkB x newId bmB K = true) : MkI K (He.ga K x) (He.ma K (He.ga K x) "__init__") newId bmB := by
  unfold mkB at h; simp only [Bool.and_eq_true, decide_eq_true_eq] at h
  exact ⟨h.1, h.2.1, h.2.2.1, h.2.2.2⟩
def clT (x : Str) (bmB : List Value) (K : PySem.W.Frag) : Bool := clB K (He.ga K x) bmB
def naT (x f : Str) (K : PySem.W.Frag) : Bool := decide (PySem.W.findIn K (.ref (He.ga K x)) f = some none)
def exT (x : Str) (newId : String) (bmB : List Value) (K : PySem.W.Frag) : Bool := PySem.W.excIn K (He.ga K x) bmB newId && PySem.W.keepIn K (.ref (He.ga K x))
end
/-- a def without defaults, called with names -/
theorem kbindsN {K : PySem.W.Frag} {x qual : Str} {params : Arguments} {body : List Stmt} {scope : Scope} {kws : List (Str × V)} {f : Addr} {fd : FuncData} {ps : List Str} (F : FunD K x qual params body scope [] kws f fd) (n : Nat) (ks : List Str)
    (h : ∀ (kV doc pm : Value) (an : Option Addr) (cdv ct : Value) (us ws : List Value), us.length = n → ws.length = ks.length → bindArgs (PySem.W.fnOf x qual params body scope .none kV doc pm an cdv ct) ⟨us, ks.zip ws⟩ = pure (ps.zip (us ++ ws))) : KBn K fd ps n ks (fun us ws => us ++ ws) (fun vs zs => vs ++ zs) := by
  obtain ⟨_, _, _, kV, doc, pm, an, cdv, ct, _, rfl, _, _, hD, _⟩ := F.ex; rcases hD with ⟨_, rfl⟩ | ⟨e, _⟩
  · exact ⟨fun s us ws X l1 l2 => .of_eq (h kV doc pm an cdv ct us ws l1 l2), fun r1 r2 => r1.append r2⟩
  · exact absurd rfl e
/-- x != y, by x's own __eq__ or as data -/
def oNeA (c : Nat) (f : List D → Mem → Option (D × Mem)) : D → D → Mem → Option (D × Mem) := fun x y μ => match oNeOwn c f x y μ with
  | some r => some r
  | none => oEq true x y μ
theorem rr_neA {G : Gx} {c : Nat} {f : List D → Mem → Option (D × Mem)} {r : R2} (cl : Cls G.K (G.cA c)) (cx : XH.ClsX G.K (G.cA c)) (h : RR G r (oEq true)) : RR G (fun x y H Q => rNeOwn G.K (G.cA c) (spM G f 2) E0 x y H Q ∨ r x y H Q) (oNeA c f) := by
  intro ρ H μ x y dx dy d μ' Q M hx hy e p
  unfold oNeA at e
  split at e
  · rename_i z hz
    cases e
    exact .inl (rr_neOwn cl cx ρ H μ x y dx dy d μ' Q M hx hy hz p)
  · exact .inr (h ρ H μ x y dx dy d μ' Q M hx hy e p)
/-- an own exception class with its __init__ -/
def Dx (P : Program) (w : World) (G : Gx) (mg : Str → Option Value) (base : Heap) (x : Str) (c k : Nat) (ps : List Str) (f : List D → Mem → Option (D × Mem)) (ks : List Str) : Prop :=
  G.cA c = He.ga G.K x ∧ mg x = some (.ref (He.ga G.K x)) ∧ ∃ (B n i : String) (bm : List Value) (fd : FuncData), Base B n i bm ∧ MkI G.K (He.ga G.K x) (He.ma G.K (He.ga G.K x) "__init__") n bm ∧
    FnOk P w G.K mg base CX0 k (He.ma G.K (He.ga G.K x) "__init__") fd ps (spM G f ps.length) ∧ Binds G.K fd ps [] ∧ ∃ g, KBn G.K fd ps 1 ks g (fun vs zs => vs ++ zs)
theorem dx_make {X : Cx} {ca : Nat → Addr} {c k m : Nat} {x : Str} {ps ks : List Str} {f} {p pos : Pos} {e : Expr} {es : List Expr} {t : TA} (Dd : Dx X.prog X.w ⟨X.K, ca⟩ X.mg X.base x c k ps f ks) (hr : Room (k + 1) X.A) (hg : Gl X x) (ha : PA X (e :: es) t)
    (hn : ps.length = m := by rfl) (hdb : (x == ("__debug__" : Str)) = false := by decide) (he : starEach (e :: es) X.env = (false, eval e X.env) :: starEach es X.env := by rfl) (hpl : ((backTo pos (starEach es X.env)).any (·.1)) = false := by rfl) :
    PE X (.Call (.Name x p) (e :: es) [] pos) (tMkV (ca c) (spM ⟨X.K, ca⟩ f m) t) := by
  subst hn
  obtain ⟨hc, hm, B, n, i, bm, fd, Bs, M, hF, hB, _⟩ := Dd
  have hc' : ca c = He.ga X.K x := hc
  rw [hc']
  exact pe_mkV Bs M hF hr hB pass0 hg hm ha hdb he hpl
theorem dx_makeK {X : Cx} {ca : Nat → Addr} {c k m j : Nat} {x : Str} {ps ks : List Str} {f} {p pos : Pos} {kws : List Keyword} {tk : TA} (Dd : Dx X.prog X.w ⟨X.K, ca⟩ X.mg X.base x c k ps f ks) (hr : Room (k + 1) X.A) (hg : Gl X x) (hkw : PK X kws tk)
    (hn : ps.length = m := by rfl) (hj : ks.length = j := by rfl) (hall : (backToKw pos (keywordEach kws X.env)).all (·.1.isSome) = true := by rfl) (hks : (backToKw pos (keywordEach kws X.env)).filterMap (·.1) = ks := by rfl) (hdb : (x == ("__debug__" : Str)) = false := by decide) (hpl : ((backTo pos (starEach [] X.env)).any (·.1) || (backToKw pos (keywordEach kws X.env)).any (·.1.isNone)) = false := by rfl) :
    PE X (.Call (.Name x p) [] kws pos) (tMkVK (ca c) j (spM ⟨X.K, ca⟩ f m) (fun vs zs => vs ++ zs) tk) := by
  subst hn; subst hj
  obtain ⟨hc, hm, B, n, i, bm, fd, Bs, M, hF, hB, g, hK⟩ := Dd
  have hc' : ca c = He.ga X.K x := hc
  rw [hc']
  exact pe_mkVK Bs M hF hr hK pass0 hg hm hkw hall hks hdb hpl
/-- C(..), the defaults behind -/
def mWith (r : MAr) (dds : List D) : MAr := fun env μ => match r env μ with
  | some (ds, μ1) => some (ds ++ dds, μ1)
  | none => none
theorem re_makeD {G : Gx} {c k : Nat} {f} {E : XK} {t : TA} {r : MAr} {dvs : List V} {dds : List D} (hd : ∀ ρ H, Dens G ρ H dvs dds) (hr : RA G t r) : RE G (tMake (G.cA c) (spM G f k) dvs E t) (mMake c k f (mWith r dds)) := re_make (f := f) hd hr
/-- an own exception class with no __init__ of its own -/
def D0 (G : Gx) (mg : Str → Option Value) (x : Str) (c : Nat) : Prop := G.cA c = He.ga G.K x ∧ mg x = some (.ref (He.ga G.K x)) ∧ ∃ (B n i : String) (bm : List Value), Base B n i bm ∧ exT x n bm G.K = true
theorem d0_make {X : Cx} {ca : Nat → Addr} {c : Nat} {x : Str} {p pos : Pos} {e : Expr} {es : List Expr} {t : TA} (Dd : D0 ⟨X.K, ca⟩ X.mg x c) (hg : Gl X x) (ha : PA X (e :: es) t) (hdb : (x == ("__debug__" : Str)) = false := by decide) (he : starEach (e :: es) X.env = (false, eval e X.env) :: starEach es X.env := by rfl) (hpl : ((backTo pos (starEach es X.env)).any (·.1)) = false := by rfl) :
    PE X (.Call (.Name x p) (e :: es) [] pos) (tMk0 (ca c) t) := by
  obtain ⟨hc, hm, B, n, i, bm, Bs, hx⟩ := Dd
  have hc' : ca c = He.ga X.K x := hc
  rw [hc']
  unfold exT at hx
  rw [Bool.and_eq_true] at hx
  exact pe_mk0 Bs hx.1 hx.2 hg hm ha hdb he hpl
theorem d0_make0 {X : Cx} {ca : Nat → Addr} {c : Nat} {x : Str} {p pos : Pos} (Dd : D0 ⟨X.K, ca⟩ X.mg x c) (hg : Gl X x) (hdb : (x == ("__debug__" : Str)) = false := by decide) :
    PE X (.Call (.Name x p) [] [] pos) (tMk0 (ca c) tNil) := by
  obtain ⟨hc, hm, B, n, i, bm, Bs, hx⟩ := Dd
  have hc' : ca c = He.ga X.K x := hc
  rw [hc']
  unfold exT at hx
  rw [Bool.and_eq_true] at hx
  exact pe_mk00 Bs hx.1 hx.2 hg hm hdb
end MR

/-! TxtM: texts: f-strings, str, int, split, texts and lists so many times. -/
namespace MR
open PySem L2
section
variable {G : Gx} {ρ ρ' : List Addr} {H H' : Hp} {σ : St} {env : Sl} {μ μ' : Mem} {d : D} {Q : VK} {x y v : V}
def mFmt (a : MEx) : MEx := fun env μ => match a env μ with
  | some (.str y, μ1) => if y.length ≤ 100000 then some (.str y, μ1) else none
  | some (.int i, μ1) => if i.natAbs.log2 < 1920 then some (.str (toString i), μ1) else none
  | _ => none
theorem re_fmt {te : TE} {a : MEx} (ha : RE G te a) : RE G (tFmt te) (mFmt a) := by
  intro ρ σ H env μ d μ' Q M S h p
  unfold mFmt at h
  split at h
  · rename_i y μ1 h1
    split at h
    · rename_i hz
      cases h
      refine ha ρ σ H env μ _ _ _ M S h1 fun ρ1 H1 v e1 M1 d1 => ?_
      cases d1
      exact .inl ⟨_, rfl, le_line hz, p ρ1 H1 _ e1 M1 .str⟩
    · cases h
  · rename_i i μ1 h1
    split at h
    · rename_i hz
      cases h
      refine ha ρ σ H env μ _ _ _ M S h1 fun ρ1 H1 v e1 M1 d1 => ?_
      cases d1
      exact .inr ⟨_, rfl, hz, p ρ1 H1 _ e1 M1 .str⟩
    · cases h
  · cases h
inductive REs (G : Gx) : List TE → List MEx → Prop
  | nil : REs G [] []
  | cons {t : TE} {m : MEx} {ts : List TE} {ms : List MEx} (h : RE G t m) (r : REs G ts ms) : REs G (t :: ts) (m :: ms)
def jsGo : List MEx → Str → Sl → Mem → Option (Str × Mem)
  | [], acc, _, μ => some (acc, μ)
  | a :: r, acc, env, μ => match a env μ with
    | some (.str y, μ1) => if (acc ++ y).length ≤ 100000 then jsGo r (acc ++ y) env μ1 else none
    | _ => none
def mJs (l : List MEx) : MEx := fun env μ => match jsGo l Str.empty env μ with
  | some (z, μ1) => some (.str z, μ1)
  | none => none
theorem js_run {ts : List TE} {ms : List MEx} (h : REs G ts ms) : ∀ (acc z : Str) (ρ : List Addr) (σ : St) (H : Hp) (env : Sl) (μ μ' : Mem) (Q : Str → Hp → Prop), MemOk G ρ H μ → SlOk G ρ H σ env → jsGo ms acc env μ = some (z, μ') →
    (∀ ρ' H', Ext G.K ρ H ρ' H' → MemOk G ρ' H' μ' → Q z H') → tJs ts acc σ H Q := by
  induction h with
  | nil =>
    intro acc z ρ σ H env μ μ' Q M S e p
    cases e
    exact p ρ H .refl M
  | cons h r ih =>
    intro acc z ρ σ H env μ μ' Q M S e p
    rw [jsGo] at e
    split at e
    · rename_i y μ1 h1
      split at e
      · rename_i hz
        refine h ρ σ H env μ _ _ _ M S h1 fun ρ1 H1 v e1 M1 d1 => ?_
        cases d1
        exact ⟨_, rfl, le_line hz, ih _ z ρ1 σ H1 env μ1 μ' Q M1 (S.mono e1) e fun ρ2 H2 e2 M2 => p ρ2 H2 (e1.trans e2) M2⟩
      · cases e
    · cases e
theorem re_js {ts : List TE} {ms : List MEx} (h : REs G ts ms) : RE G (fun σ H Q => tJs ts Str.empty σ H fun out H1 => Q (.str out) H1) (mJs ms) := by
  intro ρ σ H env μ d μ' Q M S e p
  unfold mJs at e
  split at e
  · rename_i z μ1 h1
    cases e
    exact js_run h _ _ ρ σ H env μ _ _ M S h1 fun ρ1 H1 e1 M1 => p ρ1 H1 _ e1 M1 .str
  · cases e
/-! ### str(i), int(x) -/
def fStrI : List D → Mem → Option (D × Mem) := fun ds μ => match ds with
  | [.int i] => if i.natAbs.log2 < 1920 then some (.str (toString i), μ) else none
  | _ => none
theorem rc_strI : RC G (fun xs H Q => ∃ i, xs = [.int i] ∧ i.natAbs.log2 < 1920 ∧ Q (.str (toString i)) H) fStrI := by
  intro ρ H μ vs ds d μ' Q M hd e p
  unfold fStrI at e
  split at e
  · split at e
    · rename_i hz
      cases e
      cases hd with | cons h t =>
      cases t; cases h
      exact ⟨_, rfl, hz, p.go M .str⟩
    · cases e
  · cases e
abbrev rIntU : List V → Hp → VK → Prop := fun xs H Q => (fun xs H Q => (∃ i, xs = [.int i] ∧ Q (.int i) H) ∨ ∃ k, xs = [.bl k] ∧ Q (.int (if k then 1 else 0)) H) xs H Q ∨ (fun xs H Q => ∃ a n, xs = [.str a] ∧ PySem.intText? a = some n ∧ a.length ≤ 640 ∧ Q (.int n) H) xs H Q
theorem call_intU {X : Cx} : CallR X (.type "int") rIntU := call_int1.or call_int_str
def fIntU : List D → Mem → Option (D × Mem) := fun ds μ => match ds with
  | [.str a] => match PySem.intText? a with
    | some n => if a.length ≤ 640 then some (.int n, μ) else none
    | none => none
  | ds => fInt ds μ
theorem rc_intU : RC G rIntU fIntU := by
  intro ρ H μ vs ds d μ' Q M hd e p
  unfold fIntU at e
  split at e
  · split at e
    · rename_i n hn
      split at e
      · rename_i hz
        cases e
        cases hd with | cons h t =>
        cases t; cases h
        exact .inr ⟨_, _, rfl, hn, hz, p.go M .int⟩
      · cases e
    · cases e
  · exact .inl (rc_int ρ H μ vs ds d μ' Q M hd e p)
/-! ### split -/
theorem dens_ofStrs : ∀ l : List Str, Dens G ρ H (l.map V.str) (l.map D.str)
  | [] => .nil
  | _ :: l => .cons .str (dens_ofStrs l)
def mSplit (o e : MEx) : MEx := fun env μ => match o env μ with
  | some (.str a, μ1) => match e env μ1 with
    | some (.str b, μ2) => if b.length = 0 ∨ 100000 < a.length then none else some (.ref μ2.length, μ2 ++ [.lst ((Txt.split a b).map D.str)])
    | _ => none
  | _ => none
theorem re_split {to te : TE} {o e : MEx} (ho : RE G to o) (he : RE G te e) :
    RE G (tM1 (fun x xs H Q => ∃ a b, x = .str a ∧ xs = [.str b] ∧ (b.length == 0) = false ∧ a.length + 2 ≤ sizeLine ∧ rNewStrs (Txt.split a b) H Q) to te) (mSplit o e) := by
  intro ρ σ H env μ d μ' Q M S h p
  unfold mSplit at h
  split at h
  · rename_i a μ1 h1
    split at h
    · rename_i b μ2 h2
      split at h
      · cases h
      · rename_i hz
        cases h
        refine ho ρ σ H env μ _ μ1 _ M S h1 fun ρ1 H1 v e1 M1 d1 => ?_
        cases d1
        refine ⟨⟨_, rfl⟩, he ρ1 σ H1 env μ1 _ μ2 _ M1 (S.mono e1) h2 fun ρ2 H2 u e2 M2 d2 => ?_⟩
        cases d2
        refine ⟨_, _, rfl, rfl, by simpa using fun z => hz (.inl z), ?_, ?_⟩
        · have : (100002 : Nat) ≤ sizeLine := by decide
          omega
        · exact (p.of (e1.trans e2)).newL M2 (dens_ofStrs _)
    · cases h
  · cases h
/-! ### so many times -/
def repS (x : Str) (n : Nat) : Str := ⟨(List.replicate n x.cps).foldl (· ++ ·) #[]⟩
theorem str_extT {a b : Str} (h : a.cps.toList = b.cps.toList) : a = b := by
  obtain ⟨a⟩ := a
  obtain ⟨b⟩ := b
  exact congrArg Str.mk (Array.toList_inj.mp h)
theorem foldl_toList (c : Array Nat) : ∀ (n : Nat) (acc : Array Nat), ((List.replicate n c).foldl (· ++ ·) acc).toList = acc.toList ++ (List.replicate n c.toList).flatten
  | 0, acc => by simp
  | n + 1, acc => by
    rw [List.replicate_succ, List.foldl_cons, foldl_toList c n]
    simp [List.replicate_succ]
theorem repS_toList (x : Str) (n : Nat) : (repS x n).cps.toList = (List.replicate n x.cps.toList).flatten := by
  unfold repS
  rw [foldl_toList]
  simp
theorem repS_one (x : Str) : repS x 1 = x := str_extT (by rw [repS_toList]; simp)
theorem repS_nil {x : Str} (h : x.length = 0) (n : Nat) : repS x n = x := str_extT (by
  have e : x.cps.toList = [] := List.eq_nil_of_length_eq_zero (by rw [Array.length_toList]; exact h)
  rw [repS_toList, e]
  simp)
def rMulS : R2 := fun x y H Q => ∃ (a : Str) (n : Nat), x = .str a ∧ y = .int (n : Int) ∧ n < 100000 ∧ a.length * n ≤ 100000 ∧ Q (.str (repS a n)) H
theorem op_mulS {X : Cx} : OpR X (binaryOp .Mult) rMulS := by
  (intro pins s σ H x y v u Q I rx ry h)
  obtain ⟨a, n, rfl, rfl, hn, hz, q⟩ := h
  obtain ⟨t, rfl⟩ := rx
  obtain ⟨t', rfl⟩ := ry
  have hsz : (100000 : Nat) ≤ sizeLine := by decide
  have htl : Builtin.Str.tooLong (a.length * (n : Int).toNat) = false := by
    unfold Builtin.Str.tooLong
    simp only [Int.toNat_natCast, decide_eq_false_iff_not]
    omega
  refine PySem.P.mul_str (by rw [decide_eq_false (by omega), decide_eq_false (by omega)]; rfl) (fun h1 h2 => ?_) (fun _ _ => htl) ?_
  · have h1' : 0 < n := by omega
    have : ((a.length : Nat) : Int) ≤ (2 ^ 63 - 1) / (n : Int) := by
      rw [Int.le_ediv_iff_mul_le (by omega), ← Int.natCast_mul]
      have : ((a.length * n : Nat) : Int) ≤ 100000 := Int.ofNat_le.mpr hz
      exact Int.le_trans this (by decide)
    exact Int.not_lt.mpr this
  · split
    · rename_i h0
      have hn0 : n = 0 := by omega
      subst hn0
      exact ⟨by decide, .str _, H, I.tok _, ⟨_, rfl⟩, q⟩
    · split
      · rename_i h0 h1
        have e : repS a n = a := by
          simp only [Bool.or_eq_true, beq_iff_eq] at h1
          rcases h1 with h1 | h1
          · have : n = 1 := by omega
            subst this
            exact repS_one a
          · exact repS_nil h1 n
        rw [e] at q
        exact ⟨.str _, H, I, ⟨_, rfl⟩, q⟩
      · have fit := PySem.fits_reps (x := a) (k := (n : Int).toNat) htl
        exact ⟨fit, .str _, H, I.tok _, ⟨_, rfl⟩, by simpa [repS] using q⟩
/-- a list so many times; any of these products -/
theorem dens_flat {vs : List V} {ds : List D} (h : Dens G ρ H vs ds) : ∀ n : Nat, Dens G ρ H (List.replicate n vs).flatten (List.replicate n ds).flatten
  | 0 => by simpa using Dens.nil
  | n + 1 => by simpa [List.replicate_succ] using h.app (dens_flat h n)
abbrev rMulU : R2 := fun x y H Q => rI CMulW (fun i j => .int (i * j)) x y H Q ∨ (fun x y H Q => rMulS x y H Q ∨ rRep x y H Q) x y H Q
theorem op_mulU {X : Cx} : OpR X (binaryOp .Mult) rMulU := op_mulW.or (op_mulS.or op_rep)
def oMulU : D → D → Mem → Option (D × Mem) := fun x y μ => match x, y with
  | .str a, .int j => if 0 ≤ j ∧ j < 100000 ∧ a.length * j.toNat ≤ 100000 then some (.str (repS a j.toNat), μ) else none
  | .ref m, .int j => match μ[m]? with
    | some (.lst xs) => if 0 ≤ j ∧ j < 100000 ∧ xs.length * j.toNat ≤ 100000 then some (.ref μ.length, μ ++ [.lst (List.replicate j.toNat xs).flatten]) else none
    | _ => none
  | x, y => oMulI x y μ
theorem rr_mulU : RR G rMulU oMulU := by
  intro ρ H μ x y dx dy d μ' Q M d1 d2 e p
  unfold oMulU at e
  split at e
  · split at e
    · rename_i j hz
      cases e; cases d1; cases d2
      exact .inr (.inl ⟨_, j.toNat, rfl, by rw [Int.toNat_of_nonneg hz.1], by omega, hz.2.2, p.go M .str⟩)
    · cases e
  · split at e
    · rename_i xs hm
      split at e
      · rename_i hz
        cases e; cases d2
        cases d1 with | ref r1 =>
        obtain ⟨vs, h1, t1⟩ := M.ob _ _ _ r1 hm
        refine .inr (.inr ⟨_, _, vs, rfl, rfl, h1, by omega, by omega, le_line (by rw [t1.len]; exact hz.2.2), p.newL M (dens_flat t1 _)⟩)
      · cases e
    · cases e
  · exact .inl (rr_mulI ρ H μ x y dx dy d μ' Q M d1 d2 e p)
end
end MR

/-! StarT: a, *b = a list. -/
namespace StarT
open PySem L2 PySem.Spec PyProof.Rows
def gStar (t : TGs) : TG := fun v σ H Q => ∃ a x xs, v = .ref a ∧ H a = some (.lst (x :: xs)) ∧ ∀ l, H l = none → t [x, .ref l] σ (upd H l (.lst xs)) Q
theorem star_items {prog : Program} {w : World} {A : Around} {E : Value → Shared → Prop} {s : Shared} {l : Addr} {y : Value} {ys : List Value} {Q : List Value → Shared → Prop} (hl : s.heap.IsList l (y :: ys).toArray) (hh : A.handled = none)
    (hz : ys.length < sizeLine)
    (h : ∀ h' tk, Heap.ExtBut s.heap.objs.size s.heap h' → Q [y, .ref h'.objs.size] { s with heap := h'.push { cls := .type "list", data := .seq ys.toArray }, toks := tk }) :
    wpAny (model prog w) A (unpackItems (.ref l) 2 (some 1)) Q E s := by
  have hlt : s.heap.objs.size ≠ l := by
    obtain ⟨o, ho, _⟩ := hl
    exact (Nat.ne_of_lt (Heap.lt_size ho)).symm
  unfold unpackItems; refine wpAny_bind ?_
  unfold notIterableAtAll
  refine wpAny_bind ((wpAny_specialOf hl.typeIs (slot_list_iter.lookup) ?_))
  refine (wpAny_pure ?_)
  (simp only [Bool.false_eq_true, if_false])
  refine wpAny_bind (wpAny_holding ((wpAny_pyIter_list hl ?_)))
  refine wpAny_bind (wpAny_holding (PySem.W.kun_draw hlt.symm 1 0 _ _ ⟨_, Heap.get?_push_size _ rfl, rfl, rfl⟩ (hl.push _) (by simp) fun h1 it1 sm1 => ?_))
  have hl1 : h1.IsList l (y :: ys).toArray := (hl.push _).extBut sm1.extBut hlt.symm
  have it1c := it1
  obtain ⟨oi, hoi, _⟩ := it1c
  have hl1c := hl1
  obtain ⟨ol, hol, _⟩ := hl1c
  rw [show ((y :: ys).toArray.toList.drop 0).take 1 = [y] from rfl]
  rw [if_neg (show ¬ ([y].length < 1) by simp)]
  refine wpAny_bind (wpAny_holding (PySem.W.kun_collect (s := { s with heap := h1 }) (T := "list_iterator") (k := 1) (.inr (.inr (.inl rfl))) (Walks.list (A := A.in1) hh s.heap.objs.size l hlt.symm (y :: ys).toArray) (fun _ u st => st.1.typeIs) (by simp) ⟨it1, hl1⟩ (Heap.lt_size hoi) (Heap.lt_size hol)
    (fun h2 tk hk => ?_) (by simp only [List.size_toArray, List.length_cons]; omega)))
  rw [show (y :: ys).toArray.toList.drop 1 = ys from rfl]
  show wpAny _ _ (if ys.length < 2 - 1 - 1 then _ else _) _ _ _
  rw [if_neg (by simp)]
  have he : Heap.ExtBut s.heap.objs.size s.heap h2 := fun b o hb e => hk b o hb (sm1.extBut b o hb (Heap.get?_push_of_some _ e))
  show wpAny _ _ (newList (ys.take ys.length) >>= fun d => pure ([y] ++ [d] ++ ys.drop ys.length)) _ _ _
  rw [List.take_length, List.drop_length]
  (refine wpAny_bind (wpAny_newList ?_))
  exact wpAny_pure (h h2 tk he)
theorem pg_star1 {X : Cx} {e1 e2 : Expr} {p2 pos : Pos} {k : Nat} {t : TGs} (hc : X.calm = true) (h : PGs X [e1, e2] t)
    (hn : (assignEach [e1, .Starred e2 p2] X.env).length = 2 := by rfl) (hst : (assignEach [e1, .Starred e2 p2] X.env).findIdx? (·.1) = some 1 := by rfl)
    (hm : (assignEach [e1, .Starred e2 p2] X.env).map (·.2) = (assignEach [e1, e2] X.env).map (·.2) := by rfl) : PG X (.Tuple [e1, .Starred e2 p2] k pos) (gStar t) := by
  (refine ⟨fun pins s σ H v u Q I r hw => ?_⟩)
  obtain ⟨a, x, xs, e, hH, hw⟩ := hw
  subst e
  cases r
  obtain ⟨z, its, n, rv, hl, e⟩ := I.lstM hH
  cases rv with | cons ry rys =>
  rename_i y ys
  (rw [PyProof.Rows.assign_Tuple])
  (refine wpAny_bind (wpAny_standAt ?_))
  unfold unpack
  rw [hn, hst, hm]
  refine wpAny_bind (wpAny_holding (star_items (y := y) (ys := ys) ⟨_, e, rfl, _, rfl⟩ (I.ok.hd hc) (by rw [← rys.length]; simp only [List.length_cons] at z; omega) fun h' tk hx => ?_))
  have I1 : Inv X pins σ H { s with heap := h', toks := tk } := I.kept (t' := tk) fun b o e => hx b o (Nat.ne_of_lt (Heap.lt_size e)) e
  exact h.run pins _ σ _ [x, .ref h'.objs.size] _ Q (I1.lnew (t' := tk) rys (by simp only [List.length_cons] at z; omega)) (.cons ry (.cons (show RelV (.ref h'.objs.size) (.ref h'.objs.size) from rfl) .nil)) (hw _ I1.fresh)
end StarT
namespace MR
open PySem L2
variable {G : Gx}
def gmStar (b : MTgs) : MTg := fun d env μ => match d with
  | .ref n => match μ[n]? with
    | some (.lst (x :: xs)) => b [x, .ref μ.length] env (μ ++ [.lst xs])
    | _ => none
  | _ => none
theorem rg_star {u : TGs} {b : MTgs} (hb : RGs G u b) : RG G (StarT.gStar u) (gmStar b) := by
  intro ρ σ H env μ x d r Q M S hd h p
  unfold gmStar at h
  split at h
  · split at h
    · rename_i z zs hm
      cases hd with | ref r1 =>
      obtain ⟨vs, hv, t⟩ := M.ob _ _ _ r1 hm
      cases t with | cons h1 t1 =>
      rename_i w ws
      refine ⟨_, _, _, rfl, hv, fun l hl => ?_⟩
      have e0 : Ext G.K ρ H (ρ ++ [l]) (upd H l (.lst ws)) := ext_push hl
      refine hb _ σ _ env _ _ _ r Q (M.push (m := .lst zs) hl ⟨_, upd_same, t1.mono e0⟩) (S.mono e0) (.cons (h1.mono e0) (.cons (.ref ?_) .nil)) h (p.of e0)
      rw [← M.len]; simp
    · cases h
  · cases h
end MR

/-! DctT: dicts with text keys in memory, tables of the module, functions as values. -/
namespace MR
open PySem L2
section
variable {G : Gx} {ρ ρ' : List Addr} {H H' : Hp} {σ : St} {env : Sl} {μ μ' : Mem} {d : D} {Q : VK} {x y v : V}
abbrev tkV (vs : List (Str × V)) : List (Key × V) := vs.map fun p => (Sum.inr p.1, p.2)
theorem flds_find {z : Str} {d : D} : ∀ {vs : List (Str × V)} {kvs : List (Str × D)}, Flds G ρ H vs kvs → kvs.lookup z = some d → ∃ v, valV (tkV vs) (Sum.inr z) = some v ∧ Den G ρ H v d
  | _, _, .nil, h => by cases h
  | (f, v) :: vs, (_, d') :: ds, .cons h t, e => by
    by_cases hf : z = f
    · subst hf
      have e' : some d' = some d := by simpa [List.lookup] using e
      cases e'
      exact ⟨v, by simp [valV, tkV], h⟩
    · have e' : ds.lookup z = some d := by
        have : (z == f) = false := by simpa using hf
        simpa [List.lookup, this] using e
      obtain ⟨u, h1, h2⟩ := flds_find t e'
      refine ⟨u, ?_, h2⟩
      have hne : ¬ ((Sum.inr f : Key) = Sum.inr z) := fun q => hf (Sum.inr.inj q).symm
      unfold valV tkV at h1 ⊢
      rw [List.map_cons, List.find?_cons_of_neg (by simpa using hne)]
      exact h1
def mDGet (o i : MEx) : MEx := fun env μ => match o env μ with
  | some (.ref n, μ1) => match i env μ1 with
    | some (.str z, μ2) => match μ2[n]? with
      | some (.dct kvs) => (kvs.lookup z).map (·, μ2)
      | _ => none
    | _ => none
  | _ => none
theorem re_dget {td ty : TE} {o i : MEx} (ho : RE G td o) (hi : RE G ty i) : RE G (tDGet td ty) (mDGet o i) := by
  intro ρ σ H env μ d μ' Q M S h p
  unfold mDGet at h
  split at h
  · rename_i n μ1 h1
    split at h
    · rename_i z μ2 h2
      split at h
      · rename_i kvs hm
        simp only [Option.map_eq_some_iff, Prod.mk.injEq] at h
        obtain ⟨d', hl, rfl, rfl⟩ := h
        refine ho ρ σ H env μ _ μ1 _ M S h1 fun ρ1 H1 v e1 M1 d1 => ?_
        refine hi ρ1 σ H1 env μ1 _ μ2 _ M1 (S.mono e1) h2 fun ρ2 H2 u e2 M2 d2 => ?_
        cases d2
        have d1' := d1.mono e2
        cases d1' with | ref r1 =>
        obtain ⟨vs, hv, t⟩ := M2.ob _ _ _ r1 hm
        obtain ⟨w, hw, dw⟩ := flds_find t hl
        exact ⟨_, w, rfl, by rw [← hw]; exact DGet.k (k := Sum.inr z) hv, p ρ2 H2 w (e1.trans e2) M2 dw⟩
      · cases h
    · cases h
  · cases h
/-! ### a display -/
inductive REd (G : Gx) : List (TE × TE) → List (Str × MEx) → Prop
  | nil : REd G [] []
  | cons {t : TE} {k : Str} {m : MEx} {ts : List (TE × TE)} {ms : List (Str × MEx)} (h : RE G t m) (r : REd G ts ms) : REd G ((tC (.str k), t) :: ts) ((k, m) :: ms)
def dispGo : List (Str × MEx) → Sl → Mem → Option (List (Str × D) × Mem)
  | [], _, μ => some ([], μ)
  | (k, a) :: r, env, μ => match a env μ with
    | some (d, μ1) => match dispGo r env μ1 with
      | some (l, μ2) => some ((k, d) :: l, μ2)
      | none => none
    | none => none
def mDisp (l : List (Str × MEx)) : MEx := fun env μ => match dispGo l env (μ ++ [.dct []]) with
  | some (kvs, μ1) => match μ1[μ.length]? with
    | some (.dct []) => if (kvs.map (·.1)).Nodup ∧ kvs.length ≤ 15 then some (.ref μ.length, μ1.set μ.length (.dct kvs)) else none
    | _ => none
  | none => none
theorem disp_run {ts : List (TE × TE)} {ms : List (Str × MEx)} (h : REd G ts ms) : ∀ (kvs : List (Str × D)) (ρ : List Addr) (σ : St) (H : Hp) (env : Sl) (μ μ' : Mem) (Q : List (V × V) → Hp → Prop), MemOk G ρ H μ → SlOk G ρ H σ env → dispGo ms env μ = some (kvs, μ') →
    (∀ ρ' H' vs, Ext G.K ρ H ρ' H' → MemOk G ρ' H' μ' → Flds G ρ' H' vs kvs → Q (vs.map fun p => (.str p.1, p.2)) H') → tPairs ts σ H Q := by
  induction h with
  | nil =>
    intro kvs ρ σ H env μ μ' Q M S e p
    cases e
    exact p ρ H [] .refl M .nil
  | @cons t k m ts ms h r ih =>
    intro kvs ρ σ H env μ μ' Q M S e p
    rw [dispGo] at e
    split at e
    · rename_i d μ1 h1
      split at e
      · rename_i l μ2 h2
        cases e
        show t σ H _
        refine h ρ σ H env μ _ _ _ M S h1 fun ρ1 H1 v e1 M1 d1 => ?_
        refine ih l ρ1 σ H1 env μ1 μ' _ M1 (S.mono e1) h2 fun ρ2 H2 vs e2 M2 f2 => ?_
        exact p ρ2 H2 ((k, v) :: vs) (e1.trans e2) M2 (.cons (d1.mono e2) f2)
      · cases e
    · cases e
theorem merge_nodup : ∀ (vs acc : List (Str × V)), ((acc ++ vs).map (·.1)).Nodup → mergeK (tkV acc) (tkV vs) = tkV (acc ++ vs)
  | [], acc, _ => by simp [mergeK, tkV]
  | (f, v) :: vs, acc, h => by
    have hn : ¬ ((tkV acc).any fun kv => decide (kv.1 = Sum.inr f)) = true := by
      intro q
      simp only [List.any_eq_true, decide_eq_true_eq] at q
      obtain ⟨kv, hm, he⟩ := q
      obtain ⟨p, hp, rfl⟩ := List.mem_map.mp hm
      have hf : p.1 = f := Sum.inr.inj he
      rw [List.map_append, List.nodup_append] at h
      exact h.2.2 p.1 (List.mem_map_of_mem hp) f (by simp) hf
    have ih := merge_nodup vs (acc ++ [(f, v)]) (by simpa using h)
    unfold mergeK at ih ⊢
    rw [show tkV ((f, v) :: vs) = (Sum.inr f, v) :: tkV vs from rfl, List.foldl_cons]
    have e1 : putK (tkV acc) (Sum.inr f) v = tkV (acc ++ [(f, v)]) := by
      unfold putK
      rw [if_neg hn]
      simp [tkV]
    dsimp only
    rw [e1, ih]
    simp
theorem flds_keys : ∀ {vs : List (Str × V)} {kvs : List (Str × D)}, Flds G ρ H vs kvs → vs.map (·.1) = kvs.map (·.1)
  | _, _, .nil => rfl
  | (_, _) :: _, (_, _) :: _, .cons _ t => by simp [flds_keys t]
theorem sqt_updK {K : PySem.W.Frag} {a p : Addr} {xs : List V} {o : HO} {kvs : List (Key × V)} (hp : H p = some (.dK kvs)) (h : SqT K H a xs) : SqT K (upd H p o) a xs := by
  rcases h with (h | ⟨u, h⟩) | h
  · exact .inl (.inl (by rw [upd_ne (fun z => by rw [z, hp] at h; cases h)]; exact h))
  · exact .inl (.inr ⟨u, by rw [upd_ne (fun z => by rw [z, hp] at h; cases h)]; exact h⟩)
  · exact .inr h
theorem sqf_updK {K : PySem.W.Frag} {a p : Addr} {xs : List V} {o : HO} {kvs : List (Key × V)} (hp : H p = some (.dK kvs)) (h : SqF K H a xs) : SqF K (upd H p o) a xs := by
  rcases h with ⟨u, h⟩ | h
  · exact .inl ⟨u, by rw [upd_ne (fun z => by rw [z, hp] at h; cases h)]; exact h⟩
  · exact .inr h
theorem ext_setK {n : Nat} {p : Addr} {o : HO} {kvs : List (Str × D)} (M : MemOk G ρ H μ) (hr : ρ[n]? = some p) (hm : μ[n]? = some (.dct kvs)) {K : PySem.W.Frag} : Ext K ρ H ρ (upd H p o) := by
  obtain ⟨vs, h, _⟩ := M.ob n p _ hr hm
  exact ⟨⟨[], by simp⟩, fun _ _ q => sqt_updK h q, fun _ _ q => sqf_updK h q, fun a u ha q => by rw [upd_ne (show a ≠ p from fun e => ha (by rw [e]; exact List.mem_of_getElem? hr))]; exact q, fun _ h h' => absurd h h'⟩
theorem MemOk.setK (M : MemOk G ρ H μ) {n : Nat} {p : Addr} {kvs kvs' : List (Str × D)} {vs' : List (Str × V)} (hr : ρ[n]? = some p) (hm : μ[n]? = some (.dct kvs)) (hd : Flds G ρ H vs' kvs') : MemOk G ρ (upd H p (.dK (tkV vs'))) (μ.set n (.dct kvs')) := by
  refine ⟨by simp [M.len], M.inj, fun k a ob h1 h2 => ?_⟩
  have e := ext_setK (K := G.K) (o := .dK (tkV vs')) M hr hm
  by_cases hk : k = n
  · subst hk
    cases hr.symm.trans h1
    rw [List.getElem?_set_self (List.getElem?_eq_some_iff.mp hm).1] at h2
    cases h2
    exact ⟨vs', upd_same, hd.mono0 e.ex⟩
  · rw [List.getElem?_set_ne (Ne.symm hk)] at h2
    exact ob_keep e.ex (upd_ne fun q => hk (M.inj k n a h1 (by rw [hr, q]))) (M.ob k a ob h1 h2)
theorem re_disp {ts : List (TE × TE)} {ms : List (Str × MEx)} (h : REd G ts ms) : RE G (tDisp ts) (mDisp ms) := by
  intro ρ σ H env μ d μ' Q M S e p
  unfold mDisp at e
  split at e
  · rename_i kvs μ1 h1
    split at e
    · rename_i hm
      split at e
      · rename_i hz
        cases e
        intro a ha
        have e0 : Ext G.K ρ H (ρ ++ [a]) (upd H a (.dK [])) := ext_push ha
        have M0 : MemOk G (ρ ++ [a]) (upd H a (.dK [])) (μ ++ [.dct []]) := M.push ha ⟨[], upd_same, .nil⟩
        have hat : (ρ ++ [a])[μ.length]? = some a := by rw [← M.len]; simp
        refine disp_run h kvs _ σ _ env _ μ1 _ M0 (S.mono e0) h1 fun ρ1 H1 vs e1 M1 f1 => ?_
        have r1 := e1.at_ hat
        obtain ⟨us, hu, tu⟩ := M1.ob _ _ _ r1 hm
        cases tu
        refine ⟨hu, tkV vs, by simp [tkV, kV], by rw [List.length_map, ← List.length_map (f := (·.1)), flds_keys f1, List.length_map]; exact hz.2, ?_⟩
        have em : mergeK [] (tkV vs) = tkV vs := merge_nodup vs [] (by simpa [flds_keys f1] using hz.1)
        rw [em]
        exact p ρ1 _ _ ((e0.trans e1).trans (ext_setK M1 r1 hm)) (M1.setK r1 hm f1) (.ref r1)
      · cases e
    · cases e
  · cases e
/-! ### tables of the module -/
structure KT (G : Gx) (w : World) (n : Nat) (tb : Str → Option D) : Prop where
  val : ∀ z d, tb z = some d → ∃ v, KDct G.K w (G.cA n) z v ∧ ∀ ρ H, Den G ρ H v d
  dict : ∃ es m, KDict G.K w (G.cA n) es m
theorem kdct_of {K : PySem.W.Frag} {w : World} {a : Addr} {es : Array DictEntry} {m : Nat} {z : Str} {u : Value} {v : V} (T : KDict K w a es m) (h : PySem.W.nsIn K a z = some (some u)) (r : RelV v u) : KDct K w a z v := ⟨es, m, u, T.at_, T.lit, h, r⟩
def oInK (neg : Bool) (n : Nat) (tb : Str → Option D) : D → D → Mem → Option (D × Mem) := fun x y μ => match x, y with
  | .str z, .cl k => if k = n ∧ (tb z).isSome = true then some (.bl (!neg), μ) else none
  | _, _ => none
theorem rr_inKG {w : World} {n : Nat} {tb : Str → Option D} (T : KT G w n tb) (neg : Bool) : RR G (fun x y H Q => ∃ (z : Str) (r : Option Value), x = .str z ∧ y = .ref (G.cA n) ∧ PySem.W.nsIn G.K (G.cA n) z = some r ∧ Q (.bl (if neg then !r.isSome else r.isSome)) H) (oInK neg n tb) := by
  intro ρ H μ x y dx dy d μ' Q M d1 d2 e p
  unfold oInK at e
  split at e
  · split at e
    · rename_i hk
      obtain ⟨rfl, hs⟩ := hk
      cases e; cases d1; cases d2
      obtain ⟨d, hd⟩ := Option.isSome_iff_exists.mp hs
      obtain ⟨v, ⟨es, m, u, _, _, hn, _⟩, _⟩ := T.val _ d hd
      refine ⟨_, _, rfl, rfl, hn, ?_⟩
      have : (.bl (if neg then !(some u).isSome else (some u).isSome) : V) = .bl (!neg) := by cases neg <;> rfl
      rw [this]
      exact p.go M .bl
    · cases e
  · cases e
theorem rr_inK {w : World} {n : Nat} {tb : Str → Option D} (T : KT G w n tb) : RR G (fun x y H Q => ∃ (z : Str) (r : Option Value), x = .str z ∧ y = .ref (G.cA n) ∧ PySem.W.nsIn G.K (G.cA n) z = some r ∧ Q (.bl r.isSome) H) (oInK false n tb) := rr_inKG T false
theorem rr_niK {w : World} {n : Nat} {tb : Str → Option D} (T : KT G w n tb) : RR G (fun x y H Q => ∃ (z : Str) (r : Option Value), x = .str z ∧ y = .ref (G.cA n) ∧ PySem.W.nsIn G.K (G.cA n) z = some r ∧ Q (.bl (!r.isSome)) H) (oInK true n tb) := rr_inKG T true
def oIxK (n : Nat) (tb : Str → Option D) : D → D → Mem → Option (D × Mem) := fun x y μ => match x, y with
  | .cl k, .str z => if k = n then (tb z).map (·, μ) else none
  | _, _ => none
theorem rr_ixK {w : World} {n : Nat} {tb : Str → Option D} (T : KT G w n tb) : RR G (rIxD G.K w) (oIxK n tb) := by
  intro ρ H μ x y dx dy d μ' Q M d1 d2 e p
  unfold oIxK at e
  split at e
  · split at e
    · rename_i hk
      subst hk
      simp only [Option.map_eq_some_iff, Prod.mk.injEq] at e
      obtain ⟨d', hd, rfl, rfl⟩ := e
      cases d1; cases d2
      obtain ⟨v, hv, dv⟩ := T.val _ _ hd
      exact ⟨_, _, v, rfl, rfl, hv, p.go M (dv _ _)⟩
    · cases e
  · cases e
/-! ### functions as values -/
def spN (G : Gx) (fv : Nat → Option (Nat × (List D → Mem → Option (D × Mem)))) (n : Nat) : Option Sp := match fv n with
  | some (k, f) => some (spM G f k)
  | none => none
def mCallN (i : Nat) (fv : Nat → Option (Nat × (List D → Mem → Option (D × Mem)))) (r : MAr) : MEx := fun env μ => match env[i]? with
  | some (some (.cl n)) => match fv n with
    | some (k, f) => match r env μ with
      | some (xs, μ1) => if xs.length = k then f xs μ1 else none
      | none => none
    | none => none
  | _ => none
def tCallN (ca : Nat → Addr) (i : Nat) (S : Nat → Option Sp) (t : TA) : TE := fun σ H Q => ∃ n sp, σ[i]? = some (some (.ref (ca n))) ∧ S n = some sp ∧ t σ H fun vs H1 => sp vs H1 Q (fun _ _ _ => False)
theorem pe_callN {X : Cx} {ca : Nat → Addr} {i k : Nat} {S : Nat → Option Sp} {x : Str} {p pos : Pos} {e : Expr} {es : List Expr} {t : TA} (A : ∀ n sp, S n = some sp → Held X.prog X.w X.K X.mg X.base k (ca n) sp) (hr : Room k X.A) (hN : X.N[i]? = some x) (hv : Vis X.env.scope x)
    (ha : PA X (e :: es) t) (hdb : (x == ("__debug__" : Str)) = false := by decide) (hcd : (x == ("__classdict__" : Str)) = false := by decide)
    (he : starEach (e :: es) X.env = (false, eval e X.env) :: starEach es X.env := by rfl) (hpl : (backTo pos (starEach es X.env)).any (·.1) = false := by rfl) : PE X (.Call (.Name x p) (e :: es) [] pos) (tCallN ca i S t) := by
  (refine ⟨fun pins s σ H Q I h => ?_⟩)
  obtain ⟨n, sp, hs, hS, ht⟩ := h
  obtain ⟨fd, ps, F, hk, hb⟩ := (A n sp hS).ex
  refine (pe_callL (i := i) (f := ca n) (sp := sp) (dvs := []) (E := fun _ _ _ => False) F hr hN hv hk hb .nil (fun _ _ _ _ _ _ _ z => z.elim) ha hdb hcd he hpl).run pins s σ H Q I ⟨hs, ?_⟩
  simpa using ht
theorem re_callN {i : Nat} {fv : Nat → Option (Nat × (List D → Mem → Option (D × Mem)))} {t : TA} {a : MAr} (ha : RA G t a) : RE G (tCallN G.cA i (spN G fv) t) (mCallN i fv a) := by
  intro ρ σ H env μ d μ' Q M S h p
  unfold mCallN at h
  split at h
  · rename_i n hn
    split at h
    · rename_i k f hf
      split at h
      · rename_i xs μ1 h1
        split at h
        · rename_i hl
          obtain ⟨u, hu, du⟩ := S.at_ i _ hn
          cases du
          refine ⟨n, spM G f k, hu, by unfold spN; rw [hf], ?_⟩
          refine ha ρ σ H env μ xs μ1 _ M S h1 fun ρ1 H1 vs e1 M1 d1 => ?_
          exact ⟨ρ1, μ1, xs, d, μ', M1, d1, hl, h, p.of e1⟩
        · cases h
      · cases h
    · cases h
  · cases h
theorem df_held {P : Program} {w : World} {mg : Str → Option Value} {base : Heap} {x : Str} {k k' : Nat} {ps : List Str} {f : List D → Mem → Option (D × Mem)} {a : Addr} {n : Nat} (T : Df P w G mg base x k ps f) (ha : a = He.ga G.K x) (hn : ps.length = n) (hk : k ≤ k' := by decide) : Held P w G.K mg base k' a (spM G f n) := by
  subst ha hn
  obtain ⟨fd, F, hB, _, hK⟩ := T
  exact ⟨fd, ps, F.mono hk, hK, hB⟩
/-! ### x in (a, b, ..), however deep -/
def rInT (K : PySem.W.Frag) (neg : Bool) : R2 := fun x y H Q => ∃ d ds, Dp K H x d ∧ Dp K H y (.tuple ds) ∧ SeqAt.shaped d = true ∧ SeqAt.shaped (.tuple ds) = true ∧ Q (.bl (if neg then !ds.any (fun z => PyData.eqv z d) else ds.any fun z => PyData.eqv z d)) H
theorem op_inT {X : Cx} (hu : X.A.units + 65 < cLine) : OpR X (compareOp .In) (rInT X.K false) := by
  (intro pins s σ H x y v u Q I rx ry h)
  (obtain ⟨d, ds, hd, he, sd, se, q⟩ := h)
  (obtain ⟨as, r1⟩ := Dp.reads I d x v hd rx)
  obtain ⟨bs, r2⟩ := Dp.reads I (.tuple ds) y u he ry
  refine SeqAt.in_tuple_reads r2 r1 (SeqAt.canLay_of_shaped se) (SeqAt.canLay_of_shaped sd) (PyProof.Rows.room_in_shaped sd hu) ?_
  exact ⟨.bl _, H, I, rfl, q⟩
theorem op_niT {X : Cx} (hu : X.A.units + 65 < cLine) : OpR X (compareOp .NotIn) (rInT X.K true) := by
  (intro pins s σ H x y v u Q I rx ry h)
  (obtain ⟨d, ds, hd, he, sd, se, q⟩ := h)
  (obtain ⟨as, r1⟩ := Dp.reads I d x v hd rx)
  obtain ⟨bs, r2⟩ := Dp.reads I (.tuple ds) y u he ry
  refine SeqAt.notIn_tuple_reads r2 r1 (SeqAt.canLay_of_shaped se) (SeqAt.canLay_of_shaped sd) (PyProof.Rows.room_in_shaped sd hu) ?_
  exact ⟨.bl _, H, I, rfl, q⟩
def oInT (neg : Bool) : D → D → Mem → Option (D × Mem) := fun x y μ => match toPy μ 40 x, toPy μ 40 y with
  | some a, some (.tuple bs) => if SeqAt.shaped a = true ∧ SeqAt.shaped (.tuple bs) = true then some (.bl (if neg then !bs.any fun z => PyData.eqv z a else bs.any fun z => PyData.eqv z a), μ) else none
  | _, _ => none
theorem rr_inT (neg : Bool) : RR G (rInT G.K neg) (oInT neg) := by
  intro ρ H μ x y dx dy d μ' Q M d1 d2 e p
  unfold oInT at e
  split at e
  · split at e
    · rename_i a bs ha hb hs
      cases e
      exact ⟨a, bs, toPy_dp M _ _ _ _ d1 ha, toPy_dp M _ _ _ _ d2 hb, hs.1, hs.2, p.go M .bl⟩
    · cases e
  · cases e
end
end MR

/-! XHT: the head told with tables of the module and tests of one's own. -/
namespace XH
open L2 PySem PySem.Spec PyProof.Rows
abbrev tabG (c k f : Str) : PySem.W.Frag → Bool := fun K => decide (PySem.W.nsIn K (He.ga K c) k = some (some (.ref (He.ga K f))))
def valsS : List Str → List Value → Bool
  | [], [] => true
  | x :: l, .str y _ :: r => decide (x = y) && valsS l r
  | _, _ => false
theorem valsS_ok : ∀ {l : List Str} {r : List Value}, valsS l r = true → Vals (l.map V.str) r
  | [], [], _ => .nil
  | x :: l, .str y t :: r, h => by
    simp only [valsS, Bool.and_eq_true, decide_eq_true_eq] at h
    obtain ⟨rfl, h2⟩ := h
    exact .cons (show RelV (.str x) (.str x t) from ⟨t, rfl⟩) (valsS_ok h2)
def tupS (K : PySem.W.Frag) (t : Addr) (l : List Str) : Bool := match K.lookup t with
  | some ⟨c, _, .seq its _, _⟩ => decide (c = .type "tuple") && (decide (its.size ≤ 1000) && valsS l its.toList)
  | _ => false
theorem tupS_ok {K : PySem.W.Frag} {t : Addr} {l : List Str} (h : tupS K t l = true) (H : Hp) : SqT K H t (l.map V.str) := by
  unfold tupS at h
  split at h
  · rename_i c d its n sl hk
    (simp only [Bool.and_eq_true, decide_eq_true_eq] at h)
    obtain ⟨rfl, h2, h3⟩ := h
    exact .inr ⟨_, its, n, hk, rfl, rfl, Nat.le_trans h2 (by decide), valsS_ok h3⟩
  · cases h
def tabT (c k : Str) (l : List Str) : PySem.W.Frag → Bool := fun K => match PySem.W.nsIn K (He.ga K c) k with
  | some (some (.ref t)) => tupS K t l
  | _ => false
theorem tabT_ok {c k : Str} {l : List Str} {K : PySem.W.Frag} (h : tabT c k l K = true) : ∃ t, PySem.W.nsIn K (He.ga K c) k = some (some (.ref t)) ∧ ∀ H, SqT K H t (l.map V.str) := by
  unfold tabT at h
  split at h
  · rename_i t ht
    exact ⟨t, ht, tupS_ok h⟩
  · cases h
def toldT (n : Nat) (fa : List He.Fa) (fn : List He.DefD) (ts : List He.Tab) (ex : Tests) (g : Addr → Option Obj) : He.AlT × Bool := (He.obsTG n fa fn ts g, ex.all fun f => f (He.frG g (He.asD g n)))
def hookXT (n : Nat) (fa : List He.Fa) (fn : List He.DefD) (ts : List He.Tab) (ex : Tests) : PySem.W.Hook where
  α := He.AlT × Bool
  obs := fun s => toldT n fa fn ts ex s.heap.get?
  val := fun w => (He.valT fn ts w, true)
  says := fun w h => ∃ K : PySem.W.Frag, K.In h ∧ He.SaysT fa fn ts w K ∧ (ex.all fun f => f K) = true
  of := fun _ _ e => ⟨_, He.frG_in, congrArg Prod.fst e, congrArg Prod.snd e⟩
  keeps := fun _ _ _ ⟨K, hK, c, x⟩ k => ⟨K, PySem.W.Frag.In.keeps hK k, c, x⟩
theorem toldT_eq {n : Nat} {fa : List He.Fa} {fn : List He.DefD} {ts : List He.Tab} {ex : Tests} {g : Addr → Option Obj} {s : Shared} (h : ∀ a, g a = s.heap.get? a) : toldT n fa fn ts ex g = (hookXT n fa fn ts ex).obs s := by
  have e : g = s.heap.get? := funext fun a => h a
  subst e
  rfl
end XH

namespace Tx
open PySem PySem.Spec PyProof.Rows L2 MR
def top (i : Nat) : Stmt := PySem.Challenge.pw_nameagain_k74_habits_written.main.body.getD i (.Pass ⟨0, 0, 0, 0⟩)
theorem hu16 {A : Around} {k : Nat} (hr : Room k A) : A.units + 16 < cLine := by have := hr.un; omega
theorem hu1 {A : Around} {k : Nat} (hr : Room k A) : A.units + 1 < cLine := by have := hr.un; omega
abbrev FnP (K : PySem.W.Frag) (nm : Str) (st : Stmt) (fa : Addr) (fd : FuncData) : Prop := FunD K nm nm (defArgs st) (defBody st) (defScope st) [] [] fa fd
abbrev xnames : List Str := ["Habits", "READERS", "AHEAD", "read_steps", "read_folk", "read_way"]
def tb_READERS : Str → Option D := fun z => if z = "steps" then some (.cl 3) else if z = "folk" then some (.cl 4) else if z = "way" then some (.cl 5) else none
def tb_AHEAD : Str → Option D := fun z => if z = "steps" then some (.tup [.str ""]) else if z = "folk" then some (.tup [.str "steps", .str "folk"]) else if z = "way" then some (.tup [.str "steps", .str "folk", .str "way"]) else none
structure Txt (w : World) (K : PySem.W.Frag) (mg : Str → Option Value) : Prop where
  n_abs : mg "abs" = none
  n_all : mg "all" = none
  n_bool : mg "bool" = none
  n_enumerate : mg "enumerate" = none
  n_int : mg "int" = none
  n_isinstance : mg "isinstance" = none
  n_len : mg "len" = none
  n_max : mg "max" = none
  n_min : mg "min" = none
  n_range : mg "range" = none
  n_set : mg "set" = none
  n_str : mg "str" = none
  n_tuple : mg "tuple" = none
  c_FIGURES : ∃ t, mg "FIGURES" = some (.str "0123456789" t)
  c_HOUSE : ∃ t, mg "HOUSE" = some (.str "house" t)
  c_LETTERS : ∃ t, mg "LETTERS" = some (.str "abcdefghijklmnopqrstuvwxyz" t)
  c_LONGEST_TEXT : ∃ t, mg "LONGEST_TEXT" = some (.int (8) t)
  c_LOSES : ∃ t, mg "LOSES" = some (.str "loses" t)
  c_MOST_DAYS : ∃ t, mg "MOST_DAYS" = some (.int (3) t)
  c_MOST_FOLK : ∃ t, mg "MOST_FOLK" = some (.int (3) t)
  c_MOST_KEEP : ∃ t, mg "MOST_KEEP" = some (.int (3) t)
  c_MOST_LINES : ∃ t, mg "MOST_LINES" = some (.int (40) t)
  c_MOST_STEPS : ∃ t, mg "MOST_STEPS" = some (.int (2) t)
  c_NOTHING : ∃ t, mg "NOTHING" = some (.str "-" t)
  c_SAYING : ∃ t, mg "SAYING" = some (.str "saying" t)
  c_STILL : ∃ t, mg "STILL" = some (.str "still" t)
  c_TWICE : ∃ t, mg "TWICE" = some (.str "twice" t)
  g_READERS : mg "READERS" = some (.ref (He.ga K "READERS"))
  kd_READERS : ∃ es m, KDict K w (He.ga K "READERS") es m
  x_tv_READERS_steps : XH.tabG "READERS" "steps" "read_steps" K = true
  x_tv_READERS_folk : XH.tabG "READERS" "folk" "read_folk" K = true
  x_tv_READERS_way : XH.tabG "READERS" "way" "read_way" K = true
  g_AHEAD : mg "AHEAD" = some (.ref (He.ga K "AHEAD"))
  kd_AHEAD : ∃ es m, KDict K w (He.ga K "AHEAD") es m
  x_tv_AHEAD_steps : XH.tabT "AHEAD" "steps" [""] K = true
  x_tv_AHEAD_folk : XH.tabT "AHEAD" "folk" ["steps", "folk"] K = true
  x_tv_AHEAD_way : XH.tabT "AHEAD" "way" ["steps", "folk", "way"] K = true
  cx_Habits : XH.ClsX K (He.ga K "Habits")
  np_Habits : NoPl K (He.ga K "Habits")
  ne_Habits : PySem.W.findIn K (.ref (He.ga K "Habits")) "__ne__" = some (some (.builtin "object.__ne__"))
  cls_Habits : Cls K (He.ga K "Habits")
  na_Habits_folk : NoAttr K (He.ga K "Habits") "folk"
  na_Habits_steps : NoAttr K (He.ga K "Habits") "steps"
  na_Habits_ways : NoAttr K (He.ga K "Habits") "ways"
  g_is_whole : mg "is_whole" = some (.ref (He.ga K "is_whole"))
  d_is_whole : ∃ fd, FnP K "is_whole" (top 5) (He.ga K "is_whole") fd
  g_is_between : mg "is_between" = some (.ref (He.ga K "is_between"))
  d_is_between : ∃ fd, FnP K "is_between" (top 6) (He.ga K "is_between") fd
  g_is_truth : mg "is_truth" = some (.ref (He.ga K "is_truth"))
  d_is_truth : ∃ fd, FnP K "is_truth" (top 7) (He.ga K "is_truth") fd
  g_is_tuple_of : mg "is_tuple_of" = some (.ref (He.ga K "is_tuple_of"))
  d_is_tuple_of : ∃ fd, FnP K "is_tuple_of" (top 8) (He.ga K "is_tuple_of") fd
  g_is_folk_text : mg "is_folk_text" = some (.ref (He.ga K "is_folk_text"))
  d_is_folk_text : ∃ fd, FnP K "is_folk_text" (top 19) (He.ga K "is_folk_text") fd
  g_is_folk : mg "is_folk" = some (.ref (He.ga K "is_folk"))
  d_is_folk : ∃ fd, FnP K "is_folk" (top 20) (He.ga K "is_folk") fd
  g_are_folk : mg "are_folk" = some (.ref (He.ga K "are_folk"))
  d_are_folk : ∃ fd, FnP K "are_folk" (top 21) (He.ga K "are_folk") fd
  g_is_way : mg "is_way" = some (.ref (He.ga K "is_way"))
  d_is_way : ∃ fd, FnP K "is_way" (top 22) (He.ga K "is_way") fd
  g_are_ways : mg "are_ways" = some (.ref (He.ga K "are_ways"))
  d_are_ways : ∃ fd, FnP K "are_ways" (top 23) (He.ga K "are_ways") fd
  g_Habits : mg "Habits" = some (.ref (He.ga K "Habits"))
  mk_Habits : Mk K (He.ga K "Habits") (He.ma K (He.ga K "Habits") "__init__")
  d_Habits_init : ∃ fd, FunD K "__init__" "Habits.__init__" (defArgs (inClass (top 24) 0)) (defBody (inClass (top 24) 0)) (defScope (inClass (top 24) 0)) [] [("steps", .int 1)] (He.ma K (He.ga K "Habits") "__init__") fd
  mt_Habits_eq : Meth K (He.ga K "Habits") "__eq__" (He.ma K (He.ga K "Habits") "__eq__")
  d_Habits_eq : ∃ fd, FunD K "__eq__" "Habits.__eq__" (defArgs (inClass (top 24) 1)) (defBody (inClass (top 24) 1)) (defScope (inClass (top 24) 1)) [] [] (He.ma K (He.ga K "Habits") "__eq__") fd
  mt_Habits_len : Meth K (He.ga K "Habits") "__len__" (He.ma K (He.ga K "Habits") "__len__")
  d_Habits_len : ∃ fd, FunD K "__len__" "Habits.__len__" (defArgs (inClass (top 24) 2)) (defBody (inClass (top 24) 2)) (defScope (inClass (top 24) 2)) [] [] (He.ma K (He.ga K "Habits") "__len__") fd
  g_is_figures : mg "is_figures" = some (.ref (He.ga K "is_figures"))
  d_is_figures : ∃ fd, FnP K "is_figures" (top 31) (He.ga K "is_figures") fd
  g_read_figures : mg "read_figures" = some (.ref (He.ga K "read_figures"))
  d_read_figures : ∃ fd, FnP K "read_figures" (top 32) (He.ga K "read_figures") fd
  g_show_folk : mg "show_folk" = some (.ref (He.ga K "show_folk"))
  d_show_folk : ∃ fd, FnP K "show_folk" (top 33) (He.ga K "show_folk") fd
  g_show_way : mg "show_way" = some (.ref (He.ga K "show_way"))
  d_show_way : ∃ fd, FnP K "show_way" (top 34) (He.ga K "show_way") fd
  g_show_habits : mg "show_habits" = some (.ref (He.ga K "show_habits"))
  d_show_habits : ∃ fd, FnP K "show_habits" (top 35) (He.ga K "show_habits") fd
  g_read_steps : mg "read_steps" = some (.ref (He.ga K "read_steps"))
  d_read_steps : ∃ fd, FnP K "read_steps" (top 36) (He.ga K "read_steps") fd
  g_read_folk : mg "read_folk" = some (.ref (He.ga K "read_folk"))
  d_read_folk : ∃ fd, FnP K "read_folk" (top 37) (He.ga K "read_folk") fd
  g_read_way : mg "read_way" = some (.ref (He.ga K "read_way"))
  d_read_way : ∃ fd, FnP K "read_way" (top 38) (He.ga K "read_way") fd
  g_lines_of : mg "lines_of" = some (.ref (He.ga K "lines_of"))
  d_lines_of : ∃ fd, FnP K "lines_of" (top 41) (He.ga K "lines_of") fd
  g_read_lines : mg "read_lines" = some (.ref (He.ga K "read_lines"))
  d_read_lines : ∃ fd, FnP K "read_lines" (top 42) (He.ga K "read_lines") fd
  g_read_habits : mg "read_habits" = some (.ref (He.ga K "read_habits"))
  d_read_habits : ∃ fd, FnP K "read_habits" (top 43) (He.ga K "read_habits") fd
  g_law_bag : mg "_law_bag" = some (.ref (He.ga K "_law_bag"))
  d_law_bag : ∃ fd, FnP K "_law_bag" (top 45) (He.ga K "_law_bag") fd
  g_law_take : mg "_law_take" = some (.ref (He.ga K "_law_take"))
  d_law_take : ∃ fd, FnP K "_law_take" (top 46) (He.ga K "_law_take") fd
  g_law_names : mg "_law_names" = some (.ref (He.ga K "_law_names"))
  d_law_names : ∃ fd, FnP K "_law_names" (top 47) (He.ga K "_law_names") fd
  g_law_way : mg "_law_way" = some (.ref (He.ga K "_law_way"))
  d_law_way : ∃ fd, FnP K "_law_way" (top 48) (He.ga K "_law_way") fd
  g_law_habits : mg "_law_habits" = some (.ref (He.ga K "_law_habits"))
  d_law_habits : ∃ fd, FnP K "_law_habits" (top 49) (He.ga K "_law_habits") fd
  g_law_made : mg "_law_made" = some (.ref (He.ga K "_law_made"))
  d_law_made : ∃ fd, FnP K "_law_made" (top 50) (He.ga K "_law_made") fd
  g_law_text : mg "_law_text" = some (.ref (He.ga K "_law_text"))
  d_law_text : ∃ fd, FnP K "_law_text" (top 51) (He.ga K "_law_text") fd
  g_law : mg "law" = some (.ref (He.ga K "law"))
  d_law : ∃ fd, FnP K "law" (top 52) (He.ga K "law") fd
section
variable {P : Program} {w : World} {G : Gx} {mg : Str → Option Value} {base : Heap}
/-! ### is_whole -/
abbrev s_is_whole : Stmt := top 5
noncomputable def m_is_whole : List D → Mem → Option (D × Mem) := mDef 1 1 (mRet (mAndV (mCall fIsi (mCons (mVar 0) (mCons (mC (.ty "int")) mNil))) (mNotV (mCall fIsi (mCons (mVar 0) (mCons (mC (.ty "bool")) mNil))))))
theorem sc_is_whole : FnScope (["thing"] : List Str) ["thing"] (defScope s_is_whole) := ⟨rfl, rfl, rfl, by decide +kernel, rfl, by decide +kernel, by decide +kernel⟩
theorem ok_is_whole (T : Txt w G.K mg) (hX : ∀ c, G.cA c = He.ga G.K (xnames.getD c "")) : Df P w G mg base "is_whole" 1 ["thing"] m_is_whole := by
  obtain ⟨fd, F⟩ := T.d_is_whole
  refine ⟨fd, fn_okD F sc_is_whole (fun cdv A outer s H E hr => (pss_one (ps_ret (pe_and (pe_callB call_isi (by rfl) T.n_isinstance (by decide +kernel) (pa_cons (pv 0) (pa_cons (pe_bltn (v := .ty "int") (by rfl) T.n_int (by decide +kernel) rfl) pa_nil))) (pe_one (pe_not (pe_callB call_isi (by rfl) T.n_isinstance (by decide +kernel) (pa_cons (pv 0) (pa_cons (pe_bltn (v := .ty "bool") (by rfl) T.n_bool (by decide +kernel) rfl) pa_nil))))))))) (rs_ret (re_and (re_cb rc_isi (ra_cons re_var (ra_cons (re_c fun _ _ => .ty) ra_nil))) (re_not (re_cb rc_isi (ra_cons re_var (ra_cons (re_c fun _ _ => .ty) ra_nil)))))), F.bindsN fun _ _ _ _ _ _ us hl => match us, hl with | [_], _ => rfl, T.g_is_whole, F.kp⟩
/-! ### is_between -/
abbrev s_is_between : Stmt := top 6
noncomputable def m_is_between : List D → Mem → Option (D × Mem) := mDef 3 3 (mRet (mAndV (mCall (lenIs 1 m_is_whole) (mCons (mVar 0) mNil)) (mChain oLe oLe (mVar 1) (mVar 0) (mVar 2))))
theorem sc_is_between : FnScope (["thing", "low", "high"] : List Str) ["thing", "low", "high"] (defScope s_is_between) := ⟨rfl, rfl, rfl, by decide +kernel, rfl, by decide +kernel, by decide +kernel⟩
theorem ok_is_between (T : Txt w G.K mg) (hX : ∀ c, G.cA c = He.ga G.K (xnames.getD c "")) : Df P w G mg base "is_between" 2 ["thing", "low", "high"] m_is_between := by
  obtain ⟨fd, F⟩ := T.d_is_between
  have D_is_whole := ok_is_whole (P := P) (w := w) (base := base) T hX
  refine ⟨fd, fn_okD F sc_is_between (fun cdv A outer s H E hr => (pss_one (ps_ret (pe_and (df_call (ca := G.cA) D_is_whole (hr.mono (by first | decide | omega | exact Nat.le_refl _ | (simp only [Nat.add_eq]; omega))) (by rfl) (pa_cons (pv 0) pa_nil)) (pe_one (pe_chain op_le op_le (pv 1) (pv 0) (pv 2))))))) (rs_ret (re_and (re_call (ra_cons re_var ra_nil)) (re_chain rr_le rr_le re_var re_var re_var))), F.bindsN fun _ _ _ _ _ _ us hl => match us, hl with | [_, _, _], _ => rfl, T.g_is_between, F.kp⟩
/-! ### is_truth -/
abbrev s_is_truth : Stmt := top 7
noncomputable def m_is_truth : List D → Mem → Option (D × Mem) := mDef 1 1 (mRet (mCall fIsi (mCons (mVar 0) (mCons (mC (.ty "bool")) mNil))))
theorem sc_is_truth : FnScope (["thing"] : List Str) ["thing"] (defScope s_is_truth) := ⟨rfl, rfl, rfl, by decide +kernel, rfl, by decide +kernel, by decide +kernel⟩
theorem ok_is_truth (T : Txt w G.K mg) (hX : ∀ c, G.cA c = He.ga G.K (xnames.getD c "")) : Df P w G mg base "is_truth" 1 ["thing"] m_is_truth := by
  obtain ⟨fd, F⟩ := T.d_is_truth
  refine ⟨fd, fn_okD F sc_is_truth (fun cdv A outer s H E hr => (pss_one (ps_ret (pe_callB call_isi (by rfl) T.n_isinstance (by decide +kernel) (pa_cons (pv 0) (pa_cons (pe_bltn (v := .ty "bool") (by rfl) T.n_bool (by decide +kernel) rfl) pa_nil)))))) (rs_ret (re_cb rc_isi (ra_cons re_var (ra_cons (re_c fun _ _ => .ty) ra_nil)))), F.bindsN fun _ _ _ _ _ _ us hl => match us, hl with | [_], _ => rfl, T.g_is_truth, F.kp⟩
/-! ### is_tuple_of -/
abbrev s_is_tuple_of : Stmt := top 8
noncomputable def m_is_tuple_of : List D → Mem → Option (D × Mem) := mDef 2 2 (mRet (mAndV (mCall fIsi (mCons (mVar 0) (mCons (mC (.ty "tuple")) mNil))) (mOp (oEq false) (mCall fLen (mCons (mVar 0) mNil)) (mVar 1))))
theorem sc_is_tuple_of : FnScope (["thing", "many"] : List Str) ["thing", "many"] (defScope s_is_tuple_of) := ⟨rfl, rfl, rfl, by decide +kernel, rfl, by decide +kernel, by decide +kernel⟩
theorem ok_is_tuple_of (T : Txt w G.K mg) (hX : ∀ c, G.cA c = He.ga G.K (xnames.getD c "")) : Df P w G mg base "is_tuple_of" 1 ["thing", "many"] m_is_tuple_of := by
  obtain ⟨fd, F⟩ := T.d_is_tuple_of
  refine ⟨fd, fn_okD F sc_is_tuple_of (fun cdv A outer s H E hr => (pss_one (ps_ret (pe_and (pe_callB call_isi (by rfl) T.n_isinstance (by decide +kernel) (pa_cons (pv 0) (pa_cons (pe_bltn (v := .ty "tuple") (by rfl) T.n_tuple (by decide +kernel) rfl) pa_nil))) (pe_one (pe_cmpR (op_eqD (hu64 hr)) (pe_callB cr_lenU (by rfl) T.n_len (PySem.boot_len) (pa_cons (pv 0) pa_nil)) (pv 1) (nomark _))))))) (rs_ret (re_and (re_cb rc_isi (ra_cons re_var (ra_cons (re_c fun _ _ => .ty) ra_nil))) (re_op rr_eq (re_cb rc_len (ra_cons re_var ra_nil)) re_var))), F.bindsN fun _ _ _ _ _ _ us hl => match us, hl with | [_, _], _ => rfl, T.g_is_tuple_of, F.kp⟩
/-! ### is_folk_text -/
abbrev s_is_folk_text : Stmt := top 19
noncomputable def m_is_folk_text : List D → Mem → Option (D × Mem) := mDef 2 1 (mSeq (mIf (mOr (mNot (mTs (mCall fIsi (mCons (mVar 0) (mCons (mC (.ty "str")) mNil))))) (mNot (mTs (mChain oLe oLe (mC (.int 1)) (mCall fLen (mCons (mVar 0) mNil)) (mC (.int 8))))))
  (mRet (mC (.bl false)))
  mSkip)
  (mRet (mAndV (mOp (oEq true) (mVar 0) (mC (.str "house"))) (mCall fAll (mCons (mLc (iS (mVar 0)) (gmN 1) mYes (mOp (oIn false) (mVar 1) (mC (.str "abcdefghijklmnopqrstuvwxyz"))) [1]) mNil)))))
theorem sc_is_folk_text : FnScope (["thing", "sign"] : List Str) ["thing"] (defScope s_is_folk_text) := ⟨rfl, rfl, rfl, by decide +kernel, rfl, by decide +kernel, by decide +kernel⟩
theorem ok_is_folk_text (T : Txt w G.K mg) (hX : ∀ c, G.cA c = He.ga G.K (xnames.getD c "")) : Df P w G mg base "is_folk_text" 1 ["thing"] m_is_folk_text := by
  obtain ⟨fd, F⟩ := T.d_is_folk_text
  obtain ⟨t_HOUSE, h_HOUSE⟩ := T.c_HOUSE
  obtain ⟨t_LETTERS, h_LETTERS⟩ := T.c_LETTERS
  obtain ⟨t_LONGEST_TEXT, h_LONGEST_TEXT⟩ := T.c_LONGEST_TEXT
  refine ⟨fd, fn_okD F sc_is_folk_text (fun cdv A outer s H E hr => (pss_cons (ps_if (PW.pt (pw_or (pt_not (pt_val (pe_callB call_isi (by rfl) T.n_isinstance (by decide +kernel) (pa_cons (pv 0) (pa_cons (pe_bltn (v := .ty "str") (by rfl) T.n_str (by decide +kernel) rfl) pa_nil))))) (pw_or1 (pt_not (pt_chain op_le op_le pe_int (pe_callB cr_lenU (by rfl) T.n_len (PySem.boot_len) (pa_cons (pv 0) pa_nil)) (pe_glob (v := .int 8) (by rfl) h_LONGEST_TEXT ⟨_, rfl⟩))))))
  (pss_one (ps_ret pe_bl))
  pss_nil)
  (pss_one (ps_ret (pe_and (pe_cmpR (op_neD (hu64 hr)) (pv 0) (pe_glob (v := .str "house") (by rfl) h_HOUSE ⟨_, rfl⟩) (nomark _)) (pe_one (pe_callB (cr_all rfl) (by rfl) T.n_all (by decide +kernel) (pa_cons (pe_lc (own := [("sign", 1)]) (by rfl) sc_is_folk_text.nd (pi_str (pv 0)) (blkOk_by (own := [("sign", 1)]) (N := (["thing", "sign"] : List Str)) (sc := defScope s_is_folk_text) (by decide +kernel)) (fun _ _ _ _ _ => (pg_name (i := 1) sc_is_folk_text.nd rfl (by first | exact Or.inl rfl | exact Or.inr rfl))) (fun _ _ _ _ _ => pts_nil) (fun _ _ _ _ _ => (pe_cmpR (op_inU (hu65 hr)) (pv 1) (pe_glob (v := .str "abcdefghijklmnopqrstuvwxyz") (by rfl) h_LETTERS ⟨_, rfl⟩) (by rfl)))) pa_nil)))))))) (rs_seq (rs_if (rt_or (rt_not (rt_b (re_cb rc_isi (ra_cons re_var (ra_cons (re_c fun _ _ => .ty) ra_nil))))) (rt_not (rt_test (re_chain rr_le rr_le re_int (re_cb rc_len (ra_cons re_var ra_nil)) re_int))))
  (rs_ret re_bl)
  rs_skip)
  (rs_ret (re_and (re_op rr_ne re_var re_str) (re_cb rc_all (ra_cons (re_lc (vs := [1]) (ri_s re_var) rg_n (kp_n (by decide)) mg_n rt_yes (re_op rr_in re_var re_str)) ra_nil))))), F.bindsN fun _ _ _ _ _ _ us hl => match us, hl with | [_], _ => rfl, T.g_is_folk_text, F.kp⟩
/-! ### is_folk -/
abbrev s_is_folk : Stmt := top 20
noncomputable def m_is_folk : List D → Mem → Option (D × Mem) := mDef 4 1 (mSeq (mIf (mNot (mTs (mCall (lenIs 2 m_is_tuple_of) (mCons (mVar 0) (mCons (mC (.int 3)) mNil)))))
  (mRet (mC (.bl false)))
  mSkip)
  (mSeq (mAsg (mVar 0) (gmTup 3 (gmCons (gmN 1) (gmCons (gmN 2) (gmCons (gmN 3) gmNil)))))
  (mSeq (mIf (mOr (mNot (mTs (mCall (lenIs 1 m_is_folk_text) (mCons (mVar 1) mNil)))) (mTs (mOp (oIn true) (mVar 2) (mTup (mCons (mC (.str "saying")) (mCons (mC (.str "still")) mNil))))))
  (mRet (mC (.bl false)))
  mSkip)
  (mRet (mOrV (mOp (oIs false) (mVar 3) (mC .non)) (mCall (lenIs 3 m_is_between) (mCons (mVar 3) (mCons (mC (.int 1)) (mCons (mC (.int 3)) mNil)))))))))
theorem sc_is_folk : FnScope (["thing", "text", "kind", "keep"] : List Str) ["thing"] (defScope s_is_folk) := ⟨rfl, rfl, rfl, by decide +kernel, rfl, by decide +kernel, by decide +kernel⟩
theorem ok_is_folk (T : Txt w G.K mg) (hX : ∀ c, G.cA c = He.ga G.K (xnames.getD c "")) : Df P w G mg base "is_folk" 3 ["thing"] m_is_folk := by
  obtain ⟨fd, F⟩ := T.d_is_folk
  have D_is_between := ok_is_between (P := P) (w := w) (base := base) T hX
  have D_is_folk_text := ok_is_folk_text (P := P) (w := w) (base := base) T hX
  have D_is_tuple_of := ok_is_tuple_of (P := P) (w := w) (base := base) T hX
  obtain ⟨t_MOST_KEEP, h_MOST_KEEP⟩ := T.c_MOST_KEEP
  obtain ⟨t_SAYING, h_SAYING⟩ := T.c_SAYING
  obtain ⟨t_STILL, h_STILL⟩ := T.c_STILL
  refine ⟨fd, fn_okD F sc_is_folk (fun cdv A outer s H E hr => (pss_cons (ps_if (pt_not (pt_val (df_call (ca := G.cA) D_is_tuple_of (hr.mono (by first | decide | omega | exact Nat.le_refl _ | (simp only [Nat.add_eq]; omega))) (by rfl) (pa_cons (pv 0) (pa_cons pe_int pa_nil)))))
  (pss_one (ps_ret pe_bl))
  pss_nil)
  (pss_cons (ps_asg (pv 0) (pg_tup rfl (pgs_cons (pg_name (i := 1) sc_is_folk.nd rfl (by first | exact Or.inl rfl | exact Or.inr rfl)) (pgs_cons (pg_name (i := 2) sc_is_folk.nd rfl (by first | exact Or.inl rfl | exact Or.inr rfl)) (pgs_cons (pg_name (i := 3) sc_is_folk.nd rfl (by first | exact Or.inl rfl | exact Or.inr rfl)) pgs_nil)))))
  (pss_cons (ps_if (PW.pt (pw_or (pt_not (pt_val (df_call (ca := G.cA) D_is_folk_text (hr.mono (by first | decide | omega | exact Nat.le_refl _ | (simp only [Nat.add_eq]; omega))) (by rfl) (pa_cons (pv 1) pa_nil)))) (pw_or1 (pt_cmpR (op_niU (hu65 hr)) (pv 2) (pe_tup (pa_cons (pe_glob (v := .str "saying") (by rfl) h_SAYING ⟨_, rfl⟩) (pa_cons (pe_glob (v := .str "still") (by rfl) h_STILL ⟨_, rfl⟩) pa_nil))) (by rfl)))))
  (pss_one (ps_ret pe_bl))
  pss_nil)
  (pss_one (ps_ret (pe_or (pe_cmpR op_isN (pv 3) pe_non (nomark _)) (pe_one (df_call (ca := G.cA) D_is_between (hr.mono (by first | decide | omega | exact Nat.le_refl _ | (simp only [Nat.add_eq]; omega))) (by rfl) (pa_cons (pv 3) (pa_cons pe_int (pa_cons (pe_glob (v := .int 3) (by rfl) h_MOST_KEEP ⟨_, rfl⟩) pa_nil)))))))))))) (rs_seq (rs_if (rt_not (rt_b (re_call (ra_cons re_var (ra_cons re_int ra_nil)))))
  (rs_ret re_bl)
  rs_skip)
  (rs_seq (rs_asg re_var (rg_tup (rgs_cons rg_n (rgs_cons rg_n (rgs_cons rg_n rgs_nil)))))
  (rs_seq (rs_if (rt_or (rt_not (rt_b (re_call (ra_cons re_var ra_nil)))) (rt_test (re_op rr_ni re_var (re_tup (ra_cons re_str (ra_cons re_str ra_nil))))))
  (rs_ret re_bl)
  rs_skip)
  (rs_ret (re_or (re_op rr_isN re_var re_non) (re_call (ra_cons re_var (ra_cons re_int (ra_cons re_int ra_nil))))))))), F.bindsN fun _ _ _ _ _ _ us hl => match us, hl with | [_], _ => rfl, T.g_is_folk, F.kp⟩
/-! ### are_folk -/
abbrev s_are_folk : Stmt := top 21
noncomputable def m_are_folk : List D → Mem → Option (D × Mem) := mDef 5 1 (mSeq (mIf (mOr (mNot (mTs (mCall fIsi (mCons (mVar 0) (mCons (mC (.ty "tuple")) mNil))))) (mNot (mTs (mChain oLe oLe (mC (.int 1)) (mCall fLen (mCons (mVar 0) mNil)) (mC (.int 3))))))
  (mRet (mC (.bl false)))
  mSkip)
  (mSeq (mIf (mNot (mTs (mCall fAll (mCons (mLc (iT (mVar 0)) (gmN 1) mYes (mCall (lenIs 1 m_is_folk) (mCons (mVar 1) mNil)) [1]) mNil))))
  (mRet (mC (.bl false)))
  mSkip)
  (mRet (mOp (oEq false) (mLenSc (iT (mVar 0)) (gmTup 3 (gmCons (gmN 2) (gmCons (gmN 3) (gmCons (gmN 4) gmNil)))) mYes (mVar 2) [2, 3, 4]) (mCall fLen (mCons (mVar 0) mNil))))))
theorem sc_are_folk : FnScope (["thing", "one", "text", "kind", "keep"] : List Str) ["thing"] (defScope s_are_folk) := ⟨rfl, rfl, rfl, by decide +kernel, rfl, by decide +kernel, by decide +kernel⟩
theorem ok_are_folk (T : Txt w G.K mg) (hX : ∀ c, G.cA c = He.ga G.K (xnames.getD c "")) : Df P w G mg base "are_folk" 4 ["thing"] m_are_folk := by
  obtain ⟨fd, F⟩ := T.d_are_folk
  have D_is_folk := ok_is_folk (P := P) (w := w) (base := base) T hX
  obtain ⟨t_MOST_FOLK, h_MOST_FOLK⟩ := T.c_MOST_FOLK
  refine ⟨fd, fn_okD F sc_are_folk (fun cdv A outer s H E hr => (pss_cons (ps_if (PW.pt (pw_or (pt_not (pt_val (pe_callB call_isi (by rfl) T.n_isinstance (by decide +kernel) (pa_cons (pv 0) (pa_cons (pe_bltn (v := .ty "tuple") (by rfl) T.n_tuple (by decide +kernel) rfl) pa_nil))))) (pw_or1 (pt_not (pt_chain op_le op_le pe_int (pe_callB cr_lenU (by rfl) T.n_len (PySem.boot_len) (pa_cons (pv 0) pa_nil)) (pe_glob (v := .int 3) (by rfl) h_MOST_FOLK ⟨_, rfl⟩))))))
  (pss_one (ps_ret pe_bl))
  pss_nil)
  (pss_cons (ps_if (pt_not (pt_val (pe_callB (cr_all rfl) (by rfl) T.n_all (by decide +kernel) (pa_cons (pe_lc (own := [("one", 1)]) (by rfl) sc_are_folk.nd (pi_tup (pv 0)) (blkOk_by (own := [("one", 1)]) (N := (["thing", "one", "text", "kind", "keep"] : List Str)) (sc := defScope s_are_folk) (by decide +kernel)) (fun _ _ _ _ _ => (pg_name (i := 1) sc_are_folk.nd rfl (by first | exact Or.inl rfl | exact Or.inr rfl))) (fun _ _ _ _ _ => pts_nil) (fun _ _ _ _ _ => (df_call (ca := G.cA) D_is_folk (hr.mono (by first | decide | omega | exact Nat.le_refl _ | (simp only [Nat.add_eq]; omega))) (by rfl) (pa_cons (pv 1) pa_nil)))) pa_nil))))
  (pss_one (ps_ret pe_bl))
  pss_nil)
  (pss_one (ps_ret (pe_cmpR (op_eqD (hu64 hr)) (pe_callB cr_lenTx (by rfl) T.n_len PySem.boot_len (pa_cons (pe_scG (own := [("text", 2), ("kind", 3), ("keep", 4)]) (txKind _ _) (hu16 hr) rfl sc_are_folk.nd (pi_tup (pv 0)) (blkOk_by (own := [("text", 2), ("kind", 3), ("keep", 4)]) (N := (["thing", "one", "text", "kind", "keep"] : List Str)) (sc := defScope s_are_folk) (by decide +kernel)) (fun _ _ _ _ _ => (pg_tup rfl (pgs_cons (pg_name (i := 2) sc_are_folk.nd rfl (by first | exact Or.inl rfl | exact Or.inr rfl)) (pgs_cons (pg_name (i := 3) sc_are_folk.nd rfl (by first | exact Or.inl rfl | exact Or.inr rfl)) (pgs_cons (pg_name (i := 4) sc_are_folk.nd rfl (by first | exact Or.inl rfl | exact Or.inr rfl)) pgs_nil))))) (fun _ _ _ _ _ => pts_nil) (fun _ _ _ _ _ => (pv 2))) pa_nil)) (pe_callB cr_lenU (by rfl) T.n_len (PySem.boot_len) (pa_cons (pv 0) pa_nil)) (nomark _))))))) (rs_seq (rs_if (rt_or (rt_not (rt_b (re_cb rc_isi (ra_cons re_var (ra_cons (re_c fun _ _ => .ty) ra_nil))))) (rt_not (rt_test (re_chain rr_le rr_le re_int (re_cb rc_len (ra_cons re_var ra_nil)) re_int))))
  (rs_ret re_bl)
  rs_skip)
  (rs_seq (rs_if (rt_not (rt_b (re_cb rc_all (ra_cons (re_lc (vs := [1]) (ri_t re_var) rg_n (kp_n (by decide)) mg_n rt_yes (re_call (ra_cons re_var ra_nil))) ra_nil))))
  (rs_ret re_bl)
  rs_skip)
  (rs_ret (re_op rr_eq (re_lenSc (vs := [2, 3, 4]) (ri_t re_var) (rg_tup (rgs_cons rg_n (rgs_cons rg_n (rgs_cons rg_n rgs_nil)))) (kp_tup (kp_c (kp_n (by decide)) (kp_c (kp_n (by decide)) (kp_c (kp_n (by decide)) kp_nil mg_n mg_nil) mg_n (mg_cons mg_n mg_nil)) mg_n (mg_cons mg_n (mg_cons mg_n mg_nil)))) (mg_tup (mg_cons mg_n (mg_cons mg_n (mg_cons mg_n mg_nil)))) rt_yes re_var) (re_cb rc_len (ra_cons re_var ra_nil)))))), F.bindsN fun _ _ _ _ _ _ us hl => match us, hl with | [_], _ => rfl, T.g_are_folk, F.kp⟩
/-! ### is_way -/
abbrev s_is_way : Stmt := top 22
noncomputable def m_is_way : List D → Mem → Option (D × Mem) := mDef 9 2 (mSeq (mIf (mNot (mTs (mCall (lenIs 2 m_is_tuple_of) (mCons (mVar 1) (mCons (mC (.int 6)) mNil)))))
  (mRet (mC (.bl false)))
  mSkip)
  (mSeq (mAsg (mVar 1) (gmTup 6 (gmCons (gmN 3) (gmCons (gmN 4) (gmCons (gmN 5) (gmCons (gmN 6) (gmCons (gmN 7) (gmCons (gmN 8) gmNil))))))))
  (mSeq (mAsg (mTup (mCons (mC (.str "house")) (mStar (mVar 0) mNil))) (gmN 2))
  (mSeq (mIf (mOr (mTs (mOp (oIn true) (mVar 3) (mVar 2))) (mOr (mTs (mOp (oIn true) (mVar 4) (mVar 2))) (mTs (mOp (oEq false) (mVar 3) (mVar 4)))))
  (mRet (mC (.bl false)))
  mSkip)
  (mSeq (mIf (mOr (mNot (mTs (mCall (lenIs 3 m_is_between) (mCons (mVar 6) (mCons (mC (.int 1)) (mCons (mC (.int 3)) mNil)))))) (mNot (mTs (mCall (lenIs 3 m_is_between) (mCons (mVar 5) (mCons (mC (.int 1)) (mCons (mVar 6) mNil)))))))
  (mRet (mC (.bl false)))
  mSkip)
  (mRet (mAndV (mCall (lenIs 1 m_is_truth) (mCons (mVar 7) mNil)) (mAndV (mCall (lenIs 1 m_is_truth) (mCons (mVar 8) mNil)) (mOrV (mOp (oEq false) (mVar 3) (mC (.str "house"))) (mNotV (mVar 8)))))))))))
theorem sc_is_way : FnScope (["texts", "thing", "places", "source", "target", "least", "most", "loses", "twice"] : List Str) ["texts", "thing"] (defScope s_is_way) := ⟨rfl, rfl, rfl, by decide +kernel, rfl, by decide +kernel, by decide +kernel⟩
theorem ok_is_way (T : Txt w G.K mg) (hX : ∀ c, G.cA c = He.ga G.K (xnames.getD c "")) : Df P w G mg base "is_way" 3 ["texts", "thing"] m_is_way := by
  obtain ⟨fd, F⟩ := T.d_is_way
  have D_is_between := ok_is_between (P := P) (w := w) (base := base) T hX
  have D_is_truth := ok_is_truth (P := P) (w := w) (base := base) T hX
  have D_is_tuple_of := ok_is_tuple_of (P := P) (w := w) (base := base) T hX
  obtain ⟨t_HOUSE, h_HOUSE⟩ := T.c_HOUSE
  obtain ⟨t_MOST_DAYS, h_MOST_DAYS⟩ := T.c_MOST_DAYS
  refine ⟨fd, fn_okD F sc_is_way (fun cdv A outer s H E hr => (pss_cons (ps_if (pt_not (pt_val (df_call (ca := G.cA) D_is_tuple_of (hr.mono (by first | decide | omega | exact Nat.le_refl _ | (simp only [Nat.add_eq]; omega))) (by rfl) (pa_cons (pv 1) (pa_cons pe_int pa_nil)))))
  (pss_one (ps_ret pe_bl))
  pss_nil)
  (pss_cons (ps_asg (pv 1) (pg_tup rfl (pgs_cons (pg_name (i := 3) sc_is_way.nd rfl (by first | exact Or.inl rfl | exact Or.inr rfl)) (pgs_cons (pg_name (i := 4) sc_is_way.nd rfl (by first | exact Or.inl rfl | exact Or.inr rfl)) (pgs_cons (pg_name (i := 5) sc_is_way.nd rfl (by first | exact Or.inl rfl | exact Or.inr rfl)) (pgs_cons (pg_name (i := 6) sc_is_way.nd rfl (by first | exact Or.inl rfl | exact Or.inr rfl)) (pgs_cons (pg_name (i := 7) sc_is_way.nd rfl (by first | exact Or.inl rfl | exact Or.inr rfl)) (pgs_cons (pg_name (i := 8) sc_is_way.nd rfl (by first | exact Or.inl rfl | exact Or.inr rfl)) pgs_nil))))))))
  (pss_cons (ps_set (i := 2) sc_is_way.nd rfl (by first | exact Or.inl rfl | exact Or.inr rfl) (pe_tup (pa_cons (pe_glob (v := .str "house") (by rfl) h_HOUSE ⟨_, rfl⟩) (StX.pa_star (pv 0) pa_nil))))
  (pss_cons (ps_if (PW.pt (pw_or (pt_cmpR (op_niU (hu65 hr)) (pv 3) (pv 2) (by rfl)) (pw_or (pt_cmpR (op_niU (hu65 hr)) (pv 4) (pv 2) (by rfl)) (pw_or1 (pt_cmpR (op_eqD (hu64 hr)) (pv 3) (pv 4) (nomark _))))))
  (pss_one (ps_ret pe_bl))
  pss_nil)
  (pss_cons (ps_if (PW.pt (pw_or (pt_not (pt_val (df_call (ca := G.cA) D_is_between (hr.mono (by first | decide | omega | exact Nat.le_refl _ | (simp only [Nat.add_eq]; omega))) (by rfl) (pa_cons (pv 6) (pa_cons pe_int (pa_cons (pe_glob (v := .int 3) (by rfl) h_MOST_DAYS ⟨_, rfl⟩) pa_nil)))))) (pw_or1 (pt_not (pt_val (df_call (ca := G.cA) D_is_between (hr.mono (by first | decide | omega | exact Nat.le_refl _ | (simp only [Nat.add_eq]; omega))) (by rfl) (pa_cons (pv 5) (pa_cons pe_int (pa_cons (pv 6) pa_nil)))))))))
  (pss_one (ps_ret pe_bl))
  pss_nil)
  (pss_one (ps_ret (pe_and (df_call (ca := G.cA) D_is_truth (hr.mono (by first | decide | omega | exact Nat.le_refl _ | (simp only [Nat.add_eq]; omega))) (by rfl) (pa_cons (pv 7) pa_nil)) (pe_and (df_call (ca := G.cA) D_is_truth (hr.mono (by first | decide | omega | exact Nat.le_refl _ | (simp only [Nat.add_eq]; omega))) (by rfl) (pa_cons (pv 8) pa_nil)) (pe_one (pe_or (pe_cmpR (op_eqD (hu64 hr)) (pv 3) (pe_glob (v := .str "house") (by rfl) h_HOUSE ⟨_, rfl⟩) (nomark _)) (pe_one (pe_not (pv 8))))))))))))))) (rs_seq (rs_if (rt_not (rt_b (re_call (ra_cons re_var (ra_cons re_int ra_nil)))))
  (rs_ret re_bl)
  rs_skip)
  (rs_seq (rs_asg re_var (rg_tup (rgs_cons rg_n (rgs_cons rg_n (rgs_cons rg_n (rgs_cons rg_n (rgs_cons rg_n (rgs_cons rg_n rgs_nil))))))))
  (rs_seq (rs_asg (re_tup (ra_cons re_str (ra_star re_var ra_nil))) rg_n)
  (rs_seq (rs_if (rt_or (rt_test (re_op rr_ni re_var re_var)) (rt_or (rt_test (re_op rr_ni re_var re_var)) (rt_test (re_op rr_eq re_var re_var))))
  (rs_ret re_bl)
  rs_skip)
  (rs_seq (rs_if (rt_or (rt_not (rt_b (re_call (ra_cons re_var (ra_cons re_int (ra_cons re_int ra_nil)))))) (rt_not (rt_b (re_call (ra_cons re_var (ra_cons re_int (ra_cons re_var ra_nil)))))))
  (rs_ret re_bl)
  rs_skip)
  (rs_ret (re_and (re_call (ra_cons re_var ra_nil)) (re_and (re_call (ra_cons re_var ra_nil)) (re_or (re_op rr_eq re_var re_str) (re_not re_var)))))))))), F.bindsN fun _ _ _ _ _ _ us hl => match us, hl with | [_, _], _ => rfl, T.g_is_way, F.kp⟩
/-! ### are_ways -/
abbrev s_are_ways : Stmt := top 23
noncomputable def m_are_ways : List D → Mem → Option (D × Mem) := mDef 6 2 (mSeq (mIf (mOr (mNot (mTs (mCall fIsi (mCons (mVar 1) (mCons (mC (.ty "tuple")) mNil))))) (mNot (mTs (mCall fAll (mCons (mLc (iT (mVar 1)) (gmN 5) mYes (mCall (lenIs 2 m_is_way) (mCons (mVar 0) (mCons (mVar 5) mNil))) [5]) mNil)))))
  (mRet (mC (.bl false)))
  mSkip)
  (mSeq (mAsg (mLc (iT (mVar 1)) (gmN 3) mYes (mTup (mCons (mOp oIx (mVar 3) (mC (.int 0))) (mCons (mOp oIx (mVar 3) (mC (.int 1))) mNil))) [3]) (gmN 2))
  (mSeq (mIf (mTs (mOp (oEq true) (mLenSet (mVar 2)) (mCall fLen (mCons (mVar 2) mNil))))
  (mRet (mC (.bl false)))
  mSkip)
  (mRet (mCall fAll (mCons (mLc (iL (mVar 0)) (gmN 4) mYes (mOp (oIn false) (mTup (mCons (mVar 4) (mCons (mC (.str "house")) mNil))) (mVar 2)) [4]) mNil))))))
theorem sc_are_ways : FnScope (["texts", "thing", "ends", "way", "text", "one"] : List Str) ["texts", "thing"] (defScope s_are_ways) := ⟨rfl, rfl, rfl, by decide +kernel, rfl, by decide +kernel, by decide +kernel⟩
theorem ok_are_ways (T : Txt w G.K mg) (hX : ∀ c, G.cA c = He.ga G.K (xnames.getD c "")) : Df P w G mg base "are_ways" 4 ["texts", "thing"] m_are_ways := by
  obtain ⟨fd, F⟩ := T.d_are_ways
  have D_is_way := ok_is_way (P := P) (w := w) (base := base) T hX
  obtain ⟨t_HOUSE, h_HOUSE⟩ := T.c_HOUSE
  refine ⟨fd, fn_okD F sc_are_ways (fun cdv A outer s H E hr => (pss_cons (ps_if (PW.pt (pw_or (pt_not (pt_val (pe_callB call_isi (by rfl) T.n_isinstance (by decide +kernel) (pa_cons (pv 1) (pa_cons (pe_bltn (v := .ty "tuple") (by rfl) T.n_tuple (by decide +kernel) rfl) pa_nil))))) (pw_or1 (pt_not (pt_val (pe_callB (cr_all rfl) (by rfl) T.n_all (by decide +kernel) (pa_cons (pe_lc (own := [("one", 5)]) (by rfl) sc_are_ways.nd (pi_tup (pv 1)) (blkOk_by (own := [("one", 5)]) (N := (["texts", "thing", "ends", "way", "text", "one"] : List Str)) (sc := defScope s_are_ways) (by decide +kernel)) (fun _ _ _ _ _ => (pg_name (i := 5) sc_are_ways.nd rfl (by first | exact Or.inl rfl | exact Or.inr rfl))) (fun _ _ _ _ _ => pts_nil) (fun _ _ _ _ _ => (df_call (ca := G.cA) D_is_way (hr.mono (by first | decide | omega | exact Nat.le_refl _ | (simp only [Nat.add_eq]; omega))) (by rfl) (pa_cons (pv 0) (pa_cons (pv 5) pa_nil))))) pa_nil)))))))
  (pss_one (ps_ret pe_bl))
  pss_nil)
  (pss_cons (ps_set (i := 2) sc_are_ways.nd rfl (by first | exact Or.inl rfl | exact Or.inr rfl) (pe_lc (own := [("way", 3)]) (by rfl) sc_are_ways.nd (pi_tup (pv 1)) (blkOk_by (own := [("way", 3)]) (N := (["texts", "thing", "ends", "way", "text", "one"] : List Str)) (sc := defScope s_are_ways) (by decide +kernel)) (fun _ _ _ _ _ => (pg_name (i := 3) sc_are_ways.nd rfl (by first | exact Or.inl rfl | exact Or.inr rfl))) (fun _ _ _ _ _ => pts_nil) (fun _ _ _ _ _ => (pe_tup (pa_cons (pe_ix ix_u (pv 3) pe_int (fun _ _ => rfl)) (pa_cons (pe_ix ix_u (pv 3) pe_int (fun _ _ => rfl)) pa_nil))))))
  (pss_cons (ps_if (pt_cmpR (op_neD (hu64 hr)) (pe_lenSetN hr (by rfl) T.n_len (by rfl) T.n_set (pv 2)) (pe_callB cr_lenU (by rfl) T.n_len (PySem.boot_len) (pa_cons (pv 2) pa_nil)) (nomark _))
  (pss_one (ps_ret pe_bl))
  pss_nil)
  (pss_one (ps_ret (pe_callB (cr_all rfl) (by rfl) T.n_all (by decide +kernel) (pa_cons (pe_lc (own := [("text", 4)]) (by rfl) sc_are_ways.nd (pi_list (pv 0)) (blkOk_by (own := [("text", 4)]) (N := (["texts", "thing", "ends", "way", "text", "one"] : List Str)) (sc := defScope s_are_ways) (by decide +kernel)) (fun _ _ _ _ _ => (pg_name (i := 4) sc_are_ways.nd rfl (by first | exact Or.inl rfl | exact Or.inr rfl))) (fun _ _ _ _ _ => pts_nil) (fun _ _ _ _ _ => (pe_cmpR (op_inU (hu65 hr)) (pe_tup (pa_cons (pv 4) (pa_cons (pe_glob (v := .str "house") (by rfl) h_HOUSE ⟨_, rfl⟩) pa_nil))) (pv 2) (by rfl)))) pa_nil)))))))) (rs_seq (rs_if (rt_or (rt_not (rt_b (re_cb rc_isi (ra_cons re_var (ra_cons (re_c fun _ _ => .ty) ra_nil))))) (rt_not (rt_b (re_cb rc_all (ra_cons (re_lc (vs := [5]) (ri_t re_var) rg_n (kp_n (by decide)) mg_n rt_yes (re_call (ra_cons re_var (ra_cons re_var ra_nil)))) ra_nil)))))
  (rs_ret re_bl)
  rs_skip)
  (rs_seq (rs_asg (re_lc (vs := [3]) (ri_t re_var) rg_n (kp_n (by decide)) mg_n rt_yes (re_tup (ra_cons (re_op rr_ix re_var re_int) (ra_cons (re_op rr_ix re_var re_int) ra_nil)))) rg_n)
  (rs_seq (rs_if (rt_test (re_op rr_ne (re_lenSet re_var) (re_cb rc_len (ra_cons re_var ra_nil))))
  (rs_ret re_bl)
  rs_skip)
  (rs_ret (re_cb rc_all (ra_cons (re_lc (vs := [4]) (ri_l re_var) rg_n (kp_n (by decide)) mg_n rt_yes (re_op rr_in (re_tup (ra_cons re_var (ra_cons re_str ra_nil))) re_var)) ra_nil)))))), F.bindsN fun _ _ _ _ _ _ us hl => match us, hl with | [_, _], _ => rfl, T.g_are_ways, F.kp⟩
/-! ### Habits.__init__ -/
abbrev s_Habits_init : Stmt := inClass (top 24) 0
noncomputable def m_Habits_init : List D → Mem → Option (D × Mem) := mDef 7 4 (mSeq (mIf (mNot (mTs (mCall (lenIs 1 m_are_folk) (mCons (mVar 1) mNil))))
  mBad
  mSkip)
  (mSeq (mIf (mNot (mTs (mCall (lenIs 2 m_are_ways) (mCons (mLc (iT (mVar 1)) (gmTup 3 (gmCons (gmN 4) (gmCons (gmN 5) (gmCons (gmN 6) gmNil)))) mYes (mVar 4) [4, 5, 6]) (mCons (mVar 2) mNil)))))
  mBad
  mSkip)
  (mSeq (mIf (mNot (mTs (mCall (lenIs 3 m_is_between) (mCons (mVar 3) (mCons (mC (.int 0)) (mCons (mC (.int 2)) mNil))))))
  mBad
  mSkip)
  (mSeq (mSfld 0 "folk" (mVar 0) (mVar 1))
  (mSeq (mSfld 0 "ways" (mVar 0) (mVar 2))
  (mSfld 0 "steps" (mVar 0) (mVar 3)))))))
theorem sc_Habits_init : FnScope (["self", "folk", "ways", "steps", "text", "kind", "keep"] : List Str) ["self", "folk", "ways", "steps"] (defScope s_Habits_init) := ⟨rfl, rfl, rfl, by decide +kernel, rfl, by decide +kernel, by decide +kernel⟩
theorem ok_Habits_init (T : Txt w G.K mg) (hC_Habits : G.cA 0 = He.ga G.K "Habits") (hX : ∀ c, G.cA c = He.ga G.K (xnames.getD c "")) : Dc P w G mg base "Habits" 0 5 ["self", "folk", "ways", "steps"] m_Habits_init 2 ["steps"] [.int 1] := by
  obtain ⟨fd, F⟩ := T.d_Habits_init
  have D_are_folk := ok_are_folk (P := P) (w := w) (base := base) T hX
  have D_are_ways := ok_are_ways (P := P) (w := w) (base := base) T hX
  have D_is_between := ok_is_between (P := P) (w := w) (base := base) T hX
  obtain ⟨t_MOST_STEPS, h_MOST_STEPS⟩ := T.c_MOST_STEPS
  have cl_Habits : Cls G.K (G.cA 0) := by rw [hC_Habits]; exact T.cls_Habits
  have na_Habits_folk : NoAttr G.K (G.cA 0) "folk" := by rw [hC_Habits]; exact T.na_Habits_folk
  have na_Habits_steps : NoAttr G.K (G.cA 0) "steps" := by rw [hC_Habits]; exact T.na_Habits_steps
  have na_Habits_ways : NoAttr G.K (G.cA 0) "ways" := by rw [hC_Habits]; exact T.na_Habits_ways
  refine ⟨hC_Habits, T.g_Habits, fd, fn_okD F sc_Habits_init (fun cdv A outer s H E hr => (pss_cons (ps_if (pt_not (pt_val (df_call (ca := G.cA) D_are_folk (hr.mono (by first | decide | omega | exact Nat.le_refl _ | (simp only [Nat.add_eq]; omega))) (by rfl) (pa_cons (pv 1) pa_nil))))
  (pss_one ps_none)
  pss_nil)
  (pss_cons (ps_if (pt_not (pt_val (df_call (ca := G.cA) D_are_ways (hr.mono (by first | decide | omega | exact Nat.le_refl _ | (simp only [Nat.add_eq]; omega))) (by rfl) (pa_cons (pe_lc (own := [("text", 4), ("kind", 5), ("keep", 6)]) (by rfl) sc_Habits_init.nd (pi_tup (pv 1)) (blkOk_by (own := [("text", 4), ("kind", 5), ("keep", 6)]) (N := (["self", "folk", "ways", "steps", "text", "kind", "keep"] : List Str)) (sc := defScope s_Habits_init) (by decide +kernel)) (fun _ _ _ _ _ => (pg_tup rfl (pgs_cons (pg_name (i := 4) sc_Habits_init.nd rfl (by first | exact Or.inl rfl | exact Or.inr rfl)) (pgs_cons (pg_name (i := 5) sc_Habits_init.nd rfl (by first | exact Or.inl rfl | exact Or.inr rfl)) (pgs_cons (pg_name (i := 6) sc_Habits_init.nd rfl (by first | exact Or.inl rfl | exact Or.inr rfl)) pgs_nil))))) (fun _ _ _ _ _ => pts_nil) (fun _ _ _ _ _ => (pv 4))) (pa_cons (pv 2) pa_nil)))))
  (pss_one ps_none)
  pss_nil)
  (pss_cons (ps_if (pt_not (pt_val (df_call (ca := G.cA) D_is_between (hr.mono (by first | decide | omega | exact Nat.le_refl _ | (simp only [Nat.add_eq]; omega))) (by rfl) (pa_cons (pv 3) (pa_cons pe_int (pa_cons (pe_glob (v := .int 2) (by rfl) h_MOST_STEPS ⟨_, rfl⟩) pa_nil))))))
  (pss_one ps_none)
  pss_nil)
  (pss_cons (ps_fld (pv 0) (pv 1) rfl)
  (pss_cons (ps_fld (pv 0) (pv 2) rfl)
  (pss_one (ps_fld (pv 0) (pv 3) rfl)))))))) (rs_seq (rs_if (rt_not (rt_b (re_call (ra_cons re_var ra_nil))))
  rs_bad
  rs_skip)
  (rs_seq (rs_if (rt_not (rt_b (re_call (ra_cons (re_lc (vs := [4, 5, 6]) (ri_t re_var) (rg_tup (rgs_cons rg_n (rgs_cons rg_n (rgs_cons rg_n rgs_nil)))) (kp_tup (kp_c (kp_n (by decide)) (kp_c (kp_n (by decide)) (kp_c (kp_n (by decide)) kp_nil mg_n mg_nil) mg_n (mg_cons mg_n mg_nil)) mg_n (mg_cons mg_n (mg_cons mg_n mg_nil)))) (mg_tup (mg_cons mg_n (mg_cons mg_n (mg_cons mg_n mg_nil)))) rt_yes re_var) (ra_cons re_var ra_nil)))))
  rs_bad
  rs_skip)
  (rs_seq (rs_if (rt_not (rt_b (re_call (ra_cons re_var (ra_cons re_int (ra_cons re_int ra_nil))))))
  rs_bad
  rs_skip)
  (rs_seq (rs_sfld cl_Habits na_Habits_folk re_var re_var)
  (rs_seq (rs_sfld cl_Habits na_Habits_ways re_var re_var)
  (rs_sfld cl_Habits na_Habits_steps re_var re_var)))))), T.mk_Habits, ?_, ?_⟩
  · obtain ⟨mv, h⟩ := F.kbinds0 (ps := ["self", "folk", "ways", "steps"]) 3 ["steps"] [] (fun us _ ws => us ++ ws) (by simp) (by simp) (fun r1 _ r2 => r1.append r2) (fun D doc pm an cdv ct us mv ws h1 h2 h3 => match us, mv, ws, h1, h2, h3 with | [_, _, _], [], [_], _, _, _ => rfl)
    exact ⟨_, h⟩
  · exact F.binds0 (ps := ["self", "folk", "ways", "steps"]) 3 (by simp) rfl (fun D doc pm an cdv ct us ks h1 h2 => match us, ks, h1, h2 with | [_, _, _], [_], _, _ => ⟨_, _, _, _, _, _, rfl, rfl, rfl⟩)
/-! ### Habits.__eq__ -/
abbrev s_Habits_eq : Stmt := inClass (top 24) 1
noncomputable def m_Habits_eq : List D → Mem → Option (D × Mem) := mDef 2 2 (mRet (mAndV (mCall (fIsiO 0) (mCons (mVar 1) (mCons (mC (.cl 0)) mNil))) (mAndV (mOp (oEq false) (mFld 0 "folk" (mVar 0)) (mFld 0 "folk" (mVar 1))) (mAndV (mOp (oEq false) (mFld 0 "ways" (mVar 0)) (mFld 0 "ways" (mVar 1))) (mOp (oEq false) (mFld 0 "steps" (mVar 0)) (mFld 0 "steps" (mVar 1)))))))
theorem sc_Habits_eq : FnScope (["self", "other"] : List Str) ["self", "other"] (defScope s_Habits_eq) := ⟨rfl, rfl, rfl, by decide +kernel, rfl, by decide +kernel, by decide +kernel⟩
theorem ok_Habits_eq (T : Txt w G.K mg) (hC_Habits : G.cA 0 = He.ga G.K "Habits") (hX : ∀ c, G.cA c = He.ga G.K (xnames.getD c "")) : Dm P w G mg base "Habits" 0 1 "__eq__" ["self", "other"] m_Habits_eq := by
  obtain ⟨fd, F⟩ := T.d_Habits_eq
  have gv_Habits : mg "Habits" = some (.ref (G.cA 0)) := by rw [hC_Habits]; exact T.g_Habits
  have cx_Habits : XH.ClsX G.K (G.cA 0) := by rw [hC_Habits]; exact T.cx_Habits
  have np_Habits : NoPl G.K (G.cA 0) := by rw [hC_Habits]; exact T.np_Habits
  have ne_Habits : PySem.W.findIn G.K (.ref (G.cA 0)) "__ne__" = some (some (.builtin "object.__ne__")) := by rw [hC_Habits]; exact T.ne_Habits
  have cl_Habits : Cls G.K (G.cA 0) := by rw [hC_Habits]; exact T.cls_Habits
  have na_Habits_folk : NoAttr G.K (G.cA 0) "folk" := by rw [hC_Habits]; exact T.na_Habits_folk
  have na_Habits_steps : NoAttr G.K (G.cA 0) "steps" := by rw [hC_Habits]; exact T.na_Habits_steps
  have na_Habits_ways : NoAttr G.K (G.cA 0) "ways" := by rw [hC_Habits]; exact T.na_Habits_ways
  exact ⟨hC_Habits, fd, fn_okD F sc_Habits_eq (fun cdv A outer s H E hr => (pss_one (ps_ret (pe_and (pe_callB call_isi (by rfl) T.n_isinstance (by decide +kernel) (pa_cons (pv 1) (pa_cons (pe_glob (v := .ref (G.cA 0)) (by rfl) gv_Habits rfl) pa_nil))) (pe_and (pe_cmpR (op_eqD (hu64 hr)) (pe_fld (pv 0) rfl) (pe_fld (pv 1) rfl) (nomark _)) (pe_and (pe_cmpR (op_eqD (hu64 hr)) (pe_fld (pv 0) rfl) (pe_fld (pv 1) rfl) (nomark _)) (pe_one (pe_cmpR (op_eqD (hu64 hr)) (pe_fld (pv 0) rfl) (pe_fld (pv 1) rfl) (nomark _))))))))) (rs_ret (re_and (re_cb (rc_isiO cl_Habits cx_Habits) (ra_cons re_var (ra_cons (re_c fun _ _ => .cl) ra_nil))) (re_and (re_op rr_eq (re_fld cl_Habits na_Habits_folk re_var) (re_fld cl_Habits na_Habits_folk re_var)) (re_and (re_op rr_eq (re_fld cl_Habits na_Habits_ways re_var) (re_fld cl_Habits na_Habits_ways re_var)) (re_op rr_eq (re_fld cl_Habits na_Habits_steps re_var) (re_fld cl_Habits na_Habits_steps re_var)))))), F.bindsN fun _ _ _ _ _ _ us hl => match us, hl with | [_, _], _ => rfl, T.mt_Habits_eq⟩
/-! ### Habits.__len__ -/
abbrev s_Habits_len : Stmt := inClass (top 24) 2
noncomputable def m_Habits_len : List D → Mem → Option (D × Mem) := mDef 1 1 (mRet (mCall fLen (mCons (mFld 0 "folk" (mVar 0)) mNil)))
theorem sc_Habits_len : FnScope (["self"] : List Str) ["self"] (defScope s_Habits_len) := ⟨rfl, rfl, rfl, by decide +kernel, rfl, by decide +kernel, by decide +kernel⟩
theorem ok_Habits_len (T : Txt w G.K mg) (hC_Habits : G.cA 0 = He.ga G.K "Habits") (hX : ∀ c, G.cA c = He.ga G.K (xnames.getD c "")) : Dm P w G mg base "Habits" 0 1 "__len__" ["self"] m_Habits_len := by
  obtain ⟨fd, F⟩ := T.d_Habits_len
  have cl_Habits : Cls G.K (G.cA 0) := by rw [hC_Habits]; exact T.cls_Habits
  have na_Habits_folk : NoAttr G.K (G.cA 0) "folk" := by rw [hC_Habits]; exact T.na_Habits_folk
  exact ⟨hC_Habits, fd, fn_okD F sc_Habits_len (fun cdv A outer s H E hr => (pss_one (ps_ret (pe_callB cr_lenU (by rfl) T.n_len (PySem.boot_len) (pa_cons (pe_fld (pv 0) rfl) pa_nil))))) (rs_ret (re_cb rc_len (ra_cons (re_fld cl_Habits na_Habits_folk re_var) ra_nil))), F.bindsN fun _ _ _ _ _ _ us hl => match us, hl with | [_], _ => rfl, T.mt_Habits_len⟩
/-! ### is_figures -/
abbrev s_is_figures : Stmt := top 31
noncomputable def m_is_figures : List D → Mem → Option (D × Mem) := mDef 2 1 (mRet (mAndV (mOp (oEq true) (mVar 0) (mC (.str ""))) (mAndV (mCall fAll (mCons (mLc (iS (mVar 0)) (gmN 1) mYes (mOp (oIn false) (mVar 1) (mC (.str "0123456789"))) [1]) mNil)) (mOrV (mOp (oEq false) (mVar 0) (mC (.str "0"))) (mOp (oEq true) (mOp oIx (mVar 0) (mC (.int 0))) (mC (.str "0")))))))
theorem sc_is_figures : FnScope (["word", "sign"] : List Str) ["word"] (defScope s_is_figures) := ⟨rfl, rfl, rfl, by decide +kernel, rfl, by decide +kernel, by decide +kernel⟩
theorem ok_is_figures (T : Txt w G.K mg) (hX : ∀ c, G.cA c = He.ga G.K (xnames.getD c "")) : Df P w G mg base "is_figures" 1 ["word"] m_is_figures := by
  obtain ⟨fd, F⟩ := T.d_is_figures
  obtain ⟨t_FIGURES, h_FIGURES⟩ := T.c_FIGURES
  refine ⟨fd, fn_okD F sc_is_figures (fun cdv A outer s H E hr => (pss_one (ps_ret (pe_and (pe_cmpR (op_neD (hu64 hr)) (pv 0) pe_str (nomark _)) (pe_and (pe_callB (cr_all rfl) (by rfl) T.n_all (by decide +kernel) (pa_cons (pe_lc (own := [("sign", 1)]) (by rfl) sc_is_figures.nd (pi_str (pv 0)) (blkOk_by (own := [("sign", 1)]) (N := (["word", "sign"] : List Str)) (sc := defScope s_is_figures) (by decide +kernel)) (fun _ _ _ _ _ => (pg_name (i := 1) sc_is_figures.nd rfl (by first | exact Or.inl rfl | exact Or.inr rfl))) (fun _ _ _ _ _ => pts_nil) (fun _ _ _ _ _ => (pe_cmpR (op_inU (hu65 hr)) (pv 1) (pe_glob (v := .str "0123456789") (by rfl) h_FIGURES ⟨_, rfl⟩) (by rfl)))) pa_nil)) (pe_one (pe_or (pe_cmpR (op_eqD (hu64 hr)) (pv 0) pe_str (nomark _)) (pe_one (pe_cmpR (op_neD (hu64 hr)) (pe_ix ix_u (pv 0) pe_int (fun _ _ => rfl)) pe_str (nomark _)))))))))) (rs_ret (re_and (re_op rr_ne re_var re_str) (re_and (re_cb rc_all (ra_cons (re_lc (vs := [1]) (ri_s re_var) rg_n (kp_n (by decide)) mg_n rt_yes (re_op rr_in re_var re_str)) ra_nil)) (re_or (re_op rr_eq re_var re_str) (re_op rr_ne (re_op rr_ix re_var re_int) re_str))))), F.bindsN fun _ _ _ _ _ _ us hl => match us, hl with | [_], _ => rfl, T.g_is_figures, F.kp⟩
/-! ### read_figures -/
abbrev s_read_figures : Stmt := top 32
noncomputable def m_read_figures : List D → Mem → Option (D × Mem) := mDef 1 1 (mRet (mCall fIntU (mCons (mSl (mVar 0) mNo (mPt (mC (.int 3)))) mNil)))
theorem sc_read_figures : FnScope (["word"] : List Str) ["word"] (defScope s_read_figures) := ⟨rfl, rfl, rfl, by decide +kernel, rfl, by decide +kernel, by decide +kernel⟩
theorem ok_read_figures (T : Txt w G.K mg) (hX : ∀ c, G.cA c = He.ga G.K (xnames.getD c "")) : Df P w G mg base "read_figures" 1 ["word"] m_read_figures := by
  obtain ⟨fd, F⟩ := T.d_read_figures
  refine ⟨fd, fn_okD F sc_read_figures (fun cdv A outer s H E hr => (pss_one (ps_ret (pe_callTy call_intU (by rfl) T.n_int (by decide +kernel) (pa_cons (pe_slice sl_u (pv 0) po_none (po_some pe_int)) pa_nil))))) (rs_ret (re_cb rc_intU (ra_cons (re_sl re_var ro_no (ro_pt re_int)) ra_nil))), F.bindsN fun _ _ _ _ _ _ us hl => match us, hl with | [_], _ => rfl, T.g_read_figures, F.kp⟩
/-! ### show_folk -/
abbrev s_show_folk : Stmt := top 33
noncomputable def m_show_folk : List D → Mem → Option (D × Mem) := mDef 4 1 (mSeq (mAsg (mVar 0) (gmTup 3 (gmCons (gmN 1) (gmCons (gmN 2) (gmCons (gmN 3) gmNil)))))
  (mRet (mJs [(mC (.str "folk ")), (mFmt (mVar 1)), (mC (.str " ")), (mFmt (mVar 2)), (mC (.str " ")), (mFmt (mIte (mTs (mOp (oIs false) (mVar 3) (mC .non))) (mC (.str "-")) (mVar 3)))])))
theorem sc_show_folk : FnScope (["folk", "text", "kind", "keep"] : List Str) ["folk"] (defScope s_show_folk) := ⟨rfl, rfl, rfl, by decide +kernel, rfl, by decide +kernel, by decide +kernel⟩
theorem ok_show_folk (T : Txt w G.K mg) (hX : ∀ c, G.cA c = He.ga G.K (xnames.getD c "")) : Df P w G mg base "show_folk" 1 ["folk"] m_show_folk := by
  obtain ⟨fd, F⟩ := T.d_show_folk
  obtain ⟨t_NOTHING, h_NOTHING⟩ := T.c_NOTHING
  refine ⟨fd, fn_okD F sc_show_folk (fun cdv A outer s H E hr => (pss_cons (ps_asg (pv 0) (pg_tup rfl (pgs_cons (pg_name (i := 1) sc_show_folk.nd rfl (by first | exact Or.inl rfl | exact Or.inr rfl)) (pgs_cons (pg_name (i := 2) sc_show_folk.nd rfl (by first | exact Or.inl rfl | exact Or.inr rfl)) (pgs_cons (pg_name (i := 3) sc_show_folk.nd rfl (by first | exact Or.inl rfl | exact Or.inr rfl)) pgs_nil)))))
  (pss_one (ps_ret (pe_joined (PJ.cons pe_str (PJ.cons (pe_fmt (pv 1)) (PJ.cons pe_str (PJ.cons (pe_fmt (pv 2)) (PJ.cons pe_str (PJ.cons (pe_fmt (pe_ifExp (pt_cmpR op_isN (pv 3) pe_non (nomark _)) (pe_glob (v := .str "-") (by rfl) h_NOTHING ⟨_, rfl⟩) (pv 3))) PJ.nil))))))))))) (rs_seq (rs_asg re_var (rg_tup (rgs_cons rg_n (rgs_cons rg_n (rgs_cons rg_n rgs_nil)))))
  (rs_ret (re_js (.cons re_str (.cons (re_fmt re_var) (.cons re_str (.cons (re_fmt re_var) (.cons re_str (.cons (re_fmt (re_ite (rt_test (re_op rr_isN re_var re_non)) re_str re_var)) .nil))))))))), F.bindsN fun _ _ _ _ _ _ us hl => match us, hl with | [_], _ => rfl, T.g_show_folk, F.kp⟩
/-! ### show_way -/
abbrev s_show_way : Stmt := top 34
noncomputable def m_show_way : List D → Mem → Option (D × Mem) := mDef 8 1 (mSeq (mAsg (mVar 0) (gmTup 6 (gmCons (gmN 2) (gmCons (gmN 3) (gmCons (gmN 4) (gmCons (gmN 5) (gmCons (gmN 6) (gmCons (gmN 7) gmNil))))))))
  (mSeq (mAsg (mLst (mCons (mC (.str "way")) (mCons (mVar 2) (mCons (mVar 3) (mCons (mCall fStrI (mCons (mVar 4) mNil)) (mCons (mCall fStrI (mCons (mVar 5) mNil)) mNil)))))) (gmN 1))
  (mSeq (mIf (mTs (mVar 6))
  (mEx (mBM fAppend (mVar 1) (mCons (mC (.str "loses")) mNil)))
  mSkip)
  (mSeq (mIf (mTs (mVar 7))
  (mEx (mBM fAppend (mVar 1) (mCons (mC (.str "twice")) mNil)))
  mSkip)
  (mRet (mJoin (mC (.str " ")) (mVar 1)))))))
theorem sc_show_way : FnScope (["way", "words", "source", "target", "least", "most", "loses", "twice"] : List Str) ["way"] (defScope s_show_way) := ⟨rfl, rfl, rfl, by decide +kernel, rfl, by decide +kernel, by decide +kernel⟩
theorem ok_show_way (T : Txt w G.K mg) (hX : ∀ c, G.cA c = He.ga G.K (xnames.getD c "")) : Df P w G mg base "show_way" 1 ["way"] m_show_way := by
  obtain ⟨fd, F⟩ := T.d_show_way
  obtain ⟨t_LOSES, h_LOSES⟩ := T.c_LOSES
  obtain ⟨t_TWICE, h_TWICE⟩ := T.c_TWICE
  refine ⟨fd, fn_okD F sc_show_way (fun cdv A outer s H E hr => (pss_cons (ps_asg (pv 0) (pg_tup rfl (pgs_cons (pg_name (i := 2) sc_show_way.nd rfl (by first | exact Or.inl rfl | exact Or.inr rfl)) (pgs_cons (pg_name (i := 3) sc_show_way.nd rfl (by first | exact Or.inl rfl | exact Or.inr rfl)) (pgs_cons (pg_name (i := 4) sc_show_way.nd rfl (by first | exact Or.inl rfl | exact Or.inr rfl)) (pgs_cons (pg_name (i := 5) sc_show_way.nd rfl (by first | exact Or.inl rfl | exact Or.inr rfl)) (pgs_cons (pg_name (i := 6) sc_show_way.nd rfl (by first | exact Or.inl rfl | exact Or.inr rfl)) (pgs_cons (pg_name (i := 7) sc_show_way.nd rfl (by first | exact Or.inl rfl | exact Or.inr rfl)) pgs_nil))))))))
  (pss_cons (ps_set (i := 1) sc_show_way.nd rfl (by first | exact Or.inl rfl | exact Or.inr rfl) (pe_lst (pa_cons pe_str (pa_cons (pv 2) (pa_cons (pv 3) (pa_cons (pe_callTy call_str_int (by rfl) T.n_str (by decide +kernel) (pa_cons (pv 4) pa_nil)) (pa_cons (pe_callTy call_str_int (by rfl) T.n_str (by decide +kernel) (pa_cons (pv 5) pa_nil)) pa_nil)))))))
  (pss_cons (ps_if (pt_val (pv 6))
  (pss_one (ps_expr (pe_bm PySem.F.plainAttrs_list PySem.F.slot_list_append PySem.F.type_list_append mt_append (pv 1) (pa_cons (pe_glob (v := .str "loses") (by rfl) h_LOSES ⟨_, rfl⟩) pa_nil))))
  pss_nil)
  (pss_cons (ps_if (pt_val (pv 7))
  (pss_one (ps_expr (pe_bm PySem.F.plainAttrs_list PySem.F.slot_list_append PySem.F.type_list_append mt_append (pv 1) (pa_cons (pe_glob (v := .str "twice") (by rfl) h_TWICE ⟨_, rfl⟩) pa_nil))))
  pss_nil)
  (pss_one (ps_ret (pe_join pe_str (pv 1))))))))) (rs_seq (rs_asg re_var (rg_tup (rgs_cons rg_n (rgs_cons rg_n (rgs_cons rg_n (rgs_cons rg_n (rgs_cons rg_n (rgs_cons rg_n rgs_nil))))))))
  (rs_seq (rs_asg (re_lst (ra_cons re_str (ra_cons re_var (ra_cons re_var (ra_cons (re_cb rc_strI (ra_cons re_var ra_nil)) (ra_cons (re_cb rc_strI (ra_cons re_var ra_nil)) ra_nil)))))) rg_n)
  (rs_seq (rs_if (rt_b re_var)
  (rs_ex (re_bmL re_var (ra_cons re_str ra_nil) rm_append))
  rs_skip)
  (rs_seq (rs_if (rt_b re_var)
  (rs_ex (re_bmL re_var (ra_cons re_str ra_nil) rm_append))
  rs_skip)
  (rs_ret (re_join re_str re_var)))))), F.bindsN fun _ _ _ _ _ _ us hl => match us, hl with | [_], _ => rfl, T.g_show_way, F.kp⟩
/-! ### show_habits -/
abbrev s_show_habits : Stmt := top 35
noncomputable def m_show_habits : List D → Mem → Option (D × Mem) := mDef 3 1 (mSeq (mAsg (mOp oAdd (mOp oAdd (mLst (mCons (mJs [(mC (.str "steps ")), (mFmt (mFld 0 "steps" (mVar 0)))]) mNil)) (mLc (iT (mFld 0 "folk" (mVar 0))) (gmN 2) mYes (mCall (lenIs 1 m_show_folk) (mCons (mVar 2) mNil)) [2])) (mLc (iT (mFld 0 "ways" (mVar 0))) (gmN 2) mYes (mCall (lenIs 1 m_show_way) (mCons (mVar 2) mNil)) [2])) (gmN 1))
  (mRet (mJoin (mC (.str "\n")) (mVar 1))))
theorem sc_show_habits : FnScope (["habits", "lines", "one"] : List Str) ["habits"] (defScope s_show_habits) := ⟨rfl, rfl, rfl, by decide +kernel, rfl, by decide +kernel, by decide +kernel⟩
theorem ok_show_habits (T : Txt w G.K mg) (hC_Habits : G.cA 0 = He.ga G.K "Habits") (hX : ∀ c, G.cA c = He.ga G.K (xnames.getD c "")) : Df P w G mg base "show_habits" 2 ["habits"] m_show_habits := by
  obtain ⟨fd, F⟩ := T.d_show_habits
  have D_show_folk := ok_show_folk (P := P) (w := w) (base := base) T hX
  have D_show_way := ok_show_way (P := P) (w := w) (base := base) T hX
  have cl_Habits : Cls G.K (G.cA 0) := by rw [hC_Habits]; exact T.cls_Habits
  have na_Habits_folk : NoAttr G.K (G.cA 0) "folk" := by rw [hC_Habits]; exact T.na_Habits_folk
  have na_Habits_steps : NoAttr G.K (G.cA 0) "steps" := by rw [hC_Habits]; exact T.na_Habits_steps
  have na_Habits_ways : NoAttr G.K (G.cA 0) "ways" := by rw [hC_Habits]; exact T.na_Habits_ways
  refine ⟨fd, fn_okD F sc_show_habits (fun cdv A outer s H E hr => (pss_cons (ps_set (i := 1) sc_show_habits.nd rfl (by first | exact Or.inl rfl | exact Or.inr rfl) (pe_op op_addU (pe_op op_addU (pe_lst (pa_cons (pe_joined (PJ.cons pe_str (PJ.cons (pe_fmt (pe_fld (pv 0) rfl)) PJ.nil))) pa_nil)) (pe_lc (own := [("one", 2)]) (by rfl) sc_show_habits.nd (pi_tup (pe_fld (pv 0) rfl)) (blkOk_by (own := [("one", 2)]) (N := (["habits", "lines", "one"] : List Str)) (sc := defScope s_show_habits) (by decide +kernel)) (fun _ _ _ _ _ => (pg_name (i := 2) sc_show_habits.nd rfl (by first | exact Or.inl rfl | exact Or.inr rfl))) (fun _ _ _ _ _ => pts_nil) (fun _ _ _ _ _ => (df_call (ca := G.cA) D_show_folk (hr.mono (by first | decide | omega | exact Nat.le_refl _ | (simp only [Nat.add_eq]; omega))) (by rfl) (pa_cons (pv 2) pa_nil))))) (pe_lc (own := [("one", 2)]) (by rfl) sc_show_habits.nd (pi_tup (pe_fld (pv 0) rfl)) (blkOk_by (own := [("one", 2)]) (N := (["habits", "lines", "one"] : List Str)) (sc := defScope s_show_habits) (by decide +kernel)) (fun _ _ _ _ _ => (pg_name (i := 2) sc_show_habits.nd rfl (by first | exact Or.inl rfl | exact Or.inr rfl))) (fun _ _ _ _ _ => pts_nil) (fun _ _ _ _ _ => (df_call (ca := G.cA) D_show_way (hr.mono (by first | decide | omega | exact Nat.le_refl _ | (simp only [Nat.add_eq]; omega))) (by rfl) (pa_cons (pv 2) pa_nil))))))
  (pss_one (ps_ret (pe_join pe_str (pv 1)))))) (rs_seq (rs_asg (re_op rr_add (re_op rr_add (re_lst (ra_cons (re_js (.cons re_str (.cons (re_fmt (re_fld cl_Habits na_Habits_steps re_var)) .nil))) ra_nil)) (re_lc (vs := [2]) (ri_t (re_fld cl_Habits na_Habits_folk re_var)) rg_n (kp_n (by decide)) mg_n rt_yes (re_call (ra_cons re_var ra_nil)))) (re_lc (vs := [2]) (ri_t (re_fld cl_Habits na_Habits_ways re_var)) rg_n (kp_n (by decide)) mg_n rt_yes (re_call (ra_cons re_var ra_nil)))) rg_n)
  (rs_ret (re_join re_str re_var))), F.bindsN fun _ _ _ _ _ _ us hl => match us, hl with | [_], _ => rfl, T.g_show_habits, F.kp⟩
/-! ### read_steps -/
abbrev s_read_steps : Stmt := top 36
noncomputable def m_read_steps : List D → Mem → Option (D × Mem) := mDef 1 1 (mSeq (mIf (mOr (mTs (mOp (oEq true) (mCall fLen (mCons (mVar 0) mNil)) (mC (.int 1)))) (mNot (mTs (mCall (lenIs 1 m_is_figures) (mCons (mOp oIx (mVar 0) (mC (.int 0))) mNil)))))
  (mRet (mC .non))
  mSkip)
  (mRet (mCall (lenIs 1 m_read_figures) (mCons (mOp oIx (mVar 0) (mC (.int 0))) mNil))))
theorem sc_read_steps : FnScope (["words"] : List Str) ["words"] (defScope s_read_steps) := ⟨rfl, rfl, rfl, by decide +kernel, rfl, by decide +kernel, by decide +kernel⟩
theorem ok_read_steps (T : Txt w G.K mg) (hX : ∀ c, G.cA c = He.ga G.K (xnames.getD c "")) : Df P w G mg base "read_steps" 2 ["words"] m_read_steps := by
  obtain ⟨fd, F⟩ := T.d_read_steps
  have D_is_figures := ok_is_figures (P := P) (w := w) (base := base) T hX
  have D_read_figures := ok_read_figures (P := P) (w := w) (base := base) T hX
  refine ⟨fd, fn_okD F sc_read_steps (fun cdv A outer s H E hr => (pss_cons (ps_if (PW.pt (pw_or (pt_cmpR (op_neD (hu64 hr)) (pe_callB cr_lenU (by rfl) T.n_len (PySem.boot_len) (pa_cons (pv 0) pa_nil)) pe_int (nomark _)) (pw_or1 (pt_not (pt_val (df_call (ca := G.cA) D_is_figures (hr.mono (by first | decide | omega | exact Nat.le_refl _ | (simp only [Nat.add_eq]; omega))) (by rfl) (pa_cons (pe_ix ix_u (pv 0) pe_int (fun _ _ => rfl)) pa_nil)))))))
  (pss_one (ps_ret pe_non))
  pss_nil)
  (pss_one (ps_ret (df_call (ca := G.cA) D_read_figures (hr.mono (by first | decide | omega | exact Nat.le_refl _ | (simp only [Nat.add_eq]; omega))) (by rfl) (pa_cons (pe_ix ix_u (pv 0) pe_int (fun _ _ => rfl)) pa_nil)))))) (rs_seq (rs_if (rt_or (rt_test (re_op rr_ne (re_cb rc_len (ra_cons re_var ra_nil)) re_int)) (rt_not (rt_b (re_call (ra_cons (re_op rr_ix re_var re_int) ra_nil)))))
  (rs_ret re_non)
  rs_skip)
  (rs_ret (re_call (ra_cons (re_op rr_ix re_var re_int) ra_nil)))), F.bindsN fun _ _ _ _ _ _ us hl => match us, hl with | [_], _ => rfl, T.g_read_steps, F.kp⟩
/-! ### read_folk -/
abbrev s_read_folk : Stmt := top 37
noncomputable def m_read_folk : List D → Mem → Option (D × Mem) := mDef 1 1 (mSeq (mIf (mOr (mTs (mOp (oEq true) (mCall fLen (mCons (mVar 0) mNil)) (mC (.int 3)))) (mAnd (mTs (mOp (oEq true) (mOp oIx (mVar 0) (mC (.int 2))) (mC (.str "-")))) (mNot (mTs (mCall (lenIs 1 m_is_figures) (mCons (mOp oIx (mVar 0) (mC (.int 2))) mNil))))))
  (mRet (mC .non))
  mSkip)
  (mRet (mTup (mCons (mOp oIx (mVar 0) (mC (.int 0))) (mCons (mOp oIx (mVar 0) (mC (.int 1))) (mCons (mIte (mTs (mOp (oEq false) (mOp oIx (mVar 0) (mC (.int 2))) (mC (.str "-")))) (mC .non) (mCall (lenIs 1 m_read_figures) (mCons (mOp oIx (mVar 0) (mC (.int 2))) mNil))) mNil))))))
theorem sc_read_folk : FnScope (["words"] : List Str) ["words"] (defScope s_read_folk) := ⟨rfl, rfl, rfl, by decide +kernel, rfl, by decide +kernel, by decide +kernel⟩
theorem ok_read_folk (T : Txt w G.K mg) (hX : ∀ c, G.cA c = He.ga G.K (xnames.getD c "")) : Df P w G mg base "read_folk" 2 ["words"] m_read_folk := by
  obtain ⟨fd, F⟩ := T.d_read_folk
  have D_is_figures := ok_is_figures (P := P) (w := w) (base := base) T hX
  have D_read_figures := ok_read_figures (P := P) (w := w) (base := base) T hX
  obtain ⟨t_NOTHING, h_NOTHING⟩ := T.c_NOTHING
  refine ⟨fd, fn_okD F sc_read_folk (fun cdv A outer s H E hr => (pss_cons (ps_if (PW.pt (pw_or (pt_cmpR (op_neD (hu64 hr)) (pe_callB cr_lenU (by rfl) T.n_len (PySem.boot_len) (pa_cons (pv 0) pa_nil)) pe_int (nomark _)) (pw_or1 (PW.pt (pw_and (pt_cmpR (op_neD (hu64 hr)) (pe_ix ix_u (pv 0) pe_int (fun _ _ => rfl)) (pe_glob (v := .str "-") (by rfl) h_NOTHING ⟨_, rfl⟩) (nomark _)) (pw_and1 (pt_not (pt_val (df_call (ca := G.cA) D_is_figures (hr.mono (by first | decide | omega | exact Nat.le_refl _ | (simp only [Nat.add_eq]; omega))) (by rfl) (pa_cons (pe_ix ix_u (pv 0) pe_int (fun _ _ => rfl)) pa_nil))))))))))
  (pss_one (ps_ret pe_non))
  pss_nil)
  (pss_one (ps_ret (pe_tup (pa_cons (pe_ix ix_u (pv 0) pe_int (fun _ _ => rfl)) (pa_cons (pe_ix ix_u (pv 0) pe_int (fun _ _ => rfl)) (pa_cons (pe_ifExp (pt_cmpR (op_eqD (hu64 hr)) (pe_ix ix_u (pv 0) pe_int (fun _ _ => rfl)) (pe_glob (v := .str "-") (by rfl) h_NOTHING ⟨_, rfl⟩) (nomark _)) pe_non (df_call (ca := G.cA) D_read_figures (hr.mono (by first | decide | omega | exact Nat.le_refl _ | (simp only [Nat.add_eq]; omega))) (by rfl) (pa_cons (pe_ix ix_u (pv 0) pe_int (fun _ _ => rfl)) pa_nil))) pa_nil)))))))) (rs_seq (rs_if (rt_or (rt_test (re_op rr_ne (re_cb rc_len (ra_cons re_var ra_nil)) re_int)) (rt_and (rt_test (re_op rr_ne (re_op rr_ix re_var re_int) re_str)) (rt_not (rt_b (re_call (ra_cons (re_op rr_ix re_var re_int) ra_nil))))))
  (rs_ret re_non)
  rs_skip)
  (rs_ret (re_tup (ra_cons (re_op rr_ix re_var re_int) (ra_cons (re_op rr_ix re_var re_int) (ra_cons (re_ite (rt_test (re_op rr_eq (re_op rr_ix re_var re_int) re_str)) re_non (re_call (ra_cons (re_op rr_ix re_var re_int) ra_nil))) ra_nil)))))), F.bindsN fun _ _ _ _ _ _ us hl => match us, hl with | [_], _ => rfl, T.g_read_folk, F.kp⟩
/-! ### read_way -/
abbrev s_read_way : Stmt := top 38
noncomputable def m_read_way : List D → Mem → Option (D × Mem) := mDef 3 1 (mSeq (mIf (mOr (mTs (mOp oLt (mCall fLen (mCons (mVar 0) mNil)) (mC (.int 4)))) (mOr (mNot (mTs (mCall (lenIs 1 m_is_figures) (mCons (mOp oIx (mVar 0) (mC (.int 2))) mNil)))) (mNot (mTs (mCall (lenIs 1 m_is_figures) (mCons (mOp oIx (mVar 0) (mC (.int 3))) mNil))))))
  (mRet (mC .non))
  mSkip)
  (mSeq (mIf (mTs (mOp (oInT true) (mSl (mVar 0) (mPt (mC (.int 4))) mNo) (mTup (mCons (mLst mNil) (mCons (mLst (mCons (mC (.str "loses")) mNil)) (mCons (mLst (mCons (mC (.str "twice")) mNil)) (mCons (mLst (mCons (mC (.str "loses")) (mCons (mC (.str "twice")) mNil))) mNil)))))))
  (mRet (mC .non))
  mSkip)
  (mSeq (mPar 1 2 (mCons (mCall (lenIs 1 m_read_figures) (mCons (mOp oIx (mVar 0) (mC (.int 2))) mNil)) (mCons (mCall (lenIs 1 m_read_figures) (mCons (mOp oIx (mVar 0) (mC (.int 3))) mNil)) mNil)))
  (mRet (mTup (mCons (mOp oIx (mVar 0) (mC (.int 0))) (mCons (mOp oIx (mVar 0) (mC (.int 1))) (mCons (mVar 1) (mCons (mVar 2) (mCons (mOp (oIn false) (mC (.str "loses")) (mSl (mVar 0) (mPt (mC (.int 4))) mNo)) (mCons (mOp (oIn false) (mC (.str "twice")) (mSl (mVar 0) (mPt (mC (.int 4))) mNo)) mNil)))))))))))
theorem sc_read_way : FnScope (["words", "least", "most"] : List Str) ["words"] (defScope s_read_way) := ⟨rfl, rfl, rfl, by decide +kernel, rfl, by decide +kernel, by decide +kernel⟩
theorem ok_read_way (T : Txt w G.K mg) (hX : ∀ c, G.cA c = He.ga G.K (xnames.getD c "")) : Df P w G mg base "read_way" 2 ["words"] m_read_way := by
  obtain ⟨fd, F⟩ := T.d_read_way
  have D_is_figures := ok_is_figures (P := P) (w := w) (base := base) T hX
  have D_read_figures := ok_read_figures (P := P) (w := w) (base := base) T hX
  obtain ⟨t_LOSES, h_LOSES⟩ := T.c_LOSES
  obtain ⟨t_TWICE, h_TWICE⟩ := T.c_TWICE
  refine ⟨fd, fn_okD F sc_read_way (fun cdv A outer s H E hr => (pss_cons (ps_if (PW.pt (pw_or (pt_cmpR op_lt (pe_callB cr_lenU (by rfl) T.n_len (PySem.boot_len) (pa_cons (pv 0) pa_nil)) pe_int (nomark _)) (pw_or (pt_not (pt_val (df_call (ca := G.cA) D_is_figures (hr.mono (by first | decide | omega | exact Nat.le_refl _ | (simp only [Nat.add_eq]; omega))) (by rfl) (pa_cons (pe_ix ix_u (pv 0) pe_int (fun _ _ => rfl)) pa_nil)))) (pw_or1 (pt_not (pt_val (df_call (ca := G.cA) D_is_figures (hr.mono (by first | decide | omega | exact Nat.le_refl _ | (simp only [Nat.add_eq]; omega))) (by rfl) (pa_cons (pe_ix ix_u (pv 0) pe_int (fun _ _ => rfl)) pa_nil))))))))
  (pss_one (ps_ret pe_non))
  pss_nil)
  (pss_cons (ps_if (pt_cmpR (op_niT (hu65 hr)) (pe_slice sl_u (pv 0) (po_some pe_int) po_none) (pe_tup (pa_cons (pe_lst pa_nil) (pa_cons (pe_lst (pa_cons (pe_glob (v := .str "loses") (by rfl) h_LOSES ⟨_, rfl⟩) pa_nil)) (pa_cons (pe_lst (pa_cons (pe_glob (v := .str "twice") (by rfl) h_TWICE ⟨_, rfl⟩) pa_nil)) (pa_cons (pe_lst (pa_cons (pe_glob (v := .str "loses") (by rfl) h_LOSES ⟨_, rfl⟩) (pa_cons (pe_glob (v := .str "twice") (by rfl) h_TWICE ⟨_, rfl⟩) pa_nil))) pa_nil))))) (by rfl))
  (pss_one (ps_ret pe_non))
  pss_nil)
  (pss_cons (ps_par (i := 1) (j := 2) rfl sc_read_way.nd rfl rfl (by decide) rfl rfl (pa_cons (df_call (ca := G.cA) D_read_figures (hr.mono (by first | decide | omega | exact Nat.le_refl _ | (simp only [Nat.add_eq]; omega))) (by rfl) (pa_cons (pe_ix ix_u (pv 0) pe_int (fun _ _ => rfl)) pa_nil)) (pa_cons (df_call (ca := G.cA) D_read_figures (hr.mono (by first | decide | omega | exact Nat.le_refl _ | (simp only [Nat.add_eq]; omega))) (by rfl) (pa_cons (pe_ix ix_u (pv 0) pe_int (fun _ _ => rfl)) pa_nil)) pa_nil)) (by rfl))
  (pss_one (ps_ret (pe_tup (pa_cons (pe_ix ix_u (pv 0) pe_int (fun _ _ => rfl)) (pa_cons (pe_ix ix_u (pv 0) pe_int (fun _ _ => rfl)) (pa_cons (pv 1) (pa_cons (pv 2) (pa_cons (pe_cmpR (op_inU (hu65 hr)) (pe_glob (v := .str "loses") (by rfl) h_LOSES ⟨_, rfl⟩) (pe_slice sl_u (pv 0) (po_some pe_int) po_none) (by rfl)) (pa_cons (pe_cmpR (op_inU (hu65 hr)) (pe_glob (v := .str "twice") (by rfl) h_TWICE ⟨_, rfl⟩) (pe_slice sl_u (pv 0) (po_some pe_int) po_none) (by rfl)) pa_nil))))))))))))) (rs_seq (rs_if (rt_or (rt_test (re_op rr_lt (re_cb rc_len (ra_cons re_var ra_nil)) re_int)) (rt_or (rt_not (rt_b (re_call (ra_cons (re_op rr_ix re_var re_int) ra_nil)))) (rt_not (rt_b (re_call (ra_cons (re_op rr_ix re_var re_int) ra_nil))))))
  (rs_ret re_non)
  rs_skip)
  (rs_seq (rs_if (rt_test (re_op (rr_inT true) (re_sl re_var (ro_pt re_int) ro_no) (re_tup (ra_cons (re_lst ra_nil) (ra_cons (re_lst (ra_cons re_str ra_nil)) (ra_cons (re_lst (ra_cons re_str ra_nil)) (ra_cons (re_lst (ra_cons re_str (ra_cons re_str ra_nil))) ra_nil)))))))
  (rs_ret re_non)
  rs_skip)
  (rs_seq (rs_par (ra_cons (re_call (ra_cons (re_op rr_ix re_var re_int) ra_nil)) (ra_cons (re_call (ra_cons (re_op rr_ix re_var re_int) ra_nil)) ra_nil)))
  (rs_ret (re_tup (ra_cons (re_op rr_ix re_var re_int) (ra_cons (re_op rr_ix re_var re_int) (ra_cons re_var (ra_cons re_var (ra_cons (re_op rr_in re_str (re_sl re_var (ro_pt re_int) ro_no)) (ra_cons (re_op rr_in re_str (re_sl re_var (ro_pt re_int) ro_no)) ra_nil))))))))))), F.bindsN fun _ _ _ _ _ _ us hl => match us, hl with | [_], _ => rfl, T.g_read_way, F.kp⟩
/-! ### lines_of -/
abbrev s_lines_of : Stmt := top 41
noncomputable def m_lines_of : List D → Mem → Option (D × Mem) := mDef 3 2 (mSeq (mIf (mNot (mTs (mCall fIsi (mCons (mVar 0) (mCons (mC (.ty "str")) mNil)))))
  mBad
  mSkip)
  (mSeq (mAsg (mSplit (mVar 0) (mC (.str "\n"))) (gmN 2))
  (mSeq (mIf (mTs (mOp oGt (mCall fLen (mCons (mVar 2) mNil)) (mVar 1)))
  mBad
  mSkip)
  (mRet (mVar 2)))))
theorem sc_lines_of : FnScope (["text", "most", "lines"] : List Str) ["text", "most"] (defScope s_lines_of) := ⟨rfl, rfl, rfl, by decide +kernel, rfl, by decide +kernel, by decide +kernel⟩
theorem ok_lines_of (T : Txt w G.K mg) (hX : ∀ c, G.cA c = He.ga G.K (xnames.getD c "")) : Df P w G mg base "lines_of" 1 ["text", "most"] m_lines_of := by
  obtain ⟨fd, F⟩ := T.d_lines_of
  refine ⟨fd, fn_okD F sc_lines_of (fun cdv A outer s H E hr => (pss_cons (ps_if (pt_not (pt_val (pe_callB call_isi (by rfl) T.n_isinstance (by decide +kernel) (pa_cons (pv 0) (pa_cons (pe_bltn (v := .ty "str") (by rfl) T.n_str (by decide +kernel) rfl) pa_nil)))))
  (pss_one ps_none)
  pss_nil)
  (pss_cons (ps_set (i := 2) sc_lines_of.nd rfl (by first | exact Or.inl rfl | exact Or.inr rfl) (pe_split (pv 0) pe_str))
  (pss_cons (ps_if (pt_cmpR op_gt (pe_callB cr_lenU (by rfl) T.n_len (PySem.boot_len) (pa_cons (pv 2) pa_nil)) (pv 1) (nomark _))
  (pss_one ps_none)
  pss_nil)
  (pss_one (ps_ret (pv 2))))))) (rs_seq (rs_if (rt_not (rt_b (re_cb rc_isi (ra_cons re_var (ra_cons (re_c fun _ _ => .ty) ra_nil)))))
  rs_bad
  rs_skip)
  (rs_seq (rs_asg (re_split re_var re_str) rg_n)
  (rs_seq (rs_if (rt_test (re_op rr_gt (re_cb rc_len (ra_cons re_var ra_nil)) re_var))
  rs_bad
  rs_skip)
  (rs_ret re_var)))), F.bindsN fun _ _ _ _ _ _ us hl => match us, hl with | [_, _], _ => rfl, T.g_lines_of, F.kp⟩
noncomputable def fvT : Nat → Option (Nat × (List D → Mem → Option (D × Mem))) := fun n => if n = 3 then some (1, m_read_steps) else if n = 4 then some (1, m_read_folk) else if n = 5 then some (1, m_read_way) else none
theorem kt_READERS (T : Txt w G.K mg) (hX : ∀ c, G.cA c = He.ga G.K (xnames.getD c "")) : KT G w 1 tb_READERS := by
  obtain ⟨es, m, D⟩ := T.kd_READERS
  refine ⟨fun z d h => ?_, by rw [hX 1]; exact T.kd_READERS⟩
  unfold tb_READERS at h
  split at h
  · rename_i e; subst e; cases h
    exact ⟨.ref (G.cA 3), by rw [hX 1]; exact kdct_of D (of_decide_eq_true T.x_tv_READERS_steps) (by rw [hX 3]; rfl), fun _ _ => .cl⟩
  split at h
  · rename_i e; subst e; cases h
    exact ⟨.ref (G.cA 4), by rw [hX 1]; exact kdct_of D (of_decide_eq_true T.x_tv_READERS_folk) (by rw [hX 4]; rfl), fun _ _ => .cl⟩
  split at h
  · rename_i e; subst e; cases h
    exact ⟨.ref (G.cA 5), by rw [hX 1]; exact kdct_of D (of_decide_eq_true T.x_tv_READERS_way) (by rw [hX 5]; rfl), fun _ _ => .cl⟩
  cases h
theorem kt_AHEAD (T : Txt w G.K mg) (hX : ∀ c, G.cA c = He.ga G.K (xnames.getD c "")) : KT G w 2 tb_AHEAD := by
  obtain ⟨es, m, D⟩ := T.kd_AHEAD
  refine ⟨fun z d h => ?_, by rw [hX 2]; exact T.kd_AHEAD⟩
  unfold tb_AHEAD at h
  split at h
  · rename_i e; subst e; cases h
    obtain ⟨t, ht, hs⟩ := XH.tabT_ok T.x_tv_AHEAD_steps
    exact ⟨.ref t, by rw [hX 2]; exact kdct_of D ht rfl, fun ρ H => .tup (hs H) (dens_ofStrs _)⟩
  split at h
  · rename_i e; subst e; cases h
    obtain ⟨t, ht, hs⟩ := XH.tabT_ok T.x_tv_AHEAD_folk
    exact ⟨.ref t, by rw [hX 2]; exact kdct_of D ht rfl, fun ρ H => .tup (hs H) (dens_ofStrs _)⟩
  split at h
  · rename_i e; subst e; cases h
    obtain ⟨t, ht, hs⟩ := XH.tabT_ok T.x_tv_AHEAD_way
    exact ⟨.ref t, by rw [hX 2]; exact kdct_of D ht rfl, fun ρ H => .tup (hs H) (dens_ofStrs _)⟩
  cases h

/-! ### read_lines -/
abbrev s_read_lines : Stmt := top 42
noncomputable def m_read_lines : List D → Mem → Option (D × Mem) := mDef 9 1 (mSeq (mAsg (mDisp [("steps", (mLst mNil)), ("folk", (mLst mNil)), ("way", (mLst mNil))]) (gmN 1))
  (mSeq (mAsg (mC (.str "")) (gmN 2))
  (mSeq (mFor (iE (mCons (mVar 0) mNil)) (gmTup 2 (gmCons (gmN 3) (gmCons (gmN 4) gmNil)))
  (mSeq (mAsg (mSplit (mVar 4) (mC (.str " "))) (gmStar (gmCons (gmN 7) (gmCons (gmN 8) gmNil))))
  (mSeq (mIf (mOr (mTs (mOp (oInK true 1 tb_READERS) (mVar 7) (mC (.cl 1)))) (mTs (mOp (oIn true) (mVar 2) (mOp (oIxK 2 tb_AHEAD) (mC (.cl 2)) (mVar 7)))))
  mBad
  mSkip)
  (mSeq (mAsg (mOp (oIxK 1 tb_READERS) (mC (.cl 1)) (mVar 7)) (gmN 5))
  (mSeq (mAsg (mCallN 5 fvT (mCons (mVar 8) mNil)) (gmN 6))
  (mSeq (mIf (mTs (mOp (oIs false) (mVar 6) (mC .non)))
  mBad
  mSkip)
  (mSeq (mEx (mBM fAppend (mDGet (mVar 1) (mVar 7)) (mCons (mVar 6) mNil)))
  (mAsg (mVar 7) (gmN 2)))))))))
  (mRet (mVar 1)))))
theorem sc_read_lines : FnScope (["lines", "told", "ahead", "at", "line", "reader", "thing", "word", "words"] : List Str) ["lines"] (defScope s_read_lines) := ⟨rfl, rfl, rfl, by decide +kernel, rfl, by decide +kernel, by decide +kernel⟩
theorem ok_read_lines (T : Txt w G.K mg) (hX : ∀ c, G.cA c = He.ga G.K (xnames.getD c "")) : Df P w G mg base "read_lines" 3 ["lines"] m_read_lines := by
  obtain ⟨fd, F⟩ := T.d_read_lines
  have D_read_folk := ok_read_folk (P := P) (w := w) (base := base) T hX
  have D_read_steps := ok_read_steps (P := P) (w := w) (base := base) T hX
  have D_read_way := ok_read_way (P := P) (w := w) (base := base) T hX
  have gv_AHEAD : mg "AHEAD" = some (.ref (G.cA 2)) := by rw [hX]; exact T.g_AHEAD
  have kt_AHEAD := kt_AHEAD (w := w) T hX
  obtain ⟨es_AHEAD, m_AHEAD, kd_AHEAD⟩ := kt_AHEAD.dict
  have gv_READERS : mg "READERS" = some (.ref (G.cA 1)) := by rw [hX]; exact T.g_READERS
  have kt_READERS := kt_READERS (w := w) T hX
  obtain ⟨es_READERS, m_READERS, kd_READERS⟩ := kt_READERS.dict
  have fv_all : ∀ n sp, spN G fvT n = some sp → Held P w G.K mg base 2 (G.cA n) sp := by
    intro n sp h; unfold spN at h
    cases hf : fvT n with
    | none => (rw [hf] at h; cases h)
    | some kf =>
    obtain ⟨k, f⟩ := kf; rw [hf] at h; cases h; unfold fvT at hf
    split at hf
    · rename_i e; subst e; cases hf; exact df_held D_read_steps (hX 3) rfl
    split at hf
    · rename_i e; subst e; cases hf; exact df_held D_read_folk (hX 4) rfl
    split at hf
    · rename_i e; subst e; cases hf; exact df_held D_read_way (hX 5) rfl
    cases hf
  refine ⟨fd, fn_okD F sc_read_lines (fun cdv A outer s H E hr => (pss_cons (ps_set (i := 1) sc_read_lines.nd rfl (by first | exact Or.inl rfl | exact Or.inr rfl) (pe_disp (pps_cons pe_str (pe_lst pa_nil) (pps_cons pe_str (pe_lst pa_nil) (pps_cons pe_str (pe_lst pa_nil) pps_nil))) (by rfl) (by rfl) (fun z => by cases z) (by decide)))
  (pss_cons (ps_set (i := 2) sc_read_lines.nd rfl (by first | exact Or.inl rfl | exact Or.inr rfl) pe_str)
  (pss_cons (ps_for PassesOwn.never rfl (pi_enum (by rfl) T.n_enumerate (pa_cons (pv 0) pa_nil)) (pg_tup rfl (pgs_cons (pg_name (i := 3) sc_read_lines.nd rfl (by first | exact Or.inl rfl | exact Or.inr rfl)) (pgs_cons (pg_name (i := 4) sc_read_lines.nd rfl (by first | exact Or.inl rfl | exact Or.inr rfl)) pgs_nil)))
  (pss_cons (ps_asg (pe_split (pv 4) pe_str) (StarT.pg_star1 rfl (pgs_cons (pg_name (i := 7) sc_read_lines.nd rfl (by first | exact Or.inl rfl | exact Or.inr rfl)) (pgs_cons (pg_name (i := 8) sc_read_lines.nd rfl (by first | exact Or.inl rfl | exact Or.inr rfl)) pgs_nil))))
  (pss_cons (ps_if (PW.pt (pw_or (pt_cmpR (op_notIn_kd kd_READERS) (pv 7) (pe_glob (v := .ref (G.cA 1)) (by rfl) gv_READERS rfl) (by rfl)) (pw_or1 (pt_cmpR (op_niU (hu65 hr)) (pv 2) (pe_ix ix_kdict (pe_glob (v := .ref (G.cA 2)) (by rfl) gv_AHEAD rfl) (pv 7) (fun _ _ => rfl)) (by rfl)))))
  (pss_one ps_none)
  pss_nil)
  (pss_cons (ps_set (i := 5) sc_read_lines.nd rfl (by first | exact Or.inl rfl | exact Or.inr rfl) (pe_ix ix_kdict (pe_glob (v := .ref (G.cA 1)) (by rfl) gv_READERS rfl) (pv 7) (fun _ _ => rfl)))
  (pss_cons (ps_set (i := 6) sc_read_lines.nd rfl (by first | exact Or.inl rfl | exact Or.inr rfl) (pe_callN (ca := G.cA) (i := 5) fv_all (hr.mono (by decide)) (by rfl) (by first | exact Or.inl rfl | exact Or.inr (Or.inl rfl)) (pa_cons (pv 8) pa_nil)))
  (pss_cons (ps_if (pt_cmpR op_isN (pv 6) pe_non (nomark _))
  (pss_one ps_none)
  pss_nil)
  (pss_cons (ps_expr (pe_bm PySem.F.plainAttrs_list PySem.F.slot_list_append PySem.F.type_list_append mt_append (pe_dget (hu1 hr) (pv 1) (pv 7) (fun _ _ => rfl)) (pa_cons (pv 6) pa_nil)))
  (pss_one (ps_set (i := 2) sc_read_lines.nd rfl (by first | exact Or.inl rfl | exact Or.inr rfl) (pv 7))))))))))
  (pss_one (ps_ret (pv 1))))))) (rs_seq (rs_asg (re_disp (.cons (re_lst ra_nil) (.cons (re_lst ra_nil) (.cons (re_lst ra_nil) .nil)))) rg_n)
  (rs_seq (rs_asg re_str rg_n)
  (rs_seq (rs_for (ri_e (ra_cons re_var ra_nil)) (rg_tup (rgs_cons rg_n (rgs_cons rg_n rgs_nil)))
  (rs_seq (rs_asg (re_split re_var re_str) (rg_star (rgs_cons rg_n (rgs_cons rg_n rgs_nil))))
  (rs_seq (rs_if (rt_or (rt_test (re_op (rr_niK kt_READERS) re_var (re_c fun _ _ => .cl))) (rt_test (re_op rr_ni re_var (re_op (rr_ixK kt_AHEAD) (re_c fun _ _ => .cl) re_var))))
  rs_bad
  rs_skip)
  (rs_seq (rs_asg (re_op (rr_ixK kt_READERS) (re_c fun _ _ => .cl) re_var) rg_n)
  (rs_seq (rs_asg (re_callN (ra_cons re_var ra_nil)) rg_n)
  (rs_seq (rs_if (rt_test (re_op rr_isN re_var re_non))
  rs_bad
  rs_skip)
  (rs_seq (rs_ex (re_bmL (re_dget re_var re_var) (ra_cons re_var ra_nil) rm_append))
  (rs_asg re_var rg_n))))))))
  (rs_ret re_var)))), F.bindsN fun _ _ _ _ _ _ us hl => match us, hl with | [_], _ => rfl, T.g_read_lines, F.kp⟩
/-! ### read_habits -/
abbrev s_read_habits : Stmt := top 43
noncomputable def m_read_habits : List D → Mem → Option (D × Mem) := mDef 2 1 (mSeq (mAsg (mCall (lenIs 1 m_read_lines) (mCons (mCall (lenIs 2 m_lines_of) (mCons (mVar 0) (mCons (mC (.int 40)) mNil))) mNil)) (gmN 1))
  (mRet (mMakeK 0 4 2 1 m_Habits_init (mCons (mCall fTuple (mCons (mDGet (mVar 1) (mC (.str "folk"))) mNil)) (mCons (mCall fTuple (mCons (mDGet (mVar 1) (mC (.str "way"))) mNil)) mNil)) (mCons (mOp oIx (mDGet (mVar 1) (mC (.str "steps"))) (mC (.int 0))) mNil))))
theorem sc_read_habits : FnScope (["text", "told"] : List Str) ["text"] (defScope s_read_habits) := ⟨rfl, rfl, rfl, by decide +kernel, rfl, by decide +kernel, by decide +kernel⟩
theorem ok_read_habits (T : Txt w G.K mg) (hC_Habits : G.cA 0 = He.ga G.K "Habits") (hX : ∀ c, G.cA c = He.ga G.K (xnames.getD c "")) : Df P w G mg base "read_habits" 7 ["text"] m_read_habits := by
  obtain ⟨fd, F⟩ := T.d_read_habits
  have D_Habits_init := ok_Habits_init (P := P) (w := w) (base := base) T hC_Habits hX
  have D_lines_of := ok_lines_of (P := P) (w := w) (base := base) T hX
  have D_read_lines := ok_read_lines (P := P) (w := w) (base := base) T hX
  obtain ⟨t_MOST_LINES, h_MOST_LINES⟩ := T.c_MOST_LINES
  refine ⟨fd, fn_okD F sc_read_habits (fun cdv A outer s H E hr => (pss_cons (ps_set (i := 1) sc_read_habits.nd rfl (by first | exact Or.inl rfl | exact Or.inr rfl) (df_call (ca := G.cA) D_read_lines (hr.mono (by first | decide | omega | exact Nat.le_refl _ | (simp only [Nat.add_eq]; omega))) (by rfl) (pa_cons (df_call (ca := G.cA) D_lines_of (hr.mono (by first | decide | omega | exact Nat.le_refl _ | (simp only [Nat.add_eq]; omega))) (by rfl) (pa_cons (pv 0) (pa_cons (pe_glob (v := .int 40) (by rfl) h_MOST_LINES ⟨_, rfl⟩) pa_nil))) pa_nil)))
  (pss_one (ps_try_thru0 (pss_one (ps_ret (dc_makeK (ca := G.cA) D_Habits_init (hr.mono (by decide)) (by rfl) (pa_cons (pe_callTy call_tuple_of (by rfl) T.n_tuple (by decide +kernel) (pa_cons (pe_dget (hu1 hr) (pv 1) pe_str (fun _ _ => rfl)) pa_nil)) (pa_cons (pe_callTy call_tuple_of (by rfl) T.n_tuple (by decide +kernel) (pa_cons (pe_dget (hu1 hr) (pv 1) pe_str (fun _ _ => rfl)) pa_nil)) pa_nil)) (pk_cons (pe_ix ix_u (pe_dget (hu1 hr) (pv 1) pe_str (fun _ _ => rfl)) pe_int (fun _ _ => rfl)) pk_nil)))))))) (rs_seq (rs_asg (re_call (ra_cons (re_call (ra_cons re_var (ra_cons re_int ra_nil))) ra_nil)) rg_n)
  (rs_ret (re_makeK (ra_cons (re_cb rc_tuple (ra_cons (re_dget re_var re_str) ra_nil)) (ra_cons (re_cb rc_tuple (ra_cons (re_dget re_var re_str) ra_nil)) ra_nil)) (ra_cons (re_op rr_ix (re_dget re_var re_str) re_int) ra_nil)))), F.bindsN fun _ _ _ _ _ _ us hl => match us, hl with | [_], _ => rfl, T.g_read_habits, F.kp⟩
/-! ### _law_bag -/
abbrev s_law_bag : Stmt := top 45
noncomputable def m_law_bag : List D → Mem → Option (D × Mem) := mDef 5 2 (mSeq (mAsg (mC (.int 0)) (gmN 2))
  (mSeq (mIf (mTs (mOp oLt (mVar 1) (mCall fLen (mCons (mVar 0) mNil))))
  (mAsg (mOp oIx (mVar 0) (mVar 1)) (gmN 2))
  mSkip)
  (mSeq (mAsg (mC (.int 0)) (gmN 3))
  (mSeq (mIf (mTs (mOp oGe (mCall fAbs (mCons (mVar 2) mNil)) (mOp oPow (mC (.int 10)) (mC (.int 18)))))
  (mAsg (mCall fAbs (mCons (mVar 2) mNil)) (gmN 3))
  mSkip)
  (mSeq (mAsg (mLst (mCons (mC (.int 2147483629)) (mCons (mC (.int 2147483587)) (mCons (mC (.int 2147483579)) (mCons (mC (.int 2147483563)) (mCons (mC (.int 2147483549)) (mCons (mC (.int 2147483543)) (mCons (mC (.int 2147483497)) (mCons (mC (.int 2147483489)) mNil))))))))) (gmN 4))
  (mRet (mLst (mCons (mVar 3) (mCons (mOp oMod (mOp oPow (mOp oAdd (mOp oAdd (mOp oMod (mVar 2) (mC (.int 2147483647))) (mOp oMulI (mC (.int 104729)) (mVar 1))) (mC (.int 7))) (mC (.int 5))) (mOp oIx (mVar 4) (mOp oMod (mVar 1) (mC (.int 8))))) (mCons (mC (.int 0)) mNil))))))))))
theorem sc_law_bag : FnScope (["_law_script", "_law_at", "_law_cell", "_law_great", "_law_primes"] : List Str) ["_law_script", "_law_at"] (defScope s_law_bag) := ⟨rfl, rfl, rfl, by decide +kernel, rfl, by decide +kernel, by decide +kernel⟩
theorem ok_law_bag (T : Txt w G.K mg) (hX : ∀ c, G.cA c = He.ga G.K (xnames.getD c "")) : Df P w G mg base "_law_bag" 1 ["_law_script", "_law_at"] m_law_bag := by
  obtain ⟨fd, F⟩ := T.d_law_bag
  refine ⟨fd, fn_okD F sc_law_bag (fun cdv A outer s H E hr => (pss_cons (ps_set (i := 2) sc_law_bag.nd rfl (by first | exact Or.inl rfl | exact Or.inr rfl) pe_int)
  (pss_cons (ps_if (pt_cmpR op_lt (pv 1) (pe_callB cr_lenU (by rfl) T.n_len (PySem.boot_len) (pa_cons (pv 0) pa_nil)) (nomark _))
  (pss_one (ps_set (i := 2) sc_law_bag.nd rfl (by first | exact Or.inl rfl | exact Or.inr rfl) (pe_ix ix_u (pv 0) (pv 1) (fun _ _ => rfl))))
  pss_nil)
  (pss_cons (ps_set (i := 3) sc_law_bag.nd rfl (by first | exact Or.inl rfl | exact Or.inr rfl) pe_int)
  (pss_cons (ps_if (pt_cmpR op_ge (pe_callB call_abs (by rfl) T.n_abs (by decide +kernel) (pa_cons (pv 2) pa_nil)) (pe_op op_pow pe_int pe_int) (nomark _))
  (pss_one (ps_set (i := 3) sc_law_bag.nd rfl (by first | exact Or.inl rfl | exact Or.inr rfl) (pe_callB call_abs (by rfl) T.n_abs (by decide +kernel) (pa_cons (pv 2) pa_nil))))
  pss_nil)
  (pss_cons (ps_set (i := 4) sc_law_bag.nd rfl (by first | exact Or.inl rfl | exact Or.inr rfl) (pe_lst (pa_cons pe_int (pa_cons pe_int (pa_cons pe_int (pa_cons pe_int (pa_cons pe_int (pa_cons pe_int (pa_cons pe_int (pa_cons pe_int pa_nil))))))))))
  (pss_one (ps_ret (pe_lst (pa_cons (pv 3) (pa_cons (pe_op op_mod (pe_op op_pow (pe_op op_addU (pe_op op_addU (pe_op op_mod (pv 2) pe_int) (pe_op op_mulW pe_int (pv 1))) pe_int) pe_int) (pe_ix ix_u (pv 4) (pe_op op_mod (pv 1) pe_int) (fun _ _ => rfl))) (pa_cons pe_int pa_nil)))))))))))) (rs_seq (rs_asg re_int rg_n)
  (rs_seq (rs_if (rt_test (re_op rr_lt re_var (re_cb rc_len (ra_cons re_var ra_nil))))
  (rs_asg (re_op rr_ix re_var re_var) rg_n)
  rs_skip)
  (rs_seq (rs_asg re_int rg_n)
  (rs_seq (rs_if (rt_test (re_op rr_ge (re_cb rc_abs (ra_cons re_var ra_nil)) (re_op rr_pow re_int re_int)))
  (rs_asg (re_cb rc_abs (ra_cons re_var ra_nil)) rg_n)
  rs_skip)
  (rs_seq (rs_asg (re_lst (ra_cons re_int (ra_cons re_int (ra_cons re_int (ra_cons re_int (ra_cons re_int (ra_cons re_int (ra_cons re_int (ra_cons re_int ra_nil))))))))) rg_n)
  (rs_ret (re_lst (ra_cons re_var (ra_cons (re_op rr_mod (re_op rr_pow (re_op rr_add (re_op rr_add (re_op rr_mod re_var re_int) (re_op rr_mulI re_int re_var)) re_int) re_int) (re_op rr_ix re_var (re_op rr_mod re_var re_int))) (ra_cons re_int ra_nil)))))))))), F.bindsN fun _ _ _ _ _ _ us hl => match us, hl with | [_, _], _ => rfl, T.g_law_bag, F.kp⟩
/-! ### _law_take -/
abbrev s_law_take : Stmt := top 46
noncomputable def m_law_take : List D → Mem → Option (D × Mem) := mDef 3 2 (mSeq (mIf (mTs (mOp oGt (mOp oIx (mVar 0) (mC (.int 0))) (mC (.int 0))))
  (mSeq (mAsg (mOp oMod (mOp oIx (mVar 0) (mC (.int 0))) (mVar 1)) (gmN 2))
  (mSeq (mAsg (mOp oDiv (mOp oIx (mVar 0) (mC (.int 0))) (mVar 1)) (gmSub (mVar 0) (mC (.int 0))))
  (mRet (mVar 2))))
  mSkip)
  (mSeq (mAsg (mOp oAdd (mOp oIx (mVar 0) (mC (.int 2))) (mC (.int 1))) (gmSub (mVar 0) (mC (.int 2))))
  (mSeq (mAsg (mOp oMod (mOp oAdd (mOp oAdd (mOp oMulI (mOp oIx (mVar 0) (mC (.int 1))) (mC (.int 48271))) (mOp oMulI (mOp oMulI (mC (.int 7919)) (mOp oIx (mVar 0) (mC (.int 2)))) (mOp oIx (mVar 0) (mC (.int 2))))) (mC (.int 11))) (mC (.int 2147483647))) (gmSub (mVar 0) (mC (.int 1))))
  (mRet (mOp oMod (mOp oMod (mOp oPow (mOp oDiv (mOp oIx (mVar 0) (mC (.int 1))) (mC (.int 8))) (mC (.int 3))) (mC (.int 2147483629))) (mVar 1))))))
theorem sc_law_take : FnScope (["_law_bag_here", "_law_many", "_law_digit"] : List Str) ["_law_bag_here", "_law_many"] (defScope s_law_take) := ⟨rfl, rfl, rfl, by decide +kernel, rfl, by decide +kernel, by decide +kernel⟩
theorem ok_law_take (T : Txt w G.K mg) (hX : ∀ c, G.cA c = He.ga G.K (xnames.getD c "")) : Df P w G mg base "_law_take" 1 ["_law_bag_here", "_law_many"] m_law_take := by
  obtain ⟨fd, F⟩ := T.d_law_take
  refine ⟨fd, fn_okD F sc_law_take (fun cdv A outer s H E hr => (pss_cons (ps_if (pt_cmpR op_gt (pe_ix ix_u (pv 0) pe_int (fun _ _ => rfl)) pe_int (nomark _))
  (pss_cons (ps_set (i := 2) sc_law_take.nd rfl (by first | exact Or.inl rfl | exact Or.inr rfl) (pe_op op_mod (pe_ix ix_u (pv 0) pe_int (fun _ _ => rfl)) (pv 1)))
  (pss_cons (ps_asg (pe_op op_fdivW (pe_ix ix_u (pv 0) pe_int (fun _ _ => rfl)) (pv 1)) (pg_sub (pv 0) pe_int set_list))
  (pss_one (ps_ret (pv 2)))))
  pss_nil)
  (pss_cons (ps_asg (pe_op op_addU (pe_ix ix_u (pv 0) pe_int (fun _ _ => rfl)) pe_int) (pg_sub (pv 0) pe_int set_list))
  (pss_cons (ps_asg (pe_op op_mod (pe_op op_addU (pe_op op_addU (pe_op op_mulW (pe_ix ix_u (pv 0) pe_int (fun _ _ => rfl)) pe_int) (pe_op op_mulW (pe_op op_mulW pe_int (pe_ix ix_u (pv 0) pe_int (fun _ _ => rfl))) (pe_ix ix_u (pv 0) pe_int (fun _ _ => rfl)))) pe_int) pe_int) (pg_sub (pv 0) pe_int set_list))
  (pss_one (ps_ret (pe_op op_mod (pe_op op_mod (pe_op op_pow (pe_op op_fdivW (pe_ix ix_u (pv 0) pe_int (fun _ _ => rfl)) pe_int) pe_int) pe_int) (pv 1)))))))) (rs_seq (rs_if (rt_test (re_op rr_gt (re_op rr_ix re_var re_int) re_int))
  (rs_seq (rs_asg (re_op rr_mod (re_op rr_ix re_var re_int) re_var) rg_n)
  (rs_seq (rs_asg (re_op rr_div (re_op rr_ix re_var re_int) re_var) (rg_sub re_var re_int))
  (rs_ret re_var)))
  rs_skip)
  (rs_seq (rs_asg (re_op rr_add (re_op rr_ix re_var re_int) re_int) (rg_sub re_var re_int))
  (rs_seq (rs_asg (re_op rr_mod (re_op rr_add (re_op rr_add (re_op rr_mulI (re_op rr_ix re_var re_int) re_int) (re_op rr_mulI (re_op rr_mulI re_int (re_op rr_ix re_var re_int)) (re_op rr_ix re_var re_int))) re_int) re_int) (rg_sub re_var re_int))
  (rs_ret (re_op rr_mod (re_op rr_mod (re_op rr_pow (re_op rr_div (re_op rr_ix re_var re_int) re_int) re_int) re_int) re_var))))), F.bindsN fun _ _ _ _ _ _ us hl => match us, hl with | [_, _], _ => rfl, T.g_law_take, F.kp⟩
/-! ### _law_names -/
abbrev s_law_names : Stmt := top 47
noncomputable def m_law_names : List D → Mem → Option (D × Mem) := mDef 7 2 (mSeq (mAsg (mC (.str "abcdefghijklmnopqrstuvwxyz")) (gmN 2))
  (mSeq (mAsg (mTup (mCons (mOp oIx (mTup (mCons (mC (.int 0)) (mCons (mC (.int 0)) (mCons (mC (.int 1)) (mCons (mC (.int 3)) (mCons (mC (.int 7)) mNil)))))) (mCall (lenIs 2 m_law_take) (mCons (mVar 0) (mCons (mC (.int 5)) mNil)))) (mCons (mCall (lenIs 2 m_law_take) (mCons (mVar 0) (mCons (mC (.int 26)) mNil))) mNil))) (gmTup 2 (gmCons (gmN 4) (gmCons (gmN 5) gmNil))))
  (mSeq (mAsg (mJoin (mC (.str "")) (mLc (iR1 (mCons (mVar 4) mNil)) (gmN 6) mYes (mOp oIx (mVar 2) (mCall (lenIs 2 m_law_take) (mCons (mVar 0) (mCons (mC (.int 26)) mNil)))) [6])) (gmN 3))
  (mRet (mLc (iR1 (mCons (mVar 1) mNil)) (gmN 6) mYes (mOp oAdd (mVar 3) (mOp oIx (mVar 2) (mOp oMod (mOp oAdd (mVar 5) (mOp oMulU (mC (.int 7)) (mVar 6))) (mC (.int 26))))) [6])))))
theorem sc_law_names : FnScope (["_law_bag_here", "_law_many", "_law_signs", "_law_base", "_law_size", "_law_first", "_law_k"] : List Str) ["_law_bag_here", "_law_many"] (defScope s_law_names) := ⟨rfl, rfl, rfl, by decide +kernel, rfl, by decide +kernel, by decide +kernel⟩
theorem ok_law_names (T : Txt w G.K mg) (hX : ∀ c, G.cA c = He.ga G.K (xnames.getD c "")) : Df P w G mg base "_law_names" 2 ["_law_bag_here", "_law_many"] m_law_names := by
  obtain ⟨fd, F⟩ := T.d_law_names
  have D_law_take := ok_law_take (P := P) (w := w) (base := base) T hX
  refine ⟨fd, fn_okD F sc_law_names (fun cdv A outer s H E hr => (pss_cons (ps_set (i := 2) sc_law_names.nd rfl (by first | exact Or.inl rfl | exact Or.inr rfl) pe_str)
  (pss_cons (ps_asg (pe_tup (pa_cons (pe_ix ix_u (pe_tup (pa_cons pe_int (pa_cons pe_int (pa_cons pe_int (pa_cons pe_int (pa_cons pe_int pa_nil)))))) (df_call (ca := G.cA) D_law_take (hr.mono (by first | decide | omega | exact Nat.le_refl _ | (simp only [Nat.add_eq]; omega))) (by rfl) (pa_cons (pv 0) (pa_cons pe_int pa_nil))) (fun _ _ => rfl)) (pa_cons (df_call (ca := G.cA) D_law_take (hr.mono (by first | decide | omega | exact Nat.le_refl _ | (simp only [Nat.add_eq]; omega))) (by rfl) (pa_cons (pv 0) (pa_cons pe_int pa_nil))) pa_nil))) (pg_tup rfl (pgs_cons (pg_name (i := 4) sc_law_names.nd rfl (by first | exact Or.inl rfl | exact Or.inr rfl)) (pgs_cons (pg_name (i := 5) sc_law_names.nd rfl (by first | exact Or.inl rfl | exact Or.inr rfl)) pgs_nil))))
  (pss_cons (ps_set (i := 3) sc_law_names.nd rfl (by first | exact Or.inl rfl | exact Or.inr rfl) (pe_join pe_str (pe_lc (own := [("_law_k", 6)]) (by rfl) sc_law_names.nd (pi_range1 (by rfl) T.n_range (pa_cons (pv 4) pa_nil)) (blkOk_by (own := [("_law_k", 6)]) (N := (["_law_bag_here", "_law_many", "_law_signs", "_law_base", "_law_size", "_law_first", "_law_k"] : List Str)) (sc := defScope s_law_names) (by decide +kernel)) (fun _ _ _ _ _ => (pg_name (i := 6) sc_law_names.nd rfl (by first | exact Or.inl rfl | exact Or.inr rfl))) (fun _ _ _ _ _ => pts_nil) (fun _ _ _ _ _ => (pe_ix ix_u (pv 2) (df_call (ca := G.cA) D_law_take (hr.mono (by first | decide | omega | exact Nat.le_refl _ | (simp only [Nat.add_eq]; omega))) (by rfl) (pa_cons (pv 0) (pa_cons pe_int pa_nil))) (fun _ _ => rfl))))))
  (pss_one (ps_ret (pe_lc (own := [("_law_k", 6)]) (by rfl) sc_law_names.nd (pi_range1 (by rfl) T.n_range (pa_cons (pv 1) pa_nil)) (blkOk_by (own := [("_law_k", 6)]) (N := (["_law_bag_here", "_law_many", "_law_signs", "_law_base", "_law_size", "_law_first", "_law_k"] : List Str)) (sc := defScope s_law_names) (by decide +kernel)) (fun _ _ _ _ _ => (pg_name (i := 6) sc_law_names.nd rfl (by first | exact Or.inl rfl | exact Or.inr rfl))) (fun _ _ _ _ _ => pts_nil) (fun _ _ _ _ _ => (pe_op op_addU (pv 3) (pe_ix ix_u (pv 2) (pe_op op_mod (pe_op op_addU (pv 5) (pe_op op_mulU pe_int (pv 6))) pe_int) (fun _ _ => rfl))))))))))) (rs_seq (rs_asg re_str rg_n)
  (rs_seq (rs_asg (re_tup (ra_cons (re_op rr_ix (re_tup (ra_cons re_int (ra_cons re_int (ra_cons re_int (ra_cons re_int (ra_cons re_int ra_nil)))))) (re_call (ra_cons re_var (ra_cons re_int ra_nil)))) (ra_cons (re_call (ra_cons re_var (ra_cons re_int ra_nil))) ra_nil))) (rg_tup (rgs_cons rg_n (rgs_cons rg_n rgs_nil))))
  (rs_seq (rs_asg (re_join re_str (re_lc (vs := [6]) (ri_r1 (ra_cons re_var ra_nil)) rg_n (kp_n (by decide)) mg_n rt_yes (re_op rr_ix re_var (re_call (ra_cons re_var (ra_cons re_int ra_nil)))))) rg_n)
  (rs_ret (re_lc (vs := [6]) (ri_r1 (ra_cons re_var ra_nil)) rg_n (kp_n (by decide)) mg_n rt_yes (re_op rr_add re_var (re_op rr_ix re_var (re_op rr_mod (re_op rr_add re_var (re_op rr_mulU re_int re_var)) re_int)))))))), F.bindsN fun _ _ _ _ _ _ us hl => match us, hl with | [_, _], _ => rfl, T.g_law_names, F.kp⟩
/-! ### _law_way -/
abbrev s_law_way : Stmt := top 48
noncomputable def m_law_way : List D → Mem → Option (D × Mem) := mDef 6 3 (mSeq (mAsg (mOp oIx (mTup (mCons (mC (.int 1)) (mCons (mC (.int 2)) (mCons (mC (.int 1)) (mCons (mC (.int 2)) (mCons (mC (.int 1)) (mCons (mC (.int 3)) mNil))))))) (mCall (lenIs 2 m_law_take) (mCons (mVar 0) (mCons (mC (.int 6)) mNil)))) (gmN 3))
  (mSeq (mAsg (mOp oAdd (mC (.int 1)) (mCall (lenIs 2 m_law_take) (mCons (mVar 0) (mCons (mVar 3) mNil)))) (gmN 4))
  (mSeq (mAsg (mOp (oEq false) (mCall (lenIs 2 m_law_take) (mCons (mVar 0) (mCons (mC (.int 3)) mNil))) (mC (.int 0))) (gmN 5))
  (mRet (mTup (mCons (mVar 1) (mCons (mVar 2) (mCons (mVar 4) (mCons (mVar 3) (mCons (mVar 5) (mCons (mAndV (mOp (oEq false) (mVar 1) (mC (.str "house"))) (mOp (oEq false) (mCall (lenIs 2 m_law_take) (mCons (mVar 0) (mCons (mC (.int 4)) mNil))) (mC (.int 0)))) mNil)))))))))))
theorem sc_law_way : FnScope (["_law_bag_here", "_law_giver", "_law_taker", "_law_most", "_law_least", "_law_loses"] : List Str) ["_law_bag_here", "_law_giver", "_law_taker"] (defScope s_law_way) := ⟨rfl, rfl, rfl, by decide +kernel, rfl, by decide +kernel, by decide +kernel⟩
theorem ok_law_way (T : Txt w G.K mg) (hX : ∀ c, G.cA c = He.ga G.K (xnames.getD c "")) : Df P w G mg base "_law_way" 2 ["_law_bag_here", "_law_giver", "_law_taker"] m_law_way := by
  obtain ⟨fd, F⟩ := T.d_law_way
  have D_law_take := ok_law_take (P := P) (w := w) (base := base) T hX
  refine ⟨fd, fn_okD F sc_law_way (fun cdv A outer s H E hr => (pss_cons (ps_set (i := 3) sc_law_way.nd rfl (by first | exact Or.inl rfl | exact Or.inr rfl) (pe_ix ix_u (pe_tup (pa_cons pe_int (pa_cons pe_int (pa_cons pe_int (pa_cons pe_int (pa_cons pe_int (pa_cons pe_int pa_nil))))))) (df_call (ca := G.cA) D_law_take (hr.mono (by first | decide | omega | exact Nat.le_refl _ | (simp only [Nat.add_eq]; omega))) (by rfl) (pa_cons (pv 0) (pa_cons pe_int pa_nil))) (fun _ _ => rfl)))
  (pss_cons (ps_set (i := 4) sc_law_way.nd rfl (by first | exact Or.inl rfl | exact Or.inr rfl) (pe_op op_addU pe_int (df_call (ca := G.cA) D_law_take (hr.mono (by first | decide | omega | exact Nat.le_refl _ | (simp only [Nat.add_eq]; omega))) (by rfl) (pa_cons (pv 0) (pa_cons (pv 3) pa_nil)))))
  (pss_cons (ps_set (i := 5) sc_law_way.nd rfl (by first | exact Or.inl rfl | exact Or.inr rfl) (pe_cmpR (op_eqD (hu64 hr)) (df_call (ca := G.cA) D_law_take (hr.mono (by first | decide | omega | exact Nat.le_refl _ | (simp only [Nat.add_eq]; omega))) (by rfl) (pa_cons (pv 0) (pa_cons pe_int pa_nil))) pe_int (nomark _)))
  (pss_one (ps_ret (pe_tup (pa_cons (pv 1) (pa_cons (pv 2) (pa_cons (pv 4) (pa_cons (pv 3) (pa_cons (pv 5) (pa_cons (pe_and (pe_cmpR (op_eqD (hu64 hr)) (pv 1) pe_str (nomark _)) (pe_one (pe_cmpR (op_eqD (hu64 hr)) (df_call (ca := G.cA) D_law_take (hr.mono (by first | decide | omega | exact Nat.le_refl _ | (simp only [Nat.add_eq]; omega))) (by rfl) (pa_cons (pv 0) (pa_cons pe_int pa_nil))) pe_int (nomark _)))) pa_nil))))))))))))) (rs_seq (rs_asg (re_op rr_ix (re_tup (ra_cons re_int (ra_cons re_int (ra_cons re_int (ra_cons re_int (ra_cons re_int (ra_cons re_int ra_nil))))))) (re_call (ra_cons re_var (ra_cons re_int ra_nil)))) rg_n)
  (rs_seq (rs_asg (re_op rr_add re_int (re_call (ra_cons re_var (ra_cons re_var ra_nil)))) rg_n)
  (rs_seq (rs_asg (re_op rr_eq (re_call (ra_cons re_var (ra_cons re_int ra_nil))) re_int) rg_n)
  (rs_ret (re_tup (ra_cons re_var (ra_cons re_var (ra_cons re_var (ra_cons re_var (ra_cons re_var (ra_cons (re_and (re_op rr_eq re_var re_str) (re_op rr_eq (re_call (ra_cons re_var (ra_cons re_int ra_nil))) re_int)) ra_nil))))))))))), F.bindsN fun _ _ _ _ _ _ us hl => match us, hl with | [_, _, _], _ => rfl, T.g_law_way, F.kp⟩
/-! ### _law_habits -/
abbrev s_law_habits : Stmt := top 49
noncomputable def m_law_habits : List D → Mem → Option (D × Mem) := mDef 11 2 (mSeq (mAsg (mCall (lenIs 2 m_law_names) (mCons (mVar 0) (mCons (mCall fMin2 (mCons (mVar 1) (mCons (mOp oIx (mTup (mCons (mC (.int 2)) (mCons (mC (.int 2)) (mCons (mC (.int 1)) (mCons (mC (.int 2)) (mCons (mC (.int 3)) (mCons (mC (.int 2)) mNil))))))) (mCall (lenIs 2 m_law_take) (mCons (mVar 0) (mCons (mC (.int 6)) mNil)))) mNil))) mNil))) (gmN 2))
  (mSeq (mPar 7 8 (mCons (mLst mNil) (mCons (mLst mNil) mNil)))
  (mSeq (mFor (iL (mVar 2)) (gmN 3)
  (mSeq (mAsg (mOp oIx (mTup (mCons (mC (.str "saying")) (mCons (mC (.str "saying")) (mCons (mC (.str "still")) mNil)))) (mCall (lenIs 2 m_law_take) (mCons (mVar 0) (mCons (mC (.int 3)) mNil)))) (gmN 9))
  (mSeq (mEx (mBM fAppend (mVar 7) (mCons (mTup (mCons (mVar 3) (mCons (mVar 9) (mCons (mOp oIx (mTup (mCons (mC (.int 1)) (mCons (mC (.int 2)) (mCons (mC (.int 1)) (mCons (mC (.int 2)) (mCons (mC (.int 1)) (mCons (mC (.int 3)) (mCons (mC .non) (mCons (mC (.int 2)) mNil))))))))) (mCall (lenIs 2 m_law_take) (mCons (mVar 0) (mCons (mC (.int 8)) mNil)))) mNil)))) mNil)))
  (mAsg (mOp oAdd (mOp oAdd (mVar 8) (mLst (mCons (mTup (mCons (mVar 3) (mCons (mC (.str "house")) mNil))) mNil))) (mOp oMulU (mLst (mCons (mTup (mCons (mC (.str "house")) (mCons (mVar 3) mNil))) mNil)) (mCall fIntU (mCons (mOp oGt (mCall (lenIs 2 m_law_take) (mCons (mVar 0) (mCons (mC (.int 6)) mNil))) (mC (.int 0))) mNil)))) (gmN 8)))))
  (mSeq (mFor (iR1 (mCons (mC (.int 2)) mNil)) (gmN 4)
  (mSeq (mAsg (mTup (mCons (mOp oIx (mVar 2) (mCall (lenIs 2 m_law_take) (mCons (mVar 0) (mCons (mCall fLen (mCons (mVar 2) mNil)) mNil)))) (mCons (mOp oIx (mVar 2) (mCall (lenIs 2 m_law_take) (mCons (mVar 0) (mCons (mCall fLen (mCons (mVar 2) mNil)) mNil)))) mNil))) (gmN 10))
  (mIf (mAnd (mTs (mOp (oEq true) (mOp oIx (mVar 10) (mC (.int 0))) (mOp oIx (mVar 10) (mC (.int 1))))) (mTs (mOp (oIn true) (mVar 10) (mVar 8))))
  (mEx (mBM fAppend (mVar 8) (mCons (mVar 10) mNil)))
  mSkip)))
  (mSeq (mAsg (mCall (lenIs 2 m_law_take) (mCons (mVar 0) (mCons (mCall fLen (mCons (mVar 8) mNil)) mNil))) (gmN 5))
  (mSeq (mAsg (mLc (iL (mOp oAdd (mSl (mVar 8) (mPt (mVar 5)) mNo) (mSl (mVar 8) mNo (mPt (mVar 5))))) (gmN 10) mYes (mCall (lenIs 3 m_law_way) (mCons (mVar 0) (mCons (mOp oIx (mVar 10) (mC (.int 0))) (mCons (mOp oIx (mVar 10) (mC (.int 1))) mNil)))) [10]) (gmN 6))
  (mRet (mTup (mCons (mCall fTuple (mCons (mVar 7) mNil)) (mCons (mCall fTuple (mCons (mVar 6) mNil)) (mCons (mOp oIx (mTup (mCons (mC (.int 1)) (mCons (mC (.int 1)) (mCons (mC (.int 2)) (mCons (mC (.int 0)) mNil))))) (mCall (lenIs 2 m_law_take) (mCons (mVar 0) (mCons (mC (.int 4)) mNil)))) mNil)))))))))))
theorem sc_law_habits : FnScope (["_law_bag_here", "_law_most", "_law_names_here", "_law_text_here", "_law_k", "_law_turn", "_law_ways", "_law_folk", "_law_ends", "_law_kind", "_law_pair"] : List Str) ["_law_bag_here", "_law_most"] (defScope s_law_habits) := ⟨rfl, rfl, rfl, by decide +kernel, rfl, by decide +kernel, by decide +kernel⟩
theorem ok_law_habits (T : Txt w G.K mg) (hX : ∀ c, G.cA c = He.ga G.K (xnames.getD c "")) : Df P w G mg base "_law_habits" 3 ["_law_bag_here", "_law_most"] m_law_habits := by
  obtain ⟨fd, F⟩ := T.d_law_habits
  have D_law_names := ok_law_names (P := P) (w := w) (base := base) T hX
  have D_law_take := ok_law_take (P := P) (w := w) (base := base) T hX
  have D_law_way := ok_law_way (P := P) (w := w) (base := base) T hX
  refine ⟨fd, fn_okD F sc_law_habits (fun cdv A outer s H E hr => (pss_cons (ps_set (i := 2) sc_law_habits.nd rfl (by first | exact Or.inl rfl | exact Or.inr rfl) (df_call (ca := G.cA) D_law_names (hr.mono (by first | decide | omega | exact Nat.le_refl _ | (simp only [Nat.add_eq]; omega))) (by rfl) (pa_cons (pv 0) (pa_cons (pe_callB (call_min2 rfl) (by rfl) T.n_min (by decide +kernel) (pa_cons (pv 1) (pa_cons (pe_ix ix_u (pe_tup (pa_cons pe_int (pa_cons pe_int (pa_cons pe_int (pa_cons pe_int (pa_cons pe_int (pa_cons pe_int pa_nil))))))) (df_call (ca := G.cA) D_law_take (hr.mono (by first | decide | omega | exact Nat.le_refl _ | (simp only [Nat.add_eq]; omega))) (by rfl) (pa_cons (pv 0) (pa_cons pe_int pa_nil))) (fun _ _ => rfl)) pa_nil))) pa_nil))))
  (pss_cons (ps_par (i := 7) (j := 8) rfl sc_law_habits.nd rfl rfl (by decide) rfl rfl (pa_cons (pe_lst pa_nil) (pa_cons (pe_lst pa_nil) pa_nil)) (by rfl))
  (pss_cons (ps_for PassesOwn.never rfl (pi_list (pv 2)) (pg_name (i := 3) sc_law_habits.nd rfl (by first | exact Or.inl rfl | exact Or.inr rfl))
  (pss_cons (ps_set (i := 9) sc_law_habits.nd rfl (by first | exact Or.inl rfl | exact Or.inr rfl) (pe_ix ix_u (pe_tup (pa_cons pe_str (pa_cons pe_str (pa_cons pe_str pa_nil)))) (df_call (ca := G.cA) D_law_take (hr.mono (by first | decide | omega | exact Nat.le_refl _ | (simp only [Nat.add_eq]; omega))) (by rfl) (pa_cons (pv 0) (pa_cons pe_int pa_nil))) (fun _ _ => rfl)))
  (pss_cons (ps_expr (pe_bm PySem.F.plainAttrs_list PySem.F.slot_list_append PySem.F.type_list_append mt_append (pv 7) (pa_cons (pe_tup (pa_cons (pv 3) (pa_cons (pv 9) (pa_cons (pe_ix ix_u (pe_tup (pa_cons pe_int (pa_cons pe_int (pa_cons pe_int (pa_cons pe_int (pa_cons pe_int (pa_cons pe_int (pa_cons pe_non (pa_cons pe_int pa_nil))))))))) (df_call (ca := G.cA) D_law_take (hr.mono (by first | decide | omega | exact Nat.le_refl _ | (simp only [Nat.add_eq]; omega))) (by rfl) (pa_cons (pv 0) (pa_cons pe_int pa_nil))) (fun _ _ => rfl)) pa_nil)))) pa_nil)))
  (pss_one (ps_set (i := 8) sc_law_habits.nd rfl (by first | exact Or.inl rfl | exact Or.inr rfl) (pe_op op_addU (pe_op op_addU (pv 8) (pe_lst (pa_cons (pe_tup (pa_cons (pv 3) (pa_cons pe_str pa_nil))) pa_nil))) (pe_op op_mulU (pe_lst (pa_cons (pe_tup (pa_cons pe_str (pa_cons (pv 3) pa_nil))) pa_nil)) (pe_callTy call_intU (by rfl) T.n_int (by decide +kernel) (pa_cons (pe_cmpR op_gt (df_call (ca := G.cA) D_law_take (hr.mono (by first | decide | omega | exact Nat.le_refl _ | (simp only [Nat.add_eq]; omega))) (by rfl) (pa_cons (pv 0) (pa_cons pe_int pa_nil))) pe_int (nomark _)) pa_nil)))))))))
  (pss_cons (ps_for PassesOwn.never rfl (pi_range1 (by rfl) T.n_range (pa_cons pe_int pa_nil)) (pg_name (i := 4) sc_law_habits.nd rfl (by first | exact Or.inl rfl | exact Or.inr rfl))
  (pss_cons (ps_set (i := 10) sc_law_habits.nd rfl (by first | exact Or.inl rfl | exact Or.inr rfl) (pe_tup (pa_cons (pe_ix ix_u (pv 2) (df_call (ca := G.cA) D_law_take (hr.mono (by first | decide | omega | exact Nat.le_refl _ | (simp only [Nat.add_eq]; omega))) (by rfl) (pa_cons (pv 0) (pa_cons (pe_callB cr_lenU (by rfl) T.n_len (PySem.boot_len) (pa_cons (pv 2) pa_nil)) pa_nil))) (fun _ _ => rfl)) (pa_cons (pe_ix ix_u (pv 2) (df_call (ca := G.cA) D_law_take (hr.mono (by first | decide | omega | exact Nat.le_refl _ | (simp only [Nat.add_eq]; omega))) (by rfl) (pa_cons (pv 0) (pa_cons (pe_callB cr_lenU (by rfl) T.n_len (PySem.boot_len) (pa_cons (pv 2) pa_nil)) pa_nil))) (fun _ _ => rfl)) pa_nil))))
  (pss_one (ps_if (PW.pt (pw_and (pt_cmpR (op_neD (hu64 hr)) (pe_ix ix_u (pv 10) pe_int (fun _ _ => rfl)) (pe_ix ix_u (pv 10) pe_int (fun _ _ => rfl)) (nomark _)) (pw_and1 (pt_cmpR (op_niU (hu65 hr)) (pv 10) (pv 8) (by rfl)))))
  (pss_one (ps_expr (pe_bm PySem.F.plainAttrs_list PySem.F.slot_list_append PySem.F.type_list_append mt_append (pv 8) (pa_cons (pv 10) pa_nil))))
  pss_nil))))
  (pss_cons (ps_set (i := 5) sc_law_habits.nd rfl (by first | exact Or.inl rfl | exact Or.inr rfl) (df_call (ca := G.cA) D_law_take (hr.mono (by first | decide | omega | exact Nat.le_refl _ | (simp only [Nat.add_eq]; omega))) (by rfl) (pa_cons (pv 0) (pa_cons (pe_callB cr_lenU (by rfl) T.n_len (PySem.boot_len) (pa_cons (pv 8) pa_nil)) pa_nil))))
  (pss_cons (ps_setLc (i := 6) (own := [("_law_pair", 10)]) (by rfl) sc_law_habits.nd rfl rfl (sw_true rfl rfl rfl (by decide +kernel)) (pi_list (pe_op op_addU (pe_slice sl_u (pv 8) (po_some (pv 5)) po_none) (pe_slice sl_u (pv 8) po_none (po_some (pv 5))))) (blkOk_by (own := [("_law_pair", 10)]) (N := (["_law_bag_here", "_law_most", "_law_names_here", "_law_text_here", "_law_k", "_law_turn", "_law_ways", "_law_folk", "_law_ends", "_law_kind", "_law_pair"] : List Str)) (sc := defScope s_law_habits) (by decide +kernel)) (fun _ _ _ _ _ => (pg_name (i := 10) sc_law_habits.nd rfl (by first | exact Or.inl rfl | exact Or.inr rfl))) (fun _ _ _ _ _ => pts_nil) (fun _ _ _ _ _ => (df_call (ca := G.cA) D_law_way (hr.mono (by first | decide | omega | exact Nat.le_refl _ | (simp only [Nat.add_eq]; omega))) (by rfl) (pa_cons (pv 0) (pa_cons (pe_ix ix_u (pv 10) pe_int (fun _ _ => rfl)) (pa_cons (pe_ix ix_u (pv 10) pe_int (fun _ _ => rfl)) pa_nil))))))
  (pss_one (ps_ret (pe_tup (pa_cons (pe_callTy call_tuple_of (by rfl) T.n_tuple (by decide +kernel) (pa_cons (pv 7) pa_nil)) (pa_cons (pe_callTy call_tuple_of (by rfl) T.n_tuple (by decide +kernel) (pa_cons (pv 6) pa_nil)) (pa_cons (pe_ix ix_u (pe_tup (pa_cons pe_int (pa_cons pe_int (pa_cons pe_int (pa_cons pe_int pa_nil))))) (df_call (ca := G.cA) D_law_take (hr.mono (by first | decide | omega | exact Nat.le_refl _ | (simp only [Nat.add_eq]; omega))) (by rfl) (pa_cons (pv 0) (pa_cons pe_int pa_nil))) (fun _ _ => rfl)) pa_nil))))))))))))) (rs_seq (rs_asg (re_call (ra_cons re_var (ra_cons (re_cb rc_I2 (ra_cons re_var (ra_cons (re_op rr_ix (re_tup (ra_cons re_int (ra_cons re_int (ra_cons re_int (ra_cons re_int (ra_cons re_int (ra_cons re_int ra_nil))))))) (re_call (ra_cons re_var (ra_cons re_int ra_nil)))) ra_nil))) ra_nil))) rg_n)
  (rs_seq (rs_par (ra_cons (re_lst ra_nil) (ra_cons (re_lst ra_nil) ra_nil)))
  (rs_seq (rs_for (ri_l re_var) rg_n
  (rs_seq (rs_asg (re_op rr_ix (re_tup (ra_cons re_str (ra_cons re_str (ra_cons re_str ra_nil)))) (re_call (ra_cons re_var (ra_cons re_int ra_nil)))) rg_n)
  (rs_seq (rs_ex (re_bmL re_var (ra_cons (re_tup (ra_cons re_var (ra_cons re_var (ra_cons (re_op rr_ix (re_tup (ra_cons re_int (ra_cons re_int (ra_cons re_int (ra_cons re_int (ra_cons re_int (ra_cons re_int (ra_cons re_non (ra_cons re_int ra_nil))))))))) (re_call (ra_cons re_var (ra_cons re_int ra_nil)))) ra_nil)))) ra_nil) rm_append))
  (rs_asg (re_op rr_add (re_op rr_add re_var (re_lst (ra_cons (re_tup (ra_cons re_var (ra_cons re_str ra_nil))) ra_nil))) (re_op rr_mulU (re_lst (ra_cons (re_tup (ra_cons re_str (ra_cons re_var ra_nil))) ra_nil)) (re_cb rc_intU (ra_cons (re_op rr_gt (re_call (ra_cons re_var (ra_cons re_int ra_nil))) re_int) ra_nil)))) rg_n))))
  (rs_seq (rs_for (ri_r1 (ra_cons re_int ra_nil)) rg_n
  (rs_seq (rs_asg (re_tup (ra_cons (re_op rr_ix re_var (re_call (ra_cons re_var (ra_cons (re_cb rc_len (ra_cons re_var ra_nil)) ra_nil)))) (ra_cons (re_op rr_ix re_var (re_call (ra_cons re_var (ra_cons (re_cb rc_len (ra_cons re_var ra_nil)) ra_nil)))) ra_nil))) rg_n)
  (rs_if (rt_and (rt_test (re_op rr_ne (re_op rr_ix re_var re_int) (re_op rr_ix re_var re_int))) (rt_test (re_op rr_ni re_var re_var)))
  (rs_ex (re_bmL re_var (ra_cons re_var ra_nil) rm_append))
  rs_skip)))
  (rs_seq (rs_asg (re_call (ra_cons re_var (ra_cons (re_cb rc_len (ra_cons re_var ra_nil)) ra_nil))) rg_n)
  (rs_seq (rs_asg (re_lc (vs := [10]) (ri_l (re_op rr_add (re_sl re_var (ro_pt re_var) ro_no) (re_sl re_var ro_no (ro_pt re_var)))) rg_n (kp_n (by decide)) mg_n rt_yes (re_call (ra_cons re_var (ra_cons (re_op rr_ix re_var re_int) (ra_cons (re_op rr_ix re_var re_int) ra_nil))))) rg_n)
  (rs_ret (re_tup (ra_cons (re_cb rc_tuple (ra_cons re_var ra_nil)) (ra_cons (re_cb rc_tuple (ra_cons re_var ra_nil)) (ra_cons (re_op rr_ix (re_tup (ra_cons re_int (ra_cons re_int (ra_cons re_int (ra_cons re_int ra_nil))))) (re_call (ra_cons re_var (ra_cons re_int ra_nil)))) ra_nil))))))))))), F.bindsN fun _ _ _ _ _ _ us hl => match us, hl with | [_, _], _ => rfl, T.g_law_habits, F.kp⟩
/-! ### _law_made -/
abbrev s_law_made : Stmt := top 50
noncomputable def m_law_made : List D → Mem → Option (D × Mem) := mDef 1 1 (mRet (mMakeK 0 4 2 1 m_Habits_init (mCons (mOp oIx (mVar 0) (mC (.int 0))) (mCons (mOp oIx (mVar 0) (mC (.int 1))) mNil)) (mCons (mOp oIx (mVar 0) (mC (.int 2))) mNil)))
theorem sc_law_made : FnScope (["_law_habits_here"] : List Str) ["_law_habits_here"] (defScope s_law_made) := ⟨rfl, rfl, rfl, by decide +kernel, rfl, by decide +kernel, by decide +kernel⟩
theorem ok_law_made (T : Txt w G.K mg) (hC_Habits : G.cA 0 = He.ga G.K "Habits") (hX : ∀ c, G.cA c = He.ga G.K (xnames.getD c "")) : Df P w G mg base "_law_made" 7 ["_law_habits_here"] m_law_made := by
  obtain ⟨fd, F⟩ := T.d_law_made
  have D_Habits_init := ok_Habits_init (P := P) (w := w) (base := base) T hC_Habits hX
  refine ⟨fd, fn_okD F sc_law_made (fun cdv A outer s H E hr => (pss_one (ps_ret (dc_makeK (ca := G.cA) D_Habits_init (hr.mono (by decide)) (by rfl) (pa_cons (pe_ix ix_u (pv 0) pe_int (fun _ _ => rfl)) (pa_cons (pe_ix ix_u (pv 0) pe_int (fun _ _ => rfl)) pa_nil)) (pk_cons (pe_ix ix_u (pv 0) pe_int (fun _ _ => rfl)) pk_nil))))) (rs_ret (re_makeK (ra_cons (re_op rr_ix re_var re_int) (ra_cons (re_op rr_ix re_var re_int) ra_nil)) (ra_cons (re_op rr_ix re_var re_int) ra_nil))), F.bindsN fun _ _ _ _ _ _ us hl => match us, hl with | [_], _ => rfl, T.g_law_made, F.kp⟩
/-! ### _law_text -/
abbrev s_law_text : Stmt := top 51
noncomputable def m_law_text : List D → Mem → Option (D × Mem) := mDef 12 1 (mSeq (mAsg (mLst (mCons (mOp oAdd (mC (.str "steps ")) (mCall fStrI (mCons (mOp oIx (mVar 0) (mC (.int 2))) mNil))) mNil)) (gmN 1))
  (mSeq (mFor (iT (mOp oIx (mVar 0) (mC (.int 0)))) (gmTup 3 (gmCons (gmN 2) (gmCons (gmN 3) (gmCons (gmN 4) gmNil))))
  (mEx (mBM fAppend (mVar 1) (mCons (mOp oAdd (mOp oAdd (mOp oAdd (mOp oAdd (mOp oAdd (mC (.str "folk ")) (mVar 2)) (mC (.str " "))) (mVar 3)) (mC (.str " "))) (mIte (mTs (mOp (oIs false) (mVar 4) (mC .non))) (mC (.str "-")) (mCall fStrI (mCons (mVar 4) mNil)))) mNil))))
  (mSeq (mFor (iT (mOp oIx (mVar 0) (mC (.int 1)))) (gmTup 6 (gmCons (gmN 5) (gmCons (gmN 6) (gmCons (gmN 7) (gmCons (gmN 8) (gmCons (gmN 9) (gmCons (gmN 10) gmNil)))))))
  (mSeq (mAsg (mOp oAdd (mOp oAdd (mOp oAdd (mOp oAdd (mOp oAdd (mOp oAdd (mOp oAdd (mC (.str "way ")) (mVar 5)) (mC (.str " "))) (mVar 6)) (mC (.str " "))) (mCall fStrI (mCons (mVar 7) mNil))) (mC (.str " "))) (mCall fStrI (mCons (mVar 8) mNil))) (gmN 11))
  (mEx (mBM fAppend (mVar 1) (mCons (mOp oAdd (mOp oAdd (mVar 11) (mOp oMulU (mC (.str " loses")) (mCall fIntU (mCons (mVar 9) mNil)))) (mOp oMulU (mC (.str " twice")) (mCall fIntU (mCons (mVar 10) mNil)))) mNil)))))
  (mRet (mJoin (mC (.str "\n")) (mVar 1))))))
theorem sc_law_text : FnScope (["_law_habits_here", "_law_lines", "_law_text_here", "_law_kind", "_law_keep", "_law_giver", "_law_taker", "_law_least", "_law_most", "_law_loses", "_law_twice", "_law_line"] : List Str) ["_law_habits_here"] (defScope s_law_text) := ⟨rfl, rfl, rfl, by decide +kernel, rfl, by decide +kernel, by decide +kernel⟩
theorem ok_law_text (T : Txt w G.K mg) (hX : ∀ c, G.cA c = He.ga G.K (xnames.getD c "")) : Df P w G mg base "_law_text" 1 ["_law_habits_here"] m_law_text := by
  obtain ⟨fd, F⟩ := T.d_law_text
  refine ⟨fd, fn_okD F sc_law_text (fun cdv A outer s H E hr => (pss_cons (ps_set (i := 1) sc_law_text.nd rfl (by first | exact Or.inl rfl | exact Or.inr rfl) (pe_lst (pa_cons (pe_op op_addU pe_str (pe_callTy call_str_int (by rfl) T.n_str (by decide +kernel) (pa_cons (pe_ix ix_u (pv 0) pe_int (fun _ _ => rfl)) pa_nil))) pa_nil)))
  (pss_cons (ps_for PassesOwn.never rfl (pi_tup (pe_ix ix_u (pv 0) pe_int (fun _ _ => rfl))) (pg_tup rfl (pgs_cons (pg_name (i := 2) sc_law_text.nd rfl (by first | exact Or.inl rfl | exact Or.inr rfl)) (pgs_cons (pg_name (i := 3) sc_law_text.nd rfl (by first | exact Or.inl rfl | exact Or.inr rfl)) (pgs_cons (pg_name (i := 4) sc_law_text.nd rfl (by first | exact Or.inl rfl | exact Or.inr rfl)) pgs_nil))))
  (pss_one (ps_expr (pe_bm PySem.F.plainAttrs_list PySem.F.slot_list_append PySem.F.type_list_append mt_append (pv 1) (pa_cons (pe_op op_addU (pe_op op_addU (pe_op op_addU (pe_op op_addU (pe_op op_addU pe_str (pv 2)) pe_str) (pv 3)) pe_str) (pe_ifExp (pt_cmpR op_isN (pv 4) pe_non (nomark _)) pe_str (pe_callTy call_str_int (by rfl) T.n_str (by decide +kernel) (pa_cons (pv 4) pa_nil)))) pa_nil)))))
  (pss_cons (ps_for PassesOwn.never rfl (pi_tup (pe_ix ix_u (pv 0) pe_int (fun _ _ => rfl))) (pg_tup rfl (pgs_cons (pg_name (i := 5) sc_law_text.nd rfl (by first | exact Or.inl rfl | exact Or.inr rfl)) (pgs_cons (pg_name (i := 6) sc_law_text.nd rfl (by first | exact Or.inl rfl | exact Or.inr rfl)) (pgs_cons (pg_name (i := 7) sc_law_text.nd rfl (by first | exact Or.inl rfl | exact Or.inr rfl)) (pgs_cons (pg_name (i := 8) sc_law_text.nd rfl (by first | exact Or.inl rfl | exact Or.inr rfl)) (pgs_cons (pg_name (i := 9) sc_law_text.nd rfl (by first | exact Or.inl rfl | exact Or.inr rfl)) (pgs_cons (pg_name (i := 10) sc_law_text.nd rfl (by first | exact Or.inl rfl | exact Or.inr rfl)) pgs_nil)))))))
  (pss_cons (ps_set (i := 11) sc_law_text.nd rfl (by first | exact Or.inl rfl | exact Or.inr rfl) (pe_op op_addU (pe_op op_addU (pe_op op_addU (pe_op op_addU (pe_op op_addU (pe_op op_addU (pe_op op_addU pe_str (pv 5)) pe_str) (pv 6)) pe_str) (pe_callTy call_str_int (by rfl) T.n_str (by decide +kernel) (pa_cons (pv 7) pa_nil))) pe_str) (pe_callTy call_str_int (by rfl) T.n_str (by decide +kernel) (pa_cons (pv 8) pa_nil))))
  (pss_one (ps_expr (pe_bm PySem.F.plainAttrs_list PySem.F.slot_list_append PySem.F.type_list_append mt_append (pv 1) (pa_cons (pe_op op_addU (pe_op op_addU (pv 11) (pe_op op_mulU pe_str (pe_callTy call_intU (by rfl) T.n_int (by decide +kernel) (pa_cons (pv 9) pa_nil)))) (pe_op op_mulU pe_str (pe_callTy call_intU (by rfl) T.n_int (by decide +kernel) (pa_cons (pv 10) pa_nil)))) pa_nil))))))
  (pss_one (ps_ret (pe_join pe_str (pv 1)))))))) (rs_seq (rs_asg (re_lst (ra_cons (re_op rr_add re_str (re_cb rc_strI (ra_cons (re_op rr_ix re_var re_int) ra_nil))) ra_nil)) rg_n)
  (rs_seq (rs_for (ri_t (re_op rr_ix re_var re_int)) (rg_tup (rgs_cons rg_n (rgs_cons rg_n (rgs_cons rg_n rgs_nil))))
  (rs_ex (re_bmL re_var (ra_cons (re_op rr_add (re_op rr_add (re_op rr_add (re_op rr_add (re_op rr_add re_str re_var) re_str) re_var) re_str) (re_ite (rt_test (re_op rr_isN re_var re_non)) re_str (re_cb rc_strI (ra_cons re_var ra_nil)))) ra_nil) rm_append)))
  (rs_seq (rs_for (ri_t (re_op rr_ix re_var re_int)) (rg_tup (rgs_cons rg_n (rgs_cons rg_n (rgs_cons rg_n (rgs_cons rg_n (rgs_cons rg_n (rgs_cons rg_n rgs_nil)))))))
  (rs_seq (rs_asg (re_op rr_add (re_op rr_add (re_op rr_add (re_op rr_add (re_op rr_add (re_op rr_add (re_op rr_add re_str re_var) re_str) re_var) re_str) (re_cb rc_strI (ra_cons re_var ra_nil))) re_str) (re_cb rc_strI (ra_cons re_var ra_nil))) rg_n)
  (rs_ex (re_bmL re_var (ra_cons (re_op rr_add (re_op rr_add re_var (re_op rr_mulU re_str (re_cb rc_intU (ra_cons re_var ra_nil)))) (re_op rr_mulU re_str (re_cb rc_intU (ra_cons re_var ra_nil)))) ra_nil) rm_append))))
  (rs_ret (re_join re_str re_var))))), F.bindsN fun _ _ _ _ _ _ us hl => match us, hl with | [_], _ => rfl, T.g_law_text, F.kp⟩
/-! ### law -/
abbrev s_law : Stmt := top 52
noncomputable def m_law : List D → Mem → Option (D × Mem) := mDef 9 1 (mSeq (mFor (iR1 (mCons (mCall fMax2 (mCons (mC (.int 4)) (mCons (mCall fMin2 (mCons (mC (.int 8)) (mCons (mCall fLen (mCons (mVar 0) mNil)) mNil))) mNil))) mNil)) (gmN 1)
  (mSeq (mAsg (mCall (lenIs 2 m_law_bag) (mCons (mVar 0) (mCons (mVar 1) mNil))) (gmN 2))
  (mSeq (mAsg (mCall (lenIs 2 m_law_habits) (mCons (mVar 2) (mCons (mC (.int 3)) mNil))) (gmN 3))
  (mSeq (mPar 7 8 (mCons (mCall (lenIs 1 m_law_made) (mCons (mVar 3) mNil)) (mCons (mCall (lenIs 1 m_law_text) (mCons (mVar 3) mNil)) mNil)))
  (mSeq (mAsg (mCall (lenIs 1 m_show_habits) (mCons (mVar 7) mNil)) (gmN 4))
  (mSeq (mIf (mOr (mNot (mTs (mCall fIsi (mCons (mVar 4) (mCons (mC (.ty "str")) mNil))))) (mOr (mTs (mOp (oEq true) (mVar 4) (mVar 8))) (mTs (mOp (oEq true) (mCall (lenIs 1 m_show_habits) (mCons (mCall (lenIs 1 m_law_made) (mCons (mVar 3) mNil)) mNil)) (mVar 8)))))
  (mRet (mC (.bl false)))
  mSkip)
  (mSeq (mAsg (mCall (lenIs 1 m_read_habits) (mCons (mVar 8) mNil)) (gmN 5))
  (mSeq (mIf (mOr (mNot (mTs (mCall (fIsiO 0) (mCons (mVar 5) (mCons (mC (.cl 0)) mNil))))) (mOr (mTs (mOp (oNeOwn 0 m_Habits_eq) (mVar 5) (mVar 7))) (mTs (mOp (oEq true) (mTup (mCons (mFld 0 "folk" (mVar 5)) (mCons (mFld 0 "ways" (mVar 5)) (mCons (mFld 0 "steps" (mVar 5)) mNil)))) (mVar 3)))))
  (mRet (mC (.bl false)))
  mSkip)
  (mSeq (mIf (mOr (mTs (mOp (oNeOwn 0 m_Habits_eq) (mCall (lenIs 1 m_read_habits) (mCons (mVar 8) mNil)) (mVar 5))) (mOr (mTs (mOp (oEq true) (mCall (lenIs 1 m_show_habits) (mCons (mVar 5) mNil)) (mVar 8))) (mTs (mOp (oEq true) (mCall (fLenOwn 0 m_Habits_len) (mCons (mVar 5) mNil)) (mCall fLen (mCons (mOp oIx (mVar 3) (mC (.int 0))) mNil))))))
  (mRet (mC (.bl false)))
  mSkip)
  (mSeq (mAsg (mCall (lenIs 2 m_law_habits) (mCons (mVar 2) (mCons (mC (.int 3)) mNil))) (gmN 6))
  (mSeq (mIf (mTs (mOp (oEq true) (mOp (oEqA 0 m_Habits_eq) (mCall (lenIs 1 m_read_habits) (mCons (mCall (lenIs 1 m_law_text) (mCons (mVar 6) mNil)) mNil)) (mVar 5)) (mOp (oEq false) (mVar 6) (mVar 3))))
  (mRet (mC (.bl false)))
  mSkip)
  (mIf (mTs (mOp (oEqA 0 m_Habits_eq) (mCall (lenIs 1 m_read_habits) (mCons (mCall (lenIs 1 m_law_text) (mCons (mTup (mCons (mOp oIx (mVar 3) (mC (.int 0))) (mCons (mOp oIx (mVar 3) (mC (.int 1))) (mCons (mOp oMod (mOp oAdd (mOp oIx (mVar 3) (mC (.int 2))) (mC (.int 1))) (mC (.int 3))) mNil)))) mNil)) mNil)) (mVar 5)))
  (mRet (mC (.bl false)))
  mSkip))))))))))))
  (mRet (mC (.bl true))))
theorem sc_law : FnScope (["_law_script", "_law_k", "_law_bag_here", "_law_habits_here", "_law_told", "_law_found", "_law_other", "_law_made_here", "_law_text_here"] : List Str) ["_law_script"] (defScope s_law) := ⟨rfl, rfl, rfl, by decide +kernel, rfl, by decide +kernel, by decide +kernel⟩
theorem ok_law (T : Txt w G.K mg) (hC_Habits : G.cA 0 = He.ga G.K "Habits") (hX : ∀ c, G.cA c = He.ga G.K (xnames.getD c "")) : ∃ fd, FnP G.K "law" (top 52) (He.ga G.K "law") fd ∧ ∀ base : Heap, FnOk P w G.K mg base CX0 8 (He.ga G.K "law") fd ["_law_script"] (spM G m_law 1) := by
  obtain ⟨fd, F⟩ := T.d_law
  refine ⟨fd, F, fun base => ?_⟩
  have D_Habits_eq := ok_Habits_eq (P := P) (w := w) (base := base) T hC_Habits hX
  have D_Habits_len := ok_Habits_len (P := P) (w := w) (base := base) T hC_Habits hX
  have D_law_bag := ok_law_bag (P := P) (w := w) (base := base) T hX
  have D_law_habits := ok_law_habits (P := P) (w := w) (base := base) T hX
  have D_law_made := ok_law_made (P := P) (w := w) (base := base) T hC_Habits hX
  have D_law_text := ok_law_text (P := P) (w := w) (base := base) T hX
  have D_read_habits := ok_read_habits (P := P) (w := w) (base := base) T hC_Habits hX
  have D_show_habits := ok_show_habits (P := P) (w := w) (base := base) T hC_Habits hX
  have gv_Habits : mg "Habits" = some (.ref (G.cA 0)) := by rw [hC_Habits]; exact T.g_Habits
  have cx_Habits : XH.ClsX G.K (G.cA 0) := by rw [hC_Habits]; exact T.cx_Habits
  have np_Habits : NoPl G.K (G.cA 0) := by rw [hC_Habits]; exact T.np_Habits
  have ne_Habits : PySem.W.findIn G.K (.ref (G.cA 0)) "__ne__" = some (some (.builtin "object.__ne__")) := by rw [hC_Habits]; exact T.ne_Habits
  have cl_Habits : Cls G.K (G.cA 0) := by rw [hC_Habits]; exact T.cls_Habits
  have na_Habits_folk : NoAttr G.K (G.cA 0) "folk" := by rw [hC_Habits]; exact T.na_Habits_folk
  have na_Habits_steps : NoAttr G.K (G.cA 0) "steps" := by rw [hC_Habits]; exact T.na_Habits_steps
  have na_Habits_ways : NoAttr G.K (G.cA 0) "ways" := by rw [hC_Habits]; exact T.na_Habits_ways
  exact fn_okD F sc_law (fun cdv A outer s H E hr => (pss_cons (ps_for PassesOwn.never rfl (pi_range1 (by rfl) T.n_range (pa_cons (pe_callB (call_max2 rfl) (by rfl) T.n_max (by decide +kernel) (pa_cons pe_int (pa_cons (pe_callB (call_min2 rfl) (by rfl) T.n_min (by decide +kernel) (pa_cons pe_int (pa_cons (pe_callB cr_lenU (by rfl) T.n_len (PySem.boot_len) (pa_cons (pv 0) pa_nil)) pa_nil))) pa_nil))) pa_nil)) (pg_name (i := 1) sc_law.nd rfl (by first | exact Or.inl rfl | exact Or.inr rfl))
  (pss_cons (ps_set (i := 2) sc_law.nd rfl (by first | exact Or.inl rfl | exact Or.inr rfl) (df_call (ca := G.cA) D_law_bag (hr.mono (by first | decide | omega | exact Nat.le_refl _ | (simp only [Nat.add_eq]; omega))) (by rfl) (pa_cons (pv 0) (pa_cons (pv 1) pa_nil))))
  (pss_cons (ps_set (i := 3) sc_law.nd rfl (by first | exact Or.inl rfl | exact Or.inr rfl) (df_call (ca := G.cA) D_law_habits (hr.mono (by first | decide | omega | exact Nat.le_refl _ | (simp only [Nat.add_eq]; omega))) (by rfl) (pa_cons (pv 2) (pa_cons pe_int pa_nil))))
  (pss_cons (ps_par (i := 7) (j := 8) rfl sc_law.nd rfl rfl (by decide) rfl rfl (pa_cons (df_call (ca := G.cA) D_law_made (hr.mono (by first | decide | omega | exact Nat.le_refl _ | (simp only [Nat.add_eq]; omega))) (by rfl) (pa_cons (pv 3) pa_nil)) (pa_cons (df_call (ca := G.cA) D_law_text (hr.mono (by first | decide | omega | exact Nat.le_refl _ | (simp only [Nat.add_eq]; omega))) (by rfl) (pa_cons (pv 3) pa_nil)) pa_nil)) (by rfl))
  (pss_cons (ps_set (i := 4) sc_law.nd rfl (by first | exact Or.inl rfl | exact Or.inr rfl) (df_call (ca := G.cA) D_show_habits (hr.mono (by first | decide | omega | exact Nat.le_refl _ | (simp only [Nat.add_eq]; omega))) (by rfl) (pa_cons (pv 7) pa_nil)))
  (pss_cons (ps_if (PW.pt (pw_or (pt_not (pt_val (pe_callB call_isi (by rfl) T.n_isinstance (by decide +kernel) (pa_cons (pv 4) (pa_cons (pe_bltn (v := .ty "str") (by rfl) T.n_str (by decide +kernel) rfl) pa_nil))))) (pw_or (pt_cmpR (op_neD (hu64 hr)) (pv 4) (pv 8) (nomark _)) (pw_or1 (pt_cmpR (op_neD (hu64 hr)) (df_call (ca := G.cA) D_show_habits (hr.mono (by first | decide | omega | exact Nat.le_refl _ | (simp only [Nat.add_eq]; omega))) (by rfl) (pa_cons (df_call (ca := G.cA) D_law_made (hr.mono (by first | decide | omega | exact Nat.le_refl _ | (simp only [Nat.add_eq]; omega))) (by rfl) (pa_cons (pv 3) pa_nil)) pa_nil)) (pv 8) (nomark _))))))
  (pss_one (ps_ret pe_bl))
  pss_nil)
  (pss_cons (ps_set (i := 5) sc_law.nd rfl (by first | exact Or.inl rfl | exact Or.inr rfl) (df_call (ca := G.cA) D_read_habits (hr.mono (by first | decide | omega | exact Nat.le_refl _ | (simp only [Nat.add_eq]; omega))) (by rfl) (pa_cons (pv 8) pa_nil)))
  (pss_cons (ps_if (PW.pt (pw_or (pt_not (pt_val (pe_callB call_isi (by rfl) T.n_isinstance (by decide +kernel) (pa_cons (pv 5) (pa_cons (pe_glob (v := .ref (G.cA 0)) (by rfl) gv_Habits rfl) pa_nil))))) (pw_or (pt_cmpR (dm_ne D_Habits_eq rfl (hr.mono (by decide)) ne_Habits cx_Habits) (pv 5) (pv 7) (nomark _)) (pw_or1 (pt_cmpR (op_neD (hu64 hr)) (pe_tup (pa_cons (pe_fld (pv 5) rfl) (pa_cons (pe_fld (pv 5) rfl) (pa_cons (pe_fld (pv 5) rfl) pa_nil)))) (pv 3) (nomark _))))))
  (pss_one (ps_ret pe_bl))
  pss_nil)
  (pss_cons (ps_if (PW.pt (pw_or (pt_cmpR (dm_ne D_Habits_eq rfl (hr.mono (by decide)) ne_Habits cx_Habits) (df_call (ca := G.cA) D_read_habits (hr.mono (by first | decide | omega | exact Nat.le_refl _ | (simp only [Nat.add_eq]; omega))) (by rfl) (pa_cons (pv 8) pa_nil)) (pv 5) (nomark _)) (pw_or (pt_cmpR (op_neD (hu64 hr)) (df_call (ca := G.cA) D_show_habits (hr.mono (by first | decide | omega | exact Nat.le_refl _ | (simp only [Nat.add_eq]; omega))) (by rfl) (pa_cons (pv 5) pa_nil)) (pv 8) (nomark _)) (pw_or1 (pt_cmpR (op_neD (hu64 hr)) (pe_callB (dm_len D_Habits_len rfl (hr.mono (by decide))) (by rfl) T.n_len (PySem.boot_len) (pa_cons (pv 5) pa_nil)) (pe_callB cr_lenU (by rfl) T.n_len (PySem.boot_len) (pa_cons (pe_ix ix_u (pv 3) pe_int (fun _ _ => rfl)) pa_nil)) (nomark _))))))
  (pss_one (ps_ret pe_bl))
  pss_nil)
  (pss_cons (ps_set (i := 6) sc_law.nd rfl (by first | exact Or.inl rfl | exact Or.inr rfl) (df_call (ca := G.cA) D_law_habits (hr.mono (by first | decide | omega | exact Nat.le_refl _ | (simp only [Nat.add_eq]; omega))) (by rfl) (pa_cons (pv 2) (pa_cons pe_int pa_nil))))
  (pss_cons (ps_if (pt_cmpR (op_neD (hu64 hr)) (pe_cmpR (op_eqA (dm_eq D_Habits_eq rfl np_Habits) (hr.mono (by decide))) (df_call (ca := G.cA) D_read_habits (hr.mono (by first | decide | omega | exact Nat.le_refl _ | (simp only [Nat.add_eq]; omega))) (by rfl) (pa_cons (df_call (ca := G.cA) D_law_text (hr.mono (by first | decide | omega | exact Nat.le_refl _ | (simp only [Nat.add_eq]; omega))) (by rfl) (pa_cons (pv 6) pa_nil)) pa_nil)) (pv 5) (nomark _)) (pe_cmpR (op_eqD (hu64 hr)) (pv 6) (pv 3) (nomark _)) (nomark _))
  (pss_one (ps_ret pe_bl))
  pss_nil)
  (pss_one (ps_if (pt_cmpR (op_eqA (dm_eq D_Habits_eq rfl np_Habits) (hr.mono (by decide))) (df_call (ca := G.cA) D_read_habits (hr.mono (by first | decide | omega | exact Nat.le_refl _ | (simp only [Nat.add_eq]; omega))) (by rfl) (pa_cons (df_call (ca := G.cA) D_law_text (hr.mono (by first | decide | omega | exact Nat.le_refl _ | (simp only [Nat.add_eq]; omega))) (by rfl) (pa_cons (pe_tup (pa_cons (pe_ix ix_u (pv 3) pe_int (fun _ _ => rfl)) (pa_cons (pe_ix ix_u (pv 3) pe_int (fun _ _ => rfl)) (pa_cons (pe_op op_mod (pe_op op_addU (pe_ix ix_u (pv 3) pe_int (fun _ _ => rfl)) pe_int) pe_int) pa_nil)))) pa_nil)) pa_nil)) (pv 5) (nomark _))
  (pss_one (ps_ret pe_bl))
  pss_nil)))))))))))))
  (pss_one (ps_ret pe_bl)))) (rs_seq (rs_for (ri_r1 (ra_cons (re_cb rc_I2 (ra_cons re_int (ra_cons (re_cb rc_I2 (ra_cons re_int (ra_cons (re_cb rc_len (ra_cons re_var ra_nil)) ra_nil))) ra_nil))) ra_nil)) rg_n
  (rs_seq (rs_asg (re_call (ra_cons re_var (ra_cons re_var ra_nil))) rg_n)
  (rs_seq (rs_asg (re_call (ra_cons re_var (ra_cons re_int ra_nil))) rg_n)
  (rs_seq (rs_par (ra_cons (re_call (ra_cons re_var ra_nil)) (ra_cons (re_call (ra_cons re_var ra_nil)) ra_nil)))
  (rs_seq (rs_asg (re_call (ra_cons re_var ra_nil)) rg_n)
  (rs_seq (rs_if (rt_or (rt_not (rt_b (re_cb rc_isi (ra_cons re_var (ra_cons (re_c fun _ _ => .ty) ra_nil))))) (rt_or (rt_test (re_op rr_ne re_var re_var)) (rt_test (re_op rr_ne (re_call (ra_cons (re_call (ra_cons re_var ra_nil)) ra_nil)) re_var))))
  (rs_ret re_bl)
  rs_skip)
  (rs_seq (rs_asg (re_call (ra_cons re_var ra_nil)) rg_n)
  (rs_seq (rs_if (rt_or (rt_not (rt_b (re_cb (rc_isiO cl_Habits cx_Habits) (ra_cons re_var (ra_cons (re_c fun _ _ => .cl) ra_nil))))) (rt_or (rt_test (re_op (rr_neOwn cl_Habits cx_Habits) re_var re_var)) (rt_test (re_op rr_ne (re_tup (ra_cons (re_fld cl_Habits na_Habits_folk re_var) (ra_cons (re_fld cl_Habits na_Habits_ways re_var) (ra_cons (re_fld cl_Habits na_Habits_steps re_var) ra_nil)))) re_var))))
  (rs_ret re_bl)
  rs_skip)
  (rs_seq (rs_if (rt_or (rt_test (re_op (rr_neOwn cl_Habits cx_Habits) (re_call (ra_cons re_var ra_nil)) re_var)) (rt_or (rt_test (re_op rr_ne (re_call (ra_cons re_var ra_nil)) re_var)) (rt_test (re_op rr_ne (re_cb rc_lenOwn (ra_cons re_var ra_nil)) (re_cb rc_len (ra_cons (re_op rr_ix re_var re_int) ra_nil))))))
  (rs_ret re_bl)
  rs_skip)
  (rs_seq (rs_asg (re_call (ra_cons re_var (ra_cons re_int ra_nil))) rg_n)
  (rs_seq (rs_if (rt_test (re_op rr_ne (re_op (rr_eqA cl_Habits cx_Habits) (re_call (ra_cons (re_call (ra_cons re_var ra_nil)) ra_nil)) re_var) (re_op rr_eq re_var re_var)))
  (rs_ret re_bl)
  rs_skip)
  (rs_if (rt_test (re_op (rr_eqA cl_Habits cx_Habits) (re_call (ra_cons (re_call (ra_cons (re_tup (ra_cons (re_op rr_ix re_var re_int) (ra_cons (re_op rr_ix re_var re_int) (ra_cons (re_op rr_mod (re_op rr_add (re_op rr_ix re_var re_int) re_int) re_int) ra_nil)))) ra_nil)) ra_nil)) re_var))
  (rs_ret re_bl)
  rs_skip))))))))))))
  (rs_ret re_bl))
end
end Tx

namespace Tx
open PySem PySem.Spec PyProof.Rows L2 MR
def d_is_whole : He.DefD := ⟨("is_whole", none), "is_whole", "is_whole", defArgs s_is_whole, defBody s_is_whole, defScope s_is_whole, [], []⟩
def d_is_between : He.DefD := ⟨("is_between", none), "is_between", "is_between", defArgs s_is_between, defBody s_is_between, defScope s_is_between, [], []⟩
def d_is_truth : He.DefD := ⟨("is_truth", none), "is_truth", "is_truth", defArgs s_is_truth, defBody s_is_truth, defScope s_is_truth, [], []⟩
def d_is_tuple_of : He.DefD := ⟨("is_tuple_of", none), "is_tuple_of", "is_tuple_of", defArgs s_is_tuple_of, defBody s_is_tuple_of, defScope s_is_tuple_of, [], []⟩
def d_is_folk_text : He.DefD := ⟨("is_folk_text", none), "is_folk_text", "is_folk_text", defArgs s_is_folk_text, defBody s_is_folk_text, defScope s_is_folk_text, [], []⟩
def d_is_folk : He.DefD := ⟨("is_folk", none), "is_folk", "is_folk", defArgs s_is_folk, defBody s_is_folk, defScope s_is_folk, [], []⟩
def d_are_folk : He.DefD := ⟨("are_folk", none), "are_folk", "are_folk", defArgs s_are_folk, defBody s_are_folk, defScope s_are_folk, [], []⟩
def d_is_way : He.DefD := ⟨("is_way", none), "is_way", "is_way", defArgs s_is_way, defBody s_is_way, defScope s_is_way, [], []⟩
def d_are_ways : He.DefD := ⟨("are_ways", none), "are_ways", "are_ways", defArgs s_are_ways, defBody s_are_ways, defScope s_are_ways, [], []⟩
def d_Habits_init : He.DefD := ⟨("Habits", some "__init__"), "__init__", "Habits.__init__", defArgs s_Habits_init, defBody s_Habits_init, defScope s_Habits_init, [], [("steps", .int 1)]⟩
def d_Habits_eq : He.DefD := ⟨("Habits", some "__eq__"), "__eq__", "Habits.__eq__", defArgs s_Habits_eq, defBody s_Habits_eq, defScope s_Habits_eq, [], []⟩
def d_Habits_len : He.DefD := ⟨("Habits", some "__len__"), "__len__", "Habits.__len__", defArgs s_Habits_len, defBody s_Habits_len, defScope s_Habits_len, [], []⟩
def d_is_figures : He.DefD := ⟨("is_figures", none), "is_figures", "is_figures", defArgs s_is_figures, defBody s_is_figures, defScope s_is_figures, [], []⟩
def d_read_figures : He.DefD := ⟨("read_figures", none), "read_figures", "read_figures", defArgs s_read_figures, defBody s_read_figures, defScope s_read_figures, [], []⟩
def d_show_folk : He.DefD := ⟨("show_folk", none), "show_folk", "show_folk", defArgs s_show_folk, defBody s_show_folk, defScope s_show_folk, [], []⟩
def d_show_way : He.DefD := ⟨("show_way", none), "show_way", "show_way", defArgs s_show_way, defBody s_show_way, defScope s_show_way, [], []⟩
def d_show_habits : He.DefD := ⟨("show_habits", none), "show_habits", "show_habits", defArgs s_show_habits, defBody s_show_habits, defScope s_show_habits, [], []⟩
def d_read_steps : He.DefD := ⟨("read_steps", none), "read_steps", "read_steps", defArgs s_read_steps, defBody s_read_steps, defScope s_read_steps, [], []⟩
def d_read_folk : He.DefD := ⟨("read_folk", none), "read_folk", "read_folk", defArgs s_read_folk, defBody s_read_folk, defScope s_read_folk, [], []⟩
def d_read_way : He.DefD := ⟨("read_way", none), "read_way", "read_way", defArgs s_read_way, defBody s_read_way, defScope s_read_way, [], []⟩
def d_lines_of : He.DefD := ⟨("lines_of", none), "lines_of", "lines_of", defArgs s_lines_of, defBody s_lines_of, defScope s_lines_of, [], []⟩
def d_read_lines : He.DefD := ⟨("read_lines", none), "read_lines", "read_lines", defArgs s_read_lines, defBody s_read_lines, defScope s_read_lines, [], []⟩
def d_read_habits : He.DefD := ⟨("read_habits", none), "read_habits", "read_habits", defArgs s_read_habits, defBody s_read_habits, defScope s_read_habits, [], []⟩
def d_law_bag : He.DefD := ⟨("_law_bag", none), "_law_bag", "_law_bag", defArgs s_law_bag, defBody s_law_bag, defScope s_law_bag, [], []⟩
def d_law_take : He.DefD := ⟨("_law_take", none), "_law_take", "_law_take", defArgs s_law_take, defBody s_law_take, defScope s_law_take, [], []⟩
def d_law_names : He.DefD := ⟨("_law_names", none), "_law_names", "_law_names", defArgs s_law_names, defBody s_law_names, defScope s_law_names, [], []⟩
def d_law_way : He.DefD := ⟨("_law_way", none), "_law_way", "_law_way", defArgs s_law_way, defBody s_law_way, defScope s_law_way, [], []⟩
def d_law_habits : He.DefD := ⟨("_law_habits", none), "_law_habits", "_law_habits", defArgs s_law_habits, defBody s_law_habits, defScope s_law_habits, [], []⟩
def d_law_made : He.DefD := ⟨("_law_made", none), "_law_made", "_law_made", defArgs s_law_made, defBody s_law_made, defScope s_law_made, [], []⟩
def d_law_text : He.DefD := ⟨("_law_text", none), "_law_text", "_law_text", defArgs s_law_text, defBody s_law_text, defScope s_law_text, [], []⟩
def d_law : He.DefD := ⟨("law", none), "law", "law", defArgs s_law, defBody s_law, defScope s_law, [], []⟩
def fn : List He.DefD := [d_is_whole, d_is_between, d_is_truth, d_is_tuple_of, d_is_folk_text, d_is_folk, d_are_folk, d_is_way, d_are_ways, d_Habits_init, d_Habits_eq, d_Habits_len, d_is_figures, d_read_figures, d_show_folk, d_show_way, d_show_habits, d_read_steps, d_read_folk, d_read_way, d_lines_of, d_read_lines, d_read_habits, d_law_bag, d_law_take, d_law_names, d_law_way, d_law_habits, d_law_made, d_law_text, d_law]
def fa : List He.Fa := [.free "abs", .free "all", .free "bool", .free "enumerate", .free "int", .free "isinstance", .free "len", .free "max", .free "min", .free "range", .free "set", .free "str", .free "tuple", .str "FIGURES" "0123456789", .str "HOUSE" "house", .str "LETTERS" "abcdefghijklmnopqrstuvwxyz", .int "LONGEST_TEXT" (8), .str "LOSES" "loses", .int "MOST_DAYS" (3), .int "MOST_FOLK" (3), .int "MOST_KEEP" (3), .int "MOST_LINES" (40), .int "MOST_STEPS" (2), .str "NOTHING" "-", .str "SAYING" "saying", .str "STILL" "still", .str "TWICE" "twice", .glo "READERS", .glo "AHEAD", .cls "Habits", .noat "Habits" "folk", .noat "Habits" "steps", .noat "Habits" "ways", .glo "is_whole", .glo "is_between", .glo "is_truth", .glo "is_tuple_of", .glo "is_folk_text", .glo "is_folk", .glo "are_folk", .glo "is_way", .glo "are_ways", .glo "Habits", .mkr "Habits", .meth "Habits" "__eq__", .meth "Habits" "__len__", .glo "is_figures", .glo "read_figures", .glo "show_folk", .glo "show_way", .glo "show_habits", .glo "read_steps", .glo "read_folk", .glo "read_way", .glo "lines_of", .glo "read_lines", .glo "read_habits", .glo "_law_bag", .glo "_law_take", .glo "_law_names", .glo "_law_way", .glo "_law_habits", .glo "_law_made", .glo "_law_text", .glo "law"]
def ts : List He.Tab := [(fun K => He.ga K "READERS", ["steps", "folk", "way"]), (fun K => He.ga K "AHEAD", ["steps", "folk", "way"])]
def ex : XH.Tests := [XH.tabG "READERS" "steps" "read_steps", XH.tabG "READERS" "folk" "read_folk", XH.tabG "READERS" "way" "read_way", XH.tabT "AHEAD" "steps" [""], XH.tabT "AHEAD" "folk" ["steps", "folk"], XH.tabT "AHEAD" "way" ["steps", "folk", "way"], XH.clsT "Habits", noplT "Habits", XH.bltT "Habits" "__ne__" "object.__ne__"]
theorem txt_of {w : World} {K : PySem.W.Frag} {h : Heap} {mg : Str → Option Value} (X : K.In h) (G : h.Ns mainGlobals mg) (c : He.SaysT fa fn ts w K) (x : (ex.all fun f => f K) = true) : Txt w K mg := ⟨He.free_ok X G (c.d.fact 0 (f := .free "abs") rfl),
  He.free_ok X G (c.d.fact 1 (f := .free "all") rfl),
  He.free_ok X G (c.d.fact 2 (f := .free "bool") rfl),
  He.free_ok X G (c.d.fact 3 (f := .free "enumerate") rfl),
  He.free_ok X G (c.d.fact 4 (f := .free "int") rfl),
  He.free_ok X G (c.d.fact 5 (f := .free "isinstance") rfl),
  He.free_ok X G (c.d.fact 6 (f := .free "len") rfl),
  He.free_ok X G (c.d.fact 7 (f := .free "max") rfl),
  He.free_ok X G (c.d.fact 8 (f := .free "min") rfl),
  He.free_ok X G (c.d.fact 9 (f := .free "range") rfl),
  He.free_ok X G (c.d.fact 10 (f := .free "set") rfl),
  He.free_ok X G (c.d.fact 11 (f := .free "str") rfl),
  He.free_ok X G (c.d.fact 12 (f := .free "tuple") rfl),
  He.str_ok X G (c.d.fact 13 (f := .str "FIGURES" "0123456789") rfl),
  He.str_ok X G (c.d.fact 14 (f := .str "HOUSE" "house") rfl),
  He.str_ok X G (c.d.fact 15 (f := .str "LETTERS" "abcdefghijklmnopqrstuvwxyz") rfl),
  He.int_ok X G (c.d.fact 16 (f := .int "LONGEST_TEXT" (8)) rfl),
  He.str_ok X G (c.d.fact 17 (f := .str "LOSES" "loses") rfl),
  He.int_ok X G (c.d.fact 18 (f := .int "MOST_DAYS" (3)) rfl),
  He.int_ok X G (c.d.fact 19 (f := .int "MOST_FOLK" (3)) rfl),
  He.int_ok X G (c.d.fact 20 (f := .int "MOST_KEEP" (3)) rfl),
  He.int_ok X G (c.d.fact 21 (f := .int "MOST_LINES" (40)) rfl),
  He.int_ok X G (c.d.fact 22 (f := .int "MOST_STEPS" (2)) rfl),
  He.str_ok X G (c.d.fact 23 (f := .str "NOTHING" "-") rfl),
  He.str_ok X G (c.d.fact 24 (f := .str "SAYING" "saying") rfl),
  He.str_ok X G (c.d.fact 25 (f := .str "STILL" "still") rfl),
  He.str_ok X G (c.d.fact 26 (f := .str "TWICE" "twice") rfl),
  He.glo_ok X G (c.d.fact 27 (f := .glo "READERS") rfl),
  c.tab 0 (t := (fun K => He.ga K "READERS", ["steps", "folk", "way"])) rfl,
  XH.test_ok x 0 (f := XH.tabG "READERS" "steps" "read_steps"),
  XH.test_ok x 1 (f := XH.tabG "READERS" "folk" "read_folk"),
  XH.test_ok x 2 (f := XH.tabG "READERS" "way" "read_way"),
  He.glo_ok X G (c.d.fact 28 (f := .glo "AHEAD") rfl),
  c.tab 1 (t := (fun K => He.ga K "AHEAD", ["steps", "folk", "way"])) rfl,
  XH.test_ok x 3 (f := XH.tabT "AHEAD" "steps" [""]),
  XH.test_ok x 4 (f := XH.tabT "AHEAD" "folk" ["steps", "folk"]),
  XH.test_ok x 5 (f := XH.tabT "AHEAD" "way" ["steps", "folk", "way"]),
  XH.clsT_ok (XH.test_ok x 6 (f := XH.clsT "Habits")),
  noplT_ok (XH.test_ok x 7 (f := noplT "Habits")),
  XH.bltT_ok (XH.test_ok x 8 (f := XH.bltT "Habits" "__ne__" "object.__ne__")),
  He.cls_ok (c.d.fact 29 (f := .cls "Habits") rfl),
  He.noat_ok (c.d.fact 30 (f := .noat "Habits" "folk") rfl),
  He.noat_ok (c.d.fact 31 (f := .noat "Habits" "steps") rfl),
  He.noat_ok (c.d.fact 32 (f := .noat "Habits" "ways") rfl),
  He.glo_ok X G (c.d.fact 33 (f := .glo "is_whole") rfl),
  c.d.def_ 0 (d := d_is_whole) rfl,
  He.glo_ok X G (c.d.fact 34 (f := .glo "is_between") rfl),
  c.d.def_ 1 (d := d_is_between) rfl,
  He.glo_ok X G (c.d.fact 35 (f := .glo "is_truth") rfl),
  c.d.def_ 2 (d := d_is_truth) rfl,
  He.glo_ok X G (c.d.fact 36 (f := .glo "is_tuple_of") rfl),
  c.d.def_ 3 (d := d_is_tuple_of) rfl,
  He.glo_ok X G (c.d.fact 37 (f := .glo "is_folk_text") rfl),
  c.d.def_ 4 (d := d_is_folk_text) rfl,
  He.glo_ok X G (c.d.fact 38 (f := .glo "is_folk") rfl),
  c.d.def_ 5 (d := d_is_folk) rfl,
  He.glo_ok X G (c.d.fact 39 (f := .glo "are_folk") rfl),
  c.d.def_ 6 (d := d_are_folk) rfl,
  He.glo_ok X G (c.d.fact 40 (f := .glo "is_way") rfl),
  c.d.def_ 7 (d := d_is_way) rfl,
  He.glo_ok X G (c.d.fact 41 (f := .glo "are_ways") rfl),
  c.d.def_ 8 (d := d_are_ways) rfl,
  He.glo_ok X G (c.d.fact 42 (f := .glo "Habits") rfl),
  He.mkr_ok (c.d.fact 43 (f := .mkr "Habits") rfl),
  c.d.def_ 9 (d := d_Habits_init) rfl,
  He.meth_ok (c.d.fact 44 (f := .meth "Habits" "__eq__") rfl),
  c.d.def_ 10 (d := d_Habits_eq) rfl,
  He.meth_ok (c.d.fact 45 (f := .meth "Habits" "__len__") rfl),
  c.d.def_ 11 (d := d_Habits_len) rfl,
  He.glo_ok X G (c.d.fact 46 (f := .glo "is_figures") rfl),
  c.d.def_ 12 (d := d_is_figures) rfl,
  He.glo_ok X G (c.d.fact 47 (f := .glo "read_figures") rfl),
  c.d.def_ 13 (d := d_read_figures) rfl,
  He.glo_ok X G (c.d.fact 48 (f := .glo "show_folk") rfl),
  c.d.def_ 14 (d := d_show_folk) rfl,
  He.glo_ok X G (c.d.fact 49 (f := .glo "show_way") rfl),
  c.d.def_ 15 (d := d_show_way) rfl,
  He.glo_ok X G (c.d.fact 50 (f := .glo "show_habits") rfl),
  c.d.def_ 16 (d := d_show_habits) rfl,
  He.glo_ok X G (c.d.fact 51 (f := .glo "read_steps") rfl),
  c.d.def_ 17 (d := d_read_steps) rfl,
  He.glo_ok X G (c.d.fact 52 (f := .glo "read_folk") rfl),
  c.d.def_ 18 (d := d_read_folk) rfl,
  He.glo_ok X G (c.d.fact 53 (f := .glo "read_way") rfl),
  c.d.def_ 19 (d := d_read_way) rfl,
  He.glo_ok X G (c.d.fact 54 (f := .glo "lines_of") rfl),
  c.d.def_ 20 (d := d_lines_of) rfl,
  He.glo_ok X G (c.d.fact 55 (f := .glo "read_lines") rfl),
  c.d.def_ 21 (d := d_read_lines) rfl,
  He.glo_ok X G (c.d.fact 56 (f := .glo "read_habits") rfl),
  c.d.def_ 22 (d := d_read_habits) rfl,
  He.glo_ok X G (c.d.fact 57 (f := .glo "_law_bag") rfl),
  c.d.def_ 23 (d := d_law_bag) rfl,
  He.glo_ok X G (c.d.fact 58 (f := .glo "_law_take") rfl),
  c.d.def_ 24 (d := d_law_take) rfl,
  He.glo_ok X G (c.d.fact 59 (f := .glo "_law_names") rfl),
  c.d.def_ 25 (d := d_law_names) rfl,
  He.glo_ok X G (c.d.fact 60 (f := .glo "_law_way") rfl),
  c.d.def_ 26 (d := d_law_way) rfl,
  He.glo_ok X G (c.d.fact 61 (f := .glo "_law_habits") rfl),
  c.d.def_ 27 (d := d_law_habits) rfl,
  He.glo_ok X G (c.d.fact 62 (f := .glo "_law_made") rfl),
  c.d.def_ 28 (d := d_law_made) rfl,
  He.glo_ok X G (c.d.fact 63 (f := .glo "_law_text") rfl),
  c.d.def_ 29 (d := d_law_text) rfl,
  He.glo_ok X G (c.d.fact 64 (f := .glo "law") rfl),
  c.d.def_ 30 (d := d_law) rfl⟩
abbrev R : PySem.W.OpenRow := PySem.W.OpenLaw.row PySem.Challenge.rw_nameagain_k74_habits_written
abbrev hk : PySem.W.Hook := XH.hookXT 4 fa fn ts ex
def ob (s : PySem.W.SharedT) : He.AlT × Bool := XH.toldT 4 fa fn ts ex (HandSHeadRun.getT s)
theorem ob_eq (s : PySem.W.SharedT) : ob s = hk.obs s.abs := XH.toldT_eq (HandSHeadRun.getT_eq s)
def loose : List Str := [("AHEAD" : Str), ("AgainError" : Str), ("FIGURES" : Str), ("HOUSE" : Str), ("Habits" : Str), ("LETTERS" : Str), ("LONGEST_TEXT" : Str), ("LOSES" : Str), ("MOST_DAYS" : Str), ("MOST_FOLK" : Str), ("MOST_KEEP" : Str), ("MOST_LINES" : Str), ("MOST_STEPS" : Str), ("NOTHING" : Str), ("NoHabits" : Str), ("NoText" : Str), ("READERS" : Str), ("SAYING" : Str), ("STILL" : Str), ("TWICE" : Str), ("__name__" : Str), ("_law_bag" : Str), ("_law_habits" : Str), ("_law_made" : Str), ("_law_names" : Str), ("_law_take" : Str), ("_law_text" : Str), ("_law_way" : Str), ("are_folk" : Str), ("are_ways" : Str), ("is_between" : Str), ("is_figures" : Str), ("is_folk" : Str), ("is_folk_text" : Str), ("is_truth" : Str), ("is_tuple_of" : Str), ("is_way" : Str), ("is_whole" : Str), ("lines_of" : Str), ("read_figures" : Str), ("read_folk" : Str), ("read_habits" : Str), ("read_lines" : Str), ("read_steps" : Str), ("read_way" : Str), ("show_folk" : Str), ("show_habits" : Str), ("show_way" : Str)]
abbrev lawAt : Nat := 52
end Tx

/-! WL: what the twin functions give, as wishes: a rule for each form. -/
namespace MR
open PySem L2
def WE (m : MEx) (env : Sl) (μ : Mem) (Q : D → Mem → Prop) : Prop := ∃ d μ', m env μ = some (d, μ') ∧ Q d μ'
def WT (m : MTs) (env : Sl) (μ : Mem) (Q : Bool → Mem → Prop) : Prop := ∃ d μ', m env μ = some (d, μ') ∧ Q d μ'
def WA (m : MAr) (env : Sl) (μ : Mem) (Q : List D → Mem → Prop) : Prop := ∃ d μ', m env μ = some (d, μ') ∧ Q d μ'
def WP (m : MPt) (env : Sl) (μ : Mem) (Q : Option Int → Mem → Prop) : Prop := ∃ d μ', m env μ = some (d, μ') ∧ Q d μ'
def WS (m : MSt) (env : Sl) (μ : Mem) (Q : Fl → Sl → Mem → Prop) : Prop := ∃ f e μ', m env μ = some (f, e, μ') ∧ Q f e μ'
def WG (m : MTg) (d : D) (env : Sl) (μ : Mem) (Q : Sl → Mem → Prop) : Prop := ∃ e μ', m d env μ = some (e, μ') ∧ Q e μ'
def WGs (m : MTgs) (d : List D) (env : Sl) (μ : Mem) (Q : Sl → Mem → Prop) : Prop := ∃ e μ', m d env μ = some (e, μ') ∧ Q e μ'
def WI (m : MIt) (env : Sl) (μ : Mem) (Q : List D → Option (Nat × List D) → Mem → Prop) : Prop := ∃ xs c μ', m env μ = some (xs, c, μ') ∧ Q xs c μ'
def WO (f : D → D → Mem → Option (D × Mem)) (x y : D) (μ : Mem) (Q : D → Mem → Prop) : Prop := ∃ d μ', f x y μ = some (d, μ') ∧ Q d μ'
def WF (f : List D → Mem → Option (D × Mem)) (ds : List D) (μ : Mem) (Q : D → Mem → Prop) : Prop := ∃ d μ', f ds μ = some (d, μ') ∧ Q d μ'
def WM (f : D → List D → Mem → Option (D × Mem)) (x : D) (ds : List D) (μ : Mem) (Q : D → Mem → Prop) : Prop := ∃ d μ', f x ds μ = some (d, μ') ∧ Q d μ'
section
variable {env : Sl} {μ : Mem} {Q : D → Mem → Prop} {QT : Bool → Mem → Prop} {QA : List D → Mem → Prop} {QP : Option Int → Mem → Prop} {QS : Fl → Sl → Mem → Prop} {QG : Sl → Mem → Prop}
theorem WE.imp {m : MEx} {Q' : D → Mem → Prop} (h : WE m env μ Q) (k : ∀ d μ', Q d μ' → Q' d μ') : WE m env μ Q' := by
  obtain ⟨d, μ', e, q⟩ := h
  exact ⟨d, μ', e, k d μ' q⟩
theorem WF.imp {m} {ds : List D} {Q' : D → Mem → Prop} (h : WF m ds μ Q) (k : ∀ d μ', Q d μ' → Q' d μ') : WF m ds μ Q' := by
  obtain ⟨d, μ', e, q⟩ := h
  exact ⟨d, μ', e, k d μ' q⟩
theorem WS.imp {m : MSt} {Q' : Fl → Sl → Mem → Prop} (h : WS m env μ QS) (k : ∀ f e μ', QS f e μ' → Q' f e μ') : WS m env μ Q' := by
  obtain ⟨f, e, μ', q, z⟩ := h
  exact ⟨f, e, μ', q, k f e μ' z⟩
theorem we_var {i : Nat} {d : D} (h : env[i]? = some (some d)) (q : Q d μ) : WE (mVar i) env μ Q := ⟨d, μ, by unfold mVar; rw [h], q⟩
theorem we_varX {i : Nat} (h : ∃ d, env[i]? = some (some d) ∧ Q d μ) : WE (mVar i) env μ Q := by
  obtain ⟨d, h, q⟩ := h
  exact we_var h q
theorem we_c {d : D} (q : Q d μ) : WE (mC d) env μ Q := ⟨d, μ, rfl, q⟩
theorem we_op {f} {a b : MEx} (h : WE a env μ fun x μ1 => WE b env μ1 fun y μ2 => WO f x y μ2 Q) : WE (mOp f a b) env μ Q := by
  obtain ⟨x, μ1, e1, y, μ2, e2, d, μ3, e3, q⟩ := h
  exact ⟨d, μ3, by unfold mOp; rw [e1]; dsimp only; rw [e2]; exact e3, q⟩
theorem we_un {f} {a : MEx} (h : WE a env μ fun x μ1 => ∃ d μ', f x μ1 = some (d, μ') ∧ Q d μ') : WE (mUn f a) env μ Q := by
  obtain ⟨x, μ1, e1, d, μ3, e3, q⟩ := h
  exact ⟨d, μ3, by unfold mUn; rw [e1]; exact e3, q⟩
theorem we_call {f} {r : MAr} (h : WA r env μ fun ds μ1 => WF f ds μ1 Q) : WE (mCall f r) env μ Q := by
  obtain ⟨x, μ1, e1, d, μ3, e3, q⟩ := h
  exact ⟨d, μ3, by unfold mCall; rw [e1]; exact e3, q⟩
theorem wf_lenIs {n : Nat} {f} {ds : List D} (hl : ds.length = n) (h : WF f ds μ Q) : WF (lenIs n f) ds μ Q := by
  obtain ⟨d, μ3, e3, q⟩ := h
  exact ⟨d, μ3, by unfold lenIs; rw [if_pos hl]; exact e3, q⟩
theorem wa_nil (q : QA [] μ) : WA mNil env μ QA := ⟨[], μ, rfl, q⟩
theorem wa_cons {a : MEx} {r : MAr} (h : WE a env μ fun x μ1 => WA r env μ1 fun xs μ2 => QA (x :: xs) μ2) : WA (mCons a r) env μ QA := by
  obtain ⟨x, μ1, e1, y, μ2, e2, q⟩ := h
  exact ⟨_, μ2, by unfold mCons; rw [e1]; dsimp only; rw [e2], q⟩
theorem we_tup {r : MAr} (h : WA r env μ fun ds μ1 => ds.length ≤ 100000 ∧ Q (.tup ds) μ1) : WE (mTup r) env μ Q := by
  obtain ⟨x, μ1, e1, hl, q⟩ := h
  exact ⟨_, μ1, by unfold mTup; rw [e1]; dsimp only; rw [if_pos hl], q⟩
theorem we_lst {r : MAr} (h : WA r env μ fun ds μ1 => ds.length ≤ 100000 ∧ Q (.ref μ1.length) (μ1 ++ [.lst ds])) : WE (mLst r) env μ Q := by
  obtain ⟨x, μ1, e1, hl, q⟩ := h
  exact ⟨_, _, by unfold mLst; rw [e1]; dsimp only; rw [if_pos hl], q⟩
theorem wp_no (q : QP none μ) : WP mNo env μ QP := ⟨none, μ, rfl, q⟩
theorem wp_pt {a : MEx} (h : WE a env μ fun x μ1 => ∃ i, x = .int i ∧ QP (some i) μ1) : WP (mPt a) env μ QP := by
  obtain ⟨x, μ1, e1, i, rfl, q⟩ := h
  exact ⟨_, μ1, by unfold mPt; rw [e1], q⟩
theorem we_sl {a : MEx} {lo hi : MPt} (h : WE a env μ fun x μ1 => WP lo env μ1 fun l μ2 => WP hi env μ2 fun u μ3 => ∃ d μ', oSl x l u μ3 = some (d, μ') ∧ Q d μ') : WE (mSl a lo hi) env μ Q := by
  obtain ⟨x, μ1, e1, l, μ2, e2, u, μ3, e3, d, μ4, e4, q⟩ := h
  exact ⟨d, μ4, by unfold mSl; rw [e1]; dsimp only; rw [e2]; dsimp only; rw [e3]; exact e4, q⟩
theorem wt_ts {a : MEx} (h : WE a env μ fun x μ1 => ∃ b, x = .bl b ∧ QT b μ1) : WT (mTs a) env μ QT := by
  obtain ⟨x, μ1, e1, b, rfl, q⟩ := h
  exact ⟨b, μ1, by unfold mTs; rw [e1], q⟩
theorem wt_and {a b : MTs} (h : WT a env μ fun x μ1 => (x = true → WT b env μ1 QT) ∧ (x = false → QT false μ1)) : WT (mAnd a b) env μ QT := by
  obtain ⟨x, μ1, e1, h1, h2⟩ := h
  cases x with
  | true =>
    obtain ⟨y, μ2, e2, q⟩ := h1 rfl
    exact ⟨y, μ2, by unfold mAnd; rw [e1]; exact e2, q⟩
  | false => exact ⟨false, μ1, by unfold mAnd; rw [e1], h2 rfl⟩
theorem wt_or {a b : MTs} (h : WT a env μ fun x μ1 => (x = false → WT b env μ1 QT) ∧ (x = true → QT true μ1)) : WT (mOr a b) env μ QT := by
  obtain ⟨x, μ1, e1, h1, h2⟩ := h
  cases x with
  | false =>
    obtain ⟨y, μ2, e2, q⟩ := h1 rfl
    exact ⟨y, μ2, by unfold mOr; rw [e1]; exact e2, q⟩
  | true => exact ⟨true, μ1, by unfold mOr; rw [e1], h2 rfl⟩
theorem wt_not {a : MTs} (h : WT a env μ fun x μ1 => QT (!x) μ1) : WT (mNot a) env μ QT := by
  obtain ⟨x, μ1, e1, q⟩ := h
  exact ⟨_, μ1, by unfold mNot; rw [e1], q⟩
theorem we_andV {a b : MEx} (h : WE a env μ fun x μ1 => ∃ k, x = .bl k ∧ (k = true → WE b env μ1 Q) ∧ (k = false → Q (.bl false) μ1)) : WE (mAndV a b) env μ Q := by
  obtain ⟨x, μ1, e1, k, rfl, h1, h2⟩ := h
  cases k with
  | true =>
    obtain ⟨y, μ2, e2, q⟩ := h1 rfl
    exact ⟨y, μ2, by unfold mAndV; rw [e1]; exact e2, q⟩
  | false => exact ⟨_, μ1, by unfold mAndV; rw [e1], h2 rfl⟩
theorem we_orV {a b : MEx} (h : WE a env μ fun x μ1 => ∃ k, x = .bl k ∧ (k = false → WE b env μ1 Q) ∧ (k = true → Q (.bl true) μ1)) : WE (mOrV a b) env μ Q := by
  obtain ⟨x, μ1, e1, k, rfl, h1, h2⟩ := h
  cases k with
  | false =>
    obtain ⟨y, μ2, e2, q⟩ := h1 rfl
    exact ⟨y, μ2, by unfold mOrV; rw [e1]; exact e2, q⟩
  | true => exact ⟨_, μ1, by unfold mOrV; rw [e1], h2 rfl⟩
theorem we_notV {a : MEx} (h : WE a env μ fun x μ1 => ∃ k, x = .bl k ∧ Q (.bl (!k)) μ1) : WE (mNotV a) env μ Q := by
  obtain ⟨x, μ1, e1, k, rfl, q⟩ := h
  exact ⟨_, μ1, by unfold mNotV; rw [e1], q⟩
theorem we_ite {c : MTs} {a b : MEx} (h : WT c env μ fun x μ1 => (x = true → WE a env μ1 Q) ∧ (x = false → WE b env μ1 Q)) : WE (mIte c a b) env μ Q := by
  obtain ⟨x, μ1, e1, h1, h2⟩ := h
  cases x with
  | true =>
    obtain ⟨y, μ2, e2, q⟩ := h1 rfl
    exact ⟨y, μ2, by unfold mIte; rw [e1]; exact e2, q⟩
  | false =>
    obtain ⟨y, μ2, e2, q⟩ := h2 rfl
    exact ⟨y, μ2, by unfold mIte; rw [e1]; exact e2, q⟩
theorem we_chain {f g} {a b c : MEx} (h : WE a env μ fun x μ1 => WE b env μ1 fun y μ2 => WO f x y μ2 fun z μ3 => ∃ k, z = .bl k ∧ (k = true → WE c env μ3 fun v μ4 => WO g y v μ4 Q) ∧ (k = false → Q (.bl false) μ3)) : WE (mChain f g a b c) env μ Q := by
  obtain ⟨x, μ1, e1, y, μ2, e2, z, μ3, e3, k, rfl, h1, h2⟩ := h
  cases k with
  | true =>
    obtain ⟨v, μ4, e4, d, μ5, e5, q⟩ := h1 rfl
    exact ⟨d, μ5, by unfold mChain; rw [e1]; dsimp only; rw [e2]; dsimp only; rw [e3]; dsimp only; rw [e4]; exact e5, q⟩
  | false => exact ⟨_, μ3, by unfold mChain; rw [e1]; dsimp only; rw [e2]; dsimp only; rw [e3], h2 rfl⟩
theorem we_bmS {f} {o : MEx} {a : MAr} (h : WE o env μ fun x μ1 => ∃ z, x = .str z ∧ WA a env μ1 fun ds μ2 => WM f (.str z) ds μ2 Q) : WE (mBMS f o a) env μ Q := by
  obtain ⟨x, μ1, e1, z, rfl, ds, μ2, e2, d, μ3, e3, q⟩ := h
  exact ⟨d, μ3, by unfold mBMS; rw [e1]; dsimp only; rw [e2]; exact e3, q⟩
theorem we_bm {f} {o : MEx} {a : MAr} (h : WE o env μ fun x μ1 => ∃ n xs, x = .ref n ∧ μ1[n]? = some (.lst xs) ∧ WA a env μ1 fun ds μ2 => WM f (.ref n) ds μ2 Q) : WE (mBM f o a) env μ Q := by
  obtain ⟨x, μ1, e1, n, xs, rfl, hm, ds, μ2, e2, d, μ3, e3, q⟩ := h
  exact ⟨d, μ3, by unfold mBM; rw [e1]; dsimp only; rw [hm]; dsimp only; rw [e2]; exact e3, q⟩
theorem we_join {o e : MEx} (h : WE o env μ fun x μ1 => ∃ a, x = .str a ∧ WE e env μ1 fun y μ2 => ∃ ys, (seqAt μ2 y).bind strsOf = some ys ∧ (ys.map (·.length)).sum + ys.length * a.length ≤ 16777216 ∧ Q (.str (Txt.join a ys)) μ2) : WE (mJoin o e) env μ Q := by
  obtain ⟨x, μ1, e1, a, rfl, y, μ2, e2, ys, e3, hl, q⟩ := h
  exact ⟨_, μ2, by unfold mJoin; rw [e1]; dsimp only; rw [e2]; dsimp only; rw [e3]; dsimp only; rw [if_pos hl], q⟩
/-! ### targets -/
theorem wg_n {i : Nat} {d : D} (q : QG (env.set i (some d)) μ) : WG (gmN i) d env μ QG := ⟨_, μ, rfl, q⟩
theorem wgs_nil (q : QG env μ) : WGs gmNil [] env μ QG := ⟨_, μ, rfl, q⟩
theorem wgs_cons {a : MTg} {b : MTgs} {d : D} {ds : List D} (h : WG a d env μ fun e μ1 => WGs b ds e μ1 QG) : WGs (gmCons a b) (d :: ds) env μ QG := by
  obtain ⟨e, μ1, e1, e', μ2, e2, q⟩ := h
  exact ⟨e', μ2, by unfold gmCons; dsimp only; rw [e1]; exact e2, q⟩
theorem wg_tup {n : Nat} {b : MTgs} {ds : List D} (hl : ds.length = n) (h : WGs b ds env μ QG) : WG (gmTup n b) (.tup ds) env μ QG := by
  obtain ⟨e, μ1, e1, q⟩ := h
  exact ⟨e, μ1, by unfold gmTup; dsimp only; rw [if_pos hl]; exact e1, q⟩
theorem wg_sub {o i : MEx} {d : D} (h : WE o env μ fun x μ1 => ∃ n, x = .ref n ∧ WE i env μ1 fun y μ2 => ∃ k xs j, y = .int k ∧ μ2[n]? = some (.lst xs) ∧ ixN xs.length k = some j ∧ QG env (μ2.set n (.lst (xs.set j d)))) : WG (gmSub o i) d env μ QG := by
  obtain ⟨x, μ1, e1, n, rfl, y, μ2, e2, k, xs, j, rfl, hm, hj, q⟩ := h
  exact ⟨_, _, by unfold gmSub; rw [e1]; dsimp only; rw [e2]; dsimp only; rw [hm]; dsimp only; rw [hj], q⟩
/-! ### statements -/
theorem ws_skip (q : QS .nx env μ) : WS mSkip env μ QS := ⟨_, _, _, rfl, q⟩
@[reducible] def thn (b : MSt) (QS : Fl → Sl → Mem → Prop) : Fl → Sl → Mem → Prop
  | .nx, e, μ1 => WS b e μ1 QS
  | .rt d, e, μ1 => QS (.rt d) e μ1
  | .bk, e, μ1 => QS .bk e μ1
  | .ct, e, μ1 => QS .ct e μ1
theorem ws_seq {a b : MSt} (h : WS a env μ (thn b QS)) : WS (mSeq a b) env μ QS := by
  obtain ⟨f, e, μ1, e1, h⟩ := h
  cases f with
  | nx =>
    obtain ⟨f', e', μ2, e2, q⟩ := h
    exact ⟨f', e', μ2, by unfold mSeq; rw [e1]; exact e2, q⟩
  | _ => exact ⟨_, _, _, by unfold mSeq; rw [e1], h⟩
@[reducible] def endD (Q : D → Mem → Prop) : Fl → Sl → Mem → Prop
  | .nx, _, μ1 => Q .non μ1
  | .rt d, _, μ1 => Q d μ1
  | .bk, _, _ => False
  | .ct, _, _ => False
theorem ws_asg {a : MEx} {g : MTg} (h : WE a env μ fun d μ1 => WG g d env μ1 fun e μ2 => QS .nx e μ2) : WS (mAsg a g) env μ QS := by
  obtain ⟨d, μ1, e1, e, μ2, e2, q⟩ := h
  exact ⟨_, _, _, by unfold mAsg; rw [e1]; dsimp only; rw [e2], q⟩
theorem ws_par {i j : Nat} {r : MAr} (h : WA r env μ fun ds μ1 => ∃ a b, ds = [a, b] ∧ QS .nx ((env.set i (some a)).set j (some b)) μ1) : WS (mPar i j r) env μ QS := by
  obtain ⟨ds, μ1, e1, a, b, rfl, q⟩ := h
  exact ⟨_, _, _, by unfold mPar; rw [e1], q⟩
theorem ws_ex {a : MEx} (h : WE a env μ fun _ μ1 => QS .nx env μ1) : WS (mEx a) env μ QS := by
  obtain ⟨d, μ1, e1, q⟩ := h
  exact ⟨_, _, _, by unfold mEx; rw [e1], q⟩
theorem ws_ret {a : MEx} (h : WE a env μ fun d μ1 => QS (.rt d) env μ1) : WS (mRet a) env μ QS := by
  obtain ⟨d, μ1, e1, q⟩ := h
  exact ⟨_, _, _, by unfold mRet; rw [e1], q⟩
theorem ws_if {c : MTs} {a b : MSt} (h : WT c env μ fun x μ1 => (x = true → WS a env μ1 QS) ∧ (x = false → WS b env μ1 QS)) : WS (mIf c a b) env μ QS := by
  obtain ⟨x, μ1, e1, h1, h2⟩ := h
  cases x with
  | true =>
    obtain ⟨f, e, μ2, e2, q⟩ := h1 rfl
    exact ⟨f, e, μ2, by unfold mIf; rw [e1]; exact e2, q⟩
  | false =>
    obtain ⟨f, e, μ2, e2, q⟩ := h2 rfl
    exact ⟨f, e, μ2, by unfold mIf; rw [e1]; exact e2, q⟩
theorem ws_brk (q : QS .bk env μ) : WS mBrk env μ QS := ⟨_, _, _, rfl, q⟩
theorem ws_cnt (q : QS .ct env μ) : WS mCnt env μ QS := ⟨_, _, _, rfl, q⟩
theorem wf_def {N n : Nat} {m : MSt} {ds : List D} (h : WS m (ds.map some ++ List.replicate (N - n) none) μ (endD Q)) : WF (mDef N n m) ds μ Q := by
  obtain ⟨f, e, μ1, e1, h⟩ := h
  cases f with
  | nx => exact ⟨_, μ1, by unfold mDef; rw [e1], h⟩
  | rt d => exact ⟨d, μ1, by unfold mDef; rw [e1], h⟩
  | _ => exact h.elim
/-! ### loops -/
theorem wi_L {a : MEx} {QI} (h : WE a env μ fun x μ1 => ∃ n xs, x = .ref n ∧ μ1[n]? = some (.lst xs) ∧ QI xs (some (n, xs)) μ1) : WI (iL a) env μ QI := by
  obtain ⟨x, μ1, e1, n, xs, rfl, hm, q⟩ := h
  exact ⟨_, _, _, by unfold iL; rw [e1]; dsimp only; rw [hm], q⟩
theorem wi_S {a : MEx} {QI} (h : WE a env μ fun x μ1 => ∃ xs, x = .scr xs ∧ QI xs none μ1) : WI (iL a) env μ QI := by
  obtain ⟨x, μ1, e1, xs, rfl, q⟩ := h
  exact ⟨_, _, _, by unfold iL; rw [e1], q⟩
theorem wi_T {a : MEx} {QI} (h : WE a env μ fun x μ1 => ∃ xs, x = .tup xs ∧ QI xs none μ1) : WI (iT a) env μ QI := by
  obtain ⟨x, μ1, e1, xs, rfl, q⟩ := h
  exact ⟨_, _, _, by unfold iT; rw [e1], q⟩
theorem wi_R1 {r : MAr} {QI} (h : WA r env μ fun ds μ1 => ∃ j, ds = [.int j] ∧ (-(2 ^ 62) ≤ j ∧ j < 2 ^ 62) ∧ QI (rngD 0 j.toNat) none μ1) : WI (iR1 r) env μ QI := by
  obtain ⟨ds, μ1, e1, j, rfl, hj, q⟩ := h
  exact ⟨_, _, _, by unfold iR1; rw [e1]; dsimp only; rw [if_pos hj], q⟩
/-- the loop's wish: I of what is left -/
theorem ws_forGo {c : Option (Nat × List D)} {g : MTg} {b : MSt} (I : List D → Sl → Mem → Prop) (hs : ∀ r e m, I r e m → still c m)
    (step : ∀ x r e m, I (x :: r) e m → WG g x e m fun e1 m1 => WS b e1 m1 fun f e2 m2 => (f = .nx ∨ f = .ct) ∧ I r e2 m2 ∨ f = .bk ∧ QS .nx e2 m2 ∨ (∃ d, f = .rt d ∧ QS f e2 m2))
    (fin : ∀ e m, I [] e m → QS .nx e m) : ∀ (xs : List D) (env : Sl) (μ : Mem), I xs env μ → WS (forGo c g b xs) env μ QS
  | [], env, μ, h => ⟨_, _, _, by rw [forGo, if_pos (hs _ _ _ h)], fin _ _ h⟩
  | x :: r, env, μ, h => by
    obtain ⟨e1, m1, q1, f, e2, m2, q2, z⟩ := step x r env μ h
    have hc := hs _ _ _ h
    rcases z with ⟨hf, hI⟩ | ⟨rfl, q⟩ | ⟨d, rfl, q⟩
    · obtain ⟨f', e', m', q3, q⟩ := ws_forGo I hs step fin r e2 m2 hI
      refine ⟨f', e', m', ?_, q⟩
      rw [forGo, if_pos hc]
      rw [q1]; dsimp only; rw [q2]
      rcases hf with rfl | rfl <;> exact q3
    · exact ⟨_, _, _, by rw [forGo, if_pos hc, q1]; dsimp only; rw [q2], q⟩
    · exact ⟨_, _, _, by rw [forGo, if_pos hc, q1]; dsimp only; rw [q2], q⟩
theorem ws_for {it : MIt} {g : MTg} {b : MSt} (h : WI it env μ fun xs c μ1 => WS (forGo c g b xs) env μ1 QS) : WS (mFor it g b) env μ QS := by
  obtain ⟨xs, c, μ1, e1, f, e, m, e2, q⟩ := h
  exact ⟨f, e, m, by unfold mFor; rw [e1]; exact e2, q⟩
/-- a while loop: I with how much is left at most -/
theorem ws_while {c : MTs} {b : MSt} (I : Nat → Sl → Mem → Prop)
    (step : ∀ n e m, I n e m → WT c e m fun x m1 => (x = false → QS .nx e m1) ∧ (x = true → WS b e m1 fun f e2 m2 => (f = .nx ∨ f = .ct) ∧ (∃ k, k < n ∧ I k e2 m2) ∨ f = .bk ∧ QS .nx e2 m2 ∨ (∃ d, f = .rt d ∧ QS f e2 m2))) :
    ∀ (N n : Nat) (env : Sl) (μ : Mem), n < N → I n env μ → WS (whileGo c b N) env μ QS
  | 0, n, env, μ, hn, h => absurd hn (Nat.not_lt_zero _)
  | N + 1, n, env, μ, hn, h => by
    obtain ⟨x, m1, q1, h1, h2⟩ := step n env μ h
    cases x with
    | false => exact ⟨_, _, _, by rw [whileGo, q1], h1 rfl⟩
    | true =>
      obtain ⟨f, e2, m2, q2, z⟩ := h2 rfl
      rcases z with ⟨hf, k, hk, hI⟩ | ⟨rfl, q⟩ | ⟨d, rfl, q⟩
      · obtain ⟨f', e', m', q3, q⟩ := ws_while I step N k e2 m2 (by omega) hI
        refine ⟨f', e', m', ?_, q⟩
        rw [whileGo, q1]; dsimp only; rw [q2]
        rcases hf with rfl | rfl <;> exact q3
      · exact ⟨_, _, _, by rw [whileGo, q1]; dsimp only; rw [q2], q⟩
      · exact ⟨_, _, _, by rw [whileGo, q1]; dsimp only; rw [q2], q⟩
/-- a comprehension: I of what is left, what was gathered -/
theorem w_compGo {c : Option (Nat × List D)} {g : MTg} {tt : MTs} {el : MEx} {l : Nat} {env : Sl} {QM : Mem → Prop} (I : List D → List D → Mem → Prop) (hs : ∀ r a m, I r a m → still c m)
    (hl : ∀ r a m, I r a m → a.length + r.length ≤ 100000)
    (step : ∀ x r a m, I (x :: r) a m → m[l]? = some (.lst a) → WG g x env m fun e1 m1 => WT tt e1 m1 fun b m2 => (b = false → I r a m2 ∧ m2[l]? = some (.lst a)) ∧ (b = true → WE el e1 m2 fun d m3 => m3[l]? = some (.lst a) ∧ I r (a ++ [d]) (m3.set l (.lst (a ++ [d])))))
    (fin : ∀ a m, I [] a m → m[l]? = some (.lst a) → QM m) : ∀ (xs a : List D) (μ : Mem), μ[l]? = some (.lst a) → I xs a μ → ∃ m, compGo c g tt el l env xs μ = some m ∧ QM m
  | [], a, μ, hm, h => ⟨μ, by rw [compGo, if_pos (hs _ _ _ h)], fin a μ h hm⟩
  | x :: r, a, μ, hm, h => by
    obtain ⟨e1, m1, q1, b, m2, q2, z1, z2⟩ := step x r a μ h hm
    have hc := hs _ _ _ h
    cases b with
    | false =>
      obtain ⟨i1, i2⟩ := z1 rfl
      obtain ⟨m, q3, q⟩ := w_compGo I hs hl step fin r a m2 i2 i1
      exact ⟨m, by rw [compGo, if_pos hc, q1]; dsimp only; rw [q2]; exact q3, q⟩
    | true =>
      obtain ⟨d, m3, q3, i1, i2⟩ := z2 rfl
      have hlen : l < m3.length := (List.getElem?_eq_some_iff.mp i1).1
      obtain ⟨m, q4, q⟩ := w_compGo I hs hl step fin r (a ++ [d]) (m3.set l (.lst (a ++ [d]))) (by rw [List.getElem?_set_self hlen]) i2
      have hal : a.length < 100000 := by
        have := hl _ _ _ h; simp only [List.length_cons] at this
        omega
      exact ⟨m, by rw [compGo, if_pos hc, q1]; dsimp only; rw [q2]; dsimp only; rw [q3]; dsimp only; rw [i1]; dsimp only; rw [if_pos hal]; exact q4, q⟩
theorem we_lc {it : MIt} {g : MTg} {tt : MTs} {el : MEx} {vs : List Nat} (h : WI it env μ fun xs c μ1 => ∃ m, compGo c g tt el μ1.length (wipeD env vs) xs (μ1 ++ [.lst []]) = some m ∧ Q (.ref μ1.length) m) : WE (mLc it g tt el vs) env μ Q := by
  obtain ⟨xs, c, μ1, e1, m, e2, q⟩ := h
  exact ⟨_, m, by unfold mLc; rw [e1]; dsimp only; rw [e2], q⟩
/-! ### operators -/
theorem wo_int {C : Int → Int → Bool} {g : Int → Int → D} {i j : Int} (h : C i j = true) (q : Q (g i j) μ) : WO (oI C g) (.int i) (.int j) μ Q := ⟨_, μ, by unfold oI; dsimp only; rw [if_pos h], q⟩
theorem wo_int0 {g : Int → Int → D} {i j : Int} (q : Q (g i j) μ) : WO (oI0 g) (.int i) (.int j) μ Q := ⟨_, μ, rfl, q⟩
theorem wo_gt {i j : Int} (q : Q (.bl (decide (j < i))) μ) : WO oGt (.int i) (.int j) μ Q := ⟨_, μ, rfl, q⟩
theorem wo_ge {i j : Int} (q : Q (.bl (decide (j ≤ i))) μ) : WO oGe (.int i) (.int j) μ Q := ⟨_, μ, rfl, q⟩
theorem wo_lt {i j : Int} (q : Q (.bl (decide (i < j))) μ) : WO oLt (.int i) (.int j) μ Q := ⟨_, μ, rfl, q⟩
theorem wo_le {i j : Int} (q : Q (.bl (decide (i ≤ j))) μ) : WO oLe (.int i) (.int j) μ Q := ⟨_, μ, rfl, q⟩
theorem wo_sub {i j : Int} (q : Q (.int (i - j)) μ) : WO oSub (.int i) (.int j) μ Q := ⟨_, μ, rfl, q⟩
theorem wo_add {i j : Int} (q : Q (.int (i + j)) μ) : WO oAdd (.int i) (.int j) μ Q := ⟨_, μ, rfl, q⟩
theorem wo_mod {i j : Int} (h : 0 < j) (q : Q (.int (i % j)) μ) : WO oMod (.int i) (.int j) μ Q := wo_int (decide_eq_true h) q
theorem wo_div {i j : Int} (h : 0 < j ∧ j.natAbs.log2 < 9000) (q : Q (.int (i / j)) μ) : WO oDiv (.int i) (.int j) μ Q := wo_int (decide_eq_true h) q
theorem wo_mul {i j : Int} (h : i.natAbs.log2 + j.natAbs.log2 < 1000000) (q : Q (.int (i * j)) μ) : WO oMulI (.int i) (.int j) μ Q := wo_int (decide_eq_true h) q
theorem wo_pow {i j : Int} (h : 0 ≤ j ∧ j ≤ 1000000 ∧ i.natAbs < 2 ^ 64) (q : Q (.int (i ^ j.toNat)) μ) : WO oPow (.int i) (.int j) μ Q := wo_int (decide_eq_true h) q
theorem wo_ixT {ds : List D} {i : Int} {d : D} (h : L2.atI ds i = some d) (q : Q d μ) : WO oIx (.tup ds) (.int i) μ Q := ⟨d, μ, by unfold oIx; dsimp only; rw [h]; rfl, q⟩
theorem wo_ixR {n : Nat} {ds : List D} {i : Int} {d : D} (hm : μ[n]? = some (.lst ds)) (h : L2.atI ds i = some d) (q : Q d μ) : WO oIx (.ref n) (.int i) μ Q := ⟨d, μ, by unfold oIx lstAt; dsimp only; rw [hm]; dsimp only; rw [Option.bind_some, h]; rfl, q⟩
theorem wo_ixL {ds : List D} {i : Int} {d : D} (h : L2.atI ds i = some d) (q : Q d μ) : WO oIx (.scr ds) (.int i) μ Q := ⟨d, μ, by unfold oIx lstAt; dsimp only; rw [Option.bind_some, h]; rfl, q⟩
theorem wo_ixS {z : Str} {i : Int} {c : Nat} (hz : z.length ≤ 100000) (h : L2.atI z.cps.toList i = some c) (q : Q (.str ⟨#[c]⟩) μ) : WO oIx (.str z) (.int i) μ Q := ⟨_, μ, by unfold oIx; dsimp only; rw [if_pos hz, h]; rfl, q⟩
theorem wf_len {n : Nat} {ds : List D} (hm : μ[n]? = some (.lst ds)) (q : Q (.int ds.length) μ) : WF fLen [.ref n] μ Q := ⟨_, μ, by unfold fLen; simp [lstAt, seqAt, hm], q⟩
end
end MR

local macro_rules
  | `(tactic| decreasing_trivial_pre_omega) => `(tactic| first
    | (with_reducible refine MR.we_varX ?_; refine ⟨_, rfl, ?_⟩)
    | with_reducible refine MR.we_c ?_
    | with_reducible refine MR.we_op ?_
    | with_reducible refine MR.we_un ?_
    | with_reducible refine MR.we_call ?_
    | with_reducible refine MR.wa_cons ?_
    | with_reducible refine MR.wa_nil ?_
    | with_reducible refine MR.we_tup ?_
    | with_reducible refine MR.we_lst ?_
    | with_reducible refine MR.wp_no ?_
    | with_reducible refine MR.wp_pt ?_
    | with_reducible refine MR.we_sl ?_
    | with_reducible refine MR.wt_ts ?_
    | with_reducible refine MR.wt_and ?_
    | with_reducible refine MR.wt_or ?_
    | with_reducible refine MR.wt_not ?_
    | with_reducible refine MR.we_andV ?_
    | with_reducible refine MR.we_orV ?_
    | with_reducible refine MR.we_notV ?_
    | with_reducible refine MR.we_ite ?_
    | with_reducible refine MR.we_chain ?_
    | with_reducible refine MR.we_bmS ?_
    | with_reducible refine MR.we_bm ?_
    | with_reducible refine MR.we_join ?_
    | with_reducible refine MR.wg_n ?_
    | with_reducible refine MR.wgs_nil ?_
    | with_reducible refine MR.wgs_cons ?_
    | with_reducible refine MR.wg_sub ?_
    | with_reducible refine MR.ws_skip ?_
    | with_reducible refine MR.ws_asg ?_
    | with_reducible refine MR.ws_par ?_
    | with_reducible refine MR.ws_ex ?_
    | with_reducible refine MR.ws_ret ?_
    | with_reducible refine MR.ws_if ?_
    | with_reducible refine MR.ws_seq ?_
    | with_reducible refine MR.wo_gt ?_
    | with_reducible refine MR.wo_ge ?_
    | with_reducible refine MR.wo_lt ?_
    | with_reducible refine MR.wo_le ?_
    | with_reducible refine MR.wo_sub ?_
    | with_reducible refine MR.wo_add ?_
    | with_reducible refine MR.we_lc ?_
    | with_reducible refine MR.ws_for ?_)
/-! GM1: the law's drawing, its bag and takes. -/
namespace MR
open PySem L2
noncomputable def m_law_bag : List D → Mem → Option (D × Mem) := mDef 5 2 (mSeq (mAsg (mC (.int 0)) (gmN 2))
  (mSeq (mIf (mTs (mOp oLt (mVar 1) (mCall fLen (mCons (mVar 0) mNil))))
  (mAsg (mOp oIx (mVar 0) (mVar 1)) (gmN 2))
  mSkip)
  (mSeq (mAsg (mC (.int 0)) (gmN 3))
  (mSeq (mIf (mTs (mOp oGe (mCall fAbs (mCons (mVar 2) mNil)) (mOp oPow (mC (.int 10)) (mC (.int 18)))))
  (mAsg (mCall fAbs (mCons (mVar 2) mNil)) (gmN 3))
  mSkip)
  (mSeq (mAsg (mLst (mCons (mC (.int 2147483629)) (mCons (mC (.int 2147483587)) (mCons (mC (.int 2147483579)) (mCons (mC (.int 2147483563)) (mCons (mC (.int 2147483549)) (mCons (mC (.int 2147483543)) (mCons (mC (.int 2147483497)) (mCons (mC (.int 2147483489)) mNil))))))))) (gmN 4))
  (mRet (mLst (mCons (mVar 3) (mCons (mOp oMod (mOp oPow (mOp oAdd (mOp oAdd (mOp oMod (mVar 2) (mC (.int 2147483647))) (mOp oMulI (mC (.int 104729)) (mVar 1))) (mC (.int 7))) (mC (.int 5))) (mOp oIx (mVar 4) (mOp oMod (mVar 1) (mC (.int 8))))) (mCons (mC (.int 0)) mNil))))))))))
noncomputable def m_law_take : List D → Mem → Option (D × Mem) := mDef 3 2 (mSeq (mIf (mTs (mOp oGt (mOp oIx (mVar 0) (mC (.int 0))) (mC (.int 0))))
  (mSeq (mAsg (mOp oMod (mOp oIx (mVar 0) (mC (.int 0))) (mVar 1)) (gmN 2))
  (mSeq (mAsg (mOp oDiv (mOp oIx (mVar 0) (mC (.int 0))) (mVar 1)) (gmSub (mVar 0) (mC (.int 0))))
  (mRet (mVar 2))))
  mSkip)
  (mSeq (mAsg (mOp oAdd (mOp oIx (mVar 0) (mC (.int 2))) (mC (.int 1))) (gmSub (mVar 0) (mC (.int 2))))
  (mSeq (mAsg (mOp oMod (mOp oAdd (mOp oAdd (mOp oMulI (mOp oIx (mVar 0) (mC (.int 1))) (mC (.int 48271))) (mOp oMulI (mOp oMulI (mC (.int 7919)) (mOp oIx (mVar 0) (mC (.int 2)))) (mOp oIx (mVar 0) (mC (.int 2))))) (mC (.int 11))) (mC (.int 2147483647))) (gmSub (mVar 0) (mC (.int 1))))
  (mRet (mOp oMod (mOp oMod (mOp oPow (mOp oDiv (mOp oIx (mVar 0) (mC (.int 1))) (mC (.int 8))) (mC (.int 3))) (mC (.int 2147483629))) (mVar 1))))))
noncomputable def m_law_names : List D → Mem → Option (D × Mem) := mDef 7 2 (mSeq (mAsg (mLst mNil) (gmN 2))
  (mSeq (whileGo (mTs (mOp oLt (mCall fLen (mCons (mVar 2) mNil)) (mVar 1)))
  (mSeq (mAsg (mC (.str "abcdefghijklmnopqrstuvwxyz")) (gmN 3))
  (mSeq (mAsg (mOp oIx (mTup (mCons (mC (.int 1)) (mCons (mC (.int 1)) (mCons (mC (.int 2)) (mCons (mC (.int 3)) (mCons (mC (.int 8)) mNil)))))) (mCall (lenIs 2 m_law_take) (mCons (mVar 0) (mCons (mC (.int 5)) mNil)))) (gmN 4))
  (mSeq (mAsg (mJoin (mC (.str "")) (mLc (iR1 (mCons (mVar 4) mNil)) (gmN 6) mYes (mOp oIx (mVar 3) (mCall (lenIs 2 m_law_take) (mCons (mVar 0) (mCons (mC (.int 26)) mNil)))) [6])) (gmN 5))
  (mSeq (mIf (mAnd (mTs (mOp (oEq true) (mVar 2) (mLst mNil))) (mTs (mOp (oEq false) (mCall (lenIs 2 m_law_take) (mCons (mVar 0) (mCons (mC (.int 3)) mNil))) (mC (.int 0)))))
  (mAsg (mSl (mOp oAdd (mOp oIx (mVar 2) (mC (.int 0))) (mOp oIx (mVar 3) (mCall (lenIs 2 m_law_take) (mCons (mVar 0) (mCons (mC (.int 26)) mNil))))) (mPt (mUn oNeg (mC (.int 8)))) mNo) (gmN 5))
  mSkip)
  (mSeq (whileGo (mTs (mOp (oIn false) (mVar 5) (mOp oAdd (mVar 2) (mLst (mCons (mC (.str "house")) mNil)))))
  (mAsg (mOp oAdd (mOp oIx (mVar 3) (mOp oMod (mOp oAdd (mBMS fSindex (mVar 3) (mCons (mOp oIx (mVar 5) (mC (.int 0))) mNil)) (mC (.int 1))) (mC (.int 26)))) (mSl (mVar 5) (mPt (mC (.int 1))) mNo)) (gmN 5)) 5000)
  (mEx (mBM fAppend (mVar 2) (mCons (mVar 5) mNil)))))))) 5000)
  (mRet (mVar 2))))
noncomputable def m_law_way : List D → Mem → Option (D × Mem) := mDef 6 3 (mSeq (mAsg (mOp oIx (mTup (mCons (mC (.int 1)) (mCons (mC (.int 2)) (mCons (mC (.int 1)) (mCons (mC (.int 2)) (mCons (mC (.int 1)) (mCons (mC (.int 3)) mNil))))))) (mCall (lenIs 2 m_law_take) (mCons (mVar 0) (mCons (mC (.int 6)) mNil)))) (gmN 3))
  (mSeq (mAsg (mOp oAdd (mC (.int 1)) (mCall (lenIs 2 m_law_take) (mCons (mVar 0) (mCons (mVar 3) mNil)))) (gmN 4))
  (mSeq (mAsg (mOp (oEq false) (mCall (lenIs 2 m_law_take) (mCons (mVar 0) (mCons (mC (.int 3)) mNil))) (mC (.int 0))) (gmN 5))
  (mRet (mTup (mCons (mVar 1) (mCons (mVar 2) (mCons (mVar 4) (mCons (mVar 3) (mCons (mVar 5) (mCons (mAndV (mOp (oEq false) (mVar 1) (mC (.str "house"))) (mOp (oEq false) (mCall (lenIs 2 m_law_take) (mCons (mVar 0) (mCons (mC (.int 4)) mNil))) (mC (.int 0)))) mNil)))))))))))
noncomputable def m_law_habits : List D → Mem → Option (D × Mem) := mDef 10 2 (mSeq (mAsg (mCall (lenIs 2 m_law_names) (mCons (mVar 0) (mCons (mCall fMin2 (mCons (mVar 1) (mCons (mOp oIx (mTup (mCons (mC (.int 2)) (mCons (mC (.int 2)) (mCons (mC (.int 1)) (mCons (mC (.int 2)) (mCons (mC (.int 3)) (mCons (mC (.int 2)) mNil))))))) (mCall (lenIs 2 m_law_take) (mCons (mVar 0) (mCons (mC (.int 6)) mNil)))) mNil))) mNil))) (gmN 2))
  (mSeq (mPar 4 5 (mCons (mLst mNil) (mCons (mLst mNil) mNil)))
  (mSeq (mFor (iL (mVar 2)) (gmN 3)
  (mSeq (mAsg (mOp oIx (mTup (mCons (mC (.str "saying")) (mCons (mC (.str "saying")) (mCons (mC (.str "still")) mNil)))) (mCall (lenIs 2 m_law_take) (mCons (mVar 0) (mCons (mC (.int 3)) mNil)))) (gmN 6))
  (mSeq (mEx (mBM fAppend (mVar 4) (mCons (mTup (mCons (mVar 3) (mCons (mVar 6) (mCons (mOp oIx (mTup (mCons (mC (.int 1)) (mCons (mC (.int 2)) (mCons (mC (.int 1)) (mCons (mC (.int 2)) (mCons (mC (.int 1)) (mCons (mC (.int 3)) (mCons (mC .non) (mCons (mC (.int 2)) mNil))))))))) (mCall (lenIs 2 m_law_take) (mCons (mVar 0) (mCons (mC (.int 8)) mNil)))) mNil)))) mNil)))
  (mSeq (mEx (mBM fInsert (mVar 5) (mCons (mCall (lenIs 2 m_law_take) (mCons (mVar 0) (mCons (mOp oAdd (mCall fLen (mCons (mVar 5) mNil)) (mC (.int 1))) mNil))) (mCons (mCall (lenIs 3 m_law_way) (mCons (mVar 0) (mCons (mVar 3) (mCons (mC (.str "house")) mNil)))) mNil))))
  (mSeq (mIf (mTs (mOp oGt (mCall (lenIs 2 m_law_take) (mCons (mVar 0) (mCons (mC (.int 6)) mNil))) (mC (.int 0))))
  (mEx (mBM fInsert (mVar 5) (mCons (mCall (lenIs 2 m_law_take) (mCons (mVar 0) (mCons (mOp oAdd (mCall fLen (mCons (mVar 5) mNil)) (mC (.int 1))) mNil))) (mCons (mCall (lenIs 3 m_law_way) (mCons (mVar 0) (mCons (mC (.str "house")) (mCons (mVar 3) mNil)))) mNil))))
  mSkip)
  (mFor (iL (mVar 2)) (gmN 7)
  (mSeq (mAsg (mLc (iL (mVar 5)) (gmN 9) (mTs (mOp (oIn true) (mC (.str "house")) (mSl (mVar 9) mNo (mPt (mC (.int 2)))))) (mVar 9) [9]) (gmN 8))
  (mIf (mAnd (mTs (mOp (oEq true) (mVar 7) (mVar 3))) (mAnd (mTs (mOp oLt (mCall fLen (mCons (mVar 8) mNil)) (mC (.int 2)))) (mTs (mOp (oEq false) (mCall (lenIs 2 m_law_take) (mCons (mVar 0) (mCons (mOp oMulI (mC (.int 2)) (mCall fLen (mCons (mVar 2) mNil))) mNil))) (mC (.int 0))))))
  (mEx (mBM fInsert (mVar 5) (mCons (mCall (lenIs 2 m_law_take) (mCons (mVar 0) (mCons (mOp oAdd (mCall fLen (mCons (mVar 5) mNil)) (mC (.int 1))) mNil))) (mCons (mCall (lenIs 3 m_law_way) (mCons (mVar 0) (mCons (mVar 3) (mCons (mVar 7) mNil)))) mNil))))
  mSkip))))))))
  (mRet (mTup (mCons (mCall fTuple (mCons (mVar 4) mNil)) (mCons (mCall fTuple (mCons (mVar 5) mNil)) (mCons (mOp oIx (mTup (mCons (mC (.int 1)) (mCons (mC (.int 1)) (mCons (mC (.int 2)) (mCons (mC (.int 0)) mNil))))) (mCall (lenIs 2 m_law_take) (mCons (mVar 0) (mCons (mC (.int 4)) mNil)))) mNil))))))))
end MR

/-! GM1: the law's drawing, its bag and takes. -/
namespace MR
open PySem L2
/-- one place of the memory may differ -/
def Fr1 (n : Nat) (μ μ' : Mem) : Prop := μ'.length = μ.length ∧ ∀ m, m ≠ n → μ'[m]? = μ[m]?
theorem Fr1.refl (n : Nat) (μ : Mem) : Fr1 n μ μ := ⟨rfl, fun _ _ => rfl⟩
theorem Fr1.trans {n : Nat} {μ μ1 μ2 : Mem} (a : Fr1 n μ μ1) (b : Fr1 n μ1 μ2) : Fr1 n μ μ2 := ⟨b.1.trans a.1, fun m h => (b.2 m h).trans (a.2 m h)⟩
theorem fr1_set {n : Nat} {μ : Mem} {o : MO} : Fr1 n μ (μ.set n o) := ⟨by simp, fun m h => by rw [List.getElem?_set_ne (Ne.symm h)]⟩
/-- the bag stands at n, c takes behind it at most -/
def BagAt (μ : Mem) (n : Nat) (c : Int) : Prop := ∃ g s k, μ[n]? = some (.lst [.int g, .int s, .int k]) ∧ 0 ≤ g ∧ 0 ≤ s ∧ s < 2147483647 ∧ 0 ≤ k ∧ k ≤ c
theorem BagAt.mono {μ : Mem} {n : Nat} {c c' : Int} (h : BagAt μ n c) (e : c ≤ c') : BagAt μ n c' := by
  obtain ⟨g, s, k, h1, h2, h3, h4, h5, h6⟩ := h
  exact ⟨g, s, k, h1, h2, h3, h4, h5, by omega⟩
theorem log2_lt {a : Nat} {k : Nat} (h : a < 2 ^ k) (hk : 0 < k) : a.log2 < k := by
  by_cases h0 : a = 0
  · subst h0; simpa using hk
  · exact ((Nat.log2_lt h0).mpr h)
theorem log2_int {i : Int} {k : Nat} (h0 : 0 ≤ i) (h : i < 2 ^ k) (hk : 0 < k) : i.natAbs.log2 < k := log2_lt (by have : ((i.natAbs : Nat) : Int) < ((2 ^ k : Nat) : Int) := by
                                                                                                                    rw [Int.natAbs_of_nonneg h0]; simpa using h
                                                                                                                  exact Int.ofNat_lt.mp this) hk
theorem w_take {μ : Mem} {Q : D → Mem → Prop} {n : Nat} {c many : Int} (B : BagAt μ n c) (hc : c < 1000000000) (hk : 0 < many) (hk2 : many < 2 ^ 63)
    (q : ∀ d μ', 0 ≤ d → d < many → BagAt μ' n (c + 1) → Fr1 n μ μ' → Q (.int d) μ') : WF m_law_take [.ref n, .int many] μ Q := by
  obtain ⟨g, s, k, hm, g0, s0, s1, k0, k1⟩ := B
  have hn : n < μ.length := (List.getElem?_eq_some_iff.mp hm).1
  have hl : many.natAbs.log2 < 9000 := Nat.lt_trans (log2_int (k := 63) (by omega) hk2 (by decide)) (by decide)
  refine wf_def ?_
  show WS _ [some (.ref n), some (.int many), none] _ _
  repeat decreasing_trivial_pre_omega
  refine wo_ixR hm rfl ?_
  repeat decreasing_trivial_pre_omega
  refine ⟨_, rfl, fun hg => ?_, fun hg => ?_⟩
  · have hg : 0 < g := of_decide_eq_true hg
    repeat decreasing_trivial_pre_omega
    refine wo_ixR hm rfl ?_
    repeat decreasing_trivial_pre_omega
    refine wo_mod hk ?_
    repeat decreasing_trivial_pre_omega
    refine wo_ixR hm rfl ?_
    repeat decreasing_trivial_pre_omega
    refine wo_div ⟨hk, hl⟩ ?_
    repeat decreasing_trivial_pre_omega
    refine ⟨_, rfl, ?_⟩
    repeat decreasing_trivial_pre_omega
    refine ⟨_, _, _, rfl, hm, rfl, ?_⟩
    repeat decreasing_trivial_pre_omega
    refine q _ _ (Int.emod_nonneg _ (by omega)) (Int.emod_lt_of_pos _ hk) ⟨g / many, s, k, by rw [List.getElem?_set_self hn]; rfl, Int.ediv_nonneg g0 (by omega), s0, s1, k0, by omega⟩ fr1_set
  · repeat decreasing_trivial_pre_omega
    refine wo_ixR hm rfl ?_
    repeat decreasing_trivial_pre_omega
    refine ⟨_, rfl, ?_⟩
    repeat decreasing_trivial_pre_omega
    refine ⟨_, _, _, rfl, hm, rfl, ?_⟩
    have hm1 : (μ.set n (.lst [.int g, .int s, .int (k + 1)]))[n]? = some (.lst [.int g, .int s, .int (k + 1)]) := List.getElem?_set_self hn
    repeat decreasing_trivial_pre_omega
    refine wo_ixR hm1 rfl ?_
    repeat decreasing_trivial_pre_omega
    have l31 : s.natAbs.log2 < 31 := log2_int s0 (by omega) (by decide)
    have lk : (k + 1).natAbs.log2 < 31 := log2_int (by omega) (by omega) (by decide)
    refine wo_mul (by have : (48271 : Int).natAbs.log2 < 31 := by decide
                      omega) ?_
    repeat decreasing_trivial_pre_omega
    refine wo_ixR hm1 rfl ?_
    repeat decreasing_trivial_pre_omega
    refine wo_mul (by have : (7919 : Int).natAbs.log2 < 31 := by decide
                      omega) ?_
    repeat decreasing_trivial_pre_omega
    refine wo_ixR hm1 rfl ?_
    have lk2 : (7919 * (k + 1)).natAbs.log2 < 63 := log2_int (by omega) (by omega) (by decide)
    refine wo_mul (by omega) ?_
    repeat decreasing_trivial_pre_omega
    refine wo_mod (by decide) ?_
    repeat decreasing_trivial_pre_omega
    refine ⟨_, rfl, ?_⟩
    repeat decreasing_trivial_pre_omega
    refine ⟨_, _, _, rfl, hm1, rfl, ?_⟩
    rw [List.set_set]
    generalize hz : (s * 48271 + 7919 * (k + 1) * (k + 1) + 11) % 2147483647 = z
    have z0 : 0 ≤ z := by rw [← hz]; exact Int.emod_nonneg _ (by decide)
    have z1 : z < 2147483647 := by rw [← hz]; exact Int.emod_lt_of_pos _ (by decide)
    have hm2 : (μ.set n (.lst [.int g, .int z, .int (k + 1)]))[n]? = some (.lst [.int g, .int z, .int (k + 1)]) := List.getElem?_set_self hn
    repeat decreasing_trivial_pre_omega
    refine wo_ixR hm2 rfl ?_
    repeat decreasing_trivial_pre_omega
    refine wo_div (by decide) ?_
    repeat decreasing_trivial_pre_omega
    refine wo_pow ⟨by decide, by decide, ?_⟩ ?_
    · have h1 : 0 ≤ z / 8 := Int.ediv_nonneg z0 (by decide)
      have h2 : z / 8 < 2147483647 := by omega
      omega
    repeat decreasing_trivial_pre_omega
    refine wo_mod (by decide) ?_
    repeat decreasing_trivial_pre_omega
    refine wo_mod hk ?_
    repeat decreasing_trivial_pre_omega
    refine q _ _ (Int.emod_nonneg _ (by omega)) (Int.emod_lt_of_pos _ hk) ⟨g, z, k + 1, hm2, g0, z0, z1, by omega, by omega⟩ fr1_set
end MR

/-! GM2: the bag made. -/
namespace MR
open PySem L2
theorem ixN_nat {n k : Nat} (h : k < n) : ixN n (k : Int) = some k := by
  unfold ixN
  simp [h]
  try omega
theorem atI_nat {α : Type} {ds : List α} {k : Nat} {d : α} (h : ds[k]? = some d) : L2.atI ds (k : Int) = some d := by
  unfold L2.atI
  rw [ixN_nat (List.getElem?_eq_some_iff.mp h).1]
  exact h
/-- the memory grew; one place may differ -/
def Fr (n : Nat) (μ μ' : Mem) : Prop := μ.length ≤ μ'.length ∧ ∀ m, m < μ.length → m ≠ n → μ'[m]? = μ[m]?
theorem Fr.refl (n : Nat) (μ : Mem) : Fr n μ μ := ⟨Nat.le_refl _, fun _ _ _ => rfl⟩
theorem Fr.trans {n : Nat} {μ μ1 μ2 : Mem} (a : Fr n μ μ1) (b : Fr n μ1 μ2) : Fr n μ μ2 := ⟨Nat.le_trans a.1 b.1, fun m h hn => (b.2 m (Nat.lt_of_lt_of_le h a.1) hn).trans (a.2 m h hn)⟩
theorem Fr1.fr {n : Nat} {μ μ1 : Mem} (a : Fr1 n μ μ1) : Fr n μ μ1 := ⟨Nat.le_of_eq a.1.symm, fun m _ hn => a.2 m hn⟩
theorem fr_app {n : Nat} {μ : Mem} {xs : List MO} : Fr n μ (μ ++ xs) := ⟨by simp, fun m h _ => by rw [List.getElem?_append_left h]⟩
theorem wf_lenS {ds : List D} {μ : Mem} {Q : D → Mem → Prop} (q : Q (.int ds.length) μ) : WF fLen [.scr ds] μ Q := ⟨_, μ, rfl, q⟩
theorem wf_abs {i : Int} {μ : Mem} {Q : D → Mem → Prop} (q : ∀ j : Int, 0 ≤ j → Q (.int j) μ) : WF fAbs [.int i] μ Q := ⟨_, μ, rfl, q _ (by split <;> omega)⟩
theorem prime_at {k : Int} : ∃ p, L2.atI [D.int 2147483629, .int 2147483587, .int 2147483579, .int 2147483563, .int 2147483549, .int 2147483543, .int 2147483497, .int 2147483489] (k % 8) = some (.int p) ∧ 0 < p ∧ p < 2147483647 := by
  have h : k % 8 = 0 ∨ k % 8 = 1 ∨ k % 8 = 2 ∨ k % 8 = 3 ∨ k % 8 = 4 ∨ k % 8 = 5 ∨ k % 8 = 6 ∨ k % 8 = 7 := by omega
  rcases h with h | h | h | h | h | h | h | h <;> rw [h] <;> exact ⟨_, rfl, by decide, by decide⟩
theorem w_bag {xs : List Int} {k : Nat} {μ : Mem} {Q : D → Mem → Prop} (hk : k < 1000000)
    (q : ∀ μ', BagAt μ' (μ.length + 1) 0 → μ'.length = μ.length + 2 → (∀ m, m < μ.length → μ'[m]? = μ[m]?) → Q (.ref (μ.length + 1)) μ') : WF m_law_bag [.scr (xs.map .int), .int k] μ Q := by
  have fin : ∀ (cell : Int) (g : Int), 0 ≤ g → WS (mSeq (mAsg (mLst (mCons (mC (.int 2147483629)) (mCons (mC (.int 2147483587)) (mCons (mC (.int 2147483579)) (mCons (mC (.int 2147483563)) (mCons (mC (.int 2147483549)) (mCons (mC (.int 2147483543)) (mCons (mC (.int 2147483497)) (mCons (mC (.int 2147483489)) mNil))))))))) (gmN 4))
      (mRet (mLst (mCons (mVar 3) (mCons (mOp oMod (mOp oPow (mOp oAdd (mOp oAdd (mOp oMod (mVar 2) (mC (.int 2147483647))) (mOp oMulI (mC (.int 104729)) (mVar 1))) (mC (.int 7))) (mC (.int 5))) (mOp oIx (mVar 4) (mOp oMod (mVar 1) (mC (.int 8))))) (mCons (mC (.int 0)) mNil))))))
      [some (.scr (xs.map .int)), some (.int k), some (.int cell), some (.int g), none] μ (endD Q) := by
    intro cell g g0
    repeat decreasing_trivial_pre_omega
    refine ⟨by decide, ?_⟩
    repeat decreasing_trivial_pre_omega
    have c0 : 0 ≤ cell % 2147483647 := Int.emod_nonneg _ (by decide)
    have c1 : cell % 2147483647 < 2147483647 := Int.emod_lt_of_pos _ (by decide)
    refine wo_mod (by decide) ?_
    repeat decreasing_trivial_pre_omega
    refine wo_mul (by have : (104729 : Int).natAbs.log2 < 31 := by decide
                      have : (k : Int).natAbs.log2 < 31 := log2_int (by omega) (by omega) (by decide)
                      omega) ?_
    repeat decreasing_trivial_pre_omega
    refine wo_pow ⟨by decide, by decide, by omega⟩ ?_
    repeat decreasing_trivial_pre_omega
    refine wo_mod (by decide) ?_
    obtain ⟨p, hp, p0, p1⟩ := @prime_at k
    refine wo_ixR (by rw [List.getElem?_append_right (Nat.le_refl _)]; simp) hp ?_
    refine wo_mod p0 ?_
    repeat decreasing_trivial_pre_omega
    refine ⟨by simp, ?_⟩
    have e : (μ ++ [MO.lst [D.int 2147483629, .int 2147483587, .int 2147483579, .int 2147483563, .int 2147483549, .int 2147483543, .int 2147483497, .int 2147483489]]).length = μ.length + 1 := by simp
    rw [e]
    refine q _ ⟨g, _, 0, by rw [List.getElem?_append_right (by omega)]; simp; rfl, g0, Int.emod_nonneg _ (by omega), Int.lt_trans (Int.emod_lt_of_pos _ p0) p1, by decide, by decide⟩ (by simp) fun m hm => by rw [List.getElem?_append_left (by rw [e]; omega), List.getElem?_append_left hm]
  have mid : ∀ (cell : Int), WS (mSeq (mAsg (mC (.int 0)) (gmN 3))
      (mSeq (mIf (mTs (mOp oGe (mCall fAbs (mCons (mVar 2) mNil)) (mOp oPow (mC (.int 10)) (mC (.int 18)))))
      (mAsg (mCall fAbs (mCons (mVar 2) mNil)) (gmN 3))
      mSkip)
      (mSeq (mAsg (mLst (mCons (mC (.int 2147483629)) (mCons (mC (.int 2147483587)) (mCons (mC (.int 2147483579)) (mCons (mC (.int 2147483563)) (mCons (mC (.int 2147483549)) (mCons (mC (.int 2147483543)) (mCons (mC (.int 2147483497)) (mCons (mC (.int 2147483489)) mNil))))))))) (gmN 4))
      (mRet (mLst (mCons (mVar 3) (mCons (mOp oMod (mOp oPow (mOp oAdd (mOp oAdd (mOp oMod (mVar 2) (mC (.int 2147483647))) (mOp oMulI (mC (.int 104729)) (mVar 1))) (mC (.int 7))) (mC (.int 5))) (mOp oIx (mVar 4) (mOp oMod (mVar 1) (mC (.int 8))))) (mCons (mC (.int 0)) mNil))))))))
      [some (.scr (xs.map .int)), some (.int k), some (.int cell), none, none] μ (endD Q) := by
    intro cell
    repeat decreasing_trivial_pre_omega
    refine wf_abs fun j hj => ?_
    repeat decreasing_trivial_pre_omega
    refine wo_pow (by decide) ?_
    repeat decreasing_trivial_pre_omega
    refine ⟨_, rfl, fun _ => ?_, fun _ => ?_⟩
    · decreasing_trivial_pre_omega
      repeat decreasing_trivial_pre_omega
      refine wf_abs fun j hj => ?_
      decreasing_trivial_pre_omega
      exact fin cell _ hj
    · decreasing_trivial_pre_omega
      exact fin cell 0 (by omega)
  refine wf_def ?_
  show WS _ [some (.scr (xs.map .int)), some (.int k), none, none, none] _ _
  decreasing_trivial_pre_omega; decreasing_trivial_pre_omega; decreasing_trivial_pre_omega; decreasing_trivial_pre_omega
  decreasing_trivial_pre_omega; decreasing_trivial_pre_omega; decreasing_trivial_pre_omega
  decreasing_trivial_pre_omega; decreasing_trivial_pre_omega
  decreasing_trivial_pre_omega; decreasing_trivial_pre_omega; decreasing_trivial_pre_omega; decreasing_trivial_pre_omega
  refine wf_lenS ?_
  repeat decreasing_trivial_pre_omega
  refine ⟨_, rfl, fun h => ?_, fun _ => ?_⟩
  · have h : (k : Int) < ((xs.map D.int).length : Nat) := of_decide_eq_true h
    have h : k < (xs.map D.int).length := by omega
    repeat decreasing_trivial_pre_omega
    have hx : (xs.map D.int)[k]? = some (.int (xs[k]'(by simpa using h))) := by
      rw [List.getElem?_map, List.getElem?_eq_getElem (by simpa using h)]
      rfl
    refine wo_ixL (atI_nat hx) ?_
    decreasing_trivial_pre_omega
    exact mid _
  · decreasing_trivial_pre_omega
    exact mid _
end MR

/-! GM3: texts: lists of them compared, joined, cut. -/
namespace MR
open PySem L2
theorem mapM_strs {μ : Mem} {k : Nat} : ∀ ts : List Str, (ts.map D.str).mapM (toPy μ (k + 1)) = some (ts.map PyData.str)
  | [] => rfl
  | t :: r => by
    have ih := mapM_strs (μ := μ) (k := k) r
    simp only [List.map_cons, List.mapM_cons, ih]
    rfl
theorem toPy_strs {μ : Mem} {f : Nat} {ts : List Str} (h : μ[f]? = some (.lst (ts.map D.str))) : toPy μ 40 (.ref f) = some (.list (ts.map PyData.str)) := by
  show (match μ[f]? with | some (.lst ds) => (ds.mapM (toPy μ 39)).map PyData.list | _ => none) = _
  rw [h]
  dsimp only
  rw [mapM_strs]
  rfl
theorem canLay_strs : ∀ ts : List Str, (∀ t ∈ ts, PyData.strOk t = true) → PyData.canLayAll0 (ts.map PyData.str) = true
  | [], _ => rfl
  | t :: r, h => by
    have ih := canLay_strs r fun u hu => h u (List.mem_cons_of_mem _ hu)
    simp only [List.map_cons, PyData.canLayAll0, PyData.canLay0, ih, h t List.mem_cons_self, Bool.and_self]
theorem depth_strs : ∀ ts : List Str, PyData.depthAll (ts.map PyData.str) ≤ 1
  | [] => (by simp [PyData.depthAll])
  | t :: r => by
    have ih := depth_strs r; simp only [List.map_cons, PyData.depthAll, PyData.depth]
    omega
theorem shaped_strs (ts : List Str) (h : ∀ t ∈ ts, PyData.strOk t = true) : SeqAt.shaped (.list (ts.map PyData.str)) = true := by
  unfold SeqAt.shaped
  have := depth_strs ts
  have e : PyData.depth (.list (ts.map PyData.str)) ≤ 64 := by
    rw [PyData.depth]
    omega
  rw [decide_eq_true e, Bool.and_true, PyData.canLay0, canLay_strs ts h]
theorem shaped_str {t : Str} (h : PyData.strOk t = true) : SeqAt.shaped (.str t) = true := by
  unfold SeqAt.shaped
  have e : PyData.depth (.str t) ≤ 64 := by
    rw [PyData.depth]
    omega
  rw [decide_eq_true e, Bool.and_true, PyData.canLay0, h]
theorem shaped_int (t : Int) : SeqAt.shaped (.int t) = true := rfl
theorem eqv_nil : ∀ ts : List Str, PyData.eqv (.list (ts.map PyData.str)) (.list []) = ts.isEmpty
  | [] => rfl
  | t :: r => by simp [PyData.eqv, PyData.eqvAll]
theorem any_strs (t : Str) : ∀ ts : List Str, ((ts.map PyData.str).any fun z => PyData.eqv z (.str t)) = decide (t ∈ ts)
  | [] => rfl
  | u :: r => by
    have ih := any_strs t r
    simp only [List.map_cons, List.any_cons, ih, PyData.eqv, List.mem_cons]
    by_cases h : u = t
    · subst h; simp
    · have h' : ¬ t = u := fun e => h e.symm
      have : (u == t) = false := beq_eq_false_iff_ne.mpr h
      simp [this, h']
section
variable {μ : Mem} {Q : D → Mem → Prop}
/-- == and != of plain things -/
theorem wo_eq {x y : D} {a b : PyData} (ha : toPy μ 40 x = some a) (hb : toPy μ 40 y = some b) (sa : SeqAt.shaped a = true) (sb : SeqAt.shaped b = true) (q : Q (.bl (PyData.eqv a b)) μ) : WO (oEq false) x y μ Q :=
  ⟨_, μ, by unfold oEq; rw [ha, hb]; dsimp only; rw [if_pos ⟨sa, sb⟩]; rfl, q⟩
theorem wo_ne {x y : D} {a b : PyData} (ha : toPy μ 40 x = some a) (hb : toPy μ 40 y = some b) (sa : SeqAt.shaped a = true) (sb : SeqAt.shaped b = true) (q : Q (.bl (!PyData.eqv a b)) μ) : WO (oEq true) x y μ Q :=
  ⟨_, μ, by unfold oEq; rw [ha, hb]; dsimp only; rw [if_pos ⟨sa, sb⟩]; rfl, q⟩
theorem wo_eqI {i j : Int} (q : Q (.bl (i == j)) μ) : WO (oEq false) (.int i) (.int j) μ Q := wo_eq rfl rfl rfl rfl q
theorem wo_eqS {a b : Str} (ha : PyData.strOk a = true) (hb : PyData.strOk b = true) (q : Q (.bl (a == b)) μ) : WO (oEq false) (.str a) (.str b) μ Q := wo_eq rfl rfl (shaped_str ha) (shaped_str hb) q
theorem wo_neS {a b : Str} (ha : PyData.strOk a = true) (hb : PyData.strOk b = true) (q : Q (.bl (!(a == b))) μ) : WO (oEq true) (.str a) (.str b) μ Q := wo_ne rfl rfl (shaped_str ha) (shaped_str hb) q
theorem wo_inL {t : Str} {f : Nat} {ts : List Str} (ht : PyData.strOk t = true) (hts : ∀ t ∈ ts, PyData.strOk t = true) (h : μ[f]? = some (.lst (ts.map D.str))) (q : Q (.bl (decide (t ∈ ts))) μ) : WO (oIn false) (.str t) (.ref f) μ Q := by
  refine ⟨.bl (decide (t ∈ ts)), μ, ?_, q⟩
  show (match toPy μ 40 (.str t), toPy μ 40 (.ref f) with
    | some a, some (.list bs) => if SeqAt.shaped a = true ∧ SeqAt.shaped (.list bs) = true then some ((.bl (if false then !bs.any fun z => PyData.eqv z a else bs.any fun z => PyData.eqv z a), μ) : D × Mem) else none
    | _, _ => none) = _
  rw [toPy_strs h]
  show (if SeqAt.shaped (.str t) = true ∧ SeqAt.shaped (.list (ts.map PyData.str)) = true then some ((.bl ((ts.map PyData.str).any fun z => PyData.eqv z (.str t)), μ) : D × Mem) else none) = _
  rw [if_pos ⟨shaped_str ht, shaped_strs ts hts⟩, any_strs]
theorem wo_addL {m n : Nat} {xs ys : List D} (h1 : μ[m]? = some (.lst xs)) (h2 : μ[n]? = some (.lst ys)) (hl : xs.length + ys.length ≤ 100000) (q : Q (.ref μ.length) (μ ++ [.lst (xs ++ ys)])) : WO oAdd (.ref m) (.ref n) μ Q :=
  ⟨_, _, by unfold oAdd; dsimp only; rw [h1, h2]; dsimp only; rw [if_pos hl], q⟩
theorem wo_addS {a b : Str} (hl : a.length + b.length ≤ 100000) (q : Q (.str (a ++ b)) μ) : WO oAdd (.str a) (.str b) μ Q := ⟨_, μ, by unfold oAdd; dsimp only; rw [if_pos hl], q⟩
end
/-! ### texts of small letters -/
def Low (s : Str) : Prop := ∀ c ∈ s.cps.toList, 97 ≤ c ∧ c ≤ 122
def okT (s : Str) : Prop := 1 ≤ s.length ∧ s.length ≤ 8 ∧ Low s
theorem app_list (a b : Str) : (a ++ b).cps.toList = a.cps.toList ++ b.cps.toList := by
  show (a.cps ++ b.cps).toList = _
  simp
theorem app_len (a b : Str) : (a ++ b).length = a.length + b.length := by
  show ((a.cps ++ b.cps).size = _)
  simp [Str.length]
theorem low_app {a b : Str} (ha : Low a) (hb : Low b) : Low (a ++ b) := fun c h => by
  rw [app_list] at h; rcases List.mem_append.mp h with h | h
  · exact ha c h
  · exact hb c h
theorem gl_cps : ∀ (rest : List Str) (acc : Array Nat), (rest.foldl (fun acc p => acc ++ (("" : Str)).cps ++ p.cps) acc).toList = acc.toList ++ (rest.map (·.cps.toList)).flatten
  | [], acc => by simp
  | p :: r, acc => by
    rw [List.foldl_cons, gl_cps r]
    have e : (("" : Str)).cps = #[] := by decide +kernel
    rw [e]
    simp
theorem join_cps (ys : List Str) : (Txt.join ("" : Str) ys).cps.toList = (ys.map (·.cps.toList)).flatten := by
  show (Builtin.Str.glued ("" : Str) ys).cps.toList = _
  unfold Builtin.Str.glued
  rw [gl_cps]
  cases ys with
  | nil => rfl
  | cons x r => rfl
theorem len_list (s : Str) : s.length = s.cps.toList.length := by simp [Str.length]
theorem low_join {ys : List Str} (h : ∀ y ∈ ys, y.length = 1 ∧ Low y) : (Txt.join ("" : Str) ys).length = ys.length ∧ Low (Txt.join ("" : Str) ys) := by
  constructor
  · rw [len_list, join_cps]
    induction ys with
    | nil => rfl
    | cons y r ih =>
      have h1 := (h y List.mem_cons_self).1
      rw [len_list] at h1
      simp only [List.map_cons, List.flatten_cons, List.length_append, List.length_cons]
      rw [ih fun z hz => h z (List.mem_cons_of_mem _ hz)]
      omega
  · intro c hc
    rw [join_cps] at hc
    obtain ⟨l, hl, hc⟩ := List.mem_flatten.mp hc
    obtain ⟨y, hy, rfl⟩ := List.mem_map.mp hl
    exact (h y hy).2 c hc
abbrev base : Str := "abcdefghijklmnopqrstuvwxyz"
theorem base_list : base.cps.toList = (List.range 26).map (97 + ·) := by decide +kernel
theorem base_len : base.length = 26 := by decide +kernel
theorem base_at {d : Int} (h0 : 0 ≤ d) (h1 : d < 26) : L2.atI base.cps.toList d = some (97 + d.toNat) := by
  obtain ⟨k, rfl⟩ := Int.eq_ofNat_of_zero_le h0
  refine atI_nat ?_
  rw [base_list, List.getElem?_map, List.getElem?_range (by omega)]
  rfl
theorem occ_all : ∀ k, k < 26 → Builtin.Str.occurrences base ⟨#[97 + k]⟩ 0 base.length 1 = [k] := by
  have h : ∀ k : Fin 26, Builtin.Str.occurrences base ⟨#[97 + k.val]⟩ 0 base.length 1 = [k.val] := by decide +kernel
  exact fun k hk => h ⟨k, hk⟩
theorem low_ok {s : Str} (h : Low s) : PyData.strOk s = true := by
  unfold PyData.strOk
  rw [Array.all_eq_true']
  intro c hc
  have := h c (by simpa using hc); exact decide_eq_true (by omega)
theorem low_one {c : Nat} (h : 97 ≤ c ∧ c ≤ 122) : Low ⟨#[c]⟩ := fun x hx => by
  simp at hx
  subst hx
  exact h
end MR

/-! GM4: names drawn. -/
namespace MR
open PySem L2
section
variable {μ : Mem} {Q : D → Mem → Prop} {n : Nat} {c : Int}
theorem BagAt.lt (B : BagAt μ n c) : n < μ.length := by
  obtain ⟨_, _, _, h, _⟩ := B; exact (List.getElem?_eq_some_iff.mp h).1
theorem BagAt.fr {μ' : Mem} (B : BagAt μ n c) (h : μ'[n]? = μ[n]?) : BagAt μ' n c := by
  obtain ⟨g, s, k, h1, h2⟩ := B
  exact ⟨g, s, k, by rw [h, h1], h2⟩
theorem BagAt.app {xs : List MO} (B : BagAt μ n c) : BagAt (μ ++ xs) n c := B.fr (by rw [List.getElem?_append_left B.lt])
theorem BagAt.set {m : Nat} {o : MO} (B : BagAt μ n c) (h : m ≠ n) : BagAt (μ.set m o) n c := B.fr (by rw [List.getElem?_set_ne h])
theorem fr_set {n : Nat} {μ μ0 : Mem} {m : Nat} {o : MO} (h : Fr n μ0 μ) (hm : μ0.length ≤ m) : Fr n μ0 (μ.set m o) := ⟨by simpa using h.1, fun k hk hn => by rw [List.getElem?_set_ne (by omega)]; exact h.2 k hk hn⟩
noncomputable abbrev mTake (k : MEx) : MEx := mCall (lenIs 2 m_law_take) (mCons (mVar 0) (mCons k mNil))
theorem we_take {env : Sl} {k : MEx} {many : Int} (h0 : env[0]? = some (some (.ref n))) (hk : WE k env μ fun d μ1 => d = .int many ∧ μ1 = μ) (B : BagAt μ n c) (hc : c < 1000000000) (k0 : 0 < many) (k1 : many < 2 ^ 63)
    (q : ∀ d μ', 0 ≤ d → d < many → BagAt μ' n (c + 1) → Fr1 n μ μ' → Q (.int d) μ') : WE (mTake k) env μ Q := by
  refine we_call (wa_cons (we_var h0 (wa_cons ?_)))
  obtain ⟨d, μ1, e, rfl, rfl⟩ := hk
  exact ⟨_, _, e, wa_nil (wf_lenIs rfl (w_take B hc k0 k1 q))⟩
theorem we_takeC {env : Sl} {many : Int} (h0 : env[0]? = some (some (.ref n))) (B : BagAt μ n c) (hc : c < 1000000000) (k0 : 0 < many) (k1 : many < 2 ^ 63)
    (q : ∀ d μ', 0 ≤ d → d < many → BagAt μ' n (c + 1) → Fr1 n μ μ' → Q (.int d) μ') : WE (mTake (mC (.int many))) env μ Q := we_take h0 ⟨_, _, rfl, rfl, rfl⟩ B hc k0 k1 q
theorem strsOf_map : ∀ ys : List Str, strsOf (ys.map D.str) = some ys
  | [] => rfl
  | y :: r => by
    show (strsOf (r.map D.str)).map (y :: ·) = _
    rw [strsOf_map r]
    rfl
theorem rngD_len {lo : Int} {n : Nat} : (rngD lo n).length = n := by simp [rngD]
theorem sum_ones : ∀ {ys : List Str}, (∀ y ∈ ys, y.length = 1 ∧ Low y) → (ys.map (·.length)).sum = ys.length
  | [], _ => rfl
  | y :: r, h => by
    rw [List.map_cons, List.sum_cons, (h y List.mem_cons_self).1, sum_ones fun z hz => h z (List.mem_cons_of_mem _ hz), List.length_cons]
    omega
theorem w_text {a2 a1 x5 x6 : Option D} {z : Nat} (B : BagAt μ n c) (hc : c + 8 < 1000000000) (z0 : 1 ≤ z) (z1 : z ≤ 8)
    (q : ∀ t μ', t.length = z → Low t → BagAt μ' n (c + 8) → Fr n μ μ' → Q (.str t) μ') :
    WE (mJoin (mC (.str "")) (mLc (iR1 (mCons (mVar 4) mNil)) (gmN 6) mYes (mOp oIx (mVar 3) (mTake (mC (.int 26)))) [6])) [some (.ref n), a1, a2, some (.str base), some (.int z), x5, x6] μ Q := by
  refine we_join (we_c ⟨_, rfl, we_lc (wi_R1 ?_)⟩)
  repeat decreasing_trivial_pre_omega
  refine ⟨_, rfl, ⟨by omega, by omega⟩, ?_⟩
  have e0 : (μ ++ [MO.lst []])[μ.length]? = some (.lst []) := by simp
  have main := w_compGo (c := none) (g := gmN 6) (tt := mYes) (el := mOp oIx (mVar 3) (mTake (mC (.int 26)))) (l := μ.length) (env := wipeD [some (.ref n), a1, a2, some (.str base), some (.int z), x5, x6] [6])
    (QM := fun m => ∃ ys : List Str, ys.length = z ∧ (∀ y ∈ ys, y.length = 1 ∧ Low y) ∧ m[μ.length]? = some (.lst (ys.map .str)) ∧ BagAt m n (c + 8) ∧ Fr n μ m)
    (fun r acc m => ∃ ys : List Str, acc = ys.map .str ∧ (∀ y ∈ ys, y.length = 1 ∧ Low y) ∧ ys.length + r.length = z ∧ BagAt m n (c + ys.length) ∧ Fr n μ m)
    (fun _ _ _ _ => trivial) (fun r acc m ⟨ys, h1, _, h2, _⟩ => by rw [h1, List.length_map]; omega)
    (fun x r acc m ⟨ys, h1, h2, h3, h4, h5⟩ hl => by
      subst h1
      simp only [List.length_cons] at h3
      refine wg_n ?_
      refine ⟨true, m, rfl, ?_⟩
      refine ⟨fun z => (by cases z), fun _ => ?_⟩
      refine we_op (we_var rfl (we_takeC rfl h4 (by omega) (by decide) (by decide) fun d m' d0 d1 B' F' => ?_))
      refine wo_ixS (by rw [base_len]; decide) (base_at d0 d1) ?_
      have nl : μ.length ≠ n := by have := B.lt; omega
      refine ⟨by rw [F'.2 _ nl]; exact hl, ys ++ [⟨#[97 + d.toNat]⟩], by simp, ?_, by simp; omega, ?_, ?_⟩
      · intro y hy; rcases List.mem_append.mp hy with hy | hy
        · exact h2 y hy
        · rcases List.mem_singleton.mp hy with rfl
          exact ⟨rfl, low_one (by omega)⟩
      · refine BagAt.mono (B'.set nl) ?_
        simp
        omega
      · exact fr_set (h5.trans F'.fr) (Nat.le_refl _))
    (fun acc m ⟨ys, h1, h2, h3, h4, h5⟩ hm => ⟨ys, by simpa using h3, h2, by rw [hm, h1], h4.mono (by simp at h3; omega), h5⟩)
    (rngD 0 (z : Int).toNat) [] (μ ++ [.lst []]) e0 ⟨[], rfl, by simp, by simp [rngD_len], by simpa using B.app, fr_app⟩
  obtain ⟨m, hm, ys, l1, l2, l3, l4, l5⟩ := main
  refine ⟨m, hm, ys, ?_, ?_, ?_⟩
  · show (seqAt m (.ref μ.length)).bind strsOf = _
    have : seqAt m (.ref μ.length) = some (ys.map .str) := by simp [seqAt, lstAt, l3]
    rw [this]
    exact strsOf_map ys
  · rw [sum_ones l2, l1]
    have : ((("" : Str)).length : Nat) = 0 := rfl
    rw [this]
    omega
  · obtain ⟨j1, j2⟩ := low_join l2
    exact q _ m (j1.trans l1) j2 l4 l5
end
end MR

/-! GM5: a name turned until it is new. -/
namespace MR
open PySem L2
theorem pig {α : Type} [DecidableEq α] : ∀ (xs L : List α), xs.Nodup → (∀ x ∈ xs, x ∈ L) → xs.length ≤ L.length
  | [], L, _, _ => Nat.zero_le _
  | x :: r, L, hn, h => by
    rw [List.nodup_cons] at hn
    have hx := h x List.mem_cons_self
    have := pig r (L.erase x) hn.2 fun y hy => (List.mem_erase_of_ne (fun e => hn.1 (by rw [← e]; exact hy))).mpr (h y (List.mem_cons_of_mem _ hy))
    rw [List.length_erase_of_mem hx] at this
    have hpos : 0 < L.length := List.length_pos_of_mem hx
    simp only [List.length_cons]
    omega
def rot (c : Nat) (r : List Nat) (i : Nat) : Str := ⟨((97 + (c - 97 + i) % 26) :: r).toArray⟩
theorem rot_low {c : Nat} {r : List Nat} {i : Nat} (h : ∀ x ∈ r, 97 ≤ x ∧ x ≤ 122) : Low (rot c r i) := by
  intro x hx
  simp only [rot, List.mem_cons] at hx
  rcases hx with rfl | hx
  · omega
  · exact h x hx
theorem rot_len {c : Nat} {r : List Nat} {i : Nat} : (rot c r i).length = r.length + 1 := by simp [rot, Str.length]
theorem rot_ne {c : Nat} {r : List Nat} {i j : Nat} (h : i < j) (hj : j < 26) : rot c r i ≠ rot c r j := by
  intro e
  have e := congrArg (fun s => s.cps.toList) e
  simp only [rot, List.cons.injEq] at e
  omega
theorem rots_nodup {c : Nat} {r : List Nat} {i : Nat} (hi : i ≤ 26) : ((List.range i).map (rot c r)).Nodup := by
  rw [List.Nodup, List.pairwise_map]
  have h : (List.range i).Pairwise (· < ·) := List.pairwise_lt_range
  refine List.Pairwise.imp_of_mem ?_ h
  intro a b ha hb hab
  have := List.mem_range.mp hb
  exact rot_ne hab (by omega)
def Ap (μ μ' : Mem) : Prop := ∃ xs, μ' = μ ++ xs
theorem Ap.refl (μ : Mem) : Ap μ μ := ⟨[], by simp⟩
theorem ap_at {μ μ' : Mem} {m : Nat} {o : MO} (h : Ap μ μ') (e : μ[m]? = some o) : μ'[m]? = some o := by
  obtain ⟨xs, rfl⟩ := h
  rw [List.getElem?_append_left (List.getElem?_eq_some_iff.mp e).1]
  exact e
theorem Ap.add {μ μ' : Mem} (h : Ap μ μ') (xs : List MO) : Ap μ (μ' ++ xs) := by
  obtain ⟨ys, rfl⟩ := h
  exact ⟨ys ++ xs, by simp⟩
theorem Ap.fr {n : Nat} {μ μ' : Mem} (h : Ap μ μ') : Fr n μ μ' := by
  obtain ⟨ys, rfl⟩ := h
  exact fr_app
theorem BagAt.ap {μ μ' : Mem} {n : Nat} {c : Int} (B : BagAt μ n c) (h : Ap μ μ') : BagAt μ' n c := by
  obtain ⟨ys, rfl⟩ := h
  exact B.app
theorem house_ok : PyData.strOk ("house" : Str) = true := by decide +kernel
def rotB : MSt := mAsg (mOp oAdd (mOp oIx (mVar 3) (mOp oMod (mOp oAdd (mBMS fSindex (mVar 3) (mCons (mOp oIx (mVar 5) (mC (.int 0))) mNil)) (mC (.int 1))) (mC (.int 26)))) (mSl (mVar 5) (mPt (mC (.int 1))) mNo)) (gmN 5)
def rotC : MTs := mTs (mOp (oIn false) (mVar 5) (mOp oAdd (mVar 2) (mLst (mCons (mC (.str "house")) mNil))))
theorem cut1 {s : Str} {c : Nat} {r : List Nat} (h : s.cps.toList = c :: r) : (cutS s (some 1) none).cps.toList = r := by
  have hl : s.length = r.length + 1 := by rw [len_list, h]; rfl
  unfold cutS
  rw [hl]
  have e : HT.sIx (r.length + 1) 0 (some 1) = 1 := by
    show HT.sIx (r.length + 1) 0 (some ((1 : Nat) : Int)) = 1
    rw [HT.sIx_nat]
    omega
  rw [e, HT.sIx_none, h]
  simp
theorem str_ext {a b : Str} (h : a.cps.toList = b.cps.toList) : a = b := by
  obtain ⟨⟨a⟩⟩ := a
  obtain ⟨⟨b⟩⟩ := b
  simpa using h
theorem w_rotB {μ : Mem} {a0 a1 a2 x4 x6 : Option D} {c : Nat} {r : List Nat} {i : Nat} {QS : Fl → Sl → Mem → Prop} (hc : 97 ≤ c) (hr : r.length ≤ 7) (q : QS .nx [a0, a1, a2, some (.str base), x4, some (.str (rot c r (i + 1))), x6] μ) :
    WS rotB [a0, a1, a2, some (.str base), x4, some (.str (rot c r i)), x6] μ QS := by
  unfold rotB
  repeat decreasing_trivial_pre_omega
  refine ⟨_, rfl, ?_⟩
  repeat decreasing_trivial_pre_omega
  refine wo_ixS (c := 97 + (c - 97 + i) % 26) (by rw [rot_len]; omega) (atI_nat (k := 0) rfl) ?_
  repeat decreasing_trivial_pre_omega
  have ho := occ_all ((c - 97 + i) % 26) (by omega)
  refine ⟨.int (((c - 97 + i) % 26 : Nat) : Int), μ, ?_, ?_⟩
  · unfold fSindex
    dsimp only
    rw [ho]
  repeat decreasing_trivial_pre_omega
  refine wo_mod (by decide) ?_
  have hd0 : 0 ≤ ((((c - 97 + i) % 26 : Nat) : Int) + 1) % 26 := Int.emod_nonneg _ (by decide)
  refine wo_ixS (by rw [base_len]; decide) (base_at hd0 (Int.emod_lt_of_pos _ (by decide))) ?_
  repeat decreasing_trivial_pre_omega
  refine ⟨_, rfl, ?_⟩
  repeat decreasing_trivial_pre_omega
  refine ⟨.str (cutS (rot c r i) (some 1) none), μ, ?_, ?_⟩
  · unfold oSl
    dsimp only
    rw [if_pos (by rw [rot_len]; omega)]
  have hcut : (cutS (rot c r i) (some 1) none).cps.toList = r := cut1 (c := 97 + (c - 97 + i) % 26) rfl
  have hlc : (cutS (rot c r i) (some 1) none).length = r.length := by rw [len_list, hcut]
  refine wo_addS (by rw [hlc]; show 1 + r.length ≤ 100000; omega) ?_
  refine wg_n ?_
  have e : ((⟨#[97 + (((((c - 97 + i) % 26 : Nat) : Int) + 1) % 26).toNat]⟩ : Str) ++ cutS (rot c r i) (some 1) none) = rot c r (i + 1) := by
    apply str_ext
    rw [app_list, hcut]
    show [97 + (((((c - 97 + i) % 26 : Nat) : Int) + 1) % 26).toNat] ++ r = (97 + (c - 97 + (i + 1)) % 26) :: r
    have : (((((c - 97 + i) % 26 : Nat) : Int) + 1) % 26).toNat = (c - 97 + (i + 1)) % 26 := by omega
    rw [this]
    rfl
  rw [e]
  exact q
theorem w_rot {μ : Mem} {a0 a1 x4 x6 : Option D} {f : Nat} {t : Str} {ts : List Str} {QS : Fl → Sl → Mem → Prop} (ht : okT t) (hm : μ[f]? = some (.lst (ts.map .str))) (hts : ∀ u ∈ ts, PyData.strOk u = true) (hl : ts.length ≤ 20)
    (q : ∀ t' μ', okT t' → t' ∉ ts → t' ≠ ("house" : Str) → Ap μ μ' → QS .nx [a0, a1, some (.ref f), some (.str base), x4, some (.str t'), x6] μ') :
    WS (whileGo rotC rotB 5000) [a0, a1, some (.ref f), some (.str base), x4, some (.str t), x6] μ QS := by
  obtain ⟨t1, t2, t3⟩ := ht
  obtain ⟨c, r, hcr⟩ : ∃ c r, t.cps.toList = c :: r := by
    cases h : t.cps.toList with
    | nil => rw [len_list, h] at t1; simp at t1
    | cons c r => exact ⟨c, r, rfl⟩
  have hc := t3 c (by rw [hcr]; exact List.mem_cons_self)
  have hr : ∀ x ∈ r, 97 ≤ x ∧ x ≤ 122 := fun x hx => t3 x (by rw [hcr]; exact List.mem_cons_of_mem _ hx)
  have hrl : r.length ≤ 7 := by
    rw [len_list, hcr] at t2
    simpa using t2
  have e0 : t = rot c r 0 := by
    apply str_ext
    rw [hcr]
    show c :: r = (97 + (c - 97 + 0) % 26) :: r
    have : 97 + (c - 97 + 0) % 26 = c := by omega
    rw [this]
  refine ws_while (fun m e μ' => ∃ i, i ≤ ts.length + 1 ∧ m = ts.length + 1 - i ∧ e = [a0, a1, some (.ref f), some (.str base), x4, some (.str (rot c r i)), x6] ∧ Ap μ μ' ∧ ∀ j, j < i → rot c r j ∈ ts ++ [("house" : Str)])
    ?_ 5000 (ts.length + 1) _ _ (by omega) ⟨0, by omega, rfl, by rw [e0], Ap.refl _, fun j hj => absurd hj (Nat.not_lt_zero _)⟩
  rintro m e μ' ⟨i, hi, rfl, rfl, ha, hj⟩
  have hlow : Low (rot c r i) := rot_low hr
  unfold rotC
  repeat decreasing_trivial_pre_omega
  refine ⟨by decide, ?_⟩
  have hm' := ap_at ha hm
  refine wo_addL (xs := ts.map .str) (ys := [.str "house"]) (ap_at ((Ap.refl _).add _) hm') (by simp) (by simp; omega) ?_
  have hk : ∀ u ∈ ts ++ [("house" : Str)], PyData.strOk u = true := fun u hu => by
    rcases (List.mem_append.mp hu) with hu | hu
    · exact hts u hu
    · rw [List.mem_singleton.mp hu]; exact house_ok
  refine wo_inL (ts := ts ++ [("house" : Str)]) (low_ok hlow) hk (by rw [List.getElem?_append_right (Nat.le_refl _)]; simp) ?_
  refine ⟨_, rfl, fun hf => ?_, fun htr => ?_⟩
  · have hn : rot c r i ∉ ts ++ [("house" : Str)] := of_decide_eq_false hf
    refine q _ _ ⟨by rw [rot_len]; omega, by rw [rot_len]; omega, hlow⟩ (fun z => hn (List.mem_append_left _ z)) (fun z => hn (List.mem_append_right _ (by rw [z]; exact List.mem_singleton_self _))) ((ha.add _).add _)
  · have hin : rot c r i ∈ ts ++ [("house" : Str)] := of_decide_eq_true htr
    have hall : ∀ j, j < i + 1 → rot c r j ∈ ts ++ [("house" : Str)] := fun j h => by
      by_cases e : j = i
      · rw [e]; exact hin
      · exact hj j (by omega)
    have hp := pig ((List.range (i + 1)).map (rot c r)) (ts ++ [("house" : Str)]) (rots_nodup (by omega)) fun x hx => by
      obtain ⟨j, hjr, rfl⟩ := List.mem_map.mp hx
      exact hall j (List.mem_range.mp hjr)
    simp only [List.length_map, List.length_range, List.length_append, List.length_singleton] at hp
    exact w_rotB (by omega) hrl (.inl ⟨.inl rfl, ts.length + 1 - (i + 1), by omega, i + 1, hp, rfl, rfl, (ha.add _).add _, hall⟩)
end MR

/-! GM6: the names. -/
namespace MR
open PySem L2
def Name (t : Str) : Prop := okT t ∧ t ≠ ("house" : Str)
theorem cut8 {s : Str} (h1 : 1 ≤ s.length) (hl : Low s) : okT (cutS s (some (-8)) none) := by
  have e : (cutS s (some (-8)) none).cps.toList = s.cps.toList.drop (s.length - 8) := by
    unfold cutS
    have e8 : HT.sIx s.length 0 (some (-8)) = s.length - 8 := by
      show (if (-8 : Int) < 0 then ((-8 : Int) + (s.length : Int)).toNat else min (-8 : Int).toNat s.length) = s.length - 8
      rw [if_pos (by decide)]
      omega
    rw [e8, HT.sIx_none]
    show ((s.cps.toList.drop (s.length - 8)).take (s.length - (s.length - 8))).toArray.toList = _
    rw [List.take_of_length_le (by rw [List.length_drop, ← len_list]; omega)]
  refine ⟨?_, ?_, fun c hc => ?_⟩
  · rw [len_list, e, List.length_drop, ← len_list]; omega
  · rw [len_list, e, List.length_drop, ← len_list]; omega
  · rw [e] at hc
    exact hl c (List.mem_of_mem_drop hc)
theorem size_at {d : Int} (h0 : 0 ≤ d) (h1 : d < 5) : ∃ z : Nat, L2.atI [D.int 1, .int 1, .int 2, .int 3, .int 8] d = some (.int z) ∧ 1 ≤ z ∧ z ≤ 8 := by
  have h : d = 0 ∨ d = 1 ∨ d = 2 ∨ d = 3 ∨ d = 4 := by omega
  rcases h with rfl | rfl | rfl | rfl | rfl
  · exact ⟨1, rfl, by decide, by decide⟩
  · exact ⟨1, rfl, by decide, by decide⟩
  · exact ⟨2, rfl, by decide, by decide⟩
  · exact ⟨3, rfl, by decide, by decide⟩
  · exact ⟨8, rfl, by decide, by decide⟩
noncomputable def nameB : MSt := mSeq (mAsg (mC (.str "abcdefghijklmnopqrstuvwxyz")) (gmN 3))
  (mSeq (mAsg (mOp oIx (mTup (mCons (mC (.int 1)) (mCons (mC (.int 1)) (mCons (mC (.int 2)) (mCons (mC (.int 3)) (mCons (mC (.int 8)) mNil)))))) (mTake (mC (.int 5)))) (gmN 4))
  (mSeq (mAsg (mJoin (mC (.str "")) (mLc (iR1 (mCons (mVar 4) mNil)) (gmN 6) mYes (mOp oIx (mVar 3) (mTake (mC (.int 26)))) [6])) (gmN 5))
  (mSeq (mIf (mAnd (mTs (mOp (oEq true) (mVar 2) (mLst mNil))) (mTs (mOp (oEq false) (mTake (mC (.int 3))) (mC (.int 0)))))
  (mAsg (mSl (mOp oAdd (mOp oIx (mVar 2) (mC (.int 0))) (mOp oIx (mVar 3) (mTake (mC (.int 26))))) (mPt (mUn oNeg (mC (.int 8)))) mNo) (gmN 5))
  mSkip)
  (mSeq (whileGo rotC rotB 5000)
  (mEx (mBM fAppend (mVar 2) (mCons (mVar 5) mNil)))))))
theorem names_eq : m_law_names = mDef 7 2 (mSeq (mAsg (mLst mNil) (gmN 2)) (mSeq (whileGo (mTs (mOp oLt (mCall fLen (mCons (mVar 2) mNil)) (mVar 1))) nameB 5000) (mRet (mVar 2)))) := rfl
theorem w_nameB {μ : Mem} {n f : Nat} {c : Int} {many : Int} {x3 x4 x5 x6 : Option D} {ts : List Str} {QS : Fl → Sl → Mem → Prop} (B : BagAt μ n c) (hc : c + 11 < 1000000000) (hm : μ[f]? = some (.lst (ts.map .str))) (hf : f ≠ n) (hts : ∀ t ∈ ts, Name t) (hl : ts.length ≤ 2)
    (q : ∀ t μ' y3 y4 y5 y6, Name t → t ∉ ts → μ'[f]? = some (.lst ((ts ++ [t]).map .str)) → BagAt μ' n (c + 11) → (∀ μ0, μ0.length ≤ f → Fr n μ0 μ → Fr n μ0 μ') → QS .nx [some (.ref n), some (.int many), some (.ref f), y3, y4, y5, y6] μ') :
    WS nameB [some (.ref n), some (.int many), some (.ref f), x3, x4, x5, x6] μ QS := by
  have hso : ∀ u ∈ ts, PyData.strOk u = true := fun u hu => low_ok (hts u hu).1.2.2
  -- what is behind the drawn text
  have tail : ∀ t μ1 y4 y6, okT t → μ1[f]? = some (.lst (ts.map .str)) → BagAt μ1 n (c + 11) → (∀ μ0, μ0.length ≤ f → Fr n μ0 μ → Fr n μ0 μ1) →
      WS (mSeq (whileGo rotC rotB 5000) (mEx (mBM fAppend (mVar 2) (mCons (mVar 5) mNil)))) [some (.ref n), some (.int many), some (.ref f), some (.str base), y4, some (.str t), y6] μ1 QS := by
    intro t μ1 y4 y6 ht hm1 B1 F1
    refine ws_seq (w_rot ht hm1 hso (by omega) fun t' μ2 h1 h2 h3 h4 => ?_)
    refine ws_ex (we_bm (we_var rfl ⟨f, ts.map .str, rfl, ap_at h4 hm1, ?_⟩))
    repeat decreasing_trivial_pre_omega
    refine ⟨.non, μ2.set f (.lst (ts.map .str ++ [.str t'])), ?_, ?_⟩
    · unfold fAppend fMut
      dsimp only
      rw [ap_at h4 hm1]
      dsimp only
      rw [if_pos (by simp; omega)]
      rfl
    · have hlt : f < μ2.length := (List.getElem?_eq_some_iff.mp (ap_at h4 hm1)).1
      refine q t' _ _ _ _ _ ⟨h1, h3⟩ h2 (by rw [List.getElem?_set_self hlt]; simp) ((B1.ap h4).set hf) fun μ0 h0 hF => fr_set ((F1 μ0 h0 hF).trans h4.fr) h0
  unfold nameB
  decreasing_trivial_pre_omega; decreasing_trivial_pre_omega; decreasing_trivial_pre_omega; decreasing_trivial_pre_omega
  decreasing_trivial_pre_omega; decreasing_trivial_pre_omega; decreasing_trivial_pre_omega
  decreasing_trivial_pre_omega
  refine wa_cons (we_c (wa_cons (we_c (wa_cons (we_c (wa_cons (we_c (wa_cons (we_c (wa_nil ⟨by decide, ?_⟩)))))))))) 
  refine we_takeC rfl B (by omega) (by decide) (by decide) fun d μ1 d0 d1 B1 F1 => ?_
  obtain ⟨z, hz, z0, z1⟩ := size_at d0 d1
  refine wo_ixT hz ?_
  decreasing_trivial_pre_omega
  refine ws_seq (ws_asg ?_)
  refine w_text (a1 := some (.int many)) (a2 := some (.ref f)) (x5 := x5) (x6 := x6) B1 (by omega) z0 z1 fun t μ2 tl tlow B2 F2 => ?_
  have m2 : μ2[f]? = some (.lst (ts.map .str)) := by
    have h1 := F1.2 f hf
    have hlt : f < μ1.length := by rw [F1.1]; exact (List.getElem?_eq_some_iff.mp hm).1
    rw [F2.2 f hlt hf, h1, hm]
  have F12 : ∀ μ0, μ0.length ≤ f → Fr n μ0 μ → Fr n μ0 μ2 := fun μ0 _ hF => (hF.trans F1.fr).trans F2
  have tok : okT t := ⟨by omega, by omega, tlow⟩
  decreasing_trivial_pre_omega
  refine ws_seq (ws_if (wt_and (wt_ts (we_op (we_var rfl (we_lst (wa_nil ⟨by decide, ?_⟩)))))))
  have A3 : Ap μ2 (μ2 ++ [MO.lst []]) := (Ap.refl _).add _
  refine wo_ne (a := .list (ts.map .str)) (b := .list []) (toPy_strs (ap_at A3 m2)) (toPy_strs (ts := []) (by rw [List.getElem?_append_right (Nat.le_refl _)]; simp)) (shaped_strs ts hso) (shaped_strs [] (by simp)) ?_
  rw [eqv_nil]
  refine ⟨_, rfl, fun hne => ?_, fun _ => ?_⟩
  · refine wt_ts (we_op ?_)
    refine we_takeC rfl (B2.ap A3) (by omega) (by decide) (by decide) fun d3 μ3 e0 e1 B3 F3 => ?_
    decreasing_trivial_pre_omega
    refine wo_eqI ⟨_, rfl, fun _ => ?_, fun _ => ?_⟩
    · have m3 : μ3[f]? = some (.lst (ts.map .str)) := by rw [F3.2 f hf]; exact ap_at A3 m2
      cases ts with
      | nil => simp at hne
      | cons u us =>
        have hu := hts u List.mem_cons_self
        refine ws_asg (we_sl (we_op (we_op (we_var rfl (we_c ?_)))))
        refine wo_ixR m3 (atI_nat (k := 0) (d := .str u) rfl) ?_
        refine we_op (we_var rfl ?_)
        refine we_takeC rfl B3 (by omega) (by decide) (by decide) fun d4 μ4 g0 g1 B4 F4 => ?_
        refine wo_ixS (by rw [base_len]; decide) (base_at g0 g1) ?_
        have l1 : ((⟨#[97 + d4.toNat]⟩ : Str)).length = 1 := rfl
        refine wo_addS (by have := hu.1.2.1; rw [l1]; omega) ?_
        refine wp_pt (we_un (we_c ⟨_, _, rfl, _, rfl, ?_⟩))
        refine wp_no ?_
        have hlen : (u ++ (⟨#[97 + d4.toNat]⟩ : Str)).length = u.length + 1 := app_len _ _
        refine ⟨.str (cutS (u ++ (⟨#[97 + d4.toNat]⟩ : Str)) (some (-8)) none), μ4, ?_, ?_⟩
        · unfold oSl
          dsimp only
          rw [if_pos (by have := hu.1.2.1; omega)]
        decreasing_trivial_pre_omega
        refine tail _ μ4 _ _ (cut8 (by omega) (low_app hu.1.2.2 (low_one (by omega)))) (by rw [F4.2 f hf]; exact m3) (B4.mono (by omega)) fun μ0 h0 hF => (((F12 μ0 h0 hF).trans A3.fr).trans F3.fr).trans F4.fr
    · decreasing_trivial_pre_omega
      refine tail t μ3 _ _ tok (by rw [F3.2 f hf]; exact ap_at A3 m2) (B3.mono (by omega)) fun μ0 h0 hF => ((F12 μ0 h0 hF).trans A3.fr).trans F3.fr
  · refine ⟨fun z => (by cases z), fun _ => ?_⟩
    decreasing_trivial_pre_omega
    exact tail t _ _ _ tok (ap_at A3 m2) ((B2.ap A3).mono (by omega)) fun μ0 h0 hF => (F12 μ0 h0 hF).trans A3.fr
theorem w_names {μ : Mem} {Q : D → Mem → Prop} {n : Nat} {c : Int} {many : Nat} (B : BagAt μ n c) (hc : c + 40 < 1000000000) (h3 : many ≤ 3)
    (q : ∀ (ts : List Str) μ', ts.length = many → ts.Nodup → (∀ t ∈ ts, Name t) → μ'[μ.length]? = some (.lst (ts.map .str)) → BagAt μ' n (c + 40) → Fr n μ μ' → Q (.ref μ.length) μ') : WF m_law_names [.ref n, .int many] μ Q := by
  rw [names_eq]
  refine wf_def ?_
  show WS _ [some (.ref n), some (.int many), none, none, none, none, none] _ _
  decreasing_trivial_pre_omega; decreasing_trivial_pre_omega; decreasing_trivial_pre_omega; decreasing_trivial_pre_omega
  refine ⟨by decide, ?_⟩
  decreasing_trivial_pre_omega
  have hn : μ.length ≠ n := by have := B.lt; omega
  refine ws_seq (ws_while (fun m e μ' => ∃ (ts : List Str) (x3 x4 x5 x6 : Option D), m = many - ts.length ∧ ts.length ≤ many ∧ ts.Nodup ∧ (∀ t ∈ ts, Name t) ∧ e = [some (.ref n), some (.int many), some (.ref μ.length), x3, x4, x5, x6] ∧ μ'[μ.length]? = some (.lst (ts.map .str)) ∧ BagAt μ' n (c + 11 * ts.length) ∧ Fr n μ μ')
    ?_ 5000 many _ _ (by omega) ⟨[], none, none, none, none, by simp, by simp, List.nodup_nil, by simp, rfl, by rw [List.getElem?_append_right (Nat.le_refl _)]; simp, by simpa using B.app, fr_app⟩)
  rintro m e μ' ⟨ts, x3, x4, x5, x6, rfl, hle, hnd, hts, rfl, hm, B', F'⟩
  refine wt_ts (we_op (we_call (wa_cons (we_var rfl (wa_nil (wf_len hm ?_))))))
  repeat decreasing_trivial_pre_omega
  refine ⟨_, rfl, fun hge => ?_, fun hlt => ?_⟩
  · have hge := of_decide_eq_false hge
    simp only [List.length_map] at hge
    refine ws_ret (we_var rfl ?_)
    exact q ts μ' (by omega) hnd hts hm (B'.mono (by omega)) F'
  · have hlt := of_decide_eq_true hlt
    simp only [List.length_map] at hlt
    refine w_nameB B' (by omega) hm hn hts (by omega) fun t μ2 y3 y4 y5 y6 h1 h2 h3 h4 h5 => ?_
    refine .inl ⟨.inl rfl, many - (ts.length + 1), by omega, ts ++ [t], y3, y4, y5, y6, by simp, by simp; omega, ?_, ?_, rfl, h3, h4.mono (by simp; omega), h5 μ (Nat.le_refl _) F'⟩
    · rw [List.nodup_append]
      exact ⟨hnd, by simp, fun a ha b hb => by
        rcases List.mem_singleton.mp hb with rfl
        exact fun e => h2 (e ▸ ha)⟩
    · intro u hu; rcases (List.mem_append.mp hu) with hu | hu
      · exact hts u hu
      · rw [List.mem_singleton.mp hu]; exact h1
end MR

/-! GM7: a way; drawn habits as plain structures. -/
namespace MR
open PySem L2
abbrev house : Str := "house"
structure Wy where
  g : Str
  t : Str
  l : Int
  m : Int
  lo : Bool
  tw : Bool
def Wy.d (w : Wy) : D := .tup [.str w.g, .str w.t, .int w.l, .int w.m, .bl w.lo, .bl w.tw]
def Wy.ends (w : Wy) : Str × Str := (w.g, w.t)
def Wy.fit (w : Wy) : Prop := 1 ≤ w.l ∧ w.l ≤ w.m ∧ w.m ≤ 3 ∧ (w.tw = true → w.g = house)
structure Pn where
  n : Str
  k : Str
  q : Option Int
def keepD : Option Int → D
  | none => .non
  | some i => .int i
def Pn.d (p : Pn) : D := .tup [.str p.n, .str p.k, keepD p.q]
def Pn.fit (p : Pn) : Prop := (p.k = ("saying" : Str) ∨ p.k = ("still" : Str)) ∧ ∀ i, p.q = some i → 1 ≤ i ∧ i ≤ 3
theorem most_at {d : Int} (h0 : 0 ≤ d) (h1 : d < 6) : ∃ z : Int, L2.atI [D.int 1, .int 2, .int 1, .int 2, .int 1, .int 3] d = some (.int z) ∧ 1 ≤ z ∧ z ≤ 3 := by
  have h : d = 0 ∨ d = 1 ∨ d = 2 ∨ d = 3 ∨ d = 4 ∨ d = 5 := by omega
  rcases h with rfl | rfl | rfl | rfl | rfl | rfl <;> exact ⟨_, rfl, by decide, by decide⟩
theorem w_way {μ : Mem} {Q : D → Mem → Prop} {n : Nat} {c : Int} {g t : Str} (B : BagAt μ n c) (hc : c + 4 < 1000000000) (hg : PyData.strOk g = true)
    (q : ∀ (w : Wy) μ', w.g = g → w.t = t → w.fit → BagAt μ' n (c + 4) → Fr1 n μ μ' → Q w.d μ') : WF m_law_way [.ref n, .str g, .str t] μ Q := by
  refine wf_def ?_
  show WS _ [some (.ref n), some (.str g), some (.str t), none, none, none] _ _
  refine ws_seq (ws_asg (we_op (we_tup ?_)))
  refine wa_cons (we_c (wa_cons (we_c (wa_cons (we_c (wa_cons (we_c (wa_cons (we_c (wa_cons (we_c (wa_nil ⟨by decide, ?_⟩))))))))))))
  refine we_takeC rfl B (by omega) (by decide) (by decide) fun d μ1 d0 d1 B1 F1 => ?_
  obtain ⟨m, hm, m0, m1⟩ := most_at d0 d1
  refine wo_ixT hm ?_
  decreasing_trivial_pre_omega
  refine ws_seq (ws_asg (we_op (we_c ?_)))
  refine we_take rfl ⟨_, _, rfl, rfl, rfl⟩ B1 (by omega) (by omega) (by omega) fun e μ2 e0 e1 B2 F2 => ?_
  decreasing_trivial_pre_omega; decreasing_trivial_pre_omega
  refine ws_seq (ws_asg (we_op ?_))
  refine we_takeC rfl B2 (by omega) (by decide) (by decide) fun k μ3 k0 k1 B3 F3 => ?_
  decreasing_trivial_pre_omega
  refine wo_eqI ?_
  decreasing_trivial_pre_omega
  refine ws_ret (we_tup (wa_cons (we_var rfl (wa_cons (we_var rfl (wa_cons (we_var rfl (wa_cons (we_var rfl (wa_cons (we_var rfl (wa_cons ?_)))))))))))) 
  refine we_andV (we_op (we_var rfl (we_c (wo_eqS hg house_ok ⟨_, rfl, fun hh => ?_, fun hh => ?_⟩))))
  · refine we_op ?_
    refine we_takeC rfl B3 (by omega) (by decide) (by decide) fun j μ4 j0 j1 B4 F4 => ?_
    decreasing_trivial_pre_omega
    refine wo_eqI ?_
    refine wa_nil ⟨by simp, ?_⟩
    exact q ⟨g, t, 1 + e, m, k == 0, j == 0⟩ μ4 rfl rfl ⟨by show 1 ≤ 1 + e; omega, by show 1 + e ≤ m; omega, m1, fun _ => eq_of_beq hh⟩ (B4.mono (by omega)) (((F1.trans F2).trans F3).trans F4)
  · refine wa_nil ⟨by simp, ?_⟩
    exact q ⟨g, t, 1 + e, m, k == 0, false⟩ μ3 rfl rfl ⟨by show 1 ≤ 1 + e; omega, by show 1 + e ≤ m; omega, m1, fun z => by cases z⟩ (B3.mono (by omega)) ((F1.trans F2).trans F3)
/-! ### roads: put in somewhere -/
theorem ins_perm {α : Type} (xs : List α) (x : α) (i : Nat) : (xs.take i ++ [x] ++ xs.drop i).Perm (x :: xs) := by
  have h : (xs.take i ++ [x] ++ xs.drop i).Perm (x :: (xs.take i ++ xs.drop i)) := by
    rw [List.append_assoc]
    exact List.perm_middle
  rwa [List.take_append_drop] at h
theorem house_n {t : Str} (h : Name t) : t ≠ house := h.2
theorem name_ok {t : Str} (h : Name t) : PyData.strOk t = true := low_ok h.1.2.2
/-- roads.insert(take(len(roads) + 1), way(bag, g, t)) -/
theorem w_road {μ : Mem} {env : Sl} {n a : Nat} {c : Int} {eg et : MEx} {g t : Str} {ws : List Wy} {QS : Fl → Sl → Mem → Prop} (h0 : env[0]? = some (some (.ref n))) (h5 : env[5]? = some (some (.ref a))) (han : a ≠ n)
    (hg : ∀ μ' (R : D → Mem → Prop), R (.str g) μ' → WE eg env μ' R) (ht : ∀ μ' (R : D → Mem → Prop), R (.str t) μ' → WE et env μ' R) (hgo : PyData.strOk g = true)
    (hm : μ[a]? = some (.lst (ws.map Wy.d))) (hl : ws.length ≤ 1000) (B : BagAt μ n c) (hc : c + 5 < 1000000000)
    (q : ∀ (w : Wy) (ws' : List Wy) (μ' : Mem), w.g = g → w.t = t → w.fit → ws'.Perm (w :: ws) → μ'[a]? = some (.lst (ws'.map Wy.d)) → BagAt μ' n (c + 5) → (∀ m, m ≠ n → m ≠ a → μ'[m]? = μ[m]?) → μ'.length = μ.length → QS .nx env μ') :
    WS (mEx (mBM fInsert (mVar 5) (mCons (mTake (mOp oAdd (mCall fLen (mCons (mVar 5) mNil)) (mC (.int 1)))) (mCons (mCall (lenIs 3 m_law_way) (mCons (mVar 0) (mCons eg (mCons et mNil)))) mNil)))) env μ QS := by
  refine ws_ex (we_bm (we_var h5 ⟨a, ws.map Wy.d, rfl, hm, ?_⟩))
  refine wa_cons ?_
  have hk : WE (mOp oAdd (mCall fLen (mCons (mVar 5) mNil)) (mC (.int 1))) env μ fun d μ1 => d = .int ((ws.length : Int) + 1) ∧ μ1 = μ :=
    we_op (we_call (wa_cons (we_var h5 (wa_nil (wf_len hm (we_c (wo_add ⟨by simp, rfl⟩)))))))
  refine we_take h0 hk B (by omega) (by omega) (by omega) fun d μ1 d0 d1 B1 F1 => ?_
  refine wa_cons (we_call (wa_cons (we_var h0 (wa_cons (hg _ _ (wa_cons (ht _ _ (wa_nil (wf_lenIs rfl ?_)))))))))
  refine w_way B1 (by omega) hgo fun w μ2 w1 w2 w3 B2 F2 => ?_
  refine wa_nil ?_
  have hm2 : μ2[a]? = some (.lst (ws.map Wy.d)) := by rw [F2.2 a han, F1.2 a han]; exact hm
  have hlt : a < μ2.length := (List.getElem?_eq_some_iff.mp hm2).1
  refine ⟨.non, μ2.set a (.lst ((ws.take d.toNat ++ [w] ++ ws.drop d.toNat).map Wy.d)), ?_, ?_⟩
  · unfold fInsert fMut
    dsimp only
    rw [hm2]
    dsimp only
    rw [if_pos ⟨by simp; omega, d0, by omega⟩]
    simp [List.map_take, List.map_drop]
  · refine q w _ _ w1 w2 w3 (ins_perm ws w d.toNat) (by rw [List.getElem?_set_self hlt]) ((B2.set han).mono (by omega)) (fun m h1 h2 => by rw [List.getElem?_set_ne (Ne.symm h2), F2.2 m h1, F1.2 m h1]) (by simp [F2.1, F1.1])
end MR

/-! GM8: drawn habits: what is kept while the roads are laid. -/
namespace MR
open PySem L2
structure Rd (ws : List Wy) (A : Str × Str → Prop) : Prop where
  fit : ∀ w ∈ ws, w.fit
  inn : ∀ w ∈ ws, A w.ends
  nd : (ws.map Wy.ends).Nodup
theorem Rd.nil {A : Str × Str → Prop} : Rd [] A := ⟨by simp, by simp, by simp⟩
theorem Rd.mono {ws : List Wy} {A B : Str × Str → Prop} (h : Rd ws A) (k : ∀ e, A e → B e) : Rd ws B := ⟨h.fit, fun w hw => k _ (h.inn w hw), h.nd⟩
theorem Rd.add {ws ws' : List Wy} {A B : Str × Str → Prop} {w : Wy} (h : Rd ws A) (hw : w.fit) (hn : ¬ A w.ends) (p : ws'.Perm (w :: ws)) (k : ∀ e, A e → B e) (kw : B w.ends) : Rd ws' B := by
  refine ⟨fun x hx => ?_, fun x hx => ?_, ?_⟩
  · rcases List.mem_cons.mp (p.mem_iff.mp hx) with rfl | hx
    · exact hw
    · exact h.fit x hx
  · rcases List.mem_cons.mp (p.mem_iff.mp hx) with rfl | hx
    · exact kw
    · exact k _ (h.inn x hx)
  · rw [(p.map Wy.ends).nodup_iff, List.map_cons, List.nodup_cons]
    refine ⟨fun hm => ?_, h.nd⟩
    obtain ⟨x, hx, e⟩ := List.mem_map.mp hm
    exact hn (e ▸ h.inn x hx)
/-- each of these has its way home -/
def Homes (dn : List Str) (ws : List Wy) : Prop := ∀ t ∈ dn, (t, house) ∈ ws.map Wy.ends
theorem Homes.perm {dn : List Str} {ws ws' : List Wy} {w : Wy} (h : Homes dn ws) (p : ws'.Perm (w :: ws)) : Homes dn ws' := fun t ht => (p.map Wy.ends).mem_iff.mpr (List.mem_cons_of_mem _ (h t ht))
def Ao (ts dn : List Str) (e : Str × Str) : Prop := ∃ t ∈ dn, e = (t, house) ∨ e = (house, t) ∨ (e.1 = t ∧ e.2 ∈ ts ∧ e.2 ≠ t)
def Ai (ts dn : List Str) (t : Str) (hs : Bool) (id : List Str) (e : Str × Str) : Prop := Ao ts dn e ∨ e = (t, house) ∨ (hs = true ∧ e = (house, t)) ∨ (e.1 = t ∧ e.2 ∈ id ∧ e.2 ≠ t)
theorem ai_ao {ts dn id : List Str} {t : Str} {hs : Bool} (hid : ∀ o ∈ id, o ∈ ts) {e : Str × Str} (h : Ai ts dn t hs id e) : Ao ts (dn ++ [t]) e := by
  rcases h with ⟨u, hu, h⟩ | h | ⟨_, h⟩ | ⟨h1, h2, h3⟩
  · exact ⟨u, List.mem_append_left _ hu, h⟩
  · exact ⟨t, by simp, .inl h⟩
  · exact ⟨t, by simp, .inr (.inl h)⟩
  · exact ⟨t, by simp, .inr (.inr ⟨h1, hid _ h2, h3⟩)⟩
theorem fresh_home {ts dn : List Str} {t : Str} (hn : t ∉ dn) (ht : Name t) : ¬ Ao ts dn (t, house) := by
  rintro ⟨u, hu, h | h | ⟨h, _⟩⟩
  · exact hn ((Prod.mk.injEq _ _ _ _ ▸ h : t = u ∧ house = house).1 ▸ hu)
  · exact ht.2 (Prod.mk.injEq _ _ _ _ ▸ h : t = house ∧ house = u).1
  · exact hn ((show t = u from h) ▸ hu)
theorem fresh_from {ts dn : List Str} {t : Str} (hn : t ∉ dn) (hdn : ∀ u ∈ dn, Name u) (ht : Name t) : ¬ Ai ts dn t false [] (house, t) := by
  rintro (⟨u, hu, h | h | ⟨h, _⟩⟩ | h | ⟨h, _⟩ | ⟨_, h, _⟩)
  · exact ht.2 (Prod.mk.injEq _ _ _ _ ▸ h : house = u ∧ t = house).2
  · exact hn ((Prod.mk.injEq _ _ _ _ ▸ h : house = house ∧ t = u).2 ▸ hu)
  · exact (hdn u hu).2 (show house = u from h).symm
  · exact ht.2 (Prod.mk.injEq _ _ _ _ ▸ h : house = t ∧ t = house).2
  · cases h
  · cases h
theorem fresh_other {ts dn id : List Str} {t o : Str} {hs : Bool} (hn : t ∉ dn) (ht : Name t) (ho : Name o) (hid : o ∉ id) : ¬ Ai ts dn t hs id (t, o) := by
  rintro (⟨u, hu, h | h | ⟨h, _⟩⟩ | h | ⟨_, h⟩ | ⟨_, h, _⟩)
  · exact hn ((Prod.mk.injEq _ _ _ _ ▸ h : t = u ∧ o = house).1 ▸ hu)
  · exact ht.2 (Prod.mk.injEq _ _ _ _ ▸ h : t = house ∧ o = u).1
  · exact hn ((show t = u from h) ▸ hu)
  · exact ho.2 (Prod.mk.injEq _ _ _ _ ▸ h : t = t ∧ o = house).2
  · exact ht.2 (Prod.mk.injEq _ _ _ _ ▸ h : t = house ∧ o = t).1
  · exact hid h
theorem kind_at {d : Int} (h0 : 0 ≤ d) (h1 : d < 3) : ∃ k : Str, L2.atI [D.str "saying", .str "saying", .str "still"] d = some (.str k) ∧ (k = ("saying" : Str) ∨ k = ("still" : Str)) := by
  have h : d = 0 ∨ d = 1 ∨ d = 2 := by omega
  rcases h with rfl | rfl | rfl
  · exact ⟨_, rfl, .inl rfl⟩
  · exact ⟨_, rfl, .inl rfl⟩
  · exact ⟨_, rfl, .inr rfl⟩
theorem keep_at {d : Int} (h0 : 0 ≤ d) (h1 : d < 8) : ∃ k : Option Int, L2.atI [D.int 1, .int 2, .int 1, .int 2, .int 1, .int 3, .non, .int 2] d = some (keepD k) ∧ ∀ i, k = some i → 1 ≤ i ∧ i ≤ 3 := by
  have h : d = 0 ∨ d = 1 ∨ d = 2 ∨ d = 3 ∨ d = 4 ∨ d = 5 ∨ d = 6 ∨ d = 7 := by omega
  rcases h with rfl | rfl | rfl | rfl | rfl | rfl | rfl | rfl
  · exact ⟨some 1, rfl, fun i h => by cases h; decide⟩
  · exact ⟨some 2, rfl, fun i h => by cases h; decide⟩
  · exact ⟨some 1, rfl, fun i h => by cases h; decide⟩
  · exact ⟨some 2, rfl, fun i h => by cases h; decide⟩
  · exact ⟨some 1, rfl, fun i h => by cases h; decide⟩
  · exact ⟨some 3, rfl, fun i h => by cases h; decide⟩
  · exact ⟨none, rfl, fun i h => by cases h⟩
  · exact ⟨some 2, rfl, fun i h => by cases h; decide⟩
theorem many_at {d : Int} (h0 : 0 ≤ d) (h1 : d < 6) : ∃ z : Nat, L2.atI [D.int 2, .int 2, .int 1, .int 2, .int 3, .int 2] d = some (.int z) ∧ 1 ≤ z ∧ z ≤ 3 := by
  have h : d = 0 ∨ d = 1 ∨ d = 2 ∨ d = 3 ∨ d = 4 ∨ d = 5 := by omega
  rcases h with rfl | rfl | rfl | rfl | rfl | rfl
  · exact ⟨2, rfl, by decide, by decide⟩
  · exact ⟨2, rfl, by decide, by decide⟩
  · exact ⟨1, rfl, by decide, by decide⟩
  · exact ⟨2, rfl, by decide, by decide⟩
  · exact ⟨3, rfl, by decide, by decide⟩
  · exact ⟨2, rfl, by decide, by decide⟩
theorem steps_at {d : Int} (h0 : 0 ≤ d) (h1 : d < 4) : ∃ z : Int, L2.atI [D.int 1, .int 1, .int 2, .int 0] d = some (.int z) ∧ 0 ≤ z ∧ z ≤ 2 := by
  have h : d = 0 ∨ d = 1 ∨ d = 2 ∨ d = 3 := by omega
  rcases h with rfl | rfl | rfl | rfl <;> exact ⟨_, rfl, by decide, by decide⟩
/-- [w for w in roads if "house" not in w[:2]] -/
noncomputable abbrev mBetw : MEx := mLc (iL (mVar 5)) (gmN 9) (mTs (mOp (oIn true) (mC (.str "house")) (mSl (mVar 9) mNo (mPt (mC (.int 2)))))) (mVar 9) [9]
theorem oIn_two {g t : Str} {μ : Mem} : ∃ b, oIn true (.str "house") (.tup [.str g, .str t]) μ = some (.bl b, μ) := ⟨_, rfl⟩
theorem w_betw {μ : Mem} {Q : D → Mem → Prop} {a : Nat} {ws : List Wy} {e0 e1 e2 e3 e4 e6 e7 e8 e9 : Option D} (hm : μ[a]? = some (.lst (ws.map Wy.d))) (hl : ws.length ≤ 1000)
    (q : ∀ ds : List D, ds.length ≤ ws.length → Q (.ref μ.length) (μ ++ [.lst ds])) : WE mBetw [e0, e1, e2, e3, e4, some (.ref a), e6, e7, e8, e9] μ Q := by
  have ha : a < μ.length := (List.getElem?_eq_some_iff.mp hm).1
  refine we_lc (wi_L (we_var rfl ⟨a, _, rfl, hm, ?_⟩))
  have main := w_compGo (c := some (a, ws.map Wy.d)) (g := gmN 9) (tt := mTs (mOp (oIn true) (mC (.str "house")) (mSl (mVar 9) mNo (mPt (mC (.int 2)))))) (el := mVar 9) (l := μ.length) (env := wipeD [e0, e1, e2, e3, e4, some (.ref a), e6, e7, e8, e9] [9])
    (QM := fun m => ∃ ds : List D, ds.length ≤ ws.length ∧ m = μ ++ [.lst ds])
    (fun r acc m => (∃ us : List Wy, r = us.map Wy.d) ∧ acc.length + r.length ≤ ws.length ∧ m = μ ++ [.lst acc])
    (fun r acc m h => by rw [h.2.2]; show (μ ++ [MO.lst acc])[a]? = _; rw [List.getElem?_append_left ha]; exact hm)
    (fun r acc m h => by have := h.2.1; omega)
    (fun x r acc m h hml => by
      obtain ⟨⟨us, hus⟩, h2, h3⟩ := h
      cases us with
      | nil => cases hus
      | cons u us =>
        rw [List.map_cons, List.cons.injEq] at hus
        obtain ⟨rfl, rfl⟩ := hus
        simp only [List.length_cons] at h2
        refine wg_n ?_
        refine wt_ts (we_op (we_c (we_sl (we_var rfl (wp_no (wp_pt (we_c ⟨_, rfl, ?_⟩)))))))
        refine ⟨.tup [.str u.g, .str u.t], m, rfl, ?_⟩
        obtain ⟨b, hb⟩ := @oIn_two u.g u.t m
        refine ⟨_, m, hb, b, rfl, ?_⟩
        refine ⟨fun _ => ⟨⟨⟨us, rfl⟩, by omega, h3⟩, hml⟩, fun _ => we_var rfl ⟨hml, ⟨us, rfl⟩, by simp only [List.length_append, List.length_singleton]; omega, ?_⟩⟩
        rw [h3]
        simp)
    (fun acc m h _ => ⟨acc, by have := h.2.1; simp at this; exact this, h.2.2⟩)
    (ws.map Wy.d) [] (μ ++ [.lst []]) (by simp) ⟨⟨ws, rfl⟩, by simp, rfl⟩
  obtain ⟨m, hm, ds, l1, rfl⟩ := main
  exact ⟨_, hm, q ds l1⟩
end MR

/-! GM9: drawn habits: the loops. -/
namespace MR
open PySem L2
noncomputable abbrev mRoad (eg et : MEx) : MSt := mEx (mBM fInsert (mVar 5) (mCons (mTake (mOp oAdd (mCall fLen (mCons (mVar 5) mNil)) (mC (.int 1)))) (mCons (mCall (lenIs 3 m_law_way) (mCons (mVar 0) (mCons eg (mCons et mNil)))) mNil)))
noncomputable def habIn : MSt := mSeq (mAsg mBetw (gmN 8))
  (mIf (mAnd (mTs (mOp (oEq true) (mVar 7) (mVar 3))) (mAnd (mTs (mOp oLt (mCall fLen (mCons (mVar 8) mNil)) (mC (.int 2)))) (mTs (mOp (oEq false) (mTake (mOp oMulI (mC (.int 2)) (mCall fLen (mCons (mVar 2) mNil)))) (mC (.int 0))))))
  (mRoad (mVar 3) (mVar 7))
  mSkip)
noncomputable def habOut : MSt := mSeq (mAsg (mOp oIx (mTup (mCons (mC (.str "saying")) (mCons (mC (.str "saying")) (mCons (mC (.str "still")) mNil)))) (mTake (mC (.int 3)))) (gmN 6))
  (mSeq (mEx (mBM fAppend (mVar 4) (mCons (mTup (mCons (mVar 3) (mCons (mVar 6) (mCons (mOp oIx (mTup (mCons (mC (.int 1)) (mCons (mC (.int 2)) (mCons (mC (.int 1)) (mCons (mC (.int 2)) (mCons (mC (.int 1)) (mCons (mC (.int 3)) (mCons (mC .non) (mCons (mC (.int 2)) mNil))))))))) (mTake (mC (.int 8)))) mNil)))) mNil)))
  (mSeq (mRoad (mVar 3) (mC (.str "house")))
  (mSeq (mIf (mTs (mOp oGt (mTake (mC (.int 6))) (mC (.int 0))))
  (mRoad (mC (.str "house")) (mVar 3))
  mSkip)
  (mFor (iL (mVar 2)) (gmN 7) habIn))))
theorem habits_eq : m_law_habits = mDef 10 2 (mSeq (mAsg (mCall (lenIs 2 m_law_names) (mCons (mVar 0) (mCons (mCall fMin2 (mCons (mVar 1) (mCons (mOp oIx (mTup (mCons (mC (.int 2)) (mCons (mC (.int 2)) (mCons (mC (.int 1)) (mCons (mC (.int 2)) (mCons (mC (.int 3)) (mCons (mC (.int 2)) mNil))))))) (mTake (mC (.int 6)))) mNil))) mNil))) (gmN 2))
  (mSeq (mPar 4 5 (mCons (mLst mNil) (mCons (mLst mNil) mNil)))
  (mSeq (mFor (iL (mVar 2)) (gmN 3) habOut)
  (mRet (mTup (mCons (mCall fTuple (mCons (mVar 4) mNil)) (mCons (mCall fTuple (mCons (mVar 5) mNil)) (mCons (mOp oIx (mTup (mCons (mC (.int 1)) (mCons (mC (.int 1)) (mCons (mC (.int 2)) (mCons (mC (.int 0)) mNil))))) (mTake (mC (.int 4)))) mNil)))))))) := rfl
section
variable {μ : Mem} {n a2 a5 : Nat} {c : Int} {e1 e4 e6 e8 e9 : Option D} {ts dn id : List Str} {t o : Str} {hs : Bool} {ws : List Wy} {QS : Fl → Sl → Mem → Prop}
/-- what stays of the memory -/
def Sv (n a : Nat) (μ μ' : Mem) : Prop := μ.length ≤ μ'.length ∧ ∀ m, m < μ.length → m ≠ n → m ≠ a → μ'[m]? = μ[m]?
theorem Sv.refl {n a : Nat} {μ : Mem} : Sv n a μ μ := ⟨Nat.le_refl _, fun _ _ _ _ => rfl⟩
theorem Sv.trans {n a : Nat} {μ μ1 μ2 : Mem} (h : Sv n a μ μ1) (k : Sv n a μ1 μ2) : Sv n a μ μ2 := ⟨Nat.le_trans h.1 k.1, fun m h1 h2 h3 => (k.2 m (Nat.lt_of_lt_of_le h1 h.1) h2 h3).trans (h.2 m h1 h2 h3)⟩
theorem Ap.sv {n a : Nat} {μ μ' : Mem} (h : Ap μ μ') : Sv n a μ μ' := by
  obtain ⟨ys, rfl⟩ := h
  exact ⟨by simp, fun m h _ _ => by rw [List.getElem?_append_left h]⟩
theorem Fr1.sv {n a : Nat} {μ μ' : Mem} (h : Fr1 n μ μ') : Sv n a μ μ' := ⟨Nat.le_of_eq h.1.symm, fun m _ hn _ => h.2 m hn⟩
theorem lt_at {μ : Mem} {m : Nat} {o : MO} (h : μ[m]? = some o) : m < μ.length := (List.getElem?_eq_some_iff.mp h).1
theorem Sv.at_ {n a : Nat} {μ μ' : Mem} {m : Nat} {o : MO} (h : Sv n a μ μ') (e : μ[m]? = some o) (h1 : m ≠ n) (h2 : m ≠ a) : μ'[m]? = some o := by rw [h.2 m (lt_at e) h1 h2]; exact e
theorem w_habIn (B : BagAt μ n c) (hc : c + 6 < 1000000000) (h2 : μ[a2]? = some (.lst (ts.map .str))) (h5 : μ[a5]? = some (.lst (ws.map Wy.d))) (n2 : a2 ≠ n) (n5 : a5 ≠ n) (d25 : a2 ≠ a5)
    (hts : ∀ u ∈ ts, Name u) (htl : 1 ≤ ts.length) (htl3 : ts.length ≤ 3) (hnt : t ∉ dn) (ht : t ∈ ts) (ho : o ∈ ts) (hid : o ∉ id) (R : Rd ws (Ai ts dn t hs id)) (hl : ws.length ≤ 900)
    (q : ∀ ws' μ' y8 y9, Rd ws' (Ai ts dn t hs (id ++ [o])) → (∀ x, x ∈ ws → x ∈ ws') → ws'.length ≤ ws.length + 1 → μ'[a5]? = some (.lst (ws'.map Wy.d)) → BagAt μ' n (c + 6) → Sv n a5 μ μ' →
      QS .nx [some (.ref n), e1, some (.ref a2), some (.str t), e4, some (.ref a5), e6, some (.str o), y8, y9] μ') :
    WS habIn [some (.ref n), e1, some (.ref a2), some (.str t), e4, some (.ref a5), e6, some (.str o), e8, e9] μ QS := by
  have mk : ∀ e, Ai ts dn t hs id e → Ai ts dn t hs (id ++ [o]) e := fun e h => by
    rcases h with h | h | h | ⟨h1, h2, h3⟩
    · exact .inl h
    · exact .inr (.inl h)
    · exact .inr (.inr (.inl h))
    · exact .inr (.inr (.inr ⟨h1, List.mem_append_left _ h2, h3⟩))
  have kp : Rd ws (Ai ts dn t hs (id ++ [o])) := R.mono mk
  refine ws_seq (ws_asg (w_betw h5 (by omega) fun ds hd => ?_))
  have A1 : Ap μ (μ ++ [MO.lst ds]) := (Ap.refl _).add _
  decreasing_trivial_pre_omega
  refine ws_if (wt_and (wt_ts (we_op (we_var rfl (we_var rfl (wo_neS (name_ok (hts o ho)) (name_ok (hts t ht)) ⟨_, rfl, fun hne => ?_, fun _ => ?_⟩))))))
  · have hot : o ≠ t := fun e => by simp [e] at hne
    refine wt_and (wt_ts (we_op (we_call (wa_cons (we_var rfl (wa_nil (wf_len (ds := ds) (by rw [List.getElem?_append_right (Nat.le_refl _)]; simp) (we_c (wo_lt ⟨_, rfl, fun _ => ?_, fun _ => ?_⟩)))))))))
    · refine wt_ts (we_op ?_)
      have hk : WE (mOp oMulI (mC (.int 2)) (mCall fLen (mCons (mVar 2) mNil))) [some (.ref n), e1, some (.ref a2), some (.str t), e4, some (.ref a5), e6, some (.str o), some (.ref μ.length), e9] (μ ++ [.lst ds]) fun d μ1 => d = .int (2 * (ts.length : Int)) ∧ μ1 = μ ++ [.lst ds] :=
        we_op (we_c (we_call (wa_cons (we_var rfl (wa_nil (wf_len (ap_at A1 h2) (wo_mul (by
          have : ((((ts.map D.str).length : Nat) : Int)).natAbs.log2 < 31 := log2_int (by omega) (by rw [List.length_map]; omega) (by decide)
          have : (2 : Int).natAbs.log2 < 31 := by decide
          omega) ⟨by simp, rfl⟩)))))))
      refine we_take rfl hk (B.ap A1) (by omega) (by omega) (by omega) fun d μ1 d0 d1 B1 F1 => ?_
      decreasing_trivial_pre_omega
      refine wo_eqI ⟨_, rfl, ?_⟩
      refine ⟨fun _ => ?_, fun _ => ?_⟩
      · refine w_road rfl rfl n5 (fun μ' R h => we_var rfl h) (fun μ' R h => we_var rfl h) (name_ok (hts t ht)) (by rw [F1.2 a5 n5]; exact ap_at A1 h5) (by omega) B1 (by omega) fun w ws' μ2 w1 w2 w3 p m2 B2 F2 L2 => ?_
        have we : w.ends = (t, o) := by
          show (w.g, w.t) = _
          rw [w1, w2]
        refine q ws' μ2 _ _ (R.add w3 (by rw [we]; exact fresh_other hnt (hts t ht) (hts o ho) hid) p mk ?_) (fun x hx => p.mem_iff.mpr (List.mem_cons_of_mem _ hx)) ?_ m2 (B2.mono (by omega)) ((A1.sv.trans F1.sv).trans ⟨Nat.le_of_eq L2.symm, fun m _ x y => F2 m x y⟩)
        · exact .inr (.inr (.inr ⟨w1, by rw [show w.ends.2 = o from w2]; simp, by rw [show w.ends.2 = o from w2]; exact hot⟩))
        · rw [p.length_eq]; simp
      · refine ws_skip ?_
        exact q ws μ1 _ _ kp (fun _ h => h) (by omega) (by rw [F1.2 a5 n5]; exact ap_at A1 h5) (B1.mono (by omega)) (A1.sv.trans F1.sv)
    · refine ⟨fun z => (by cases z), fun _ => ws_skip ?_⟩
      exact q ws _ _ _ kp (fun _ h => h) (by omega) (ap_at A1 h5) ((B.ap A1).mono (by omega)) A1.sv
  · refine ⟨fun z => (by cases z), fun _ => ws_skip ?_⟩
    exact q ws _ _ _ kp (fun _ h => h) (by omega) (ap_at A1 h5) ((B.ap A1).mono (by omega)) A1.sv
end
end MR

/-! GM10: drawn habits: one folk after another. -/
namespace MR
open PySem L2
/-- what stays of the memory but for three places -/
def S3 (n a b : Nat) (μ μ' : Mem) : Prop := μ.length ≤ μ'.length ∧ ∀ m, m < μ.length → m ≠ n → m ≠ a → m ≠ b → μ'[m]? = μ[m]?
theorem S3.refl {n a b : Nat} {μ : Mem} : S3 n a b μ μ := ⟨Nat.le_refl _, fun _ _ _ _ _ => rfl⟩
theorem S3.trans {n a b : Nat} {μ μ1 μ2 : Mem} (h : S3 n a b μ μ1) (k : S3 n a b μ1 μ2) : S3 n a b μ μ2 := ⟨Nat.le_trans h.1 k.1, fun m h1 h2 h3 h4 => (k.2 m (Nat.lt_of_lt_of_le h1 h.1) h2 h3 h4).trans (h.2 m h1 h2 h3 h4)⟩
theorem Sv.s3 {n a b : Nat} {μ μ1 : Mem} (h : Sv n b μ μ1) : S3 n a b μ μ1 := ⟨h.1, fun m h1 h2 _ h4 => h.2 m h1 h2 h4⟩
section
variable {μ : Mem} {n a2 a4 a5 : Nat} {c : Int} {e1 e3 e4 e6 e7 e8 e9 : Option D} {ts dn : List Str} {t : Str} {hs : Bool} {ws : List Wy} {ps : List Pn} {QS : Fl → Sl → Mem → Prop}
theorem w_habFor (B : BagAt μ n c) (hc : c + 30 < 1000000000) (h2 : μ[a2]? = some (.lst (ts.map .str))) (h5 : μ[a5]? = some (.lst (ws.map Wy.d))) (n2 : a2 ≠ n) (n5 : a5 ≠ n) (d25 : a2 ≠ a5)
    (hts : ∀ u ∈ ts, Name u) (hnd : ts.Nodup) (htl3 : ts.length ≤ 3) (hnt : t ∉ dn) (ht : t ∈ ts) (R : Rd ws (Ai ts dn t hs [])) (hl : ws.length ≤ 100)
    (q : ∀ ws' μ' y7 y8 y9, Rd ws' (Ai ts dn t hs ts) → (∀ x, x ∈ ws → x ∈ ws') → ws'.length ≤ ws.length + 3 → μ'[a5]? = some (.lst (ws'.map Wy.d)) → BagAt μ' n (c + 20) → Sv n a5 μ μ' →
      QS .nx [some (.ref n), e1, some (.ref a2), some (.str t), e4, some (.ref a5), e6, y7, y8, y9] μ') :
    WS (mFor (iL (mVar 2)) (gmN 7) habIn) [some (.ref n), e1, some (.ref a2), some (.str t), e4, some (.ref a5), e6, e7, e8, e9] μ QS := by
  have htl : 1 ≤ ts.length := by
    have := List.length_pos_of_mem ht
    omega
  refine ws_for (wi_L (we_var rfl ⟨a2, _, rfl, h2, ?_⟩))
  refine ws_forGo (fun r e m => ∃ (id r' : List Str) (ws' : List Wy) (x7 x8 x9 : Option D), r = r'.map .str ∧ ts = id ++ r' ∧ e = [some (.ref n), e1, some (.ref a2), some (.str t), e4, some (.ref a5), e6, x7, x8, x9] ∧
      Rd ws' (Ai ts dn t hs id) ∧ (∀ x, x ∈ ws → x ∈ ws') ∧ ws'.length ≤ ws.length + id.length ∧ m[a5]? = some (.lst (ws'.map Wy.d)) ∧ BagAt m n (c + 6 * id.length) ∧ Sv n a5 μ m)
    ?_ ?_ ?_ (ts.map .str) _ _ ⟨[], ts, ws, e7, e8, e9, rfl, rfl, rfl, R, fun _ h => h, by simp, h5, by simpa using B, Sv.refl⟩
  · rintro r e m ⟨id, r', ws', x7, x8, x9, _, _, _, _, _, _, _, _, s⟩
    exact s.at_ h2 n2 d25
  · rintro x r e m ⟨id, r', ws', x7, x8, x9, k1, k2, rfl, k4, k5, k6, k7, k8, s⟩
    cases r' with
    | nil => cases k1
    | cons o r' =>
      rw [List.map_cons, List.cons.injEq] at k1
      obtain ⟨rfl, rfl⟩ := k1
      have hin : o ∈ ts := by rw [k2]; simp
      have hid : o ∉ id := by
        rw [k2, List.nodup_append] at hnd
        intro h
        exact hnd.2.2 o h o List.mem_cons_self rfl
      have hil : id.length < 3 := by
        rw [k2] at htl3
        simp only [List.length_append, List.length_cons] at htl3
        omega
      refine wg_n ?_
      refine w_habIn k8 (by omega) (s.at_ h2 n2 d25) k7 n2 n5 d25 hts htl htl3 hnt ht hin hid k4 (by omega) fun ws2 μ2 y8 y9 j1 j2 j3 j4 j5 j6 => ?_
      refine .inl ⟨.inl rfl, id ++ [o], r', ws2, some (.str o), y8, y9, rfl, by rw [k2]; simp, rfl, j1, fun x h => j2 x (k5 x h), by simp; omega, j4, j5.mono (by simp; omega), s.trans j6⟩
  · rintro e m ⟨id, r', ws', x7, x8, x9, k1, k2, rfl, k4, k5, k6, k7, k8, s⟩
    have hr : r' = [] := List.map_eq_nil_iff.mp k1.symm
    rw [hr, List.append_nil] at k2
    rw [← k2] at k4 k6 k8
    exact q ws' m x7 x8 x9 k4 k5 (by omega) k7 (k8.mono (by omega)) s
theorem w_habOut (B : BagAt μ n c) (hc : c + 50 < 1000000000) (h2 : μ[a2]? = some (.lst (ts.map .str))) (h4 : μ[a4]? = some (.lst (ps.map Pn.d))) (h5 : μ[a5]? = some (.lst (ws.map Wy.d))) (n2 : a2 ≠ n) (n4 : a4 ≠ n) (n5 : a5 ≠ n) (d24 : a2 ≠ a4) (d25 : a2 ≠ a5) (d45 : a4 ≠ a5)
    (hts : ∀ u ∈ ts, Name u) (hnd : ts.Nodup) (htl3 : ts.length ≤ 3) (hdn : ∀ u ∈ dn, u ∈ ts) (hnt : t ∉ dn) (ht : t ∈ ts) (R : Rd ws (Ao ts dn)) (Hm : Homes dn ws) (hl : ws.length ≤ 50) (hpl : ps.length ≤ 100)
    (q : ∀ (p : Pn) (ws' : List Wy) μ' y6 y7 y8 y9, p.n = t → p.fit → Rd ws' (Ao ts (dn ++ [t])) → Homes (dn ++ [t]) ws' → ws'.length ≤ ws.length + 5 → μ'[a2]? = some (.lst (ts.map .str)) → μ'[a4]? = some (.lst ((ps ++ [p]).map Pn.d)) → μ'[a5]? = some (.lst (ws'.map Wy.d)) → BagAt μ' n (c + 50) → S3 n a4 a5 μ μ' →
      QS .nx [some (.ref n), e1, some (.ref a2), some (.str t), some (.ref a4), some (.ref a5), y6, y7, y8, y9] μ') :
    WS habOut [some (.ref n), e1, some (.ref a2), some (.str t), some (.ref a4), some (.ref a5), e6, e7, e8, e9] μ QS := by
  have hnt' : Name t := hts t ht
  refine ws_seq (ws_asg (we_op (we_tup (wa_cons (we_c (wa_cons (we_c (wa_cons (we_c (wa_nil ⟨by decide, ?_⟩))))))))))
  refine we_takeC rfl B (by omega) (by decide) (by decide) fun d μ1 d0 d1 B1 F1 => ?_
  obtain ⟨k, hk, hkk⟩ := kind_at d0 d1
  refine wo_ixT hk ?_
  decreasing_trivial_pre_omega
  have m4 : μ1[a4]? = some (.lst (ps.map Pn.d)) := by rw [F1.2 a4 n4]; exact h4
  refine ws_seq (ws_ex (we_bm (we_var rfl ⟨a4, _, rfl, m4, ?_⟩)))
  refine wa_cons (we_tup (wa_cons (we_var rfl (wa_cons (we_var rfl (wa_cons (we_op (we_tup ?_)))))))) 
  refine wa_cons (we_c (wa_cons (we_c (wa_cons (we_c (wa_cons (we_c (wa_cons (we_c (wa_cons (we_c (wa_cons (we_c (wa_cons (we_c (wa_nil ⟨by decide, ?_⟩))))))))))))))))
  refine we_takeC rfl B1 (by omega) (by decide) (by decide) fun d' μ2 d0' d1' B2 F2 => ?_
  obtain ⟨kq, hkq, hkf⟩ := keep_at d0' d1'
  refine wo_ixT hkq (wa_nil ⟨by simp, wa_nil ?_⟩)
  have m4' : μ2[a4]? = some (.lst (ps.map Pn.d)) := by rw [F2.2 a4 n4]; exact m4
  refine ⟨.non, μ2.set a4 (.lst ((ps ++ [Pn.mk t k kq]).map Pn.d)), ?_, ?_⟩
  · unfold fAppend fMut
    dsimp only
    rw [m4']
    dsimp only
    rw [if_pos (by simp; omega)]
    simp [Pn.d]
  have P3 : (μ2.set a4 (.lst ((ps ++ [Pn.mk t k kq]).map Pn.d)))[a4]? = some (.lst ((ps ++ [Pn.mk t k kq]).map Pn.d)) := List.getElem?_set_self (lt_at m4')
  have P5 : (μ2.set a4 (.lst ((ps ++ [Pn.mk t k kq]).map Pn.d)))[a5]? = some (.lst (ws.map Wy.d)) := by rw [List.getElem?_set_ne d45, F2.2 a5 n5, F1.2 a5 n5]; exact h5
  have P2 : (μ2.set a4 (.lst ((ps ++ [Pn.mk t k kq]).map Pn.d)))[a2]? = some (.lst (ts.map .str)) := by rw [List.getElem?_set_ne (Ne.symm d24), F2.2 a2 n2, F1.2 a2 n2]; exact h2
  have PB : BagAt (μ2.set a4 (.lst ((ps ++ [Pn.mk t k kq]).map Pn.d))) n (c + 2) := (B2.set n4).mono (by omega)
  have PS : S3 n a4 a5 μ (μ2.set a4 (.lst ((ps ++ [Pn.mk t k kq]).map Pn.d))) := ⟨by simp [F2.1, F1.1], fun m _ x y _ => by rw [List.getElem?_set_ne (Ne.symm y), F2.2 m x, F1.2 m x]⟩
  generalize μ2.set a4 (.lst ((ps ++ [Pn.mk t k kq]).map Pn.d)) = μ3 at P3 P5 P2 PB PS ⊢
  -- the way home
  refine ws_seq ?_
  refine w_road rfl rfl n5 (fun μ' R h => we_var rfl h) (fun μ' R h => we_c h) (name_ok hnt') P5 (by omega) PB (by omega) fun w ws1 μ4 w1 w2 w3 p m5 B4 F4 L4 => ?_
  have we : w.ends = (t, house) := by
    show (w.g, w.t) = _
    rw [w1, w2]
  have R1 : Rd ws1 (Ai ts dn t false []) := R.add w3 (by rw [we]; exact fresh_home hnt hnt') p (fun e h => .inl h) (.inr (.inl we))
  have H1 : Homes (dn ++ [t]) ws1 := fun u hu => by
    rcases (List.mem_append.mp hu) with hu | hu
    · exact Hm.perm p u hu
    · rw [List.mem_singleton.mp hu]
      exact (p.map Wy.ends).mem_iff.mpr (by rw [List.map_cons, we]; exact List.mem_cons_self)
  have l1 : ws1.length = ws.length + 1 := by rw [p.length_eq]; rfl
  have S4 : Sv n a5 μ3 μ4 := ⟨Nat.le_of_eq L4.symm, fun m _ x y => F4 m x y⟩
  -- behind it
  have fin : ∀ (hs : Bool) (ws2 : List Wy) (μ5 : Mem), Rd ws2 (Ai ts dn t hs []) → Homes (dn ++ [t]) ws2 → ws2.length ≤ ws.length + 2 → μ5[a5]? = some (.lst (ws2.map Wy.d)) → BagAt μ5 n (c + 20) → Sv n a5 μ3 μ5 →
      WS (mFor (iL (mVar 2)) (gmN 7) habIn) [some (.ref n), e1, some (.ref a2), some (.str t), some (.ref a4), some (.ref a5), some (.str k), e7, e8, e9] μ5 QS := by
    intro hs ws2 μ5 r1 r2 r3 r4 r5 r6
    refine w_habFor r5 (by omega) (r6.at_ P2 n2 d25) r4 n2 n5 d25 hts hnd htl3 hnt ht r1 (by omega) fun ws3 μ6 y7 y8 y9 z1 z2 z3 z4 z5 z6 => ?_
    refine q ⟨t, k, kq⟩ ws3 μ6 _ _ _ _ rfl ⟨hkk, hkf⟩ (z1.mono fun e h => ai_ao (fun o ho => ho) h) ?_ (by omega) ((r6.trans z6).at_ P2 n2 d25) ((r6.trans z6).at_ P3 n4 d45) z4 (z5.mono (by omega)) (PS.trans (r6.trans z6).s3)
    intro u hu
    obtain ⟨x, hx, e⟩ := List.mem_map.mp (r2 u hu)
    exact List.mem_map.mpr ⟨x, z2 x hx, e⟩
  refine ws_seq (ws_if (wt_ts (we_op ?_)))
  refine we_takeC rfl B4 (by omega) (by decide) (by decide) fun g μ5 g0 g1 B5 F5 => ?_
  decreasing_trivial_pre_omega
  refine wo_gt ⟨_, rfl, fun _ => ?_, fun _ => ?_⟩
  · refine w_road rfl rfl n5 (fun μ' R h => we_c h) (fun μ' R h => we_var rfl h) house_ok (by rw [F5.2 a5 n5]; exact m5) (by omega) B5 (by omega) fun v ws2 μ6 v1 v2 v3 p2 m6 B6 F6 L6 => ?_
    have ve : v.ends = (house, t) := by
      show (v.g, v.t) = _
      rw [v1, v2]
    refine fin true ws2 μ6 (R1.add v3 (by rw [ve]; exact fresh_from hnt (fun u hu => hts u (hdn u hu)) hnt') p2 (fun e h => ?_) (.inr (.inr (.inl ⟨rfl, ve⟩)))) (H1.perm p2) (by rw [p2.length_eq, List.length_cons, l1]; omega) m6 (B6.mono (by omega)) ((S4.trans F5.sv).trans ⟨Nat.le_of_eq L6.symm, fun m _ x y => F6 m x y⟩)
    rcases h with h | h | ⟨h, _⟩ | h
    · exact .inl h
    · exact .inr (.inl h)
    · cases h
    · exact .inr (.inr (.inr h))
  · decreasing_trivial_pre_omega
    exact fin false ws1 μ5 R1 H1 (by omega) (by rw [F5.2 a5 n5]; exact m5) (B5.mono (by omega)) (S4.trans F5.sv)
end
end MR

/-! GM11: drawn habits. -/
namespace MR
open PySem L2
/-- habits as the law draws them -/
structure Laid (ps : List Pn) (ws : List Wy) (s : Int) : Prop where
  l1 : 1 ≤ ps.length
  l3 : ps.length ≤ 3
  nm : ∀ p ∈ ps, Name p.n
  nd : (ps.map Pn.n).Nodup
  pf : ∀ p ∈ ps, p.fit
  rd : Rd ws (Ao (ps.map Pn.n) (ps.map Pn.n))
  hm : Homes (ps.map Pn.n) ws
  wl : ws.length ≤ 60
  s0 : 0 ≤ s
  s2 : s ≤ 2
def habD (ps : List Pn) (ws : List Wy) (s : Int) : D := .tup [.tup (ps.map Pn.d), .tup (ws.map Wy.d), .int s]
theorem wf_min {i j : Int} {μ : Mem} {Q : D → Mem → Prop} (q : Q (.int (if j < i then j else i)) μ) : WF fMin2 [.int i, .int j] μ Q := ⟨_, μ, rfl, q⟩
theorem wf_tupR {a : Nat} {ds : List D} {μ : Mem} {Q : D → Mem → Prop} (hm : μ[a]? = some (.lst ds)) (q : Q (.tup ds) μ) : WF fTuple [.ref a] μ Q := ⟨_, μ, by unfold fTuple seqAt lstAt; dsimp only; rw [hm]; rfl, q⟩
theorem w_habits {μ : Mem} {Q : D → Mem → Prop} {n most : Nat} {c : Int} (B : BagAt μ n c) (hc : c + 300 < 1000000000) (hm1 : 1 ≤ most) (hm3 : most ≤ 3)
    (q : ∀ ps ws s μ', Laid ps ws s → ps.length ≤ most → BagAt μ' n (c + 300) → Fr n μ μ' → Q (habD ps ws s) μ') : WF m_law_habits [.ref n, .int most] μ Q := by
  rw [habits_eq]
  refine wf_def ?_
  show WS _ [some (.ref n), some (.int most), none, none, none, none, none, none, none, none] _ _
  refine ws_seq (ws_asg (we_call (wa_cons (we_var rfl (wa_cons (we_call (wa_cons (we_var rfl (wa_cons (we_op (we_tup ?_)))))))))))
  refine wa_cons (we_c (wa_cons (we_c (wa_cons (we_c (wa_cons (we_c (wa_cons (we_c (wa_cons (we_c (wa_nil ⟨by decide, ?_⟩))))))))))))
  refine we_takeC rfl B (by omega) (by decide) (by decide) fun d μ1 d0 d1 B1 F1 => ?_
  obtain ⟨z, hz, z0, z1⟩ := many_at d0 d1
  refine wo_ixT hz (wa_nil (wf_min (wa_nil (wf_lenIs rfl ?_))))
  obtain ⟨many, hmany, m1, m3, mm⟩ : ∃ many : Nat, (if (z : Int) < (most : Int) then (z : Int) else (most : Int)) = (many : Int) ∧ 1 ≤ many ∧ many ≤ 3 ∧ many ≤ most := by
    split
    · exact ⟨z, rfl, z0, z1, by omega⟩
    · exact ⟨most, rfl, hm1, hm3, Nat.le_refl _⟩
  rw [hmany]
  refine w_names B1 (by omega) m3 fun ts μ2 tl tnd tn tm B2 F2 => ?_
  decreasing_trivial_pre_omega
  refine ws_seq (ws_par (wa_cons (we_lst (wa_nil ⟨by decide, wa_cons (we_lst (wa_nil ⟨by decide, wa_nil ⟨_, _, rfl, ?_⟩⟩))⟩))))
  have eL : (μ2 ++ [MO.lst []]).length = μ2.length + 1 := by simp
  rw [eL]
  have A2 : Ap μ2 (μ2 ++ [MO.lst []] ++ [MO.lst []]) := ((Ap.refl _).add _).add _
  have h2 := ap_at A2 tm
  have h4 : (μ2 ++ [MO.lst []] ++ [MO.lst []])[μ2.length]? = some (.lst (([] : List Pn).map Pn.d)) := by
    rw [List.getElem?_append_left (by simp)]
    simp
  have h5 : (μ2 ++ [MO.lst []] ++ [MO.lst []])[μ2.length + 1]? = some (.lst (([] : List Wy).map Wy.d)) := by
    rw [List.getElem?_append_right (by simp)]
    simp
  have B3 : BagAt (μ2 ++ [MO.lst []] ++ [MO.lst []]) n (c + 41) := (B2.ap A2).mono (by omega)
  have F3 : Fr n μ (μ2 ++ [MO.lst []] ++ [MO.lst []]) := (F1.fr.trans F2).trans A2.fr
  have ltm := lt_at tm
  have nlt := B.lt
  have e1l := F1.1
  have F2l := F2.1
  generalize hμ3 : μ2 ++ [MO.lst []] ++ [MO.lst []] = μ3 at h2 h4 h5 B3 F3 A2 ⊢
  have hk1 : μ1.length ≠ n := by omega
  refine ws_seq (ws_for (wi_L (we_var rfl ⟨μ1.length, _, rfl, h2, ?_⟩)))
  refine ws_forGo (fun r e m => ∃ (dn r' : List Str) (ps : List Pn) (ws : List Wy) (x3 x6 x7 x8 x9 : Option D), r = r'.map .str ∧ ts = dn ++ r' ∧ ps.map Pn.n = dn ∧ (∀ p ∈ ps, p.fit) ∧
      e = [some (.ref n), some (.int most), some (.ref μ1.length), x3, some (.ref μ2.length), some (.ref (μ2.length + 1)), x6, x7, x8, x9] ∧ Rd ws (Ao ts dn) ∧ Homes dn ws ∧ ws.length ≤ 5 * dn.length ∧
      m[μ1.length]? = some (.lst (ts.map .str)) ∧ m[μ2.length]? = some (.lst (ps.map Pn.d)) ∧ m[μ2.length + 1]? = some (.lst (ws.map Wy.d)) ∧ BagAt m n (c + 41 + 50 * dn.length) ∧ S3 n μ2.length (μ2.length + 1) μ3 m)
    ?_ ?_ ?_ (ts.map .str) _ _ ⟨[], ts, [], [], none, none, none, none, none, rfl, rfl, rfl, by simp, rfl, Rd.nil, by simp [Homes], by simp, h2, h4, h5, by simpa using B3, S3.refl⟩
  · rintro r e m ⟨dn, r', ps, ws, x3, x6, x7, x8, x9, k1, k2, k3, k4, k5, k6, k7, k8, k9, _⟩
    exact k9
  · rintro x r e m ⟨dn, r', ps, ws, x3, x6, x7, x8, x9, k1, k2, k3, k4, rfl, k6, k7, k8, k9, k10, k11, k12, k13⟩
    cases r' with
    | nil => cases k1
    | cons t r' =>
      rw [List.map_cons, List.cons.injEq] at k1
      obtain ⟨rfl, rfl⟩ := k1
      have hin : t ∈ ts := by rw [k2]; simp
      have hnt : t ∉ dn := by
        rw [k2, List.nodup_append] at tnd
        intro h
        exact tnd.2.2 t h t List.mem_cons_self rfl
      have hil : dn.length < 3 := by
        have := congrArg List.length k2
        simp only [List.length_append, List.length_cons] at this
        omega
      have hpl : ps.length = dn.length := by rw [← k3]; simp
      refine wg_n ?_
      refine w_habOut k12 (by omega) k9 k10 k11 hk1 (by omega) (by omega) (by omega) (by omega) (by omega) tn tnd (by omega) (fun u hu => by rw [k2]; exact List.mem_append_left _ hu) hnt hin k6 k7 (by omega) (by omega) fun p ws' μ4 y6 y7 y8 y9 j1 j2 j3 j4 j5 j6 j7 j8 j9 j10 => ?_
      refine .inl ⟨.inl rfl, dn ++ [t], r', ps ++ [p], ws', some (.str t), y6, y7, y8, y9, rfl, by rw [k2]; simp, by rw [List.map_append, k3]; simp [j1], ?_, rfl, j3, j4, by simp; omega, j6, j7, j8, j9.mono (by simp; omega), k13.trans j10⟩
      intro u hu; rcases (List.mem_append.mp hu) with hu | hu
      · exact k4 u hu
      · rw [List.mem_singleton.mp hu]; exact j2
  · rintro e m ⟨dn, r', ps, ws, x3, x6, x7, x8, x9, k1, k2, k3, k4, rfl, k6, k7, k8, k9, k10, k11, k12, k13⟩
    have hr : r' = [] := List.map_eq_nil_iff.mp k1.symm
    rw [hr, List.append_nil] at k2
    subst k2
    have hpl : ps.length = ts.length := by rw [← k3]; simp
    refine ws_ret (we_tup (wa_cons (we_call (wa_cons (we_var rfl (wa_nil (wf_tupR k10 ?_)))))))
    refine wa_cons (we_call (wa_cons (we_var rfl (wa_nil (wf_tupR k11 ?_)))))
    refine wa_cons (we_op (we_tup (wa_cons (we_c (wa_cons (we_c (wa_cons (we_c (wa_cons (we_c (wa_nil ⟨by decide, ?_⟩)))))))))))
    refine we_takeC rfl k12 (by omega) (by decide) (by decide) fun g μ5 g0 g1 B5 F5 => ?_
    obtain ⟨s, hs, s0, s2⟩ := steps_at g0 g1
    refine wo_ixT hs (wa_nil ⟨by simp, ?_⟩)
    have L : Laid ps ws s := ⟨by omega, by omega, fun p hp => tn _ (by rw [← k3]; exact List.mem_map_of_mem hp), by rw [k3]; exact tnd, k4, by rw [k3]; exact k6, by rw [k3]; exact k7, by omega, s0, s2⟩
    refine q ps ws s μ5 L (by omega) (B5.mono (by omega)) ⟨?_, fun m hm hn => ?_⟩
    · have := F3.1; have := k13.1; have := F5.1; omega
    · rw [F5.2 m hn, k13.2 m (by have := F3.1; omega) hn (by omega) (by omega)]
      exact F3.2 m hm hn
end MR

/-! GH0: the project's looks at habits, as plain functions. -/
namespace MR
open PySem L2
noncomputable def m_is_whole : List D → Mem → Option (D × Mem) := mDef 1 1 (mRet (mAndV (mCall fIsi (mCons (mVar 0) (mCons (mC (.ty "int")) mNil))) (mNotV (mCall fIsi (mCons (mVar 0) (mCons (mC (.ty "bool")) mNil))))))
noncomputable def m_is_between : List D → Mem → Option (D × Mem) := mDef 3 3 (mRet (mAndV (mCall (lenIs 1 m_is_whole) (mCons (mVar 0) mNil)) (mChain oLe oLe (mVar 1) (mVar 0) (mVar 2))))
noncomputable def m_is_truth : List D → Mem → Option (D × Mem) := mDef 1 1 (mRet (mCall fIsi (mCons (mVar 0) (mCons (mC (.ty "bool")) mNil))))
noncomputable def m_is_tuple_of : List D → Mem → Option (D × Mem) := mDef 2 2 (mRet (mAndV (mCall fIsi (mCons (mVar 0) (mCons (mC (.ty "tuple")) mNil))) (mOp (oEq false) (mCall fLen (mCons (mVar 0) mNil)) (mVar 1))))
noncomputable def m_is_folk_text : List D → Mem → Option (D × Mem) := mDef 2 1 (mSeq (mIf (mOr (mNot (mTs (mCall fIsi (mCons (mVar 0) (mCons (mC (.ty "str")) mNil))))) (mNot (mTs (mChain oLe oLe (mC (.int 1)) (mCall fLen (mCons (mVar 0) mNil)) (mC (.int 8))))))
  (mRet (mC (.bl false)))
  mSkip)
  (mRet (mAndV (mOp (oEq true) (mVar 0) (mC (.str "house"))) (mCall fAll (mCons (mLc (iS (mVar 0)) (gmN 1) mYes (mOp (oIn false) (mVar 1) (mC (.str "abcdefghijklmnopqrstuvwxyz"))) [1]) mNil)))))
noncomputable def m_is_folk : List D → Mem → Option (D × Mem) := mDef 4 1 (mSeq (mIf (mNot (mTs (mCall (lenIs 2 m_is_tuple_of) (mCons (mVar 0) (mCons (mC (.int 3)) mNil)))))
  (mRet (mC (.bl false)))
  mSkip)
  (mSeq (mAsg (mVar 0) (gmTup 3 (gmCons (gmN 1) (gmCons (gmN 2) (gmCons (gmN 3) gmNil)))))
  (mSeq (mIf (mOr (mNot (mTs (mCall (lenIs 1 m_is_folk_text) (mCons (mVar 1) mNil)))) (mTs (mOp (oIn true) (mVar 2) (mTup (mCons (mC (.str "saying")) (mCons (mC (.str "still")) mNil))))))
  (mRet (mC (.bl false)))
  mSkip)
  (mRet (mOrV (mOp (oIs false) (mVar 3) (mC .non)) (mCall (lenIs 3 m_is_between) (mCons (mVar 3) (mCons (mC (.int 1)) (mCons (mC (.int 3)) mNil)))))))))
noncomputable def m_are_folk : List D → Mem → Option (D × Mem) := mDef 5 1 (mSeq (mIf (mOr (mNot (mTs (mCall fIsi (mCons (mVar 0) (mCons (mC (.ty "tuple")) mNil))))) (mNot (mTs (mChain oLe oLe (mC (.int 1)) (mCall fLen (mCons (mVar 0) mNil)) (mC (.int 3))))))
  (mRet (mC (.bl false)))
  mSkip)
  (mSeq (mIf (mNot (mTs (mCall fAll (mCons (mLc (iT (mVar 0)) (gmN 1) mYes (mCall (lenIs 1 m_is_folk) (mCons (mVar 1) mNil)) [1]) mNil))))
  (mRet (mC (.bl false)))
  mSkip)
  (mRet (mOp (oEq false) (mLenSc (iT (mVar 0)) (gmTup 3 (gmCons (gmN 2) (gmCons (gmN 3) (gmCons (gmN 4) gmNil)))) mYes (mVar 2) [2, 3, 4]) (mCall fLen (mCons (mVar 0) mNil))))))
noncomputable def m_is_way : List D → Mem → Option (D × Mem) := mDef 9 2 (mSeq (mIf (mNot (mTs (mCall (lenIs 2 m_is_tuple_of) (mCons (mVar 1) (mCons (mC (.int 6)) mNil)))))
  (mRet (mC (.bl false)))
  mSkip)
  (mSeq (mAsg (mVar 1) (gmTup 6 (gmCons (gmN 3) (gmCons (gmN 4) (gmCons (gmN 5) (gmCons (gmN 6) (gmCons (gmN 7) (gmCons (gmN 8) gmNil))))))))
  (mSeq (mAsg (mTup (mCons (mC (.str "house")) (mStar (mVar 0) mNil))) (gmN 2))
  (mSeq (mIf (mOr (mTs (mOp (oIn true) (mVar 3) (mVar 2))) (mOr (mTs (mOp (oIn true) (mVar 4) (mVar 2))) (mTs (mOp (oEq false) (mVar 3) (mVar 4)))))
  (mRet (mC (.bl false)))
  mSkip)
  (mSeq (mIf (mOr (mNot (mTs (mCall (lenIs 3 m_is_between) (mCons (mVar 6) (mCons (mC (.int 1)) (mCons (mC (.int 3)) mNil)))))) (mNot (mTs (mCall (lenIs 3 m_is_between) (mCons (mVar 5) (mCons (mC (.int 1)) (mCons (mVar 6) mNil)))))))
  (mRet (mC (.bl false)))
  mSkip)
  (mRet (mAndV (mCall (lenIs 1 m_is_truth) (mCons (mVar 7) mNil)) (mAndV (mCall (lenIs 1 m_is_truth) (mCons (mVar 8) mNil)) (mOrV (mOp (oEq false) (mVar 3) (mC (.str "house"))) (mNotV (mVar 8)))))))))))
noncomputable def m_are_ways : List D → Mem → Option (D × Mem) := mDef 6 2 (mSeq (mIf (mOr (mNot (mTs (mCall fIsi (mCons (mVar 1) (mCons (mC (.ty "tuple")) mNil))))) (mNot (mTs (mCall fAll (mCons (mLc (iT (mVar 1)) (gmN 5) mYes (mCall (lenIs 2 m_is_way) (mCons (mVar 0) (mCons (mVar 5) mNil))) [5]) mNil)))))
  (mRet (mC (.bl false)))
  mSkip)
  (mSeq (mAsg (mLc (iT (mVar 1)) (gmN 3) mYes (mTup (mCons (mOp oIx (mVar 3) (mC (.int 0))) (mCons (mOp oIx (mVar 3) (mC (.int 1))) mNil))) [3]) (gmN 2))
  (mSeq (mIf (mTs (mOp (oEq true) (mLenSet (mVar 2)) (mCall fLen (mCons (mVar 2) mNil))))
  (mRet (mC (.bl false)))
  mSkip)
  (mRet (mCall fAll (mCons (mLc (iL (mVar 0)) (gmN 4) mYes (mOp (oIn false) (mTup (mCons (mVar 4) (mCons (mC (.str "house")) mNil))) (mVar 2)) [4]) mNil))))))
noncomputable def m_Habits_init : List D → Mem → Option (D × Mem) := mDef 7 4 (mSeq (mIf (mNot (mTs (mCall (lenIs 1 m_are_folk) (mCons (mVar 1) mNil))))
  mBad
  mSkip)
  (mSeq (mIf (mNot (mTs (mCall (lenIs 2 m_are_ways) (mCons (mLc (iT (mVar 1)) (gmTup 3 (gmCons (gmN 4) (gmCons (gmN 5) (gmCons (gmN 6) gmNil)))) mYes (mVar 4) [4, 5, 6]) (mCons (mVar 2) mNil)))))
  mBad
  mSkip)
  (mSeq (mIf (mNot (mTs (mCall (lenIs 3 m_is_between) (mCons (mVar 3) (mCons (mC (.int 0)) (mCons (mC (.int 2)) mNil))))))
  mBad
  mSkip)
  (mSeq (mSfld 0 "folk" (mVar 0) (mVar 1))
  (mSeq (mSfld 0 "ways" (mVar 0) (mVar 2))
  (mSfld 0 "steps" (mVar 0) (mVar 3)))))))
end MR

/-! GH1: what the looks tell of folk. -/
namespace MR
open PySem L2
/-- the memory grew, all that was there stands -/
def Gr (μ μ' : Mem) : Prop := μ.length ≤ μ'.length ∧ ∀ m, m < μ.length → μ'[m]? = μ[m]?
theorem Gr.refl (μ : Mem) : Gr μ μ := ⟨Nat.le_refl _, fun _ _ => rfl⟩
theorem Gr.trans {μ μ1 μ2 : Mem} (h : Gr μ μ1) (k : Gr μ1 μ2) : Gr μ μ2 := ⟨Nat.le_trans h.1 k.1, fun m hm => (k.2 m (Nat.lt_of_lt_of_le hm h.1)).trans (h.2 m hm)⟩
theorem Ap.gr {μ μ' : Mem} (h : Ap μ μ') : Gr μ μ' := by
  obtain ⟨xs, rfl⟩ := h
  exact ⟨by simp, fun m hm => by rw [List.getElem?_append_left hm]⟩
theorem Gr.at_ {μ μ' : Mem} {m : Nat} {o : MO} (h : Gr μ μ') (e : μ[m]? = some o) : μ'[m]? = some o := by rw [h.2 m (lt_at e)]; exact e
theorem Gr.fr {n : Nat} {μ μ' : Mem} (h : Gr μ μ') : Fr n μ μ' := ⟨h.1, fun m hm _ => h.2 m hm⟩
theorem gr_app {μ : Mem} {xs : List MO} : Gr μ (μ ++ xs) := Ap.gr ⟨xs, rfl⟩
/-- a comprehension without a test, its items by a function -/
theorem w_lcF {env : Sl} {μ : Mem} {g : MTg} {el : MEx} {xs : List D} {c : Option (Nat × List D)} {F : D → D} (hc : ∀ m, Gr μ m → still c m) (hl : xs.length ≤ 100000)
    (step : ∀ x ∈ xs, ∀ m, Gr μ m → WG g x env m fun e1 m1 => WE el e1 m1 fun d m2 => d = F x ∧ Gr m m2) :
    ∃ m, compGo c g mYes el μ.length env xs (μ ++ [.lst []]) = some m ∧ m[μ.length]? = some (.lst (xs.map F)) ∧ Gr μ m := by
  refine w_compGo (QM := fun m => m[μ.length]? = some (.lst (xs.map F)) ∧ Gr μ m) (fun r a m => ∃ z, xs = z ++ r ∧ a = z.map F ∧ Gr μ m) (fun r a m h => hc m h.choose_spec.2.2) (fun r a m h => by
    obtain ⟨z, h1, h2, _⟩ := h
    have := congrArg List.length h1
    simp only [List.length_append] at this
    rw [h2, List.length_map]
    omega) ?_ ?_ xs [] _ (by simp) ⟨[], rfl, rfl, gr_app⟩
  · rintro x r a m ⟨z, h1, h2, h3⟩ hm
    obtain ⟨e1, m1, q1, d, m2, q2, q3, q4⟩ := step x (by rw [h1]; simp) m h3
    refine ⟨e1, m1, q1, true, m1, rfl, ?_⟩
    refine ⟨fun z => (by cases z), fun _ => ⟨d, m2, q2, q4.at_ hm, z ++ [x], by rw [h1]; simp, by rw [h2, q3]; simp, ?_⟩⟩
    have hg := h3.trans q4
    exact ⟨by simpa using hg.1, fun k hk => by rw [List.getElem?_set_ne (by omega)]; exact hg.2 k hk⟩
  · rintro a m ⟨z, h1, h2, h3⟩ hm
    have e : z = xs := by rw [h1, List.append_nil]
    rw [e] at h2
    exact ⟨by rw [hm, h2], h3⟩
theorem bls_true : ∀ xs : List D, blsOf (xs.map fun _ => D.bl true) = some (xs.map fun _ => true)
  | [] => rfl
  | x :: r => by
    have ih := bls_true r
    simp only [List.map_cons]
    unfold blsOf
    rw [ih]
    rfl
theorem wf_all {μ : Mem} {Q : D → Mem → Prop} {a : Nat} {xs : List D} (h : μ[a]? = some (.lst (xs.map fun _ => .bl true))) (q : Q (.bl true) μ) : WF fAll [.ref a] μ Q := by
  refine ⟨.bl true, μ, ?_, q⟩
  unfold fAll fBls lstAt
  dsimp only
  rw [h]
  dsimp only
  rw [bls_true]
  simp
/-- all([.. for x in it]), where each is true -/
theorem w_allT {env : Sl} {μ : Mem} {Q : D → Mem → Prop} {it : MIt} {g : MTg} {el : MEx} {vs : List Nat} (h : WI it env μ fun xs c μ1 => xs.length ≤ 100000 ∧ (∀ m, Gr μ1 m → still c m) ∧ (∀ x ∈ xs, ∀ m, Gr μ1 m → WG g x (wipeD env vs) m fun e1 m1 => WE el e1 m1 fun d m2 => d = .bl true ∧ Gr m m2) ∧ ∀ m, Gr μ1 m → Q (.bl true) m) :
    WE (mCall fAll (mCons (mLc it g mYes el vs) mNil)) env μ Q := by
  obtain ⟨xs, c, μ1, e1, hl, hc, step, q⟩ := h
  refine we_call (wa_cons (we_lc ⟨xs, c, μ1, e1, ?_⟩))
  obtain ⟨m, h1, h2, h3⟩ := w_lcF (F := fun _ => .bl true) hc hl step
  exact ⟨m, h1, wa_nil (wf_all h2 (q m h3))⟩
section
variable {μ : Mem} {Q : D → Mem → Prop}
theorem wf_whole {i : Int} (q : Q (.bl true) μ) : WF m_is_whole [.int i] μ Q := by
  refine wf_def (ws_ret (we_andV (we_call (wa_cons (we_var rfl (wa_cons (we_c (wa_nil ⟨.bl true, μ, rfl, true, rfl, fun _ => ?_, fun z => by cases z⟩))))))))
  exact we_notV (we_call (wa_cons (we_var rfl (wa_cons (we_c (wa_nil ⟨.bl false, μ, rfl, false, rfl, q⟩))))))
theorem wf_between {i lo hi : Int} (h1 : lo ≤ i) (h2 : i ≤ hi) (q : Q (.bl true) μ) : WF m_is_between [.int i, .int lo, .int hi] μ Q := by
  refine wf_def (ws_ret (we_andV (we_call (wa_cons (we_var rfl (wa_nil (wf_lenIs rfl (wf_whole ⟨true, rfl, fun _ => ?_, fun z => by cases z⟩))))))))
  refine we_chain (we_var rfl (we_var rfl (wo_le ⟨_, rfl, fun _ => we_var rfl (wo_le ?_), fun z => ?_⟩)))
  · rw [decide_eq_true h2]; exact q
  · exact absurd h1 (of_decide_eq_false z)
theorem wf_truth {b : Bool} (q : Q (.bl true) μ) : WF m_is_truth [.bl b] μ Q :=
  wf_def (ws_ret (we_call (wa_cons (we_var rfl (wa_cons (we_c (wa_nil ⟨.bl true, μ, rfl, q⟩)))))))
theorem wf_lenT {ds : List D} (q : Q (.int ds.length) μ) : WF fLen [.tup ds] μ Q := ⟨_, μ, rfl, q⟩
theorem wf_tupleOf {ds : List D} {n : Nat} (h : ds.length = n) (q : Q (.bl true) μ) : WF m_is_tuple_of [.tup ds, .int n] μ Q := by
  refine wf_def (ws_ret (we_andV (we_call (wa_cons (we_var rfl (wa_cons (we_c (wa_nil ⟨.bl true, μ, rfl, true, rfl, fun _ => ?_, fun z => by cases z⟩))))))))
  refine we_op (we_call (wa_cons (we_var rfl (wa_nil (wf_lenT (we_var rfl (wo_eqI ?_)))))))
  rw [h]
  simpa using q
theorem wf_folkText {t : Str} (ht : Name t) (q : ∀ μ', Gr μ μ' → Q (.bl true) μ') : WF m_is_folk_text [.str t] μ Q := by
  obtain ⟨⟨t1, t2, t3⟩, t4⟩ := ht
  refine wf_def ?_
  show WS _ [some (.str t), none] _ _
  refine ws_seq (ws_if (wt_or (wt_not (wt_ts (we_call (wa_cons (we_var rfl (wa_cons (we_c (wa_nil ⟨.bl true, μ, rfl, true, rfl, ?_⟩)))))))))) 
  refine ⟨fun _ => ?_, fun z => by cases z⟩
  have hlen : WF fLen [.str t] μ fun d m => d = .int t.length ∧ m = μ := ⟨.int t.length, μ, by unfold fLen; dsimp only; rw [if_pos (by omega)], rfl, rfl⟩
  refine wt_not (wt_ts (we_chain (we_c (we_call (wa_cons (we_var rfl (wa_nil (hlen.imp ?_))))))))
  rintro d m ⟨rfl, rfl⟩
  refine wo_le ⟨_, rfl, fun _ => we_c (wo_le ⟨_, rfl, ?_⟩), fun z => absurd (of_decide_eq_false z) (by omega)⟩
  rw [decide_eq_true (show (t.length : Int) ≤ 8 by omega)]
  refine ⟨fun z => (by cases z), fun _ => ws_skip ?_⟩
  refine ws_ret (we_andV (we_op (we_var rfl (we_c (wo_neS (low_ok t3) house_ok ⟨_, rfl, fun _ => ?_, fun z => ?_⟩)))))
  · refine w_allT ⟨t.cps.toList.map fun c => .str ⟨#[c]⟩, none, m, rfl, ?_, fun _ _ => trivial, ?_, fun m' h => q m' h⟩
    · rw [List.length_map, ← len_list]; omega
    · intro x hx m' hg
      obtain ⟨c, hc, rfl⟩ := List.mem_map.mp hx
      have h9 := t3 c hc
      refine wg_n (we_op (we_var rfl (we_c ⟨.bl true, m', ?_, rfl, Gr.refl _⟩)))
      unfold oIn
      have : c ∈ base.cps.toList := by
        rw [base_list, List.mem_map]
        exact ⟨c - 97, List.mem_range.mpr (by omega), by omega⟩
      show some (D.bl (decide (c ∈ base.cps.toList)), m') = _
      rw [decide_eq_true this]
  · have : (t == ("house" : Str)) = false := beq_eq_false_iff_ne.mpr t4
    rw [this] at z
    cases z
theorem wf_folk {p : Pn} (hn : Name p.n) (hf : p.fit) (q : ∀ μ', Gr μ μ' → Q (.bl true) μ') : WF m_is_folk [p.d] μ Q := by
  refine wf_def ?_
  show WS _ [some p.d, none, none, none] _ _
  refine ws_seq (ws_if (wt_not (wt_ts (we_call (wa_cons (we_var rfl (wa_cons (we_c (wa_nil (wf_lenIs rfl (wf_tupleOf (n := 3) rfl ⟨true, rfl, ?_⟩)))))))))))
  refine ⟨fun z => (by cases z), fun _ => ws_skip ?_⟩
  refine ws_seq (ws_asg (we_var rfl (wg_tup rfl (wgs_cons (wg_n (wgs_cons (wg_n (wgs_cons (wg_n (wgs_nil ?_)))))))))) 
  refine ws_seq (ws_if (wt_or (wt_not (wt_ts (we_call (wa_cons (we_var rfl (wa_nil (wf_lenIs rfl (wf_folkText hn fun μ1 g1 => ⟨true, rfl, ?_⟩)))))))))) 
  refine ⟨fun _ => ?_, fun z => by cases z⟩
  have hk : oIn true (.str p.k) (.tup [.str "saying", .str "still"]) μ1 = some (.bl false, μ1) := by
    rcases hf.1 with h | h <;> rw [h] <;> rfl
  refine wt_ts (we_op (we_var rfl (we_tup (wa_cons (we_c (wa_cons (we_c (wa_nil ⟨by decide, .bl false, μ1, hk, false, rfl, ?_⟩)))))))) 
  refine ⟨fun z => (by cases z), fun _ => ws_skip ?_⟩
  refine ws_ret (we_orV (we_op (we_var rfl (we_c ?_))))
  cases hq : p.q with
  | none => exact ⟨.bl true, μ1, rfl, true, rfl, fun z => (by cases z), fun _ => q μ1 g1⟩
  | some i =>
    obtain ⟨i1, i3⟩ := hf.2 i hq
    refine ⟨.bl false, μ1, rfl, false, rfl, fun _ => ?_, fun z => by cases z⟩
    refine we_call (wa_cons (we_var (d := .int i) (by show _ = some (some (D.int i)); simp [hq, keepD]) (wa_cons (we_c (wa_cons (we_c (wa_nil (wf_lenIs rfl (wf_between i1 i3 (q μ1 g1)))))))))) 
end
end MR

/-! GH2: what the looks tell of folk and ways. -/
namespace MR
open PySem L2
section
variable {μ : Mem} {Q : D → Mem → Prop}
theorem met_new {xs : List Str} {x : Str} (h : x ∉ xs) : (met xs x).length = xs.length + 1 ∧ ∀ y, y ∈ met xs x ↔ y ∈ xs ∨ y = x := by
  unfold met
  simp [h]
theorem w_setFolk {env : Sl} {g : MTg} (hg : ∀ (p : Pn) m (R : Sl → Mem → Prop), (∀ e, e[2]? = some (some (.str p.n)) → R e m) → WG g p.d env m R) : ∀ (ps : List Pn) (acc : List Str) (μ : Mem), (ps.map Pn.n).Nodup → (∀ p ∈ ps, p.n ∉ acc) → acc.length + ps.length ≤ 100 →
    ∃ zs, setGo none g mYes (mVar 2) env (ps.map Pn.d) acc μ = some (zs, μ) ∧ zs.length = acc.length + ps.length
  | [], acc, μ, _, _, _ => ⟨acc, by rw [List.map_nil, setGo]; exact if_pos trivial, by simp⟩
  | p :: r, acc, μ, hn, ha, hl => by
    simp only [List.map_cons, List.nodup_cons] at hn
    simp only [List.length_cons] at hl
    obtain ⟨e1, m1, q1, q2⟩ := hg p μ (fun e m => e[2]? = some (some (.str p.n)) ∧ m = μ) fun e he => ⟨he, rfl⟩
    obtain ⟨q2, rfl⟩ := q2
    obtain ⟨l1, l2⟩ := met_new (ha p List.mem_cons_self)
    obtain ⟨zs, h1, h2⟩ := w_setFolk hg r (met acc p.n) m1 hn.2 (fun u hu h => by
      rcases (l2 _).mp h with h | h
      · exact ha u (List.mem_cons_of_mem _ hu) h
      · exact hn.1 (h ▸ List.mem_map_of_mem hu)) (by omega)
    refine ⟨zs, ?_, by rw [h2, l1, List.length_cons]; omega⟩
    have st : still none m1 := trivial
    rw [List.map_cons, setGo, if_pos st, q1]
    dsimp only [mYes]
    have : mVar 2 e1 m1 = some (.str p.n, m1) := by unfold mVar; rw [q2]
    rw [this]
    dsimp only
    rw [if_pos (by omega)]
    exact h1
theorem wf_areFolk {ps : List Pn} (l1 : 1 ≤ ps.length) (l3 : ps.length ≤ 3) (hn : ∀ p ∈ ps, Name p.n) (hd : (ps.map Pn.n).Nodup) (hf : ∀ p ∈ ps, p.fit) (q : ∀ μ', Gr μ μ' → Q (.bl true) μ') : WF m_are_folk [.tup (ps.map Pn.d)] μ Q := by
  refine wf_def ?_
  show WS _ [some (.tup (ps.map Pn.d)), none, none, none, none] _ _
  refine ws_seq (ws_if (wt_or (wt_not (wt_ts (we_call (wa_cons (we_var rfl (wa_cons (we_c (wa_nil ⟨.bl true, μ, rfl, true, rfl, ?_⟩)))))))))) 
  refine ⟨fun _ => ?_, fun z => by cases z⟩
  refine wt_not (wt_ts (we_chain (we_c (we_call (wa_cons (we_var rfl (wa_nil (wf_lenT (wo_le ⟨_, rfl, fun _ => we_c (wo_le ⟨_, rfl, ?_⟩), fun z => ?_⟩)))))))))
  · rw [decide_eq_true (show ((ps.map Pn.d).length : Int) ≤ 3 by rw [List.length_map]; omega)]
    refine ⟨fun z => (by cases z), fun _ => ws_skip ?_⟩
    refine ws_seq (ws_if (wt_not (wt_ts (w_allT ⟨ps.map Pn.d, none, μ, rfl, by rw [List.length_map]; omega, fun _ _ => trivial, ?_, fun m hm => ⟨true, rfl, ?_⟩⟩))))
    · intro x hx m hg
      obtain ⟨p, hp, rfl⟩ := List.mem_map.mp hx
      exact wg_n (we_call (wa_cons (we_var rfl (wa_nil (wf_lenIs rfl (wf_folk (hn p hp) (hf p hp) fun m' hg' => ⟨rfl, hg'⟩))))))
    · refine ⟨fun z => (by cases z), fun _ => ws_skip ?_⟩
      refine ws_ret (we_op ?_)
      obtain ⟨zs, h1, h2⟩ := w_setFolk (env := wipeD [some (.tup (ps.map Pn.d)), none, none, none, none] [2, 3, 4]) (g := gmTup 3 (gmCons (gmN 2) (gmCons (gmN 3) (gmCons (gmN 4) gmNil))))
        (fun p m R h => wg_tup rfl (wgs_cons (wg_n (wgs_cons (wg_n (wgs_cons (wg_n (wgs_nil (h _ rfl)))))))) ) ps [] m hd (by simp) (by simp; omega)
      refine ⟨D.int (zs.length : Nat), m, ?_, ?_⟩
      · unfold mLenSc
        show (match setGo none _ mYes _ _ (ps.map Pn.d) [] m with | some (zs, μ2) => some (D.int (zs.length : Nat), μ2) | none => none) = _
        rw [h1]
      · refine we_call (wa_cons (we_var rfl (wa_nil (wf_lenT (wo_eqI ?_)))))
        have : (((zs.length : Nat) : Int) == (((ps.map Pn.d).length : Nat) : Int)) = true := by
          rw [h2, List.length_map]
          simp
        rw [this]
        exact q m hm
  · exact absurd (of_decide_eq_false z) (by rw [List.length_map]; omega)
theorem wo_niT {x : Str} {ts : List Str} {b : Bool} (hx : PyData.strOk x = true) (q : Q (.bl (!decide (x ∈ ts))) μ) : WO (oIn true) (.str x) (.tup (ts.map .str)) μ Q := by
  refine ⟨_, μ, ?_, q⟩
  have hm : (ts.map D.str).mapM (toPy μ 40) = some (ts.map PyData.str) := mapM_strs ts
  have hf : (ts.map D.str).all isFlat = true := by simp [isFlat]
  show (match toPy μ 40 (.str x), (ts.map D.str).mapM (toPy μ 40) with
    | some a, some bs => if isFlat (.str x) = true ∧ (ts.map D.str).all isFlat = true then some ((.bl (if true then !bs.any fun z => PyData.eqv z a else bs.any fun z => PyData.eqv z a), μ) : D × Mem) else none
    | _, _ => none) = _
  rw [hm, hf]
  show (if isFlat (.str x) = true ∧ true = true then some ((.bl (!(ts.map PyData.str).any fun z => PyData.eqv z (.str x)), μ) : D × Mem) else none) = _
  rw [if_pos ⟨rfl, rfl⟩, any_strs]
theorem wa_star {env : Sl} {a : MEx} {r : MAr} {QA : List D → Mem → Prop} (h : WE a env μ fun x μ1 => ∃ xs, seqAt μ1 x = some xs ∧ WA r env μ1 fun ys μ2 => QA (xs ++ ys) μ2) : WA (mStar a r) env μ QA := by
  obtain ⟨x, μ1, e1, xs, e2, ys, μ2, e3, q⟩ := h
  exact ⟨_, μ2, by unfold mStar; rw [e1]; dsimp only; rw [e2]; dsimp only; rw [e3], q⟩
theorem wf_isWay {ts : List Str} {a : Nat} {w : Wy} (hl : ts.length ≤ 10) (h : μ[a]? = some (.lst (ts.map .str))) (hw : w.fit) (hg : w.g = house ∨ w.g ∈ ts) (ht : w.t = house ∨ w.t ∈ ts) (hne : w.g ≠ w.t) (hgo : PyData.strOk w.g = true) (hto : PyData.strOk w.t = true)
    (q : Q (.bl true) μ) : WF m_is_way [.ref a, w.d] μ Q := by
  obtain ⟨f1, f2, f3, f4⟩ := hw
  refine wf_def ?_
  show WS _ [some (.ref a), some w.d, none, none, none, none, none, none, none] _ _
  refine ws_seq (ws_if (wt_not (wt_ts (we_call (wa_cons (we_var rfl (wa_cons (we_c (wa_nil (wf_lenIs rfl (wf_tupleOf (n := 6) rfl ⟨true, rfl, ?_⟩)))))))))))
  refine ⟨fun z => (by cases z), fun _ => ws_skip ?_⟩
  refine ws_seq (ws_asg (we_var rfl (wg_tup rfl (wgs_cons (wg_n (wgs_cons (wg_n (wgs_cons (wg_n (wgs_cons (wg_n (wgs_cons (wg_n (wgs_cons (wg_n (wgs_nil ?_))))))))))))))))
  have hin : ∀ x : Str, (x = house ∨ x ∈ ts) → (!decide (x ∈ house :: ts)) = false := fun x hx => by
    have : x ∈ house :: ts := by
      rcases hx with rfl | hx
      · exact List.mem_cons_self
      · exact List.mem_cons_of_mem _ hx
    simp [this]
  have e1 : seqAt μ (.ref a) = some (ts.map .str) := by simp [seqAt, lstAt, h]
  refine ws_seq (ws_asg (we_tup (wa_cons (we_c (wa_star (we_var rfl ⟨_, e1, wa_nil ?_⟩))))))
  rw [List.append_nil]
  refine ⟨by simp; omega, wg_n ?_⟩
  show WS _ [some (.ref a), some w.d, some (.tup ((house :: ts).map D.str)), some (.str w.g), some (.str w.t), some (.int w.l), some (.int w.m), some (.bl w.lo), some (.bl w.tw)] μ _
  refine ws_seq (ws_if (wt_or (wt_ts (we_op (we_var rfl (we_var rfl ?_))))))
  refine wo_niT (b := true) hgo ⟨_, rfl, ?_⟩
  rw [hin _ hg]
  refine ⟨fun _ => ?_, fun z => by cases z⟩
  refine wt_or (wt_ts (we_op (we_var rfl (we_var rfl ?_))))
  refine wo_niT (b := true) hto ⟨_, rfl, ?_⟩
  rw [hin _ ht]
  refine ⟨fun _ => ?_, fun z => by cases z⟩
  refine wt_ts (we_op (we_var rfl (we_var rfl ?_)))
  refine wo_eqS hgo hto ⟨_, rfl, ?_⟩
  rw [beq_eq_false_iff_ne.mpr hne]
  refine ⟨fun z => (by cases z), fun _ => ws_skip ?_⟩
  refine ws_seq (ws_if (wt_or (wt_not (wt_ts (we_call ?_)))))
  refine wa_cons (we_var rfl (wa_cons (we_c (wa_cons (we_c (wa_nil ?_))))))
  refine wf_lenIs rfl (wf_between (by omega) f3 ⟨true, rfl, ?_⟩)
  refine ⟨fun _ => ?_, fun z => by cases z⟩
  refine wt_not (wt_ts (we_call ?_))
  refine wa_cons (we_var rfl (wa_cons (we_c (wa_cons (we_var rfl (wa_nil ?_))))))
  refine wf_lenIs rfl (wf_between f1 f2 ⟨true, rfl, ?_⟩)
  refine ⟨fun z => (by cases z), fun _ => ws_skip ?_⟩
  refine ws_ret (we_andV (we_call (wa_cons (we_var rfl (wa_nil ?_)))))
  refine wf_lenIs rfl (wf_truth ⟨true, rfl, fun _ => ?_, fun z => by cases z⟩)
  refine we_andV (we_call (wa_cons (we_var rfl (wa_nil ?_))))
  refine wf_lenIs rfl (wf_truth ⟨true, rfl, fun _ => ?_, fun z => by cases z⟩)
  refine we_orV (we_op (we_var rfl (we_c (wo_eqS hgo house_ok ⟨_, rfl, fun hz => ?_, fun hz => ?_⟩))))
  · refine we_notV (we_var rfl ⟨w.tw, rfl, ?_⟩)
    have : w.tw = false := by
      cases htw : w.tw with
      | false => rfl
      | true => rw [f4 htw] at hz; simp at hz
    rw [this]
    exact q
  · exact q
end
end MR

/-! GH3: ways looked at; habits made. -/
namespace MR
open PySem L2
section
variable {μ : Mem} {Q : D → Mem → Prop}
def endsD (w : Wy) : D := .tup [.str w.g, .str w.t]
def endsK (w : Wy) : NestedKey := .tup [.text w.g, .text w.t]
def endsP (w : Wy) : PyData := .tuple [.str w.g, .str w.t]
theorem keys_ends : ∀ ws : List Wy, keysOf (ws.map endsD) = some (ws.map endsK)
  | [] => rfl
  | w :: r => by
    have ih := keys_ends r
    rw [List.map_cons, keysOf, ih]
    rfl
theorem unlike_nodup : ∀ {l : List NestedKey}, l.Nodup → unlike l = l
  | [], _ => rfl
  | k :: l, h => by
    rw [List.nodup_cons] at h
    have ih := unlike_nodup h.2
    rw [unlike, ih, if_neg]
    intro hm
    obtain ⟨x, hx, e⟩ := List.any_eq_true.mp hm
    exact h.1 (beq_iff.mp e ▸ hx)
theorem endsK_nodup {ws : List Wy} (h : (ws.map Wy.ends).Nodup) : (ws.map endsK).Nodup := by
  rw [List.Nodup, List.pairwise_map] at h ⊢
  refine h.imp fun {a b} hab e => hab ?_
  simp only [endsK, NestedKey.tup.injEq, List.cons.injEq, NestedKey.text.injEq, and_true] at e
  show (a.g, a.t) = (b.g, b.t)
  rw [e.1, e.2]
theorem mapM_ends {k : Nat} : ∀ ws : List Wy, (ws.map endsD).mapM (toPy μ (k + 2)) = some (ws.map endsP)
  | [] => rfl
  | w :: r => by
    have ih := mapM_ends (k := k) r
    simp only [List.map_cons, List.mapM_cons, ih]
    rfl
theorem canLay_ends : ∀ ws : List Wy, (∀ w ∈ ws, PyData.strOk w.g = true ∧ PyData.strOk w.t = true) → PyData.canLayAll0 (ws.map endsP) = true
  | [], _ => rfl
  | w :: r, h => by
    have ih := canLay_ends r fun u hu => h u (List.mem_cons_of_mem _ hu)
    obtain ⟨h1, h2⟩ := h w List.mem_cons_self
    simp only [List.map_cons, PyData.canLayAll0, PyData.canLay0, endsP, ih, h1, h2, Bool.and_self]
theorem depth_end (w : Wy) : PyData.depth (endsP w) ≤ 2 := by
  unfold endsP; simp only [PyData.depth, PyData.depthAll]
  omega
theorem depth_ends : ∀ ws : List Wy, PyData.depthAll (ws.map endsP) ≤ 2
  | [] => (by simp [PyData.depthAll])
  | w :: r => by
    have ih := depth_ends r
    have := depth_end w; simp only [List.map_cons, PyData.depthAll]
    omega
theorem shaped_ends {ws : List Wy} (h : ∀ w ∈ ws, PyData.strOk w.g = true ∧ PyData.strOk w.t = true) : SeqAt.shaped (.list (ws.map endsP)) = true := by
  unfold SeqAt.shaped
  have := depth_ends ws
  have e : PyData.depth (.list (ws.map endsP)) ≤ 64 := by
    rw [PyData.depth]
    omega
  rw [decide_eq_true e, Bool.and_true, PyData.canLay0, canLay_ends ws h]
theorem shaped_end {a b : Str} (ha : PyData.strOk a = true) (hb : PyData.strOk b = true) : SeqAt.shaped (.tuple [.str a, .str b]) = true := by
  unfold SeqAt.shaped
  have e : PyData.depth (.tuple [.str a, .str b]) ≤ 64 := by
    have := depth_end ⟨a, b, 0, 0, false, false⟩
    unfold endsP at this
    dsimp only at this
    omega
  rw [decide_eq_true e, Bool.and_true]
  simp only [PyData.canLay0, PyData.canLayAll0, ha, hb, Bool.and_self]
theorem wo_inEnds {a : Nat} {ws : List Wy} {x y : Str} (h : μ[a]? = some (.lst (ws.map endsD))) (hs : ∀ w ∈ ws, PyData.strOk w.g = true ∧ PyData.strOk w.t = true) (hx : PyData.strOk x = true) (hy : PyData.strOk y = true) (hi : (x, y) ∈ ws.map Wy.ends)
    (q : Q (.bl true) μ) : WO (oIn false) (.tup [.str x, .str y]) (.ref a) μ Q := by
  refine ⟨_, μ, ?_, q⟩
  have h1 : toPy μ 40 (.ref a) = some (.list (ws.map endsP)) := by
    show (match μ[a]? with | some (.lst ds) => (ds.mapM (toPy μ 39)).map PyData.list | _ => none) = _
    rw [h]
    dsimp only
    rw [mapM_ends]
    rfl
  have h2 : toPy μ 40 (.tup [.str x, .str y]) = some (.tuple [.str x, .str y]) := rfl
  show (match toPy μ 40 (.tup [.str x, .str y]), toPy μ 40 (.ref a) with
    | some a, some (.list bs) => if SeqAt.shaped a = true ∧ SeqAt.shaped (.list bs) = true then some ((.bl (if false then !bs.any fun z => PyData.eqv z a else bs.any fun z => PyData.eqv z a), μ) : D × Mem) else none
    | _, _ => none) = _
  rw [h1, h2]
  show (if SeqAt.shaped (.tuple [.str x, .str y]) = true ∧ SeqAt.shaped (.list (ws.map endsP)) = true then some ((.bl ((ws.map endsP).any fun z => PyData.eqv z (.tuple [.str x, .str y])), μ) : D × Mem) else none) = _
  rw [if_pos ⟨shaped_end hx hy, shaped_ends hs⟩]
  have : ((ws.map endsP).any fun z => PyData.eqv z (.tuple [.str x, .str y])) = true := by
    obtain ⟨w, hw, e⟩ := List.mem_map.mp hi
    refine List.any_eq_true.mpr ⟨endsP w, List.mem_map_of_mem hw, ?_⟩
    have e1 : w.g = x := congrArg Prod.fst e
    have e2 : w.t = y := congrArg Prod.snd e
    simp [endsP, PyData.eqv, PyData.eqvAll, e1, e2]
  rw [this]
theorem wf_areWays {ts : List Str} {a : Nat} {ws : List Wy} (hl : ts.length ≤ 10) (hwl : ws.length ≤ 60) (h : μ[a]? = some (.lst (ts.map .str))) (hts : ∀ t ∈ ts, Name t) (R : Rd ws (Ao ts ts)) (Hm : Homes ts ws) (q : ∀ μ', Gr μ μ' → Q (.bl true) μ') :
    WF m_are_ways [.ref a, .tup (ws.map Wy.d)] μ Q := by
  have hE : ∀ w ∈ ws, (w.g = house ∨ w.g ∈ ts) ∧ (w.t = house ∨ w.t ∈ ts) ∧ w.g ≠ w.t := fun w hw => by
    obtain ⟨t, ht, e | e | ⟨e1, e2, e3⟩⟩ := R.inn w hw
    · have e1 : w.g = t := congrArg Prod.fst e
      have e2 : w.t = house := congrArg Prod.snd e
      exact ⟨.inr (e1 ▸ ht), .inl e2, by rw [e1, e2]; exact (hts t ht).2⟩
    · have e1 : w.g = house := congrArg Prod.fst e
      have e2 : w.t = t := congrArg Prod.snd e
      exact ⟨.inl e1, .inr (e2 ▸ ht), by rw [e1, e2]; exact (hts t ht).2.symm⟩
    · have e1 : w.g = t := e1
      exact ⟨.inr (e1 ▸ ht), .inr e2, by rw [e1]; exact fun z => e3 z.symm⟩
  have hS : ∀ w ∈ ws, PyData.strOk w.g = true ∧ PyData.strOk w.t = true := fun w hw => by
    obtain ⟨h1, h2, _⟩ := hE w hw
    constructor
    · rcases h1 with h | h
      · rw [h]; exact house_ok
      · exact name_ok (hts _ h)
    · rcases h2 with h | h
      · rw [h]; exact house_ok
      · exact name_ok (hts _ h)
  refine wf_def ?_
  show WS _ [some (.ref a), some (.tup (ws.map Wy.d)), none, none, none, none] _ _
  refine ws_seq (ws_if (wt_or (wt_not (wt_ts (we_call (wa_cons (we_var rfl (wa_cons (we_c (wa_nil ?_)))))))))) 
  refine ⟨.bl true, μ, rfl, true, rfl, fun _ => ?_, fun z => by cases z⟩
  refine wt_not (wt_ts (w_allT ⟨ws.map Wy.d, none, μ, rfl, by rw [List.length_map]; omega, fun _ _ => trivial, ?_, fun m hm => ⟨true, rfl, ?_⟩⟩))
  · intro x hx m hg
    obtain ⟨w, hw, rfl⟩ := List.mem_map.mp hx
    refine wg_n (we_call (wa_cons (we_var rfl (wa_cons (we_var rfl (wa_nil ?_))))))
    refine wf_lenIs rfl ?_
    exact wf_isWay hl (hg.at_ h) (R.fit w hw) (hE w hw).1 (hE w hw).2.1 (hE w hw).2.2 (hS w hw).1 (hS w hw).2 ⟨rfl, Gr.refl _⟩
  refine ⟨fun z => (by cases z), fun _ => ws_skip ?_⟩
  -- ends
  refine ws_seq (ws_asg (we_lc ⟨ws.map Wy.d, none, m, rfl, ?_⟩))
  obtain ⟨m2, k1, k2, k3⟩ := w_lcF (g := gmN 3) (el := mTup (mCons (mOp oIx (mVar 3) (mC (.int 0))) (mCons (mOp oIx (mVar 3) (mC (.int 1))) mNil))) (env := wipeD [some (.ref a), some (.tup (ws.map Wy.d)), none, none, none, none] [3]) (μ := m) (xs := ws.map Wy.d) (c := none)
    (F := fun d => match d with | .tup (x :: y :: _) => .tup [x, y] | d => d) (fun _ _ => trivial) (by rw [List.length_map]; omega) (fun x hx m' hg => by
      obtain ⟨w, hw, rfl⟩ := List.mem_map.mp hx
      refine wg_n (we_tup (wa_cons (we_op (we_var rfl (we_c (wo_ixT (d := .str w.g) rfl ?_))))))
      refine wa_cons (we_op (we_var rfl (we_c (wo_ixT (d := .str w.t) rfl (wa_nil ⟨by simp, rfl, Gr.refl _⟩)))))) 
  have k2' : m2[m.length]? = some (.lst (ws.map endsD)) := by
    rw [k2, List.map_map]
    rfl
  refine ⟨m2, k1, wg_n ?_⟩
  -- unlike
  have hu : mLenSet (mVar 2) [some (.ref a), some (.tup (ws.map Wy.d)), some (.ref m.length), none, none, none] m2 = some (.int ws.length, m2) := by
    unfold mLenSet
    have : mVar 2 [some (.ref a), some (.tup (ws.map Wy.d)), some (.ref m.length), none, none, none] m2 = some (.ref m.length, m2) := rfl
    rw [this]
    dsimp only
    have : lstAt m2 (.ref m.length) = some (ws.map endsD) := by simp [lstAt, k2']
    rw [this]
    dsimp only
    rw [keys_ends]
    dsimp only
    rw [unlike_nodup (endsK_nodup R.nd), if_pos ⟨by rw [List.length_map]; omega, by simp [isTup, endsD], by simp [endsK, NestedKey.depth, NestedKey.depthAll]⟩]
    simp
  refine ws_seq (ws_if (wt_ts (we_op ⟨_, _, hu, ?_⟩)))
  refine we_call (wa_cons (we_var rfl (wa_nil (wf_len k2' ?_))))
  refine wo_ne (a := .int ws.length) (b := .int ((ws.map endsD).length : Nat)) rfl rfl rfl rfl ⟨_, rfl, ?_⟩
  have : (!PyData.eqv (.int ws.length) (.int ((ws.map endsD).length : Nat))) = false := by
    rw [List.length_map]
    simp [PyData.eqv]
  rw [this]
  refine ⟨fun z => (by cases z), fun _ => ws_skip ?_⟩
  have ha2 : m2[a]? = some (.lst (ts.map .str)) := (hm.trans k3).at_ h
  refine ws_ret (w_allT ⟨ts.map .str, some (a, ts.map .str), m2, ?_, by rw [List.length_map]; omega, fun m' hg => hg.at_ ha2, ?_, fun m' hg => q m' ((hm.trans k3).trans hg)⟩)
  · show (match m2[a]? with | some (.lst xs) => some (xs, some (a, xs), m2) | _ => none) = _
    rw [ha2]
  · intro x hx m' hg
    obtain ⟨t, ht, rfl⟩ := List.mem_map.mp hx
    refine wg_n (we_op (we_tup (wa_cons (we_var rfl (wa_cons (we_c (wa_nil ⟨by simp, we_var rfl ?_⟩)))))))
    exact wo_inEnds (hg.at_ k2') hS (name_ok (hts t ht)) house_ok (Hm t ht) ⟨rfl, Gr.refl _⟩
end
end MR

/-! GH4: habits made of drawn ones. -/
namespace MR
open PySem L2
section
variable {μ : Mem} {Q : D → Mem → Prop} {QS : Fl → Sl → Mem → Prop} {env : Sl}
theorem ws_sfld {c : Nat} {f : Str} {o v : MEx} (h : WE v env μ fun d μ1 => WE o env μ1 fun x μ2 => ∃ n fs, x = .ref n ∧ μ2[n]? = some (.ins c fs) ∧ fs.length < 1000 ∧ QS .nx env (μ2.set n (.ins c (putD f d fs)))) : WS (mSfld c f o v) env μ QS := by
  obtain ⟨d, μ1, e1, x, μ2, e2, n, fs, rfl, hm, hl, q⟩ := h
  exact ⟨_, _, _, by unfold mSfld; rw [e1]; dsimp only; rw [e2]; dsimp only; rw [hm]; dsimp only; rw [if_pos ⟨rfl, hl⟩], q⟩
theorem putD_len (f : Str) (d : D) : ∀ fs, (putD f d fs).length ≤ fs.length + 1
  | [] => by simp [putD]
  | (g, e) :: r => by
    unfold putD
    have := putD_len f d r
    split <;> simp <;> omega
/-- an object of the class Habits -/
def habO (ps : List Pn) (ws : List Wy) (s : Int) : MO := .ins 0 [("folk", .tup (ps.map Pn.d)), ("ways", .tup (ws.map Wy.d)), ("steps", .int s)]
theorem wf_init {ps : List Pn} {ws : List Wy} {s : Int} {o : Nat} (L : Laid ps ws s) (ho : μ[o]? = some (.ins 0 [])) (q : ∀ μ', μ'[o]? = some (habO ps ws s) → Fr o μ μ' → Q .non μ') : WF m_Habits_init [.ref o, .tup (ps.map Pn.d), .tup (ws.map Wy.d), .int s] μ Q := by
  refine wf_def ?_
  show WS _ [some (.ref o), some (.tup (ps.map Pn.d)), some (.tup (ws.map Wy.d)), some (.int s), none, none, none] _ _
  refine ws_seq (ws_if (wt_not (wt_ts (we_call (wa_cons (we_var rfl (wa_nil ?_)))))))
  refine wf_lenIs rfl (wf_areFolk L.l1 L.l3 L.nm L.nd L.pf fun μ1 g1 => ⟨true, rfl, ?_⟩)
  refine ⟨fun z => (by cases z), fun _ => ws_skip ?_⟩
  refine ws_seq (ws_if (wt_not (wt_ts (we_call (wa_cons (we_lc ⟨ps.map Pn.d, none, μ1, rfl, ?_⟩))))))
  obtain ⟨m2, k1, k2, k3⟩ := w_lcF (g := gmTup 3 (gmCons (gmN 4) (gmCons (gmN 5) (gmCons (gmN 6) gmNil)))) (el := mVar 4) (env := wipeD [some (.ref o), some (.tup (ps.map Pn.d)), some (.tup (ws.map Wy.d)), some (.int s), none, none, none] [4, 5, 6]) (μ := μ1) (xs := ps.map Pn.d) (c := none)
    (F := fun d => match d with | .tup (x :: _) => x | d => d) (fun _ _ => trivial) (by have := L.l3; rw [List.length_map]; omega) (fun x hx m' hg => by
      obtain ⟨p, hp, rfl⟩ := List.mem_map.mp hx
      exact wg_tup rfl (wgs_cons (wg_n (wgs_cons (wg_n (wgs_cons (wg_n (wgs_nil (we_var rfl ⟨rfl, Gr.refl _⟩)))))))))
  have k2' : m2[μ1.length]? = some (.lst ((ps.map Pn.n).map D.str)) := by
    rw [k2, List.map_map, List.map_map]
    rfl
  have hts : ∀ t ∈ ps.map Pn.n, Name t := fun t ht => by
    obtain ⟨p, hp, rfl⟩ := List.mem_map.mp ht
    exact L.nm p hp
  refine ⟨m2, k1, wa_cons (we_var rfl (wa_nil ?_))⟩
  refine wf_lenIs rfl (wf_areWays (by have := L.l3; rw [List.length_map]; omega) (by have := L.wl; omega) k2' hts L.rd L.hm fun μ3 g3 => ⟨true, rfl, ?_⟩)
  refine ⟨fun z => (by cases z), fun _ => ws_skip ?_⟩
  refine ws_seq (ws_if (wt_not (wt_ts (we_call ?_))))
  refine wa_cons (we_var rfl (wa_cons (we_c (wa_cons (we_c (wa_nil ?_))))))
  refine wf_lenIs rfl (wf_between L.s0 L.s2 ⟨true, rfl, ?_⟩)
  refine ⟨fun z => (by cases z), fun _ => ws_skip ?_⟩
  have G := (g1.trans k3).trans g3
  have ho3 := G.at_ ho
  have hlt : o < μ3.length := lt_at ho3
  refine ws_seq (ws_sfld (we_var rfl (we_var rfl ⟨o, [], rfl, ho3, by decide, ?_⟩)))
  refine ws_seq (ws_sfld (we_var rfl (we_var rfl ⟨o, _, rfl, List.getElem?_set_self hlt, Nat.lt_of_le_of_lt (putD_len _ _ _) (by decide), ?_⟩)))
  rw [List.set_set]
  refine ws_sfld (we_var rfl (we_var rfl ⟨o, _, rfl, List.getElem?_set_self hlt, Nat.lt_of_le_of_lt (putD_len _ _ _) (Nat.lt_of_le_of_lt (Nat.succ_le_succ (putD_len _ _ _)) (by decide)), ?_⟩))
  rw [List.set_set]
  refine q _ (List.getElem?_set_self hlt) ⟨by simpa using G.1, fun m hm hn => by rw [List.getElem?_set_ne (Ne.symm hn)]; exact G.2 m hm⟩
/-- Habits(folk, ways, steps = s) -/
theorem we_habits {a b c : MEx} {ps : List Pn} {ws : List Wy} {s : Int} (L : Laid ps ws s) (ha : WE a env μ fun x μ1 => WE b env μ1 fun y μ2 => WE c env μ2 fun z μ3 => x = .tup (ps.map Pn.d) ∧ y = .tup (ws.map Wy.d) ∧ z = .int s ∧
      ∀ μ', μ'[μ3.length]? = some (habO ps ws s) → Gr μ3 μ' → Q (.ref μ3.length) μ') :
    WE (mMakeK 0 4 2 1 m_Habits_init (mCons a (mCons b mNil)) (mCons c mNil)) env μ Q := by
  obtain ⟨x, μ1, e1, y, μ2, e2, z, μ3, e3, rfl, rfl, rfl, q⟩ := ha
  obtain ⟨d, μ4, h1, rfl, h2⟩ := wf_init (μ := μ3 ++ [.ins 0 []]) (o := μ3.length) L (by simp) (Q := fun d μ' => d = .non ∧ μ'[μ3.length]? = some (habO ps ws s) ∧ Fr μ3.length (μ3 ++ [.ins 0 []]) μ') fun μ' h1 h2 => ⟨rfl, h1, h2⟩
  refine ⟨.ref μ3.length, μ4, ?_, q μ4 h2.1 ⟨?_, ?_⟩⟩
  · unfold mMakeK
    have r1 : mCons a (mCons b mNil) env μ = some ([.tup (ps.map Pn.d), .tup (ws.map Wy.d)], μ2) := by
      unfold mCons
      rw [e1]
      dsimp only
      rw [e2]
      rfl
    have r2 : mCons c mNil env μ2 = some ([.int s], μ3) := by
      unfold mCons
      rw [e3]
      rfl
    rw [r1]
    dsimp only
    rw [r2]
    dsimp only
    rw [if_pos ⟨rfl, rfl⟩]
    unfold madeD
    have h4 : ([D.tup (ps.map Pn.d), .tup (ws.map Wy.d)] ++ [D.int s]).length + 1 = 4 := rfl
    rw [if_pos h4]
    show (match m_Habits_init [.ref μ3.length, .tup (ps.map Pn.d), .tup (ws.map Wy.d), .int s] (μ3 ++ [.ins 0 []]) with | some (.non, μ') => some (D.ref μ3.length, μ') | _ => none) = _
    rw [h1]
  · have := h2.2.1
    simp at this
    omega
  · intro m hm
    rw [h2.2.2 m (by simp; omega) (by omega), List.getElem?_append_left hm]
end
end MR

/-! GK0: what law k03 draws and asks, as plain functions. -/
namespace MR
open PySem L2
noncomputable def m_Habits_eq : List D → Mem → Option (D × Mem) := mDef 2 2 (mRet (mAndV (mCall (fIsiO 0) (mCons (mVar 1) (mCons (mC (.cl 0)) mNil))) (mAndV (mOp (oEq false) (mFld 0 "folk" (mVar 0)) (mFld 0 "folk" (mVar 1))) (mAndV (mOp (oEq false) (mFld 0 "ways" (mVar 0)) (mFld 0 "ways" (mVar 1))) (mOp (oEq false) (mFld 0 "steps" (mVar 0)) (mFld 0 "steps" (mVar 1)))))))
noncomputable def m_Habits_len : List D → Mem → Option (D × Mem) := mDef 1 1 (mRet (mCall fLen (mCons (mFld 0 "folk" (mVar 0)) mNil)))
noncomputable def m_law_any : List D → Mem → Option (D × Mem) := mDef 4 2 (mSeq (mAsg (mLst (mCons (mC .non) (mCons (mC (.bl true)) (mCons (mC (.bl false)) (mCons (mC (.int 0)) (mCons (mC (.int 1)) (mCons (mUn oNeg (mC (.int 1))) (mCons (mC (.int 2)) (mCons (mOp oPow (mC (.int 10)) (mC (.int 60))) (mCons (mC (.str "")) (mCons (mC (.str "a")) (mCons (mC (.str "house")) (mCons (mC (.str "letter")) (mCons (mC (.str "burnt")) (mCons (mC (.str "saying")) (mCons (mLst mNil) (mCons (mTup mNil) (mCons (mLst (mCons (mC (.int 0)) mNil)) mNil)))))))))))))))))) (gmN 2))
  (mSeq (mAsg (mOp oAdd (mVar 2) (mLst (mCons (mTup (mCons (mC (.int 0)) mNil)) (mCons (mTup (mCons (mC (.int 0)) (mCons (mC (.int 0)) mNil))) (mCons (mTup (mCons (mTup mNil) (mCons (mTup mNil) mNil))) (mCons (mTup (mCons (mTup (mCons (mTup (mCons (mUn oNeg (mC (.int 1))) mNil)) (mCons (mTup mNil) mNil))) mNil)) (mCons (mTup (mCons (mC (.str "a")) (mCons (mC (.str "burnt")) mNil))) (mCons (mTup (mCons (mTup (mCons (mC (.str "a")) (mCons (mC (.str "none")) mNil))) mNil)) (mCons (mTup (mCons (mTup mNil) (mCons (mTup mNil) (mCons (mTup mNil) mNil)))) (mCons (mTup (mCons (mC .non) (mCons (mLst (mCons (mC (.int 1)) mNil)) mNil))) mNil)))))))))) (gmN 2))
  (mSeq (mAsg (mOp oAdd (mOp oAdd (mVar 2) (mVar 1)) (mLc (iL (mVar 1)) (gmN 3) mYes (mTup (mCons (mVar 3) mNil)) [3])) (gmN 2))
  (mRet (mOp oIx (mVar 2) (mCall (lenIs 2 m_law_take) (mCons (mVar 0) (mCons (mCall fLen (mCons (mVar 2) mNil)) mNil))))))))
noncomputable def m_law_renamed : List D → Mem → Option (D × Mem) := mDef 10 4 (mSeq (mAsg (mLc (iT (mVar 0)) (gmN 8) mYes (mOp oAdd (mTup (mCons (mIte (mTs (mOp (oEq false) (mOp oIx (mVar 8) (mC (.int 0))) (mVar 2))) (mVar 3) (mOp oIx (mVar 8) (mC (.int 0)))) mNil)) (mSl (mVar 8) (mPt (mC (.int 1))) mNo)) [8]) (gmN 4))
  (mSeq (mAsg (mLst mNil) (gmN 5))
  (mSeq (mFor (iT (mVar 1)) (gmN 6)
  (mSeq (mAsg (mLc (iT (mSl (mVar 6) mNo (mPt (mC (.int 2))))) (gmN 9) mYes (mIte (mTs (mOp (oEq false) (mVar 9) (mVar 2))) (mVar 3) (mVar 9)) [9]) (gmN 7))
  (mEx (mBM fAppend (mVar 5) (mCons (mOp oAdd (mCall fTuple (mCons (mVar 7) mNil)) (mSl (mVar 6) (mPt (mC (.int 2))) mNo)) mNil)))))
  (mRet (mTup (mCons (mCall fTuple (mCons (mVar 4) mNil)) (mCons (mCall fTuple (mCons (mVar 5) mNil)) mNil)))))))
noncomputable def m_law_changed : List D → Mem → Option (D × Mem) := mDef 13 4 (mSeq (mPar 6 7 (mCons (mCall (lenIs 2 m_law_take) (mCons (mVar 0) (mCons (mCall fLen (mCons (mVar 1) mNil)) mNil))) (mCons (mCall (lenIs 2 m_law_take) (mCons (mVar 0) (mCons (mC (.int 8)) mNil))) mNil)))
  (mSeq (mAsg (mOp oIx (mVar 1) (mVar 6)) (gmTup 3 (gmCons (gmN 8) (gmCons (gmN 9) (gmCons (gmN 10) gmNil)))))
  (mSeq (mAsg (mCall (lenIs 2 m_law_take) (mCons (mVar 0) (mCons (mCall fLen (mCons (mVar 2) mNil)) mNil))) (gmN 4))
  (mSeq (mAsg (mOp oIx (mVar 2) (mVar 4)) (gmN 5))
  (mSeq (mIf (mTs (mOp (oEq false) (mVar 7) (mC (.int 0))))
  (mSeq (mAsg (mSl (mOp oAdd (mVar 8) (mC (.str "z"))) (mPt (mUn oNeg (mC (.int 8)))) mNo) (gmN 11))
  (mAsg (mCall (lenIs 4 m_law_renamed) (mCons (mVar 1) (mCons (mVar 2) (mCons (mVar 8) (mCons (mIte (mTs (mOp (oEq true) (mVar 11) (mVar 8))) (mVar 11) (mC (.str "y"))) mNil))))) (gmTup 2 (gmCons (gmN 1) (gmCons (gmN 2) gmNil)))))
  (mIf (mTs (mOp (oEq false) (mVar 7) (mC (.int 1))))
  (mSeq (mAsg (mIte (mTs (mOp (oEq false) (mVar 9) (mC (.str "saying")))) (mC (.str "still")) (mC (.str "saying"))) (gmN 12))
  (mAsg (mOp oAdd (mOp oAdd (mSl (mVar 1) mNo (mPt (mVar 6))) (mTup (mCons (mTup (mCons (mVar 8) (mCons (mVar 12) (mCons (mVar 10) mNil)))) mNil))) (mSl (mVar 1) (mPt (mOp oAdd (mVar 6) (mC (.int 1)))) mNo)) (gmN 1)))
  (mIf (mTs (mOp (oEq false) (mVar 7) (mC (.int 2))))
  (mAsg (mOp oAdd (mOp oAdd (mSl (mVar 1) mNo (mPt (mVar 6))) (mTup (mCons (mTup (mCons (mVar 8) (mCons (mVar 9) (mCons (mOp oIx (mTup (mCons (mC (.int 1)) (mCons (mC (.int 2)) (mCons (mC (.int 3)) (mCons (mC .non) mNil))))) (mCall (lenIs 2 m_law_take) (mCons (mVar 0) (mCons (mC (.int 4)) mNil)))) mNil)))) mNil))) (mSl (mVar 1) (mPt (mOp oAdd (mVar 6) (mC (.int 1)))) mNo)) (gmN 1))
  (mIf (mTs (mOp (oEq false) (mVar 7) (mC (.int 3))))
  (mSeq (mAsg (mOp oAdd (mOp oAdd (mSl (mVar 5) mNo (mPt (mC (.int 2)))) (mTup (mCons (mC (.int 1)) (mCons (mOp oAdd (mC (.int 1)) (mCall (lenIs 2 m_law_take) (mCons (mVar 0) (mCons (mC (.int 3)) mNil)))) mNil)))) (mSl (mVar 5) (mPt (mC (.int 4))) mNo)) (gmN 5))
  (mAsg (mOp oAdd (mOp oAdd (mSl (mVar 2) mNo (mPt (mVar 4))) (mTup (mCons (mVar 5) mNil))) (mSl (mVar 2) (mPt (mOp oAdd (mVar 4) (mC (.int 1)))) mNo)) (gmN 2)))
  (mIf (mTs (mOp (oEq false) (mVar 7) (mC (.int 4))))
  (mAsg (mOp oAdd (mOp oAdd (mSl (mVar 2) mNo (mPt (mVar 4))) (mTup (mCons (mOp oAdd (mSl (mVar 5) mNo (mPt (mC (.int 4)))) (mTup (mCons (mNotV (mOp oIx (mVar 5) (mC (.int 4)))) (mCons (mOp oIx (mVar 5) (mC (.int 5))) mNil)))) mNil))) (mSl (mVar 2) (mPt (mOp oAdd (mVar 4) (mC (.int 1)))) mNo)) (gmN 2))
  (mIf (mTs (mOp (oEq false) (mVar 7) (mC (.int 5))))
  (mAsg (mOp oIx (mTup (mCons (mOp oAdd (mSl (mVar 2) (mPt (mC (.int 1))) mNo) (mSl (mVar 2) mNo (mPt (mC (.int 1))))) (mCons (mRevU (mVar 2)) mNil))) (mCall (lenIs 2 m_law_take) (mCons (mVar 0) (mCons (mC (.int 2)) mNil)))) (gmN 2))
  (mIf (mTs (mOp (oEq false) (mVar 7) (mC (.int 6))))
  (mAsg (mRevU (mVar 1)) (gmN 1))
  (mAsg (mCall (lenIs 2 m_law_take) (mCons (mVar 0) (mCons (mC (.int 3)) mNil))) (gmN 3)))))))))
  (mRet (mTup (mCons (mVar 1) (mCons (mVar 2) (mCons (mVar 3) mNil))))))))))
noncomputable def m_law_is_good : List D → Mem → Option (D × Mem) := mDef 4 1 (mSeq (mAsg (mLc (iT (mVar 0)) (gmN 2) mYes (mOp oIx (mVar 2) (mC (.int 0))) [2]) (gmN 1))
  (mRet (mCall fAll (mCons (mLc (iL (mVar 1)) (gmN 3) mYes (mAndV (mOp (oEq false) (mBM fCountD (mVar 1) (mCons (mVar 3) mNil)) (mC (.int 1))) (mOp (oEq true) (mVar 3) (mC (.str "house")))) [3]) mNil))))
noncomputable def m_law : List D → Mem → Option (D × Mem) := mDef 18 1 (mSeq (mFor (iR1 (mCons (mCall fMax2 (mCons (mC (.int 3)) (mCons (mCall fMin2 (mCons (mC (.int 10)) (mCons (mCall fLen (mCons (mVar 0) mNil)) mNil))) mNil))) mNil)) (gmN 1)
  (mSeq (mAsg (mCall (lenIs 2 m_law_bag) (mCons (mVar 0) (mCons (mVar 1) mNil))) (gmN 2))
  (mSeq (mPar 7 8 (mCons (mCall (lenIs 2 m_law_habits) (mCons (mVar 2) (mCons (mC (.int 3)) mNil))) (mCons (mCall (lenIs 2 m_law_habits) (mCons (mVar 2) (mCons (mC (.int 3)) mNil))) mNil)))
  (mSeq (mAsg (mLst (mCons (mVar 7) (mCons (mVar 8) (mCons (mTup (mCons (mCall fTuple (mCons (mCall fList (mCons (mOp oIx (mVar 7) (mC (.int 0))) mNil)) mNil)) (mCons (mCall fTuple (mCons (mLc (iT (mOp oIx (mVar 7) (mC (.int 1)))) (gmN 17) mYes (mCall fTuple (mCons (mCall fList (mCons (mVar 17) mNil)) mNil)) [17]) mNil)) (mCons (mOp oIx (mVar 7) (mC (.int 2))) mNil)))) mNil)))) (gmN 3))
  (mSeq (mFor (iR1 (mCons (mC (.int 6)) mNil)) (gmN 4)
  (mSeq (mAsg (mCall (lenIs 4 m_law_changed) (mCons (mVar 2) (mCons (mOp oIx (mVar 7) (mC (.int 0))) (mCons (mOp oIx (mVar 7) (mC (.int 1))) (mCons (mOp oIx (mVar 7) (mC (.int 2))) mNil))))) (gmN 9))
  (mIf (mTs (mCall (lenIs 1 m_law_is_good) (mCons (mOp oIx (mVar 9) (mC (.int 0))) mNil)))
  (mEx (mBM fAppend (mVar 3) (mCons (mVar 9) mNil)))
  mSkip)))
  (mSeq (mAsg (mLc (iL (mVar 3)) (gmTup 3 (gmCons (gmN 14) (gmCons (gmN 15) (gmCons (gmN 16) gmNil)))) mYes (mMakeK 0 4 2 1 m_Habits_init (mCons (mVar 14) (mCons (mVar 15) mNil)) (mCons (mVar 16) mNil)) [14, 15, 16]) (gmN 5))
  (mSeq (mFor (iE (mCons (mVar 5) mNil)) (gmTup 2 (gmCons (gmN 10) (gmCons (gmN 11) gmNil)))
  (mSeq (mFor (iR1 (mCons (mC (.int 2)) mNil)) (gmN 4)
  (mSeq (mAsg (mOp (oEqA 0 m_Habits_eq) (mOp oIx (mVar 5) (mC (.int 0))) (mVar 11)) (gmN 12))
  (mSeq (mAsg (mOp (oEqA 0 m_Habits_eq) (mVar 11) (mOp oIx (mVar 5) (mC (.int 0)))) (gmN 13))
  (mIf (mOr (mNot (mTs (mCall fIsi (mCons (mVar 12) (mCons (mC (.ty "bool")) mNil))))) (mOr (mTs (mOp (oEq true) (mVar 12) (mOp (oEq false) (mOp oIx (mVar 3) (mC (.int 0))) (mOp oIx (mVar 3) (mVar 10))))) (mTs (mOp (oEq true) (mVar 13) (mVar 12)))))
  (mRet (mC (.bl false)))
  mSkip))))
  (mIf (mOr (mTs (mOp (oEq true) (mOp (oNeOwn 0 m_Habits_eq) (mVar 11) (mOp oIx (mVar 5) (mC (.int 0)))) (mOp (oEq true) (mOp oIx (mVar 3) (mC (.int 0))) (mOp oIx (mVar 3) (mVar 10))))) (mTs (mOp (oEq true) (mCall (fLenOwn 0 m_Habits_len) (mCons (mVar 11) mNil)) (mCall fLen (mCons (mOp oIx (mOp oIx (mVar 3) (mVar 10)) (mC (.int 0))) mNil)))))
  (mRet (mC (.bl false)))
  mSkip)))
  (mSeq (mAsg (mCall (lenIs 2 m_law_any) (mCons (mVar 2) (mCons (mLst (mCons (mVar 7) (mCons (mVar 8) (mCons (mOp oIx (mVar 7) (mC (.int 0))) (mCons (mC (.str "habits")) mNil))))) mNil))) (gmN 6))
  (mSeq (mIf (mOr (mTs (mOp (oEqA 0 m_Habits_eq) (mOp oIx (mVar 5) (mC (.int 0))) (mVar 6))) (mOr (mTs (mOp (oEqA 0 m_Habits_eq) (mVar 6) (mOp oIx (mVar 5) (mC (.int 0))))) (mOr (mNot (mTs (mOp (oNeOwn 0 m_Habits_eq) (mOp oIx (mVar 5) (mC (.int 0))) (mVar 6)))) (mTs (mOp (oInA 0 m_Habits_eq false) (mOp oIx (mVar 5) (mC (.int 0))) (mLst (mCons (mVar 6) (mCons (mC .non) mNil))))))))
  (mRet (mC (.bl false)))
  mSkip)
  (mIf (mTs (mOp (oInA 0 m_Habits_eq true) (mOp oIx (mVar 5) (mC (.int 0))) (mOp oAdd (mSl (mVar 5) (mPt (mC (.int 1))) mNo) (mLst (mCons (mMakeK 0 4 2 1 m_Habits_init (mCons (mOp oIx (mVar 7) (mC (.int 0))) (mCons (mOp oIx (mVar 7) (mC (.int 1))) mNil)) (mCons (mOp oIx (mVar 7) (mC (.int 2))) mNil)) mNil)))))
  (mRet (mC (.bl false)))
  mSkip))))))))))
  (mRet (mC (.bl true))))
end MR

/-! GK1: == of habits, on data. -/
namespace MR
open PySem L2
def keepP : Option Int → PyData
  | none => .none
  | some i => .int i
def pnP (p : Pn) : PyData := .tuple [.str p.n, .str p.k, keepP p.q]
def wyP (w : Wy) : PyData := .tuple [.str w.g, .str w.t, .int w.l, .int w.m, .bool w.lo, .bool w.tw]
def fkP (ps : List Pn) : PyData := .tuple (ps.map pnP)
def wsP (ws : List Wy) : PyData := .tuple (ws.map wyP)
section
variable {μ : Mem} {Q : D → Mem → Prop}
theorem mapM_fn {α : Type} {f : α → D} {g : α → PyData} {k : Nat} (h : ∀ a, toPy μ k (f a) = some (g a)) : ∀ xs : List α, (xs.map f).mapM (toPy μ k) = some (xs.map g)
  | [] => rfl
  | x :: r => by
    have ih := mapM_fn h r
    simp only [List.map_cons, List.mapM_cons, ih, h]
    rfl
theorem toPy_keep {k : Nat} (q : Option Int) : toPy μ (k + 1) (keepD q) = some (keepP q) := by cases q <;> rfl
theorem toPy_pn {k : Nat} (p : Pn) : toPy μ (k + 2) p.d = some (pnP p) := by
  have h := toPy_keep (μ := μ) (k := k) p.q
  show (([D.str p.n, .str p.k, keepD p.q]).mapM (toPy μ (k + 1))).map PyData.tuple = _
  simp only [List.mapM_cons, List.mapM_nil, h]
  rfl
theorem toPy_wy {k : Nat} (w : Wy) : toPy μ (k + 2) w.d = some (wyP w) := rfl
theorem toPy_fk {k : Nat} (ps : List Pn) : toPy μ (k + 3) (.tup (ps.map Pn.d)) = some (fkP ps) := by
  show ((ps.map Pn.d).mapM (toPy μ (k + 2))).map PyData.tuple = _
  rw [mapM_fn toPy_pn]
  rfl
theorem toPy_ws {k : Nat} (ws : List Wy) : toPy μ (k + 3) (.tup (ws.map Wy.d)) = some (wsP ws) := by
  show ((ws.map Wy.d).mapM (toPy μ (k + 2))).map PyData.tuple = _
  rw [mapM_fn toPy_wy]
  rfl
theorem canLay_fn {α : Type} {g : α → PyData} : ∀ xs : List α, (∀ a ∈ xs, PyData.canLay0 (g a) = true) → PyData.canLayAll0 (xs.map g) = true
  | [], _ => rfl
  | x :: r, h => by
    have ih := canLay_fn r fun a ha => h a (List.mem_cons_of_mem _ ha)
    simp only [List.map_cons, PyData.canLayAll0, ih, h x List.mem_cons_self, Bool.and_self]
theorem depth_fn {α : Type} {g : α → PyData} {n : Nat} (h : ∀ a, PyData.depth (g a) ≤ n) : ∀ xs : List α, PyData.depthAll (xs.map g) ≤ n
  | [] => (by simp [PyData.depthAll])
  | x :: r => by
    have ih := depth_fn h r
    have := h x
    (simp only [List.map_cons, PyData.depthAll])
    omega
theorem depth_pn (p : Pn) : PyData.depth (pnP p) ≤ 2 := by
  unfold pnP keepP
  cases p.q <;> simp [PyData.depth, PyData.depthAll]
theorem depth_wy (w : Wy) : PyData.depth (wyP w) ≤ 2 := by simp [wyP, PyData.depth, PyData.depthAll]
def kindOk (p : Pn) : Prop := p.k = ("saying" : Str) ∨ p.k = ("still" : Str)
theorem canLay_pn {p : Pn} (hn : PyData.strOk p.n = true) (hk : kindOk p) : PyData.canLay0 (pnP p) = true := by
  have hk2 : PyData.strOk p.k = true := by
    rcases hk with h | h <;> rw [h] <;> decide +kernel
  unfold pnP keepP
  cases p.q <;> simp [PyData.canLay0, PyData.canLayAll0, hn, hk2]
theorem canLay_wy {w : Wy} (h1 : PyData.strOk w.g = true) (h2 : PyData.strOk w.t = true) : PyData.canLay0 (wyP w) = true := by simp [wyP, PyData.canLay0, PyData.canLayAll0, h1, h2]
/-- texts that can be laid -/
structure Lays (ps : List Pn) (ws : List Wy) : Prop where
  pn : ∀ p ∈ ps, PyData.strOk p.n = true ∧ kindOk p
  wy : ∀ w ∈ ws, PyData.strOk w.g = true ∧ PyData.strOk w.t = true
theorem ao_ok {ts : List Str} (hts : ∀ t ∈ ts, Name t) {w : Wy} (h : Ao ts ts w.ends) : PyData.strOk w.g = true ∧ PyData.strOk w.t = true := by
  obtain ⟨t, ht, e | e | ⟨e1, e2, e3⟩⟩ := h
  · have e1 : w.g = t := congrArg Prod.fst e
    have e2 : w.t = house := congrArg Prod.snd e
    rw [e1, e2]; exact ⟨name_ok (hts t ht), house_ok⟩
  · have e1 : w.g = house := congrArg Prod.fst e
    have e2 : w.t = t := congrArg Prod.snd e
    rw [e1, e2]; exact ⟨house_ok, name_ok (hts t ht)⟩
  · have e1 : w.g = t := e1
    rw [e1]; exact ⟨name_ok (hts t ht), name_ok (hts _ e2)⟩
theorem Laid.names {ps : List Pn} {ws : List Wy} {s : Int} (L : Laid ps ws s) : ∀ t ∈ ps.map Pn.n, Name t := fun t ht => by
  obtain ⟨p, hp, rfl⟩ := List.mem_map.mp ht
  exact L.nm p hp
theorem Laid.lays {ps : List Pn} {ws : List Wy} {s : Int} (L : Laid ps ws s) : Lays ps ws :=
  ⟨fun p hp => ⟨name_ok (L.nm p hp), (L.pf p hp).1⟩, fun w hw => ao_ok L.names (L.rd.inn w hw)⟩
theorem shaped_fk {ps : List Pn} {ws : List Wy} (h : Lays ps ws) : SeqAt.shaped (fkP ps) = true := by
  unfold SeqAt.shaped
  have := depth_fn depth_pn ps
  have e : PyData.depth (fkP ps) ≤ 64 := by unfold fkP; rw [PyData.depth]; omega
  rw [decide_eq_true e, Bool.and_true]
  exact canLay_fn ps fun p hp => canLay_pn (h.pn p hp).1 (h.pn p hp).2
theorem shaped_ws {ps : List Pn} {ws : List Wy} (h : Lays ps ws) : SeqAt.shaped (wsP ws) = true := by
  unfold SeqAt.shaped
  have := depth_fn depth_wy ws
  have e : PyData.depth (wsP ws) ≤ 64 := by unfold wsP; rw [PyData.depth]; omega
  rw [decide_eq_true e, Bool.and_true]
  exact canLay_fn ws fun w hw => canLay_wy (h.wy w hw).1 (h.wy w hw).2
/-- habits as one thing of data -/
structure Hb where
  ps : List Pn
  ws : List Wy
  s : Int
def Hb.d (h : Hb) : D := habD h.ps h.ws h.s
def Hb.o (h : Hb) : MO := habO h.ps h.ws h.s
def Hb.p (h : Hb) : PyData := .tuple [fkP h.ps, wsP h.ws, .int h.s]
def Hb.ok (h : Hb) : Prop := Laid h.ps h.ws h.s
theorem toPy_hb (h : Hb) : toPy μ 40 h.d = some h.p := by
  show (([D.tup (h.ps.map Pn.d), .tup (h.ws.map Wy.d), .int h.s]).mapM (toPy μ 39)).map PyData.tuple = _
  have e1 := toPy_fk (μ := μ) (k := 36) h.ps
  have e2 := toPy_ws (μ := μ) (k := 36) h.ws
  simp only [List.mapM_cons, List.mapM_nil, e1, e2]
  rfl
theorem shaped_split {d : PyData} (h : SeqAt.shaped d = true) : PyData.canLay0 d = true := by
  unfold SeqAt.shaped at h
  exact (Bool.and_eq_true _ _ ▸ h : _ ∧ _).1
theorem shaped_hb {h : Hb} (L : h.ok) : SeqAt.shaped h.p = true := by
  have l := Laid.lays L
  have d1 := depth_fn depth_pn h.ps
  have d2 := depth_fn depth_wy h.ws
  unfold SeqAt.shaped
  have e : PyData.depth h.p ≤ 64 := by
    simp only [Hb.p, fkP, wsP, PyData.depth, PyData.depthAll]
    omega
  rw [decide_eq_true e, Bool.and_true]
  have c1 : PyData.canLay0 (fkP h.ps) = true := shaped_split (shaped_fk l)
  have c2 : PyData.canLay0 (wsP h.ws) = true := shaped_split (shaped_ws l)
  simp [Hb.p, PyData.canLay0, PyData.canLayAll0, c1, c2]
/-- equal habits -/
def Hb.e (h k : Hb) : Bool := PyData.eqv h.p k.p
theorem Hb.e_comm (h k : Hb) : h.e k = k.e h := PySem.W.eqv_comm _ _
theorem Hb.e_refl {h : Hb} (L : h.ok) : h.e h = true := PySem.SeqAt.eqv_refl _ (shaped_split (shaped_hb L))
theorem Hb.e_eq (h k : Hb) : h.e k = (PyData.eqv (fkP h.ps) (fkP k.ps) && (PyData.eqv (wsP h.ws) (wsP k.ws) && PyData.eqv (.int h.s) (.int k.s))) := by
  simp [Hb.e, Hb.p, PyData.eqv, PyData.eqvAll]
theorem wo_hb {h k : Hb} (hl : h.ok) (kl : k.ok) (q : Q (.bl (h.e k)) μ) : WO (oEq false) h.d k.d μ Q := wo_eq (toPy_hb h) (toPy_hb k) (shaped_hb hl) (shaped_hb kl) q
theorem wo_hbN {h k : Hb} (hl : h.ok) (kl : k.ok) (q : Q (.bl (!h.e k)) μ) : WO (oEq true) h.d k.d μ Q := wo_ne (toPy_hb h) (toPy_hb k) (shaped_hb hl) (shaped_hb kl) q
theorem we_fld {c : Nat} {f : Str} {a : MEx} {env : Sl} (h : WE a env μ fun x μ1 => ∃ n fs d, x = .ref n ∧ μ1[n]? = some (.ins c fs) ∧ lookD f fs = some d ∧ Q d μ1) : WE (mFld c f a) env μ Q := by
  obtain ⟨x, μ1, e1, n, fs, d, rfl, hm, hd, q⟩ := h
  exact ⟨d, μ1, by unfold mFld; rw [e1]; dsimp only; rw [hm]; dsimp only; rw [if_pos rfl, hd]; rfl, q⟩
theorem seen_hb {n : Nat} {h : Hb} (hn : μ[n]? = some h.o) : seenBy 0 μ (.ref n) = some true := by
  have : tyName μ (.ref n) = none := by unfold tyName; dsimp only; rw [hn]; rfl
  unfold seenBy
  rw [this]
  dsimp only
  rw [hn]
  rfl
theorem ins_hb {n : Nat} {h : Hb} (hn : μ[n]? = some h.o) : insOf 0 μ (.ref n) = true := by
  unfold insOf
  dsimp only
  rw [hn]
  rfl
/-- a plain thing, no habits -/
def Plain (μ : Mem) : D → Prop
  | .non => True | .bl _ => True | .int _ => True | .str _ => True | .tup _ => True
  | .ref n => ∃ xs, μ[n]? = some (.lst xs)
  | _ => False
theorem Plain.gr {μ' : Mem} {d : D} (h : Plain μ d) (g : Gr μ μ') : Plain μ' d := by
  cases d <;> first | trivial | exact h.elim | skip
  obtain ⟨xs, hx⟩ := h
  exact ⟨xs, g.at_ hx⟩
theorem seen_plain {d : D} (h : Plain μ d) : seenBy 0 μ d = some false := by
  cases d with
  | ref n =>
    obtain ⟨xs, hx⟩ := h
    have : tyName μ (.ref n) = some "list" := by unfold tyName; dsimp only; rw [hx]
    unfold seenBy
    rw [this]
    rfl
  | scr _ => exact h.elim
  | ty _ => exact h.elim
  | cl _ => exact h.elim
  | _ => rfl
theorem ins_plain {d : D} (h : Plain μ d) : insOf 0 μ d = false := by
  cases d with
  | ref n =>
    obtain ⟨xs, hx⟩ := h
    unfold insOf
    dsimp only
    rw [hx]
  | _ => rfl
theorem plain_plain {d : D} (h : Plain μ d) : plainD μ d = true := by
  cases d with
  | ref n =>
    obtain ⟨xs, hx⟩ := h
    unfold plainD
    dsimp only
    rw [hx]
  | scr _ => exact h.elim
  | ty _ => exact h.elim
  | cl _ => exact h.elim
  | _ => rfl
theorem wf_isiO {x : D} {b : Bool} (h : seenBy 0 μ x = some b) (q : Q (.bl b) μ) : WF (fIsiO 0) [x, .cl 0] μ Q := ⟨_, μ, by unfold fIsiO; dsimp only; rw [if_pos rfl, h]; rfl, q⟩
theorem fk_of {h : Hb} : lookD "folk" [("folk", .tup (h.ps.map Pn.d)), ("ways", .tup (h.ws.map Wy.d)), ("steps", .int h.s)] = some (.tup (h.ps.map Pn.d)) := rfl
theorem wf_eqO {n m : Nat} {h k : Hb} (hl : h.ok) (kl : k.ok) (hn : μ[n]? = some h.o) (hm : μ[m]? = some k.o) (q : Q (.bl (h.e k)) μ) : WF m_Habits_eq [.ref n, .ref m] μ Q := by
  have lh := Laid.lays hl
  have lk := Laid.lays kl
  rw [Hb.e_eq] at q
  refine wf_def ?_
  show WS _ [some (.ref n), some (.ref m)] _ _
  refine ws_ret (we_andV (we_call (wa_cons (we_var rfl (wa_cons (we_c (wa_nil (wf_isiO (seen_hb hm) ⟨true, rfl, fun _ => ?_, fun z => by cases z⟩))))))))
  refine we_andV (we_op (we_fld (we_var rfl ⟨n, _, _, rfl, hn, rfl, we_fld (we_var rfl ⟨m, _, _, rfl, hm, rfl, wo_eq (toPy_fk (k := 37) _) (toPy_fk (k := 37) _) (shaped_fk lh) (shaped_fk lk) ⟨_, rfl, fun z1 => ?_, fun z1 => ?_⟩⟩)⟩)))
  · refine we_andV (we_op (we_fld (we_var rfl ⟨n, _, _, rfl, hn, rfl, we_fld (we_var rfl ⟨m, _, _, rfl, hm, rfl, wo_eq (toPy_ws (k := 37) _) (toPy_ws (k := 37) _) (shaped_ws lh) (shaped_ws lk) ⟨_, rfl, fun z2 => ?_, fun z2 => ?_⟩⟩)⟩)))
    · refine we_op (we_fld (we_var rfl ⟨n, _, _, rfl, hn, rfl, we_fld (we_var rfl ⟨m, _, _, rfl, hm, rfl, wo_eq (a := .int h.s) (b := .int k.s) rfl rfl rfl rfl ?_⟩)⟩))
      rw [z1, z2] at q
      exact q
    · rw [z1, z2] at q
      exact q
  · rw [z1] at q
    exact q
theorem wf_eqP {n : Nat} {h : Hb} {d : D} (hn : μ[n]? = some h.o) (hd : Plain μ d) (q : Q (.bl false) μ) : WF m_Habits_eq [.ref n, d] μ Q := by
  refine wf_def ?_
  show WS _ [some (.ref n), some d] _ _
  exact ws_ret (we_andV (we_call (wa_cons (we_var rfl (wa_cons (we_c (wa_nil (wf_isiO (seen_plain hd) ⟨false, rfl, fun z => (by cases z), fun _ => q⟩))))))))
theorem wo_eqOO {n m : Nat} {h k : Hb} (hl : h.ok) (kl : k.ok) (hn : μ[n]? = some h.o) (hm : μ[m]? = some k.o) (q : Q (.bl (h.e k)) μ) : WO (oEqA 0 m_Habits_eq) (.ref n) (.ref m) μ Q := by
  obtain ⟨d, μ', e, rfl, rfl⟩ := wf_eqO (Q := fun d μ' => d = .bl (h.e k) ∧ μ' = μ) hl kl hn hm ⟨rfl, rfl⟩
  refine ⟨_, μ', ?_, q⟩
  unfold oEqA
  rw [if_pos (ins_hb hn), seen_hb hm]
  dsimp only
  rw [e]
theorem wo_eqOP {n : Nat} {h : Hb} {d : D} (hn : μ[n]? = some h.o) (hd : Plain μ d) (q : Q (.bl false) μ) : WO (oEqA 0 m_Habits_eq) (.ref n) d μ Q := by
  obtain ⟨x, μ', e, rfl, rfl⟩ := wf_eqP (Q := fun x μ' => x = .bl false ∧ μ' = μ) hn hd ⟨rfl, rfl⟩
  refine ⟨_, μ', ?_, q⟩
  unfold oEqA
  rw [if_pos (ins_hb hn), seen_plain hd]
  dsimp only
  rw [e]
theorem eq_PO {n : Nat} {h : Hb} {d : D} (hn : μ[n]? = some h.o) (hd : Plain μ d) : oEqA 0 m_Habits_eq d (.ref n) μ = some (.bl false, μ) := by
  obtain ⟨x, μ', e, rfl, rfl⟩ := wf_eqP (Q := fun x μ' => x = .bl false ∧ μ' = μ) hn hd ⟨rfl, rfl⟩
  unfold oEqA
  rw [if_neg (by rw [ins_plain hd]; exact Bool.false_ne_true), if_pos ⟨ins_hb hn, plain_plain hd⟩]
  rw [e]
theorem wo_eqPO {n : Nat} {h : Hb} {d : D} (hn : μ[n]? = some h.o) (hd : Plain μ d) (q : Q (.bl false) μ) : WO (oEqA 0 m_Habits_eq) d (.ref n) μ Q := ⟨_, μ, eq_PO hn hd, q⟩
theorem wo_neOO {n m : Nat} {h k : Hb} (hl : h.ok) (kl : k.ok) (hn : μ[n]? = some h.o) (hm : μ[m]? = some k.o) (q : Q (.bl (!h.e k)) μ) : WO (oNeOwn 0 m_Habits_eq) (.ref n) (.ref m) μ Q := by
  obtain ⟨d, μ', e, rfl, rfl⟩ := wf_eqO (Q := fun d μ' => d = .bl (h.e k) ∧ μ' = μ) hl kl hn hm ⟨rfl, rfl⟩
  refine ⟨_, μ', ?_, q⟩
  unfold oNeOwn
  dsimp only
  rw [hn]
  unfold Hb.o habO
  dsimp only
  rw [if_pos rfl, seen_hb hm]
  dsimp only
  rw [e]
theorem wo_neOP {n : Nat} {h : Hb} {d : D} (hn : μ[n]? = some h.o) (hd : Plain μ d) (q : Q (.bl true) μ) : WO (oNeOwn 0 m_Habits_eq) (.ref n) d μ Q := by
  obtain ⟨x, μ', e, rfl, rfl⟩ := wf_eqP (Q := fun x μ' => x = .bl false ∧ μ' = μ) hn hd ⟨rfl, rfl⟩
  refine ⟨_, μ', ?_, q⟩
  unfold oNeOwn
  dsimp only
  rw [hn]
  unfold Hb.o habO
  dsimp only
  rw [if_pos rfl, seen_plain hd]
  dsimp only
  rw [e]
  rfl
theorem wf_lenO {n : Nat} {h : Hb} (hl : h.ok) (hn : μ[n]? = some h.o) (q : Q (.int h.ps.length) μ) : WF (fLenOwn 0 m_Habits_len) [.ref n] μ Q := by
  have H : WF m_Habits_len [.ref n] μ fun d μ' => d = .int h.ps.length ∧ μ' = μ := by
    refine wf_def ?_
    show WS _ [some (.ref n)] _ _
    refine ws_ret (we_call (wa_cons (we_fld (we_var rfl ⟨n, _, _, rfl, hn, rfl, wa_nil (wf_lenT ?_)⟩))))
    exact ⟨by rw [List.length_map], rfl⟩
  obtain ⟨d, μ', e, rfl, rfl⟩ := H
  refine ⟨_, μ', ?_, q⟩
  unfold fLenOwn
  dsimp only
  rw [hn]
  unfold Hb.o habO
  dsimp only
  rw [if_pos rfl, e]
  dsimp only
  have := Laid.l3 hl
  rw [if_pos ⟨by omega, by omega⟩]
/-- habits among other things: none is equal -/
theorem inGo_plain {n l : Nat} {h : Hb} (hn : μ[n]? = some h.o) {ds : List D} (hl : μ[l]? = some (.lst ds)) (hp : ∀ d ∈ ds, Plain μ d) : ∀ (k i : Nat), ds.length - i < k → inGo 0 m_Habits_eq n l k i μ = some (false, μ)
  | 0, i, hk => by omega
  | k + 1, i, hk => by
    unfold inGo
    rw [hl]
    dsimp only
    rw [if_pos (ins_hb hn)]
    cases hq : ds[i]? with
    | none => rfl
    | some z =>
      have hi := (List.getElem?_eq_some_iff.mp hq).1
      have hz := hp z (List.mem_of_getElem? hq)
      dsimp only
      have s0 : sameRef z n = false := by
        cases z with
        | ref m =>
          obtain ⟨xs, hx⟩ := hz
          show decide (m = n) = false
          refine decide_eq_false fun e => ?_
          rw [e, hn] at hx
          cases hx
        | _ => rfl
      rw [s0, if_neg Bool.false_ne_true, if_pos (by rw [plain_plain hz, Bool.or_true]), eq_PO hn hz]
      exact inGo_plain hn hl hp k (i + 1) (by omega)
theorem wo_inP {n l : Nat} {h : Hb} (hn : μ[n]? = some h.o) {ds : List D} (hl : μ[l]? = some (.lst ds)) (hp : ∀ d ∈ ds, Plain μ d) (q : Q (.bl false) μ) : WO (oInA 0 m_Habits_eq false) (.ref n) (.ref l) μ Q := by
  refine ⟨_, μ, ?_, q⟩
  unfold oInA
  dsimp only
  rw [hn, hl]
  unfold Hb.o habO
  dsimp only
  rw [inGo_plain hn hl hp _ 0 (by omega)]
  rfl
/-- habits among habits, an equal one there -/
theorem inGo_hbs {n l : Nat} {h : Hb} (hok : h.ok) (hn : μ[n]? = some h.o) {ds : List D} (hl : μ[l]? = some (.lst ds)) (hp : ∀ d ∈ ds, ∃ m k, d = .ref m ∧ μ[m]? = some (Hb.o k) ∧ k.ok) :
    ∀ (k i : Nat), ds.length - i < k → (∃ j m kk, i ≤ j ∧ ds[j]? = some (.ref m) ∧ μ[m]? = some (Hb.o kk) ∧ kk.ok ∧ kk.e h = true) → inGo 0 m_Habits_eq n l k i μ = some (true, μ)
  | 0, i, hk, _ => by omega
  | k + 1, i, hk, hj => by
    obtain ⟨j, mj, kk, hij, hdj, hmj, hkj, hej⟩ := hj
    have hjl := (List.getElem?_eq_some_iff.mp hdj).1
    unfold inGo
    rw [hl]
    dsimp only
    rw [if_pos (ins_hb hn)]
    cases hq : ds[i]? with
    | none =>
      rw [List.getElem?_eq_none_iff] at hq
      omega
    | some z =>
      obtain ⟨m, k2, rfl, hm, ok2⟩ := hp z (List.mem_of_getElem? hq)
      dsimp only
      by_cases hs : sameRef (.ref m) n = true
      · rw [if_pos hs]
      · rw [if_neg hs, if_pos (by rw [ins_hb hm, Bool.true_or])]
        have e : oEqA 0 m_Habits_eq (.ref m) (.ref n) μ = some (.bl (k2.e h), μ) := by
          obtain ⟨d, μ', e, rfl, rfl⟩ := wo_eqOO (Q := fun d μ' => d = .bl (k2.e h) ∧ μ' = μ) ok2 hok hm hn ⟨rfl, rfl⟩
          exact e
        rw [e]
        cases hb : k2.e h with
        | true => rfl
        | false =>
          refine inGo_hbs hok hn hl hp k (i + 1) (by omega) ⟨j, mj, kk, ?_, hdj, hmj, hkj, hej⟩
          (rcases Nat.lt_or_ge i j with h1 | h1)
          · exact h1
          · have : i = j := by omega
            subst this
            rw [hq] at hdj
            cases hdj
            rw [hm] at hmj
            have e3 : k2.e h = kk.e h := by
              unfold Hb.o habO at hmj
              simp only [Option.some.injEq, MO.ins.injEq, true_and, List.cons.injEq, Prod.mk.injEq, D.tup.injEq, D.int.injEq, and_true] at hmj
              obtain ⟨e1, e2, e3⟩ := hmj
              have q1 : some k2.p = some kk.p := by
                rw [← toPy_hb (μ := μ), ← toPy_hb (μ := μ)]
                unfold Hb.d habD
                rw [e1, e2, e3]
              unfold Hb.e
              rw [Option.some.inj q1]
            rw [e3, hej] at hb
            cases hb
theorem wo_niA {n l : Nat} {h : Hb} (hok : h.ok) (hn : μ[n]? = some h.o) {ds : List D} (hl : μ[l]? = some (.lst ds)) (hp : ∀ d ∈ ds, ∃ m k, d = .ref m ∧ μ[m]? = some (Hb.o k) ∧ k.ok)
    (hj : ∃ (j m : Nat) (kk : Hb), ds[j]? = some (D.ref m) ∧ μ[m]? = some (Hb.o kk) ∧ kk.ok ∧ kk.e h = true) (q : Q (.bl false) μ) : WO (oInA 0 m_Habits_eq true) (.ref n) (.ref l) μ Q := by
  obtain ⟨j, m, kk, h1, h2, h3, h4⟩ := hj
  refine ⟨_, μ, ?_, q⟩
  unfold oInA
  dsimp only
  rw [hn, hl]
  unfold Hb.o habO
  dsimp only
  rw [inGo_hbs hok hn hl hp _ 0 (by omega) ⟨j, m, kk, by omega, h1, h2, h3, h4⟩]
  rfl
end
end MR

/-! T40: the functions printed of the defs (tools/gen.py). -/
namespace T4
open PySem L2 MR
def tb_READERS : Str → Option D := fun z => if z = "steps" then some (.cl 3) else if z = "folk" then some (.cl 4) else if z = "way" then some (.cl 5) else none
def tb_AHEAD : Str → Option D := fun z => if z = "steps" then some (.tup [.str ""]) else if z = "folk" then some (.tup [.str "steps", .str "folk"]) else if z = "way" then some (.tup [.str "steps", .str "folk", .str "way"]) else none
noncomputable def m_is_figures : List D → Mem → Option (D × Mem) := mDef 2 1 (mRet (mAndV (mOp (oEq true) (mVar 0) (mC (.str ""))) (mAndV (mCall fAll (mCons (mLc (iS (mVar 0)) (gmN 1) mYes (mOp (oIn false) (mVar 1) (mC (.str "0123456789"))) [1]) mNil)) (mOrV (mOp (oEq false) (mVar 0) (mC (.str "0"))) (mOp (oEq true) (mOp oIx (mVar 0) (mC (.int 0))) (mC (.str "0")))))))
noncomputable def m_read_figures : List D → Mem → Option (D × Mem) := mDef 1 1 (mRet (mCall fIntU (mCons (mSl (mVar 0) mNo (mPt (mC (.int 3)))) mNil)))
noncomputable def m_show_folk : List D → Mem → Option (D × Mem) := mDef 4 1 (mSeq (mAsg (mVar 0) (gmTup 3 (gmCons (gmN 1) (gmCons (gmN 2) (gmCons (gmN 3) gmNil)))))
  (mRet (mJs [(mC (.str "folk ")), (mFmt (mVar 1)), (mC (.str " ")), (mFmt (mVar 2)), (mC (.str " ")), (mFmt (mIte (mTs (mOp (oIs false) (mVar 3) (mC .non))) (mC (.str "-")) (mVar 3)))])))
noncomputable def m_show_way : List D → Mem → Option (D × Mem) := mDef 8 1 (mSeq (mAsg (mVar 0) (gmTup 6 (gmCons (gmN 2) (gmCons (gmN 3) (gmCons (gmN 4) (gmCons (gmN 5) (gmCons (gmN 6) (gmCons (gmN 7) gmNil))))))))
  (mSeq (mAsg (mLst (mCons (mC (.str "way")) (mCons (mVar 2) (mCons (mVar 3) (mCons (mCall fStrI (mCons (mVar 4) mNil)) (mCons (mCall fStrI (mCons (mVar 5) mNil)) mNil)))))) (gmN 1))
  (mSeq (mIf (mTs (mVar 6))
  (mEx (mBM fAppend (mVar 1) (mCons (mC (.str "loses")) mNil)))
  mSkip)
  (mSeq (mIf (mTs (mVar 7))
  (mEx (mBM fAppend (mVar 1) (mCons (mC (.str "twice")) mNil)))
  mSkip)
  (mRet (mJoin (mC (.str " ")) (mVar 1)))))))
noncomputable def m_show_habits : List D → Mem → Option (D × Mem) := mDef 3 1 (mSeq (mAsg (mOp oAdd (mOp oAdd (mLst (mCons (mJs [(mC (.str "steps ")), (mFmt (mFld 0 "steps" (mVar 0)))]) mNil)) (mLc (iT (mFld 0 "folk" (mVar 0))) (gmN 2) mYes (mCall (lenIs 1 m_show_folk) (mCons (mVar 2) mNil)) [2])) (mLc (iT (mFld 0 "ways" (mVar 0))) (gmN 2) mYes (mCall (lenIs 1 m_show_way) (mCons (mVar 2) mNil)) [2])) (gmN 1))
  (mRet (mJoin (mC (.str "\n")) (mVar 1))))
noncomputable def m_read_steps : List D → Mem → Option (D × Mem) := mDef 1 1 (mSeq (mIf (mOr (mTs (mOp (oEq true) (mCall fLen (mCons (mVar 0) mNil)) (mC (.int 1)))) (mNot (mTs (mCall (lenIs 1 m_is_figures) (mCons (mOp oIx (mVar 0) (mC (.int 0))) mNil)))))
  (mRet (mC .non))
  mSkip)
  (mRet (mCall (lenIs 1 m_read_figures) (mCons (mOp oIx (mVar 0) (mC (.int 0))) mNil))))
noncomputable def m_read_folk : List D → Mem → Option (D × Mem) := mDef 1 1 (mSeq (mIf (mOr (mTs (mOp (oEq true) (mCall fLen (mCons (mVar 0) mNil)) (mC (.int 3)))) (mAnd (mTs (mOp (oEq true) (mOp oIx (mVar 0) (mC (.int 2))) (mC (.str "-")))) (mNot (mTs (mCall (lenIs 1 m_is_figures) (mCons (mOp oIx (mVar 0) (mC (.int 2))) mNil))))))
  (mRet (mC .non))
  mSkip)
  (mRet (mTup (mCons (mOp oIx (mVar 0) (mC (.int 0))) (mCons (mOp oIx (mVar 0) (mC (.int 1))) (mCons (mIte (mTs (mOp (oEq false) (mOp oIx (mVar 0) (mC (.int 2))) (mC (.str "-")))) (mC .non) (mCall (lenIs 1 m_read_figures) (mCons (mOp oIx (mVar 0) (mC (.int 2))) mNil))) mNil))))))
noncomputable def m_read_way : List D → Mem → Option (D × Mem) := mDef 3 1 (mSeq (mIf (mOr (mTs (mOp oLt (mCall fLen (mCons (mVar 0) mNil)) (mC (.int 4)))) (mOr (mNot (mTs (mCall (lenIs 1 m_is_figures) (mCons (mOp oIx (mVar 0) (mC (.int 2))) mNil)))) (mNot (mTs (mCall (lenIs 1 m_is_figures) (mCons (mOp oIx (mVar 0) (mC (.int 3))) mNil))))))
  (mRet (mC .non))
  mSkip)
  (mSeq (mIf (mTs (mOp (oInT true) (mSl (mVar 0) (mPt (mC (.int 4))) mNo) (mTup (mCons (mLst mNil) (mCons (mLst (mCons (mC (.str "loses")) mNil)) (mCons (mLst (mCons (mC (.str "twice")) mNil)) (mCons (mLst (mCons (mC (.str "loses")) (mCons (mC (.str "twice")) mNil))) mNil)))))))
  (mRet (mC .non))
  mSkip)
  (mSeq (mPar 1 2 (mCons (mCall (lenIs 1 m_read_figures) (mCons (mOp oIx (mVar 0) (mC (.int 2))) mNil)) (mCons (mCall (lenIs 1 m_read_figures) (mCons (mOp oIx (mVar 0) (mC (.int 3))) mNil)) mNil)))
  (mRet (mTup (mCons (mOp oIx (mVar 0) (mC (.int 0))) (mCons (mOp oIx (mVar 0) (mC (.int 1))) (mCons (mVar 1) (mCons (mVar 2) (mCons (mOp (oIn false) (mC (.str "loses")) (mSl (mVar 0) (mPt (mC (.int 4))) mNo)) (mCons (mOp (oIn false) (mC (.str "twice")) (mSl (mVar 0) (mPt (mC (.int 4))) mNo)) mNil)))))))))))
noncomputable def m_lines_of : List D → Mem → Option (D × Mem) := mDef 3 2 (mSeq (mIf (mNot (mTs (mCall fIsi (mCons (mVar 0) (mCons (mC (.ty "str")) mNil)))))
  mBad
  mSkip)
  (mSeq (mAsg (mSplit (mVar 0) (mC (.str "\n"))) (gmN 2))
  (mSeq (mIf (mTs (mOp oGt (mCall fLen (mCons (mVar 2) mNil)) (mVar 1)))
  mBad
  mSkip)
  (mRet (mVar 2)))))
noncomputable def fvT : Nat → Option (Nat × (List D → Mem → Option (D × Mem))) := fun n => if n = 3 then some (1, m_read_steps) else if n = 4 then some (1, m_read_folk) else if n = 5 then some (1, m_read_way) else none
noncomputable def m_read_lines : List D → Mem → Option (D × Mem) := mDef 9 1 (mSeq (mAsg (mDisp [("steps", (mLst mNil)), ("folk", (mLst mNil)), ("way", (mLst mNil))]) (gmN 1))
  (mSeq (mAsg (mC (.str "")) (gmN 2))
  (mSeq (mFor (iE (mCons (mVar 0) mNil)) (gmTup 2 (gmCons (gmN 3) (gmCons (gmN 4) gmNil)))
  (mSeq (mAsg (mSplit (mVar 4) (mC (.str " "))) (gmStar (gmCons (gmN 7) (gmCons (gmN 8) gmNil))))
  (mSeq (mIf (mOr (mTs (mOp (oInK true 1 tb_READERS) (mVar 7) (mC (.cl 1)))) (mTs (mOp (oIn true) (mVar 2) (mOp (oIxK 2 tb_AHEAD) (mC (.cl 2)) (mVar 7)))))
  mBad
  mSkip)
  (mSeq (mAsg (mOp (oIxK 1 tb_READERS) (mC (.cl 1)) (mVar 7)) (gmN 5))
  (mSeq (mAsg (mCallN 5 fvT (mCons (mVar 8) mNil)) (gmN 6))
  (mSeq (mIf (mTs (mOp (oIs false) (mVar 6) (mC .non)))
  mBad
  mSkip)
  (mSeq (mEx (mBM fAppend (mDGet (mVar 1) (mVar 7)) (mCons (mVar 6) mNil)))
  (mAsg (mVar 7) (gmN 2)))))))))
  (mRet (mVar 1)))))
noncomputable def m_read_habits : List D → Mem → Option (D × Mem) := mDef 2 1 (mSeq (mAsg (mCall (lenIs 1 m_read_lines) (mCons (mCall (lenIs 2 m_lines_of) (mCons (mVar 0) (mCons (mC (.int 40)) mNil))) mNil)) (gmN 1))
  (mRet (mMakeK 0 4 2 1 m_Habits_init (mCons (mCall fTuple (mCons (mDGet (mVar 1) (mC (.str "folk"))) mNil)) (mCons (mCall fTuple (mCons (mDGet (mVar 1) (mC (.str "way"))) mNil)) mNil)) (mCons (mOp oIx (mDGet (mVar 1) (mC (.str "steps"))) (mC (.int 0))) mNil))))
noncomputable def m_law_names : List D → Mem → Option (D × Mem) := mDef 7 2 (mSeq (mAsg (mC (.str "abcdefghijklmnopqrstuvwxyz")) (gmN 2))
  (mSeq (mAsg (mTup (mCons (mOp oIx (mTup (mCons (mC (.int 0)) (mCons (mC (.int 0)) (mCons (mC (.int 1)) (mCons (mC (.int 3)) (mCons (mC (.int 7)) mNil)))))) (mCall (lenIs 2 m_law_take) (mCons (mVar 0) (mCons (mC (.int 5)) mNil)))) (mCons (mCall (lenIs 2 m_law_take) (mCons (mVar 0) (mCons (mC (.int 26)) mNil))) mNil))) (gmTup 2 (gmCons (gmN 4) (gmCons (gmN 5) gmNil))))
  (mSeq (mAsg (mJoin (mC (.str "")) (mLc (iR1 (mCons (mVar 4) mNil)) (gmN 6) mYes (mOp oIx (mVar 2) (mCall (lenIs 2 m_law_take) (mCons (mVar 0) (mCons (mC (.int 26)) mNil)))) [6])) (gmN 3))
  (mRet (mLc (iR1 (mCons (mVar 1) mNil)) (gmN 6) mYes (mOp oAdd (mVar 3) (mOp oIx (mVar 2) (mOp oMod (mOp oAdd (mVar 5) (mOp oMulU (mC (.int 7)) (mVar 6))) (mC (.int 26))))) [6])))))
noncomputable def m_law_habits : List D → Mem → Option (D × Mem) := mDef 11 2 (mSeq (mAsg (mCall (lenIs 2 m_law_names) (mCons (mVar 0) (mCons (mCall fMin2 (mCons (mVar 1) (mCons (mOp oIx (mTup (mCons (mC (.int 2)) (mCons (mC (.int 2)) (mCons (mC (.int 1)) (mCons (mC (.int 2)) (mCons (mC (.int 3)) (mCons (mC (.int 2)) mNil))))))) (mCall (lenIs 2 m_law_take) (mCons (mVar 0) (mCons (mC (.int 6)) mNil)))) mNil))) mNil))) (gmN 2))
  (mSeq (mPar 7 8 (mCons (mLst mNil) (mCons (mLst mNil) mNil)))
  (mSeq (mFor (iL (mVar 2)) (gmN 3)
  (mSeq (mAsg (mOp oIx (mTup (mCons (mC (.str "saying")) (mCons (mC (.str "saying")) (mCons (mC (.str "still")) mNil)))) (mCall (lenIs 2 m_law_take) (mCons (mVar 0) (mCons (mC (.int 3)) mNil)))) (gmN 9))
  (mSeq (mEx (mBM fAppend (mVar 7) (mCons (mTup (mCons (mVar 3) (mCons (mVar 9) (mCons (mOp oIx (mTup (mCons (mC (.int 1)) (mCons (mC (.int 2)) (mCons (mC (.int 1)) (mCons (mC (.int 2)) (mCons (mC (.int 1)) (mCons (mC (.int 3)) (mCons (mC .non) (mCons (mC (.int 2)) mNil))))))))) (mCall (lenIs 2 m_law_take) (mCons (mVar 0) (mCons (mC (.int 8)) mNil)))) mNil)))) mNil)))
  (mAsg (mOp oAdd (mOp oAdd (mVar 8) (mLst (mCons (mTup (mCons (mVar 3) (mCons (mC (.str "house")) mNil))) mNil))) (mOp oMulU (mLst (mCons (mTup (mCons (mC (.str "house")) (mCons (mVar 3) mNil))) mNil)) (mCall fIntU (mCons (mOp oGt (mCall (lenIs 2 m_law_take) (mCons (mVar 0) (mCons (mC (.int 6)) mNil))) (mC (.int 0))) mNil)))) (gmN 8)))))
  (mSeq (mFor (iR1 (mCons (mC (.int 2)) mNil)) (gmN 4)
  (mSeq (mAsg (mTup (mCons (mOp oIx (mVar 2) (mCall (lenIs 2 m_law_take) (mCons (mVar 0) (mCons (mCall fLen (mCons (mVar 2) mNil)) mNil)))) (mCons (mOp oIx (mVar 2) (mCall (lenIs 2 m_law_take) (mCons (mVar 0) (mCons (mCall fLen (mCons (mVar 2) mNil)) mNil)))) mNil))) (gmN 10))
  (mIf (mAnd (mTs (mOp (oEq true) (mOp oIx (mVar 10) (mC (.int 0))) (mOp oIx (mVar 10) (mC (.int 1))))) (mTs (mOp (oIn true) (mVar 10) (mVar 8))))
  (mEx (mBM fAppend (mVar 8) (mCons (mVar 10) mNil)))
  mSkip)))
  (mSeq (mAsg (mCall (lenIs 2 m_law_take) (mCons (mVar 0) (mCons (mCall fLen (mCons (mVar 8) mNil)) mNil))) (gmN 5))
  (mSeq (mAsg (mLc (iL (mOp oAdd (mSl (mVar 8) (mPt (mVar 5)) mNo) (mSl (mVar 8) mNo (mPt (mVar 5))))) (gmN 10) mYes (mCall (lenIs 3 m_law_way) (mCons (mVar 0) (mCons (mOp oIx (mVar 10) (mC (.int 0))) (mCons (mOp oIx (mVar 10) (mC (.int 1))) mNil)))) [10]) (gmN 6))
  (mRet (mTup (mCons (mCall fTuple (mCons (mVar 7) mNil)) (mCons (mCall fTuple (mCons (mVar 6) mNil)) (mCons (mOp oIx (mTup (mCons (mC (.int 1)) (mCons (mC (.int 1)) (mCons (mC (.int 2)) (mCons (mC (.int 0)) mNil))))) (mCall (lenIs 2 m_law_take) (mCons (mVar 0) (mCons (mC (.int 4)) mNil)))) mNil)))))))))))
noncomputable def m_law_made : List D → Mem → Option (D × Mem) := mDef 1 1 (mRet (mMakeK 0 4 2 1 m_Habits_init (mCons (mOp oIx (mVar 0) (mC (.int 0))) (mCons (mOp oIx (mVar 0) (mC (.int 1))) mNil)) (mCons (mOp oIx (mVar 0) (mC (.int 2))) mNil)))
noncomputable def m_law_text : List D → Mem → Option (D × Mem) := mDef 12 1 (mSeq (mAsg (mLst (mCons (mOp oAdd (mC (.str "steps ")) (mCall fStrI (mCons (mOp oIx (mVar 0) (mC (.int 2))) mNil))) mNil)) (gmN 1))
  (mSeq (mFor (iT (mOp oIx (mVar 0) (mC (.int 0)))) (gmTup 3 (gmCons (gmN 2) (gmCons (gmN 3) (gmCons (gmN 4) gmNil))))
  (mEx (mBM fAppend (mVar 1) (mCons (mOp oAdd (mOp oAdd (mOp oAdd (mOp oAdd (mOp oAdd (mC (.str "folk ")) (mVar 2)) (mC (.str " "))) (mVar 3)) (mC (.str " "))) (mIte (mTs (mOp (oIs false) (mVar 4) (mC .non))) (mC (.str "-")) (mCall fStrI (mCons (mVar 4) mNil)))) mNil))))
  (mSeq (mFor (iT (mOp oIx (mVar 0) (mC (.int 1)))) (gmTup 6 (gmCons (gmN 5) (gmCons (gmN 6) (gmCons (gmN 7) (gmCons (gmN 8) (gmCons (gmN 9) (gmCons (gmN 10) gmNil)))))))
  (mSeq (mAsg (mOp oAdd (mOp oAdd (mOp oAdd (mOp oAdd (mOp oAdd (mOp oAdd (mOp oAdd (mC (.str "way ")) (mVar 5)) (mC (.str " "))) (mVar 6)) (mC (.str " "))) (mCall fStrI (mCons (mVar 7) mNil))) (mC (.str " "))) (mCall fStrI (mCons (mVar 8) mNil))) (gmN 11))
  (mEx (mBM fAppend (mVar 1) (mCons (mOp oAdd (mOp oAdd (mVar 11) (mOp oMulU (mC (.str " loses")) (mCall fIntU (mCons (mVar 9) mNil)))) (mOp oMulU (mC (.str " twice")) (mCall fIntU (mCons (mVar 10) mNil)))) mNil)))))
  (mRet (mJoin (mC (.str "\n")) (mVar 1))))))
noncomputable def m_law : List D → Mem → Option (D × Mem) := mDef 9 1 (mSeq (mFor (iR1 (mCons (mCall fMax2 (mCons (mC (.int 4)) (mCons (mCall fMin2 (mCons (mC (.int 8)) (mCons (mCall fLen (mCons (mVar 0) mNil)) mNil))) mNil))) mNil)) (gmN 1)
  (mSeq (mAsg (mCall (lenIs 2 m_law_bag) (mCons (mVar 0) (mCons (mVar 1) mNil))) (gmN 2))
  (mSeq (mAsg (mCall (lenIs 2 m_law_habits) (mCons (mVar 2) (mCons (mC (.int 3)) mNil))) (gmN 3))
  (mSeq (mPar 7 8 (mCons (mCall (lenIs 1 m_law_made) (mCons (mVar 3) mNil)) (mCons (mCall (lenIs 1 m_law_text) (mCons (mVar 3) mNil)) mNil)))
  (mSeq (mAsg (mCall (lenIs 1 m_show_habits) (mCons (mVar 7) mNil)) (gmN 4))
  (mSeq (mIf (mOr (mNot (mTs (mCall fIsi (mCons (mVar 4) (mCons (mC (.ty "str")) mNil))))) (mOr (mTs (mOp (oEq true) (mVar 4) (mVar 8))) (mTs (mOp (oEq true) (mCall (lenIs 1 m_show_habits) (mCons (mCall (lenIs 1 m_law_made) (mCons (mVar 3) mNil)) mNil)) (mVar 8)))))
  (mRet (mC (.bl false)))
  mSkip)
  (mSeq (mAsg (mCall (lenIs 1 m_read_habits) (mCons (mVar 8) mNil)) (gmN 5))
  (mSeq (mIf (mOr (mNot (mTs (mCall (fIsiO 0) (mCons (mVar 5) (mCons (mC (.cl 0)) mNil))))) (mOr (mTs (mOp (oNeOwn 0 m_Habits_eq) (mVar 5) (mVar 7))) (mTs (mOp (oEq true) (mTup (mCons (mFld 0 "folk" (mVar 5)) (mCons (mFld 0 "ways" (mVar 5)) (mCons (mFld 0 "steps" (mVar 5)) mNil)))) (mVar 3)))))
  (mRet (mC (.bl false)))
  mSkip)
  (mSeq (mIf (mOr (mTs (mOp (oNeOwn 0 m_Habits_eq) (mCall (lenIs 1 m_read_habits) (mCons (mVar 8) mNil)) (mVar 5))) (mOr (mTs (mOp (oEq true) (mCall (lenIs 1 m_show_habits) (mCons (mVar 5) mNil)) (mVar 8))) (mTs (mOp (oEq true) (mCall (fLenOwn 0 m_Habits_len) (mCons (mVar 5) mNil)) (mCall fLen (mCons (mOp oIx (mVar 3) (mC (.int 0))) mNil))))))
  (mRet (mC (.bl false)))
  mSkip)
  (mSeq (mAsg (mCall (lenIs 2 m_law_habits) (mCons (mVar 2) (mCons (mC (.int 3)) mNil))) (gmN 6))
  (mSeq (mIf (mTs (mOp (oEq true) (mOp (oEqA 0 m_Habits_eq) (mCall (lenIs 1 m_read_habits) (mCons (mCall (lenIs 1 m_law_text) (mCons (mVar 6) mNil)) mNil)) (mVar 5)) (mOp (oEq false) (mVar 6) (mVar 3))))
  (mRet (mC (.bl false)))
  mSkip)
  (mIf (mTs (mOp (oEqA 0 m_Habits_eq) (mCall (lenIs 1 m_read_habits) (mCons (mCall (lenIs 1 m_law_text) (mCons (mTup (mCons (mOp oIx (mVar 3) (mC (.int 0))) (mCons (mOp oIx (mVar 3) (mC (.int 1))) (mCons (mOp oMod (mOp oAdd (mOp oIx (mVar 3) (mC (.int 2))) (mC (.int 1))) (mC (.int 3))) mNil)))) mNil)) mNil)) (mVar 5)))
  (mRet (mC (.bl false)))
  mSkip))))))))))))
  (mRet (mC (.bl true))))
end T4

/-! T41: lines and words: what is joined is split so again; the words of habits. -/
namespace T4
open PySem L2 MR
/-- rows of numbers, c between -/
def jn (c : Nat) : List (List Nat) → List Nat
  | [] => []
  | [p] => p
  | p :: q :: r => p ++ c :: jn c (q :: r)
theorem join_jn (c : Nat) : ∀ ys : List Str, (Txt.join ⟨#[c]⟩ ys).cps.toList = jn c (ys.map (·.cps.toList)) := by
  intro ys
  show (Builtin.Str.glued ⟨#[c]⟩ ys).cps.toList = _
  rw [StrLaws.glued_eq_join]
  induction ys with
  | nil => rfl
  | cons x r ih =>
    cases r with
    | nil => rfl
    | cons y r =>
      rw [show Str.join ⟨#[c]⟩ (x :: y :: r) = x ++ ⟨#[c]⟩ ++ Str.join ⟨#[c]⟩ (y :: r) from rfl, app_list, app_list, ih]
      simp [jn]
theorem jn_inj {c : Nat} : ∀ (xs ys : List (List Nat)), xs ≠ [] → ys ≠ [] → (∀ x ∈ xs, c ∉ x) → (∀ y ∈ ys, c ∉ y) → jn c xs = jn c ys → xs = ys := by
  have cut : ∀ (a b r s : List Nat), c ∉ a → c ∉ b → a ++ c :: r = b ++ c :: s → a = b ∧ r = s := by
    intro a
    induction a with
    | nil =>
      intro b r s _ hb e
      cases b with
      | nil => exact ⟨rfl, by simpa using e⟩
      | cons z b =>
        have e' : c :: r = z :: (b ++ c :: s) := e
        injection e' with e1 e2
        exact absurd (by simp [e1]) hb
    | cons z a ih =>
      intro b r s ha hb e
      cases b with
      | nil =>
        have e' : z :: (a ++ c :: r) = c :: s := e
        injection e' with e1 e2
        exact absurd (by simp [e1]) ha
      | cons y b =>
        have e' : z :: (a ++ c :: r) = y :: (b ++ c :: s) := e
        injection e' with e1 e2
        obtain ⟨h1, h2⟩ := ih b r s (fun q => ha (List.mem_cons_of_mem _ q)) (fun q => hb (List.mem_cons_of_mem _ q)) e2
        exact ⟨by rw [e1, h1], h2⟩
  intro xs
  induction xs with
  | nil => intro ys h; exact absurd rfl h
  | cons x r ih =>
    intro ys _ hy fx fy e
    cases ys with
    | nil => exact absurd rfl hy
    | cons y s =>
      have fx1 := fx x (by simp)
      have fy1 := fy y (by simp)
      cases r with
      | nil =>
        cases s with
        | nil => rw [show x = y from e]
        | cons y2 s =>
          have e' : x = y ++ c :: jn c (y2 :: s) := e
          exact absurd (by rw [e']; simp) fx1
      | cons x2 r =>
        cases s with
        | nil =>
          have e' : x ++ c :: jn c (x2 :: r) = y := e
          exact absurd (by rw [← e']; simp) fy1
        | cons y2 s =>
          obtain ⟨h1, h2⟩ := cut x y _ _ fx1 fy1 (show x ++ c :: jn c (x2 :: r) = y ++ c :: jn c (y2 :: s) from e)
          rw [h1, ih (y2 :: s) (by simp) (by simp) (fun z hz => fx z (List.mem_cons_of_mem _ hz)) (fun z hz => fy z (List.mem_cons_of_mem _ hz)) h2]
theorem split_ne (x y : Str) : Txt.split x y ≠ [] := fun h => by
  have := PyProof.Rows.split_pos x y
  rw [h] at this
  exact absurd this (by decide)
theorem split_join {c : Nat} {ys : List Str} (hy : ys ≠ []) (hf : ∀ y ∈ ys, c ∉ y.cps.toList) : Txt.split (Txt.join ⟨#[c]⟩ ys) ⟨#[c]⟩ = ys := by
  have e : Str.join ⟨#[c]⟩ (Txt.split (Txt.join ⟨#[c]⟩ ys) ⟨#[c]⟩) = Txt.join ⟨#[c]⟩ ys := StrLaws.join_split _ _
  have e2 := congrArg (fun z : Str => z.cps.toList) e
  rw [← StrLaws.glued_eq_join] at e2
  rw [show (Builtin.Str.glued ⟨#[c]⟩ (Txt.split (Txt.join ⟨#[c]⟩ ys) ⟨#[c]⟩)) = Txt.join ⟨#[c]⟩ (Txt.split (Txt.join ⟨#[c]⟩ ys) ⟨#[c]⟩) from rfl, join_jn, join_jn] at e2
  have h := jn_inj _ _ (by simpa using split_ne _ _) (by simpa using hy) (fun z hz => by
    obtain ⟨p, hp, rfl⟩ := List.mem_map.mp hz
    exact StrLaws.split_free _ c p hp) (fun z hz => by
    obtain ⟨p, hp, rfl⟩ := List.mem_map.mp hz
    exact hf p hp) e2
  exact (List.map_inj_right fun a b q => MR.str_ext q).mp h
/-! ### the words -/
/-- a word: no blank, no line feed, not long -/
def Wd (z : Str) : Prop := z.length ≤ 20 ∧ ∀ c ∈ z.cps.toList, c ≠ 32 ∧ c ≠ 10
abbrev blank : Str := " "
abbrev feed : Str := "\n"
theorem blank_is : blank = ⟨#[32]⟩ := by decide +kernel
theorem feed_is : feed = ⟨#[10]⟩ := by decide +kernel
def line (ws : List Str) : Str := Txt.join blank ws
theorem line_list (ws : List Str) : (line ws).cps.toList = jn 32 (ws.map (·.cps.toList)) := by unfold line; rw [blank_is]; exact join_jn 32 ws
theorem split_line {ws : List Str} (hn : ws ≠ []) (h : ∀ z ∈ ws, Wd z) : Txt.split (line ws) blank = ws := by
  unfold line
  rw [blank_is]
  exact split_join hn fun z hz hc => ((h z hz).2 32 hc).1 rfl
theorem jn_mem {c d : Nat} : ∀ {xs : List (List Nat)}, d ∈ jn c xs → d = c ∨ ∃ x ∈ xs, d ∈ x
  | [], h => by simp [jn] at h
  | [p], h => .inr ⟨p, by simp, h⟩
  | p :: q :: r, h => by
    have h' : d ∈ p ++ c :: jn c (q :: r) := h
    rcases List.mem_append.mp h' with h1 | h1
    · exact .inr ⟨p, by simp, h1⟩
    · rcases List.mem_cons.mp h1 with h2 | h2
      · exact .inl h2
      · rcases jn_mem h2 with h3 | ⟨x, hx, h3⟩
        · exact .inl h3
        · exact .inr ⟨x, List.mem_cons_of_mem _ hx, h3⟩
theorem line_free {ws : List Str} (h : ∀ z ∈ ws, Wd z) : 10 ∉ (line ws).cps.toList := fun hc => by
  rw [line_list] at hc
  rcases jn_mem hc with h1 | ⟨x, hx, h1⟩
  · exact absurd h1 (by decide)
  · obtain ⟨z, hz, rfl⟩ := List.mem_map.mp hx
    exact ((h z hz).2 10 h1).2 rfl
def text (ls : List (List Str)) : Str := Txt.join feed (ls.map line)
theorem split_text {ls : List (List Str)} (hn : ls ≠ []) (h : ∀ l ∈ ls, ∀ z ∈ l, Wd z) : Txt.split (text ls) feed = ls.map line := by
  unfold text
  rw [feed_is]
  refine split_join (by simpa using hn) fun y hy => ?_
  obtain ⟨l, hl, rfl⟩ := List.mem_map.mp hy
  exact line_free (h l hl)
theorem jn_len {c n : Nat} : ∀ {xs : List (List Nat)}, (∀ x ∈ xs, x.length ≤ n) → (jn c xs).length ≤ xs.length * (n + 1)
  | [], _ => by simp [jn]
  | [p], h => by
    have := h p (by simp)
    simp only [jn, List.length_cons, List.length_nil]
    omega
  | p :: q :: r, h => by
    have h1 := h p (by simp)
    have h2 := jn_len (c := c) (n := n) (xs := q :: r) fun x hx => h x (List.mem_cons_of_mem _ hx)
    have e : jn c (p :: q :: r) = p ++ c :: jn c (q :: r) := rfl
    rw [e]
    simp only [List.length_append, List.length_cons] at h2 ⊢
    rw [Nat.add_mul, Nat.one_mul]
    omega
theorem line_len {ws : List Str} (hl : ws.length ≤ 10) (h : ∀ z ∈ ws, Wd z) : (line ws).length ≤ 210 := by
  rw [len_list, line_list]
  have := jn_len (c := 32) (n := 20) (xs := ws.map (·.cps.toList)) fun x hx => by
    obtain ⟨z, hz, rfl⟩ := List.mem_map.mp hx
    rw [← len_list]; exact (h z hz).1
  rw [List.length_map] at this
  omega
theorem text_len {ls : List (List Str)} (hl : ls.length ≤ 80) (h : ∀ l ∈ ls, l.length ≤ 10 ∧ ∀ z ∈ l, Wd z) : (text ls).length ≤ 20000 := by
  rw [len_list]
  unfold text
  rw [feed_is, join_jn]
  have := jn_len (c := 10) (n := 210) (xs := (ls.map line).map (·.cps.toList)) fun x hx => by
    obtain ⟨z, hz, rfl⟩ := List.mem_map.mp hx
    obtain ⟨l, hl2, rfl⟩ := List.mem_map.mp hz
    rw [← len_list]; exact line_len (h l hl2).1 (h l hl2).2
  rw [List.length_map, List.length_map] at this
  omega
/-! ### the words of habits -/
/-- the text of a number of one figure -/
def figD (i : Int) : Prop := 0 ≤ i ∧ i ≤ 9
def numS (i : Int) : Str := ⟨#[48 + i.toNat]⟩
theorem toStr_fig {i : Int} (h : figD i) : ((toString i : String) : Str) = numS i := by
  have h1 : i = 0 ∨ i = 1 ∨ i = 2 ∨ i = 3 ∨ i = 4 ∨ i = 5 ∨ i = 6 ∨ i = 7 ∨ i = 8 ∨ i = 9 := by
    unfold figD at h
    omega
  rcases h1 with rfl | rfl | rfl | rfl | rfl | rfl | rfl | rfl | rfl | rfl <;> decide +kernel
def keepS : Option Int → Str
  | none => "-"
  | some i => numS i
def wF (p : Pn) : List Str := [("folk" : Str), p.n, p.k, keepS p.q]
def wW (w : Wy) : List Str := [("way" : Str), w.g, w.t, numS w.l, numS w.m] ++ (if w.lo then [("loses" : Str)] else []) ++ (if w.tw then [("twice" : Str)] else [])
def wS (s : Int) : List Str := [("steps" : Str), numS s]
def linesH (ps : List Pn) (ws : List Wy) (s : Int) : List (List Str) := wS s :: (ps.map wF ++ ws.map wW)
def textH (h : Hb) : Str := text (linesH h.ps h.ws h.s)
theorem wd_num {i : Int} (h : figD i) : Wd (numS i) := ⟨by simp [numS, Str.length], fun c hc => by
  have hc' : c = 48 + i.toNat := by simpa [numS] using hc
  unfold figD at h
  omega⟩
theorem wd_low {z : Str} (h : okT z) : Wd z := ⟨by have := h.2.1; omega, fun c hc => by
  have := h.2.2 c hc
  omega⟩
theorem wd_c {z : Str} (h : decide (z.length ≤ 20 ∧ ∀ c ∈ z.cps.toList, c ≠ 32 ∧ c ≠ 10) = true) : Wd z := of_decide_eq_true (p := z.length ≤ 20 ∧ ∀ c ∈ z.cps.toList, c ≠ 32 ∧ c ≠ 10) h
theorem wd_name {z : Str} (h : Name z) : Wd z := wd_low h.1
end T4

/-! T42: habits shown: a folk, a way. -/
namespace MR
theorem at_app {α : Type} {xs ys : List α} {k : Nat} : (xs ++ ys)[xs.length + k]? = ys[k]? := by rw [List.getElem?_append_right (Nat.le_add_right _ _), Nat.add_sub_cancel_left]
theorem at_app0 {α : Type} {xs ys : List α} : (xs ++ ys)[xs.length]? = ys[0]? := by rw [List.getElem?_append_right (Nat.le_refl _), Nat.sub_self]
theorem set_app {α : Type} {xs ys : List α} {k : Nat} {o : α} : (xs ++ ys).set (xs.length + k) o = xs ++ ys.set k o := by simp
theorem set_app0 {α : Type} {xs ys : List α} {o : α} : (xs ++ ys).set xs.length o = xs ++ ys.set 0 o := by simp
end MR
namespace T4
open PySem L2 MR
theorem fig_log {i : Int} (h : figD i) : i.natAbs.log2 < 1920 := by
  unfold figD at h
  have : i.natAbs < 2 ^ 4 := by omega
  exact Nat.lt_trans (log2_lt this (by decide)) (by decide)
theorem keep_fig {p : Pn} (hf : p.fit) {i : Int} (h : p.q = some i) : figD i := by
  have := hf.2 i h
  unfold figD; omega
theorem kind_len {p : Pn} (hf : p.fit) : p.k.length ≤ 6 := by
  rcases hf.1 with h | h <;> rw [h] <;> decide +kernel
theorem l_folk : (Str.ofString "folk ").length = 5 := by decide +kernel
theorem l_blank : (Str.ofString " ").length = 1 := by decide +kernel
theorem l_dash : (Str.ofString "-").length = 1 := by decide +kernel
theorem l_empty : Str.empty.length = 0 := by decide +kernel
theorem l_num {i : Int} : (numS i).length = 1 := rfl
theorem show_folk {μ : Mem} {p : Pn} (hn : Name p.n) (hf : p.fit) : m_show_folk [p.d] μ = some (.str (line (wF p)), μ) := by
  have h1 : p.n.length ≤ 8 := hn.1.2.1
  have h2 := kind_len hf
  have e : (Str.empty ++ ("folk " : Str) ++ p.n ++ (" " : Str) ++ p.k ++ (" " : Str) ++ keepS p.q) = line (wF p) := by
    refine MR.str_ext ?_
    rw [line_list]
    simp only [app_list, wF, List.map_cons, List.map_nil, jn, List.append_assoc]
    rfl
  unfold m_show_folk
  cases hq : p.q with
  | none =>
    rw [hq] at e
    simp only [mDef, mSeq, mAsg, mVar, gmTup, gmCons, gmN, gmNil, mRet, mJs, jsGo, mC, mFmt, mIte, mTs, mOp, oIs, isN, mIf, mSkip, mEx, mBM, fAppend, fMut, mLst, mTup, mCons, mNil, mCall, lenIs, mAnd, mOr, mNot, mAndV, mOrV, mNotV, mChain, mSl, mPt, mNo, mPar, mFld, mSfld, gmSub, mAug, mBrk, mCnt, mJoin, seqAt, lstAt, strsOf, List.map_cons, List.map_nil, List.length_cons, List.length_nil, List.length_append, List.replicate, List.cons_append, List.nil_append, List.append_assoc, List.append_nil, List.set, List.getElem?_cons_zero, List.getElem?_cons_succ, List.getElem?_nil, Nat.reduceAdd, Nat.reduceSub, Nat.reduceLeDiff, Nat.reduceEqDiff, Nat.reduceLT, Nat.reduceMul, Nat.add_assoc, Nat.zero_add, if_true, if_false, Option.map_some, Option.map_none, Option.bind_some, Bool.false_eq_true, Bool.not_true, Bool.not_false, at_app, at_app0, set_app, set_app0, Pn.d, hq, keepD]
    repeat (first | rw [if_pos (by (try simp only [app_len, l_folk, l_blank, l_dash, l_empty]); omega)] | simp only [Bool.false_eq_true, if_false, if_true, Bool.not_true, Bool.not_false] | dsimp only)
    rw [← e]; rfl
  | some i =>
    have fg := keep_fig hf hq
    rw [hq] at e
    simp only [mDef, mSeq, mAsg, mVar, gmTup, gmCons, gmN, gmNil, mRet, mJs, jsGo, mC, mFmt, mIte, mTs, mOp, oIs, isN, mIf, mSkip, mEx, mBM, fAppend, fMut, mLst, mTup, mCons, mNil, mCall, lenIs, mAnd, mOr, mNot, mAndV, mOrV, mNotV, mChain, mSl, mPt, mNo, mPar, mFld, mSfld, gmSub, mAug, mBrk, mCnt, mJoin, seqAt, lstAt, strsOf, List.map_cons, List.map_nil, List.length_cons, List.length_nil, List.length_append, List.replicate, List.cons_append, List.nil_append, List.append_assoc, List.append_nil, List.set, List.getElem?_cons_zero, List.getElem?_cons_succ, List.getElem?_nil, Nat.reduceAdd, Nat.reduceSub, Nat.reduceLeDiff, Nat.reduceEqDiff, Nat.reduceLT, Nat.reduceMul, Nat.add_assoc, Nat.zero_add, if_true, if_false, Option.map_some, Option.map_none, Option.bind_some, Bool.false_eq_true, Bool.not_true, Bool.not_false, at_app, at_app0, set_app, set_app0, Pn.d, hq, keepD, fig_log fg, toStr_fig fg]
    repeat (first | rw [if_pos (by (try simp only [app_len, l_folk, l_blank, l_num, l_empty]); omega)] | simp only [Bool.false_eq_true, if_false, if_true, Bool.not_true, Bool.not_false] | dsimp only)
    rw [← e]; rfl
theorem way_fig {w : Wy} (hf : w.fit) : figD w.l ∧ figD w.m := by
  obtain ⟨h1, h2, h3, _⟩ := hf
  unfold figD; omega
theorem l_way : (Str.ofString "way").length = 3 := by decide +kernel
theorem l_loses : (Str.ofString "loses").length = 5 := by decide +kernel
theorem l_twice : (Str.ofString "twice").length = 5 := by decide +kernel
theorem show_way {μ : Mem} {w : Wy} (hf : w.fit) (hg : w.g.length ≤ 8) (ht : w.t.length ≤ 8) : ∃ xs, m_show_way [w.d] μ = some (.str (line (wW w)), μ ++ xs) := by
  obtain ⟨f1, f2⟩ := way_fig hf
  unfold m_show_way
  cases hl : w.lo <;> cases hw : w.tw <;> simp only [mDef, mSeq, mAsg, mVar, gmTup, gmCons, gmN, gmNil, mRet, mJs, jsGo, mC, mFmt, mIte, mTs, mOp, oIs, isN, mIf, mSkip, mEx, mBM, fAppend, fMut, mLst, mTup, mCons, mNil, mCall, lenIs, mAnd, mOr, mNot, mAndV, mOrV, mNotV, mChain, mSl, mPt, mNo, mPar, mFld, mSfld, gmSub, mAug, mBrk, mCnt, mJoin, seqAt, lstAt, strsOf, List.map_cons, List.map_nil, List.length_cons, List.length_nil, List.length_append, List.replicate, List.cons_append, List.nil_append, List.append_assoc, List.append_nil, List.set, List.getElem?_cons_zero, List.getElem?_cons_succ, List.getElem?_nil, Nat.reduceAdd, Nat.reduceSub, Nat.reduceLeDiff, Nat.reduceEqDiff, Nat.reduceLT, Nat.reduceMul, Nat.add_assoc, Nat.zero_add, if_true, if_false, Option.map_some, Option.map_none, Option.bind_some, Bool.false_eq_true, Bool.not_true, Bool.not_false, at_app, at_app0, set_app, set_app0, Wy.d, hl, hw, fStrI, fig_log f1, toStr_fig f1, fig_log f2, toStr_fig f2]
  all_goals rw [if_pos (by simp only [l_way, l_num, l_blank, l_loses, l_twice, List.sum_cons, List.sum_nil]; omega)]
  all_goals dsimp only
  all_goals (apply Exists.intro; unfold line wW; rw [hl, hw]; rfl)
/-! ### the text -/
theorem wd_f {p : Pn} (hn : Name p.n) (hf : p.fit) : ∀ z ∈ wF p, Wd z := fun z hz => by
  (rcases List.mem_cons.mp hz with rfl | hz)
  · exact wd_c (by decide +kernel)
  (rcases List.mem_cons.mp hz with rfl | hz)
  · exact wd_name hn
  (rcases List.mem_cons.mp hz with rfl | hz)
  · rcases hf.1 with h | h <;> rw [h] <;> exact wd_c (by decide +kernel)
  (rcases List.mem_cons.mp hz with rfl | hz)
  · cases hq : p.q with
    | none => exact wd_c (by decide +kernel)
    | some i => exact wd_num (keep_fig hf hq)
  · cases hz
theorem wd_w {w : Wy} (hf : w.fit) (hg : Wd w.g) (ht : Wd w.t) : ∀ z ∈ wW w, Wd z := fun z hz => by
  obtain ⟨f1, f2⟩ := way_fig hf
  unfold wW at hz
  (rcases List.mem_append.mp hz with hz | hz)
  · rcases List.mem_append.mp hz with hz | hz
    · simp only [List.mem_cons, List.not_mem_nil, or_false] at hz
      rcases hz with rfl | rfl | rfl | rfl | rfl
      · exact wd_c (by decide +kernel)
      · exact hg
      · exact ht
      · exact wd_num f1
      · exact wd_num f2
    · split at hz
      · rw [List.mem_singleton.mp hz]; exact wd_c (by decide +kernel)
      · cases hz
  · split at hz
    · rw [List.mem_singleton.mp hz]; exact wd_c (by decide +kernel)
    · cases hz
theorem house_wd : Wd house := wd_c (by decide +kernel)
theorem ao_wd {ts : List Str} (hts : ∀ t ∈ ts, Name t) {w : Wy} (h : Ao ts ts w.ends) : (Wd w.g ∧ w.g.length ≤ 8) ∧ Wd w.t ∧ w.t.length ≤ 8 := by
  have hl : ∀ t, Name t → Wd t ∧ t.length ≤ 8 := fun t h => ⟨wd_name h, h.1.2.1⟩
  have hh : Wd house ∧ house.length ≤ 8 := ⟨house_wd, by decide +kernel⟩
  obtain ⟨t, ht, h⟩ := h
  rcases h with h | h | ⟨h1, h2, _⟩
  · rw [show w.g = t from congrArg Prod.fst h, show w.t = house from congrArg Prod.snd h]; exact ⟨hl t (hts t ht), hh⟩
  · rw [show w.g = house from congrArg Prod.fst h, show w.t = t from congrArg Prod.snd h]; exact ⟨hh, hl t (hts t ht)⟩
  · rw [show w.g = t from h1]; exact ⟨hl t (hts t ht), hl w.t (hts _ h2)⟩
theorem lines_ok {h : Hb} (L : h.ok) : ∀ l ∈ linesH h.ps h.ws h.s, (l ≠ [] ∧ l.length ≤ 10) ∧ ∀ z ∈ l, Wd z := fun l hl => by
  rcases List.mem_cons.mp hl with rfl | hl
  · refine ⟨⟨by simp [wS], by simp [wS]⟩, fun z hz => ?_⟩
    (rcases List.mem_cons.mp hz with rfl | hz)
    · exact wd_c (by decide +kernel)
    · (rw [List.mem_singleton.mp hz])
      exact wd_num ⟨L.s0, by have := L.s2; omega⟩
  · rcases List.mem_append.mp hl with hl | hl
    · obtain ⟨p, hp, rfl⟩ := List.mem_map.mp hl
      exact ⟨⟨by simp [wF], by simp [wF]⟩, wd_f (L.nm p hp) (L.pf p hp)⟩
    · obtain ⟨w, hw, rfl⟩ := List.mem_map.mp hl
      obtain ⟨⟨h1, _⟩, h2, _⟩ := ao_wd L.names (L.rd.inn w hw)
      refine ⟨⟨by simp [wW], ?_⟩, wd_w (L.rd.fit w hw) h1 h2⟩
      unfold wW
      simp only [List.length_append, List.length_cons, List.length_nil]
      split <;> split <;> simp
theorem linesH_len {h : Hb} (L : h.ok) : (linesH h.ps h.ws h.s).length = 1 + (h.ps.length + h.ws.length) := by simp [linesH]; omega
theorem textH_len {h : Hb} (L : h.ok) : (textH h).length ≤ 20000 := text_len (by have := L.l3; have := L.wl; rw [linesH_len L]; omega) fun l hl => ⟨(lines_ok L l hl).1.2, (lines_ok L l hl).2⟩
theorem textH_split {h : Hb} (L : h.ok) : Txt.split (textH h) feed = (linesH h.ps h.ws h.s).map line := split_text (by simp [linesH]) fun l hl => (lines_ok L l hl).2
end T4

/-! LcA: comprehensions over data of any type; texts put together. -/
namespace MR
open PySem L2
theorem w_lcA {α : Type} {env : Sl} {μ : Mem} {g : MTg} {tt : MTs} {el : MEx} {as : List α} {f F : α → D} {P : α → Bool} {c : Option (Nat × List D)} (hc : ∀ m, Gr μ m → still c m) (hl : as.length ≤ 100000)
    (step : ∀ a ∈ as, ∀ m, Gr μ m → WG g (f a) env m fun e1 m1 => WT tt e1 m1 fun b m2 => b = P a ∧ (b = false → Gr m m2) ∧ (b = true → WE el e1 m2 fun d m3 => d = F a ∧ Gr m m3)) :
    ∃ m, compGo c g tt el μ.length env (as.map f) (μ ++ [.lst []]) = some m ∧ m[μ.length]? = some (.lst ((as.filter P).map F)) ∧ Gr μ m := by
  have go : ∀ (r z : List α) (m : Mem), as = z ++ r → m[μ.length]? = some (.lst ((z.filter P).map F)) → Gr μ m →
      ∃ m2, compGo c g tt el μ.length env (r.map f) m = some m2 ∧ m2[μ.length]? = some (.lst ((as.filter P).map F)) ∧ Gr μ m2 := by
    intro r
    induction r with
    | nil =>
      intro z m h1 h2 h3
      rw [List.append_nil] at h1; subst h1
      exact ⟨m, by rw [List.map_nil, compGo, if_pos (hc m h3)], h2, h3⟩
    | cons a r ih =>
      intro z m h1 h2 h3
      obtain ⟨e1, m1, q1, b, m2, q2, rfl, g2, q3⟩ := step a (by rw [h1]; simp) m h3
      rw [List.map_cons, compGo, if_pos (hc m h3)]
      cases hb : P a with
      | false =>
        rw [hb] at q2
        obtain ⟨m3, e3, a3, g3⟩ := ih (z ++ [a]) m2 (by rw [h1]; simp) (by rw [(g2 hb).at_ h2]; simp [hb]) (h3.trans (g2 hb))
        exact ⟨m3, by rw [q1]; dsimp only; rw [q2]; exact e3, a3, g3⟩
      | true =>
        obtain ⟨d, m3, q4, rfl, g4⟩ := q3 hb
        rw [hb] at q2
        have at3 := g4.at_ h2
        have hlt := lt_at at3
        have hz : ((z.filter P).map F).length < 100000 := by
          rw [List.length_map]
          have e1 := List.length_filter_le P z
          have e2 := congrArg List.length h1
          simp only [List.length_append, List.length_cons] at e2
          omega
        have gg := h3.trans g4
        obtain ⟨m5, e5, a5, g5⟩ := ih (z ++ [a]) (m3.set μ.length (.lst ((z.filter P).map F ++ [F a]))) (by rw [h1]; simp) (by rw [List.getElem?_set_self hlt]; simp [hb])
          ⟨by simpa using gg.1, fun k hk => by rw [List.getElem?_set_ne (by omega)]; exact gg.2 k hk⟩
        exact ⟨m5, by rw [q1]; dsimp only; rw [q2]; dsimp only; rw [q4]; dsimp only; rw [at3]; dsimp only; rw [if_pos hz]; exact e5, a5, g5⟩
  exact go as [] _ rfl (by simp) gr_app
theorem we_lcA {α : Type} {env : Sl} {μ : Mem} {Q : D → Mem → Prop} {it : MIt} {g : MTg} {tt : MTs} {el : MEx} {vs : List Nat} {as : List α} {f F : α → D} {P : α → Bool}
    (h : WI it env μ fun xs c μ1 => xs = as.map f ∧ (∀ m, Gr μ1 m → still c m) ∧ as.length ≤ 100000 ∧ (∀ a ∈ as, ∀ m, Gr μ1 m → WG g (f a) (wipeD env vs) m fun e1 m1 => WT tt e1 m1 fun b m2 => b = P a ∧ (b = false → Gr m m2) ∧ (b = true → WE el e1 m2 fun d m3 => d = F a ∧ Gr m m3)) ∧
      ∀ m, Gr μ1 m → m[μ1.length]? = some (.lst ((as.filter P).map F)) → Q (.ref μ1.length) m) : WE (mLc it g tt el vs) env μ Q := by
  obtain ⟨xs, c, μ1, e, rfl, hc, hl, st, q⟩ := h
  obtain ⟨m, e2, a2, g2⟩ := w_lcA hc hl st
  exact we_lc ⟨_, c, μ1, e, m, e2, q m g2 a2⟩
/-- .. without a test -/
theorem we_lcA0 {α : Type} {env : Sl} {μ : Mem} {Q : D → Mem → Prop} {it : MIt} {g : MTg} {el : MEx} {vs : List Nat} {as : List α} {f F : α → D}
    (h : WI it env μ fun xs c μ1 => xs = as.map f ∧ (∀ m, Gr μ1 m → still c m) ∧ as.length ≤ 100000 ∧ (∀ a ∈ as, ∀ m, Gr μ1 m → WG g (f a) (wipeD env vs) m fun e1 m1 => WE el e1 m1 fun d m2 => d = F a ∧ Gr m m2) ∧
      ∀ m, Gr μ1 m → m[μ1.length]? = some (.lst (as.map F)) → Q (.ref μ1.length) m) : WE (mLc it g mYes el vs) env μ Q := by
  obtain ⟨xs, c, μ1, e, h1, hc, hl, st, q⟩ := h
  refine we_lcA (P := fun _ => true) (F := F) ⟨xs, c, μ1, e, h1, hc, hl, fun a ha m hm => ?_, fun m hm hr => q m hm (by rw [hr, List.filter_eq_self.mpr fun _ _ => rfl])⟩
  obtain ⟨e1, m1, q1, d, m2, q2, q3, q4⟩ := st a ha m hm
  exact ⟨e1, m1, q1, true, m1, rfl, rfl, fun z => (by cases z), fun _ => ⟨d, m2, q2, q3, q4⟩⟩
/-- a loop over data of any type: I of what was gone through -/
theorem ws_forA {α : Type} {c : Option (Nat × List D)} {g : MTg} {b : MSt} {QS : Fl → Sl → Mem → Prop} {as : List α} {f : α → D} (I : List α → Sl → Mem → Prop) (hs : ∀ z e m, I z e m → still c m)
    (step : ∀ z a r e m, as = z ++ a :: r → I z e m → WG g (f a) e m fun e1 m1 => WS b e1 m1 fun fl e2 m2 => (fl = .nx ∨ fl = .ct) ∧ I (z ++ [a]) e2 m2 ∨ fl = .bk ∧ QS .nx e2 m2 ∨ (∃ d, fl = .rt d ∧ QS fl e2 m2))
    (fin : ∀ e m, I as e m → QS .nx e m) {env : Sl} {μ : Mem} (h : I [] env μ) : WS (forGo c g b (as.map f)) env μ QS := by
  refine ws_forGo (c := c) (fun r e m => ∃ z q, as = z ++ q ∧ r = q.map f ∧ I z e m) (fun r e m h => by obtain ⟨z, q, _, _, h⟩ := h; exact hs z e m h) ?_ ?_ (as.map f) env μ ⟨[], as, rfl, rfl, h⟩
  · rintro x r e m ⟨z, q, h1, h2, h3⟩
    cases q with
    | nil => cases h2
    | cons a q =>
      rw [List.map_cons] at h2
      injection h2 with h4 h5
      subst h4 h5
      obtain ⟨e1, m1, q1, fl, e2, m2, q2, h6⟩ := step z a q e m h1 h3
      refine ⟨e1, m1, q1, fl, e2, m2, q2, ?_⟩
      rcases h6 with ⟨hf, hI⟩ | h6
      · exact .inl ⟨hf, z ++ [a], q, by rw [h1]; simp, rfl, hI⟩
      · exact .inr h6
  · rintro e m ⟨z, q, h1, h2, h3⟩
    have : q = [] := by simpa using h2.symm
    subst this
    rw [List.append_nil] at h1
    subst h1
    exact fin e m h3
end MR

/-! T43: habits shown as a text. -/
namespace T4
open PySem L2 MR
variable {μ : Mem} {Q : D → Mem → Prop}
theorem l_steps : (Str.ofString "steps ").length = 6 := by decide +kernel
theorem steps_fig {h : Hb} (L : h.ok) : figD h.s := ⟨L.s0, by have := L.s2; omega⟩
theorem line_steps {h : Hb} : Str.empty ++ ("steps " : Str) ++ numS h.s = line (wS h.s) := by
  refine MR.str_ext ?_
  rw [line_list]
  simp only [app_list, wS, List.map_cons, List.map_nil, jn, List.append_assoc]
  rfl
theorem js_steps {env : Sl} {n : Nat} {h : Hb} (L : h.ok) (h0 : env[0]? = some (some (.ref n))) (hn : μ[n]? = some h.o) : mJs [(mC (.str "steps ")), (mFmt (mFld 0 "steps" (mVar 0)))] env μ = some (.str (line (wS h.s)), μ) := by
  have e : mFld 0 "steps" (mVar 0) env μ = some (.int h.s, μ) := by
    unfold mFld mVar
    rw [h0]; dsimp only; rw [hn]; rfl
  have fg := steps_fig L
  simp only [mDef, mSeq, mAsg, gmTup, gmCons, gmN, gmNil, mRet, mJs, jsGo, mC, mFmt, mIte, mTs, mOp, oIs, isN, mIf, mSkip, mEx, mBM, fAppend, fMut, mLst, mTup, mCons, mNil, mCall, lenIs, mAnd, mOr, mNot, mAndV, mOrV, mNotV, mChain, mSl, mPt, mNo, mPar, mSfld, gmSub, mAug, mBrk, mCnt, mJoin, seqAt, lstAt, strsOf, List.map_cons, List.map_nil, List.length_cons, List.length_nil, List.length_append, List.replicate, List.cons_append, List.nil_append, List.append_assoc, List.append_nil, List.set, List.getElem?_cons_zero, List.getElem?_cons_succ, List.getElem?_nil, Nat.reduceAdd, Nat.reduceSub, Nat.reduceLeDiff, Nat.reduceEqDiff, Nat.reduceLT, Nat.reduceMul, Nat.add_assoc, Nat.zero_add, if_true, if_false, Option.map_some, Option.map_none, Option.bind_some, Bool.false_eq_true, Bool.not_true, Bool.not_false, at_app, at_app0, set_app, set_app0, e, fig_log fg, toStr_fig fg]
  repeat (first | rw [if_pos (by (try simp only [app_len, l_steps, l_empty, l_num]); omega)] | simp only [Bool.false_eq_true, if_false, if_true, Bool.not_true, Bool.not_false] | dsimp only)
  rw [line_steps]
theorem we_eq {m : MEx} {env : Sl} {d : D} {μ' : Mem} (e : m env μ = some (d, μ')) (q : Q d μ') : WE m env μ Q := ⟨d, μ', e, q⟩
theorem wf_eq {f : List D → Mem → Option (D × Mem)} {ds : List D} {d : D} {μ' : Mem} (e : f ds μ = some (d, μ')) (q : Q d μ') : WF f ds μ Q := ⟨d, μ', e, q⟩
theorem fld_folk {h : Hb} {n : Nat} {env : Sl} {i : Nat} (h0 : env[i]? = some (some (.ref n))) (hn : μ[n]? = some h.o) : mFld 0 "folk" (mVar i) env μ = some (.tup (h.ps.map Pn.d), μ) := by
  unfold mFld mVar; rw [h0]; dsimp only; rw [hn]; rfl
theorem fld_ways {h : Hb} {n : Nat} {env : Sl} {i : Nat} (h0 : env[i]? = some (some (.ref n))) (hn : μ[n]? = some h.o) : mFld 0 "ways" (mVar i) env μ = some (.tup (h.ws.map Wy.d), μ) := by
  unfold mFld mVar; rw [h0]; dsimp only; rw [hn]; rfl
theorem fld_steps {h : Hb} {n : Nat} {env : Sl} {i : Nat} (h0 : env[i]? = some (some (.ref n))) (hn : μ[n]? = some h.o) : mFld 0 "steps" (mVar i) env μ = some (.int h.s, μ) := by
  unfold mFld mVar; rw [h0]; dsimp only; rw [hn]; rfl
/-- lines joined -/
theorem we_joinL {sep : Str} {o e : MEx} {env : Sl} {ys : List Str} (h : WE o env μ fun x μ1 => x = .str sep ∧ WE e env μ1 fun y μ2 => ∃ a, y = .ref a ∧ μ2[a]? = some (.lst (ys.map D.str)) ∧ (ys.map (·.length)).sum + ys.length * sep.length ≤ 16777216 ∧ Q (.str (Txt.join sep ys)) μ2) : WE (mJoin o e) env μ Q := by
  refine we_join ?_
  refine h.imp fun x μ1 h1 => ⟨sep, h1.1, h1.2.imp fun y μ2 h2 => ?_⟩
  obtain ⟨a, rfl, hm, hl, q⟩ := h2
  refine ⟨ys, ?_, hl, q⟩
  unfold seqAt lstAt
  dsimp only
  rw [hm]
  exact strsOf_map ys
theorem sum_le {n : Nat} : ∀ {ys : List Str}, (∀ y ∈ ys, y.length ≤ n) → (ys.map (·.length)).sum ≤ ys.length * n
  | [], _ => by simp
  | y :: ys, h => by
    have h1 := h y (by simp)
    have h2 := sum_le (n := n) fun z hz => h z (List.mem_cons_of_mem y hz)
    (simp only [List.map_cons, List.sum_cons, List.length_cons])
    rw [Nat.add_mul, Nat.one_mul]
    omega
theorem lines_fit {h : Hb} (L : h.ok) : (((linesH h.ps h.ws h.s).map line).map (·.length)).sum + ((linesH h.ps h.ws h.s).map line).length * feed.length ≤ 16777216 := by
  have h1 := sum_le (n := 210) (ys := (linesH h.ps h.ws h.s).map line) fun y hy => by
    obtain ⟨l, hl, rfl⟩ := List.mem_map.mp hy
    exact line_len (lines_ok L l hl).1.2 (lines_ok L l hl).2
  have hf : feed.length = 1 := by decide +kernel
  have := L.l3
  have := L.wl
  rw [List.length_map, linesH_len L] at h1
  rw [List.length_map, linesH_len L, hf]
  omega
theorem wf_show {n : Nat} {h : Hb} (L : h.ok) (hn : μ[n]? = some h.o) (q : ∀ μ', Gr μ μ' → Q (.str (textH h)) μ') : WF m_show_habits [.ref n] μ Q := by
  have l3 := L.l3
  have wl := L.wl
  refine wf_def ?_
  show WS _ [some (.ref n), none, none] _ _
  refine ws_seq (ws_asg ?_)
  refine we_op (we_op (we_lst (wa_cons (we_eq (js_steps L rfl hn) (wa_nil ⟨by simp, ?_⟩)))))
  generalize hm1 : μ ++ [MO.lst [D.str (line (wS h.s))]] = μ1
  have a1 : μ1[μ.length]? = some (.lst [.str (line (wS h.s))]) := by rw [← hm1]; simp
  have g1 : Gr μ μ1 := by rw [← hm1]; exact gr_app
  refine we_lcA0 (as := h.ps) (f := Pn.d) (F := fun p => .str (line (wF p))) (wi_T (we_eq (fld_folk rfl (g1.at_ hn)) ⟨_, rfl, rfl, fun _ _ => trivial, by omega, fun p hp m hm => ?_, fun m2 g2 a2 => ?_⟩))
  · refine wg_n (we_call (wa_cons (we_varX ⟨_, rfl, wa_nil (wf_lenIs rfl (wf_eq (show_folk (L.nm p hp) (L.pf p hp)) ⟨rfl, Gr.refl _⟩))⟩)))
  · refine wo_addL (g2.at_ a1) a2 (by simp; omega) ?_
    generalize hm3 : m2 ++ [MO.lst ([D.str (line (wS h.s))] ++ h.ps.map fun p => D.str (line (wF p)))] = μ3
    have a3 : μ3[m2.length]? = some (.lst ([.str (line (wS h.s))] ++ h.ps.map fun p => .str (line (wF p)))) := by rw [← hm3]; simp
    have g3 : Gr μ μ3 := by rw [← hm3]; exact (g1.trans g2).trans gr_app
    refine we_lcA0 (as := h.ws) (f := Wy.d) (F := fun w => .str (line (wW w))) (wi_T (we_eq (fld_ways rfl (g3.at_ hn)) ⟨_, rfl, rfl, fun _ _ => trivial, by omega, fun w hw m hm => ?_, fun m4 g4 a4 => ?_⟩))
    · obtain ⟨⟨_, h1⟩, _, h2⟩ := ao_wd L.names (L.rd.inn w hw)
      obtain ⟨xs, e⟩ := show_way (μ := m) (L.rd.fit w hw) h1 h2
      exact wg_n (we_call (wa_cons (we_varX ⟨_, rfl, wa_nil (wf_lenIs rfl (wf_eq e ⟨rfl, gr_app⟩))⟩)))
    · refine wo_addL (g4.at_ a3) a4 (by simp; omega) (wg_n ?_)
      refine ws_ret (we_joinL (sep := feed) (ys := (linesH h.ps h.ws h.s).map line) (we_c ⟨rfl, we_varX ⟨_, rfl, _, rfl, ?_, lines_fit L, ?_⟩⟩))
      · rw [at_app0]
        simp [linesH, Function.comp_def]
      · exact q _ ((g3.trans g4).trans gr_app)
/-! ### the law's own text -/
def habX (h : Hb) : D := .tup [.tup (h.ps.map Pn.d), .tup (h.ws.map Wy.d), .int h.s]
theorem l_waysp : (Str.ofString "way ").length = 4 := by decide +kernel
theorem l_sloses : (Str.ofString " loses").length = 6 := by decide +kernel
theorem l_stwice : (Str.ofString " twice").length = 6 := by decide +kernel
theorem repS_zero (x : Str) : repS x 0 = ("" : Str) := MR.str_ext (by rw [repS_toList]; rfl)
theorem app_empty (x : Str) : x ++ ("" : Str) = x := MR.str_ext (by rw [app_list]; show _ ++ [] = _; simp)
def appS (f : Sl → Mem → Option (Fl × Sl × Mem)) (a : Nat) (z : Str) (xs : List D) (env : Sl) (μ : Mem) : Prop := f env μ = some (.nx, env, μ.set a (.lst (xs ++ [.str z])))
theorem bm_app {env : Sl} {a i : Nat} {xs : List D} {e : MEx} {z : Str} (h1 : env[i]? = some (some (.ref a))) (hm : μ[a]? = some (.lst xs)) (hl : xs.length < 100000) (he : e env μ = some (.str z, μ)) :
    mEx (mBM fAppend (mVar i) (mCons e mNil)) env μ = some (.nx, env, μ.set a (.lst (xs ++ [.str z]))) := by
  simp only [mDef, mSeq, mAsg, mVar, gmTup, gmCons, gmN, gmNil, mRet, mJs, jsGo, mC, mFmt, mIte, mTs, mOp, oIs, isN, mIf, mSkip, mEx, mBM, fAppend, fMut, mLst, mTup, mCons, mNil, mCall, lenIs, mAnd, mOr, mNot, mAndV, mOrV, mNotV, mChain, mSl, mPt, mNo, mPar, mFld, mSfld, gmSub, mAug, mBrk, mCnt, mJoin, seqAt, lstAt, strsOf, List.map_cons, List.map_nil, List.length_cons, List.length_nil, List.length_append, List.replicate, List.cons_append, List.nil_append, List.append_assoc, List.append_nil, List.set, List.getElem?_cons_zero, List.getElem?_cons_succ, List.getElem?_nil, Nat.reduceAdd, Nat.reduceSub, Nat.reduceLeDiff, Nat.reduceEqDiff, Nat.reduceLT, Nat.reduceMul, Nat.add_assoc, Nat.zero_add, if_true, if_false, Option.map_some, Option.map_none, Option.bind_some, Bool.false_eq_true, Bool.not_true, Bool.not_false, at_app, at_app0, set_app, set_app0, h1, hm, he, hl]
theorem folk_e {p : Pn} (hn : Name p.n) (hf : p.fit) {env : Sl} (h2 : env[2]? = some (some (.str p.n))) (h3 : env[3]? = some (some (.str p.k))) (h4 : env[4]? = some (some (keepD p.q))) :
    mOp oAdd (mOp oAdd (mOp oAdd (mOp oAdd (mOp oAdd (mC (.str "folk ")) (mVar 2)) (mC (.str " "))) (mVar 3)) (mC (.str " "))) (mIte (mTs (mOp (oIs false) (mVar 4) (mC .non))) (mC (.str "-")) (mCall fStrI (mCons (mVar 4) mNil))) env μ = some (.str (line (wF p)), μ) := by
  have k1 : p.n.length ≤ 8 := hn.1.2.1
  have k2 := kind_len hf
  have e : (("folk " : Str) ++ p.n ++ (" " : Str) ++ p.k ++ (" " : Str) ++ keepS p.q) = line (wF p) := by
    refine MR.str_ext ?_
    rw [line_list]
    simp only [app_list, wF, List.map_cons, List.map_nil, jn, List.append_assoc]
    rfl
  cases hq : p.q with
  | none =>
    rw [hq] at e h4
    simp only [mDef, mSeq, mAsg, mVar, gmTup, gmCons, gmN, gmNil, mRet, mJs, jsGo, mC, mFmt, mIte, mTs, mOp, oIs, isN, mIf, mSkip, mEx, mBM, fAppend, fMut, mLst, mTup, mCons, mNil, mCall, lenIs, mAnd, mOr, mNot, mAndV, mOrV, mNotV, mChain, mSl, mPt, mNo, mPar, mFld, mSfld, gmSub, mAug, mBrk, mCnt, mJoin, seqAt, lstAt, strsOf, List.map_cons, List.map_nil, List.length_cons, List.length_nil, List.length_append, List.replicate, List.cons_append, List.nil_append, List.append_assoc, List.append_nil, List.set, List.getElem?_cons_zero, List.getElem?_cons_succ, List.getElem?_nil, Nat.reduceAdd, Nat.reduceSub, Nat.reduceLeDiff, Nat.reduceEqDiff, Nat.reduceLT, Nat.reduceMul, Nat.add_assoc, Nat.zero_add, if_true, if_false, Option.map_some, Option.map_none, Option.bind_some, Bool.false_eq_true, Bool.not_true, Bool.not_false, at_app, at_app0, set_app, set_app0, h2, h3, h4, keepD, oAdd]
    repeat (first | rw [if_pos (by (try simp only [app_len, l_folk, l_blank, l_dash]); omega)] | simp only [Bool.false_eq_true, if_false, if_true, Bool.not_true, Bool.not_false] | dsimp only)
    rw [← e]; rfl
  | some i =>
    have fg := keep_fig hf hq
    rw [hq] at e h4
    simp only [mDef, mSeq, mAsg, mVar, gmTup, gmCons, gmN, gmNil, mRet, mJs, jsGo, mC, mFmt, mIte, mTs, mOp, oIs, isN, mIf, mSkip, mEx, mBM, fAppend, fMut, mLst, mTup, mCons, mNil, mCall, lenIs, mAnd, mOr, mNot, mAndV, mOrV, mNotV, mChain, mSl, mPt, mNo, mPar, mFld, mSfld, gmSub, mAug, mBrk, mCnt, mJoin, seqAt, lstAt, strsOf, List.map_cons, List.map_nil, List.length_cons, List.length_nil, List.length_append, List.replicate, List.cons_append, List.nil_append, List.append_assoc, List.append_nil, List.set, List.getElem?_cons_zero, List.getElem?_cons_succ, List.getElem?_nil, Nat.reduceAdd, Nat.reduceSub, Nat.reduceLeDiff, Nat.reduceEqDiff, Nat.reduceLT, Nat.reduceMul, Nat.add_assoc, Nat.zero_add, if_true, if_false, Option.map_some, Option.map_none, Option.bind_some, Bool.false_eq_true, Bool.not_true, Bool.not_false, at_app, at_app0, set_app, set_app0, h2, h3, h4, keepD, oAdd, fStrI, fig_log fg, toStr_fig fg]
    repeat (first | rw [if_pos (by (try simp only [app_len, l_folk, l_blank, l_num]); omega)] | simp only [Bool.false_eq_true, if_false, if_true, Bool.not_true, Bool.not_false] | dsimp only)
    rw [← e]; rfl
theorem way_e1 {w : Wy} (hf : w.fit) (hg : w.g.length ≤ 8) (ht : w.t.length ≤ 8) {env : Sl} (h5 : env[5]? = some (some (.str w.g))) (h6 : env[6]? = some (some (.str w.t))) (h7 : env[7]? = some (some (.int w.l))) (h8 : env[8]? = some (some (.int w.m))) :
    ∃ z : Str, mOp oAdd (mOp oAdd (mOp oAdd (mOp oAdd (mOp oAdd (mOp oAdd (mOp oAdd (mC (.str "way ")) (mVar 5)) (mC (.str " "))) (mVar 6)) (mC (.str " "))) (mCall fStrI (mCons (mVar 7) mNil))) (mC (.str " "))) (mCall fStrI (mCons (mVar 8) mNil)) env μ = some (.str z, μ) ∧ z.length ≤ 30 ∧
      z.cps.toList = ("way " : Str).cps.toList ++ (w.g.cps.toList ++ (32 :: (w.t.cps.toList ++ (32 :: ((numS w.l).cps.toList ++ (32 :: (numS w.m).cps.toList)))))) := by
  obtain ⟨f1, f2⟩ := way_fig hf
  refine ⟨("way " : Str) ++ w.g ++ (" " : Str) ++ w.t ++ (" " : Str) ++ numS w.l ++ (" " : Str) ++ numS w.m, ?_, ?_, ?_⟩
  · simp only [mDef, mSeq, mAsg, mVar, gmTup, gmCons, gmN, gmNil, mRet, mJs, jsGo, mC, mFmt, mIte, mTs, mOp, oIs, isN, mIf, mSkip, mEx, mBM, fAppend, fMut, mLst, mTup, mCons, mNil, mCall, lenIs, mAnd, mOr, mNot, mAndV, mOrV, mNotV, mChain, mSl, mPt, mNo, mPar, mFld, mSfld, gmSub, mAug, mBrk, mCnt, mJoin, seqAt, lstAt, strsOf, List.map_cons, List.map_nil, List.length_cons, List.length_nil, List.length_append, List.replicate, List.cons_append, List.nil_append, List.append_assoc, List.append_nil, List.set, List.getElem?_cons_zero, List.getElem?_cons_succ, List.getElem?_nil, Nat.reduceAdd, Nat.reduceSub, Nat.reduceLeDiff, Nat.reduceEqDiff, Nat.reduceLT, Nat.reduceMul, Nat.add_assoc, Nat.zero_add, if_true, if_false, Option.map_some, Option.map_none, Option.bind_some, Bool.false_eq_true, Bool.not_true, Bool.not_false, at_app, at_app0, set_app, set_app0, h5, h6, h7, h8, oAdd, fStrI, fig_log f1, toStr_fig f1, fig_log f2, toStr_fig f2]
    repeat (first | rw [if_pos (by (try simp only [app_len, l_waysp, l_blank, l_num]); omega)] | simp only [Bool.false_eq_true, if_false, if_true, Bool.not_true, Bool.not_false] | dsimp only)
  · simp only [app_len, l_waysp, l_blank, l_num]; omega
  · simp only [app_list, List.append_assoc]
    rfl
theorem way_e2 {w : Wy} {z : Str} (hz : z.length ≤ 30) (hc : z.cps.toList = ("way " : Str).cps.toList ++ (w.g.cps.toList ++ (32 :: (w.t.cps.toList ++ (32 :: ((numS w.l).cps.toList ++ (32 :: (numS w.m).cps.toList)))))))
    {env : Sl} (h9 : env[9]? = some (some (.bl w.lo))) (h10 : env[10]? = some (some (.bl w.tw))) (h11 : env[11]? = some (some (.str z))) :
    mOp oAdd (mOp oAdd (mVar 11) (mOp oMulU (mC (.str " loses")) (mCall fIntU (mCons (mVar 9) mNil)))) (mOp oMulU (mC (.str " twice")) (mCall fIntU (mCons (mVar 10) mNil))) env μ = some (.str (line (wW w)), μ) := by
  have hm1 : ∀ a : Str, a.length ≤ 100 → oMulU (.str a) (.int 1) μ = some (.str a, μ) := fun a ha => by
    unfold oMulU; dsimp only; rw [if_pos (by refine ⟨by decide, by decide, ?_⟩; simp; omega)]; rw [show (1 : Int).toNat = 1 from rfl, repS_one]
  have hm0 : ∀ a : Str, oMulU (.str a) (.int 0) μ = some (.str "", μ) := fun a => by
    unfold oMulU; dsimp only; rw [if_pos (by refine ⟨by decide, by decide, ?_⟩; simp)]; rw [show (0 : Int).toNat = 0 from rfl, repS_zero]
  have l0 : (Str.ofString "").length = 0 := by decide +kernel
  cases hl : w.lo <;> cases hw : w.tw <;> rw [hl] at h9 <;> rw [hw] at h10 <;>
  · simp only [mDef, mSeq, mAsg, mVar, gmTup, gmCons, gmN, gmNil, mRet, mJs, jsGo, mC, mFmt, mIte, mTs, mOp, oIs, isN, mIf, mSkip, mEx, mBM, fAppend, fMut, mLst, mTup, mCons, mNil, mCall, lenIs, mAnd, mOr, mNot, mAndV, mOrV, mNotV, mChain, mSl, mPt, mNo, mPar, mFld, mSfld, gmSub, mAug, mBrk, mCnt, mJoin, seqAt, lstAt, strsOf, List.map_cons, List.map_nil, List.length_cons, List.length_nil, List.length_append, List.replicate, List.cons_append, List.nil_append, List.append_assoc, List.append_nil, List.set, List.getElem?_cons_zero, List.getElem?_cons_succ, List.getElem?_nil, Nat.reduceAdd, Nat.reduceSub, Nat.reduceLeDiff, Nat.reduceEqDiff, Nat.reduceLT, Nat.reduceMul, Nat.add_assoc, Nat.zero_add, if_true, if_false, Option.map_some, Option.map_none, Option.bind_some, Bool.false_eq_true, Bool.not_true, Bool.not_false, at_app, at_app0, set_app, set_app0, h9, h10, h11, fIntU, fInt, hm0, hm1 (Str.ofString " loses") (by rw [l_sloses]; decide), hm1 (Str.ofString " twice") (by rw [l_stwice]; decide), oAdd]
    repeat (first | rw [if_pos (by (try simp only [app_len, l0, l_sloses, l_stwice]); omega)] | simp only [Bool.false_eq_true, if_false, if_true, Bool.not_true, Bool.not_false] | dsimp only)
    simp only [hm0, hm1 (Str.ofString " twice") (by rw [l_stwice]; decide)]
    repeat (first | rw [if_pos (by (try simp only [app_len, l0, l_sloses, l_stwice]); omega)] | simp only [Bool.false_eq_true, if_false, if_true, Bool.not_true, Bool.not_false] | dsimp only)
    refine congrArg (fun y : Str => some (D.str y, μ)) (MR.str_ext ?_)
    rw [line_list]
    unfold wW
    rw [hl, hw]
    simp only [app_list, hc, List.map_cons, List.map_nil, List.cons_append, List.nil_append, List.append_assoc, if_true, if_false, Bool.false_eq_true, jn]
    rfl
theorem steps_e {h : Hb} (L : h.ok) {env : Sl} (h0 : env[0]? = some (some (habX h))) : mOp oAdd (mC (.str "steps ")) (mCall fStrI (mCons (mOp oIx (mVar 0) (mC (.int 2))) mNil)) env μ = some (.str (line (wS h.s)), μ) := by
  have fg := steps_fig L
  have e : oIx (habX h) (.int 2) μ = some (.int h.s, μ) := rfl
  simp only [mDef, mSeq, mAsg, mVar, gmTup, gmCons, gmN, gmNil, mRet, mJs, jsGo, mC, mFmt, mIte, mTs, mOp, oIs, isN, mIf, mSkip, mEx, mBM, fAppend, fMut, mLst, mTup, mCons, mNil, mCall, lenIs, mAnd, mOr, mNot, mAndV, mOrV, mNotV, mChain, mSl, mPt, mNo, mPar, mFld, mSfld, gmSub, mAug, mBrk, mCnt, mJoin, seqAt, lstAt, strsOf, List.map_cons, List.map_nil, List.length_cons, List.length_nil, List.length_append, List.replicate, List.cons_append, List.nil_append, List.append_assoc, List.append_nil, List.set, List.getElem?_cons_zero, List.getElem?_cons_succ, List.getElem?_nil, Nat.reduceAdd, Nat.reduceSub, Nat.reduceLeDiff, Nat.reduceEqDiff, Nat.reduceLT, Nat.reduceMul, Nat.add_assoc, Nat.zero_add, if_true, if_false, Option.map_some, Option.map_none, Option.bind_some, Bool.false_eq_true, Bool.not_true, Bool.not_false, at_app, at_app0, set_app, set_app0, h0, e, fStrI, fig_log fg, toStr_fig fg, oAdd]
  repeat (first | rw [if_pos (by (try simp only [app_len, l_steps, l_num]); omega)] | simp only [Bool.false_eq_true, if_false, if_true, Bool.not_true, Bool.not_false] | dsimp only)
  refine congrArg (fun y : Str => some (D.str y, μ)) ?_
  refine MR.str_ext ?_
  rw [line_list]
  simp only [app_list, wS, List.map_cons, List.map_nil, jn, List.append_assoc]
  rfl
theorem wf_lawText {h : Hb} (L : h.ok) (q : ∀ μ', Gr μ μ' → Q (.str (textH h)) μ') : WF m_law_text [habX h] μ Q := by
  have l3 := L.l3
  have wl := L.wl
  refine wf_def ?_
  show WS _ [some (habX h), none, none, none, none, none, none, none, none, none, none, none] _ _
  refine ws_seq (ws_asg (we_lst (wa_cons (we_eq (steps_e L rfl) (wa_nil ⟨by simp, wg_n ?_⟩)))))
  generalize hm1 : μ ++ [MO.lst [D.str (line (wS h.s))]] = μ1
  have a1 : μ1[μ.length]? = some (.lst [.str (line (wS h.s))]) := by rw [← hm1]; simp
  have g1 : Gr μ μ1 := by rw [← hm1]; exact gr_app
  have up : ∀ {m : Mem} {o : MO}, Gr μ m → Gr μ (m.set μ.length o) := fun hg => ⟨by simpa using hg.1, fun k hk => by rw [List.getElem?_set_ne (by omega)]; exact hg.2 k hk⟩
  refine ws_seq (ws_for (wi_T (we_eq (show mOp oIx (mVar 0) (mC (.int 0)) _ μ1 = some (.tup (h.ps.map Pn.d), μ1) from rfl) ⟨_, rfl, ?_⟩)))
  refine ws_forA (c := none) (as := h.ps) (f := Pn.d) (fun z e m => e.length = 12 ∧ e[0]? = some (some (habX h)) ∧ e[1]? = some (some (.ref μ.length)) ∧ Gr μ m ∧ m[μ.length]? = some (.lst (.str (line (wS h.s)) :: z.map fun p => .str (line (wF p))))) (fun _ _ _ _ => trivial) ?_ ?_
    ⟨rfl, rfl, rfl, g1, a1⟩
  · rintro z p r e m hz ⟨le, e0, e1, gm, am⟩
    have hp : p ∈ h.ps := by rw [hz]; simp
    refine wg_tup rfl (wgs_cons (wg_n (wgs_cons (wg_n (wgs_cons (wg_n (wgs_nil ?_)))))))
    generalize hE : ((e.set 2 (some (.str p.n))).set 3 (some (.str p.k))).set 4 (some (keepD p.q)) = E
    have le' : E.length = 12 := by rw [← hE]; simpa using le
    have k0 : E[0]? = some (some (habX h)) := by rw [← hE]; simpa using e0
    have k1 : E[1]? = some (some (.ref μ.length)) := by rw [← hE]; simpa using e1
    have k2 : E[2]? = some (some (.str p.n)) := by rw [← hE]; simp [le]
    have k3 : E[3]? = some (some (.str p.k)) := by rw [← hE]; simp [le]
    have k4 : E[4]? = some (some (keepD p.q)) := by rw [← hE]; simp [le]
    refine ⟨_, _, _, bm_app k1 am (by
      have := congrArg List.length hz
      simp only [List.length_append, List.length_cons] at this
      simp only [List.length_cons, List.length_map]
      omega) (folk_e (L.nm p hp) (L.pf p hp) k2 k3 k4), .inl ⟨.inl rfl, le', k0, k1, up gm, ?_⟩⟩
    rw [List.getElem?_set_self (lt_at am)]; simp
  · rintro e m ⟨le, e0, e1, gm, am⟩
    refine ws_seq (ws_for (wi_T (we_eq (show mOp oIx (mVar 0) (mC (.int 1)) _ m = some (.tup (h.ws.map Wy.d), m) from by unfold mOp mVar; rw [e0]; rfl) ⟨_, rfl, ?_⟩)))
    refine ws_forA (c := none) (as := h.ws) (f := Wy.d) (fun z e m => e.length = 12 ∧ e[1]? = some (some (.ref μ.length)) ∧ Gr μ m ∧ m[μ.length]? = some (.lst (.str (line (wS h.s)) :: (h.ps.map fun p => .str (line (wF p))) ++ z.map fun w => .str (line (wW w))))) (fun _ _ _ _ => trivial) ?_ ?_
      ⟨le, e1, gm, by simpa using am⟩
    · rintro z w r e m hz ⟨le, e1, gm, am⟩
      have hw : w ∈ h.ws := by rw [hz]; simp
      obtain ⟨⟨_, h1⟩, _, h2⟩ := ao_wd L.names (L.rd.inn w hw)
      have hf := L.rd.fit w hw
      refine wg_tup rfl (wgs_cons (wg_n (wgs_cons (wg_n (wgs_cons (wg_n (wgs_cons (wg_n (wgs_cons (wg_n (wgs_cons (wg_n (wgs_nil ?_)))))))))))))
      generalize hE : (((((e.set 5 (some (.str w.g))).set 6 (some (.str w.t))).set 7 (some (.int w.l))).set 8 (some (.int w.m))).set 9 (some (.bl w.lo))).set 10 (some (.bl w.tw)) = E
      have le' : E.length = 12 := by rw [← hE]; simpa using le
      have k1 : E[1]? = some (some (.ref μ.length)) := by rw [← hE]; simpa using e1
      have k5 : E[5]? = some (some (.str w.g)) := by rw [← hE]; simp [le]
      have k6 : E[6]? = some (some (.str w.t)) := by rw [← hE]; simp [le]
      have k7 : E[7]? = some (some (.int w.l)) := by rw [← hE]; simp [le]
      have k8 : E[8]? = some (some (.int w.m)) := by rw [← hE]; simp [le]
      have k9 : E[9]? = some (some (.bl w.lo)) := by rw [← hE]; simp [le]
      have k10 : E[10]? = some (some (.bl w.tw)) := by rw [← hE]; simp [le]
      obtain ⟨y, hy, hyl, hyc⟩ := way_e1 (μ := m) hf h1 h2 k5 k6 k7 k8
      refine ws_seq (ws_asg (we_eq hy (wg_n ?_)))
      have j1 : (E.set 11 (some (.str y)))[1]? = some (some (.ref μ.length)) := by simpa using k1
      refine ⟨_, _, _, bm_app j1 am (by
        have := congrArg List.length hz
        simp only [List.length_append, List.length_cons] at this
        simp only [List.length_append, List.length_cons, List.length_map]
        omega) (way_e2 (w := w) hyl hyc (by simpa using k9) (by simpa using k10) (by simp [le'])), .inl ⟨.inl rfl, by simpa using le', j1, up gm, ?_⟩⟩
      rw [List.getElem?_set_self (lt_at am)]; simp
    · rintro e m ⟨le, e1, gm, am⟩
      refine ws_ret (we_joinL (sep := feed) (ys := (linesH h.ps h.ws h.s).map line) (we_c ⟨rfl, we_varX ⟨_, e1, _, rfl, ?_, lines_fit L, q _ gm⟩⟩))
      rw [am]
      simp [linesH, Function.comp_def]
end T4

/-! T44: words read. -/
namespace T4
open PySem L2 MR
variable {μ : Mem} {Q : D → Mem → Prop}
theorem fig_cases {i : Int} (h : figD i) : i = 0 ∨ i = 1 ∨ i = 2 ∨ i = 3 ∨ i = 4 ∨ i = 5 ∨ i = 6 ∨ i = 7 ∨ i = 8 ∨ i = 9 := by
  unfold figD at h; omega
theorem num_int {i : Int} (h : figD i) : PySem.intText? (numS i) = some i := by
  rcases fig_cases h with rfl | rfl | rfl | rfl | rfl | rfl | rfl | rfl | rfl | rfl <;> decide +kernel
theorem num_cut {i : Int} : cutS (numS i) none (some 3) = numS i := by
  refine MR.str_ext ?_
  rfl
theorem read_fig {i : Int} (h : figD i) : m_read_figures [.str (numS i)] μ = some (.int i, μ) := by
  unfold m_read_figures
  simp only [mDef, mSeq, mAsg, mVar, gmTup, gmCons, gmN, gmNil, mRet, mJs, jsGo, mC, mFmt, mIte, mTs, mOp, oIs, isN, mIf, mSkip, mEx, mBM, fAppend, fMut, mLst, mTup, mCons, mNil, mCall, lenIs, mAnd, mOr, mNot, mAndV, mOrV, mNotV, mChain, mSl, mPt, mNo, mPar, mFld, mSfld, gmSub, mAug, mBrk, mCnt, mJoin, seqAt, lstAt, strsOf, List.map_cons, List.map_nil, List.length_cons, List.length_nil, List.length_append, List.replicate, List.cons_append, List.nil_append, List.append_assoc, List.append_nil, List.set, List.getElem?_cons_zero, List.getElem?_cons_succ, List.getElem?_nil, Nat.reduceAdd, Nat.reduceSub, Nat.reduceLeDiff, Nat.reduceEqDiff, Nat.reduceLT, Nat.reduceMul, Nat.add_assoc, Nat.zero_add, if_true, if_false, Option.map_some, Option.map_none, Option.bind_some, Bool.false_eq_true, Bool.not_true, Bool.not_false, at_app, at_app0, set_app, set_app0, oSl, fIntU]
  rw [if_pos (by rw [l_num]; decide)]
  dsimp only
  rw [num_cut, num_int h]
  dsimp only
  rw [if_pos (by rw [l_num]; decide)]
theorem num_ok {i : Int} (h : figD i) : PyData.strOk (numS i) = true := by
  rcases fig_cases h with rfl | rfl | rfl | rfl | rfl | rfl | rfl | rfl | rfl | rfl <;> decide +kernel
theorem num_ne {i : Int} (z : Str) (h : z.length ≠ 1) : (numS i == z) = false := by
  rw [beq_eq_false_iff_ne]
  intro e
  exact h (by rw [← e]; rfl)
theorem figs_in {i : Int} (h : figD i) : (48 + i.toNat) ∈ (Str.ofString "0123456789").cps.toList := by
  rcases fig_cases h with rfl | rfl | rfl | rfl | rfl | rfl | rfl | rfl | rfl | rfl <;> decide +kernel
theorem wf_isFig {i : Int} (h : figD i) (q : ∀ μ', Gr μ μ' → Q (.bl true) μ') : WF m_is_figures [.str (numS i)] μ Q := by
  refine wf_def ?_
  show WS _ [some (.str (numS i)), none] _ _
  refine ws_ret (we_andV (we_op (we_varX ⟨_, rfl, we_c (wo_neS (num_ok h) (by decide +kernel) ⟨_, rfl, fun _ => ?_, fun z => ?_⟩)⟩)))
  · refine we_andV (we_call (wa_cons ?_))
    refine we_lcA0 (as := [48 + i.toNat]) (f := fun c => .str ⟨#[c]⟩) (F := fun _ => .bl true) ⟨_, none, μ, rfl, rfl, fun _ _ => trivial, by simp, fun c hc m hm => wg_n (we_op (we_varX ⟨_, rfl, we_c ⟨_, m, rfl, ?_, Gr.refl _⟩⟩)), fun m hm ha => wa_nil ?_⟩
    · rw [List.mem_singleton.mp hc, decide_eq_true (figs_in h)]; rfl
    · refine wf_all (xs := [.non]) ha ⟨_, rfl, fun _ => ?_, fun z => by cases z⟩
      refine we_orV (we_op (we_varX ⟨_, rfl, we_c (wo_eqS (num_ok h) (by decide +kernel) ⟨_, rfl, fun hz => ?_, fun hz => ?_⟩)⟩))
      · refine we_op (we_op (we_varX ⟨_, rfl, we_c (wo_ixS (by rw [l_num]; decide) (i := 0) (c := 48 + i.toNat) rfl (we_c ?_))⟩))
        refine wo_neS (num_ok h) (by decide +kernel) ?_
        have : ((⟨#[48 + i.toNat]⟩ : Str) == ("0" : Str)) = false := hz
        rw [this]
        exact q m hm
      · rw [show D.bl true = D.bl true from rfl]; exact q m hm
  · exfalso
    rw [num_ne _ (by decide +kernel)] at z
    cases z
theorem ix0 {a : Nat} {xs : List D} {i : Nat} {d : D} (hm : μ[a]? = some (.lst xs)) (hd : xs[i]? = some d) : oIx (.ref a) (.int (i : Int)) μ = some (d, μ) := by
  unfold oIx lstAt
  dsimp only
  rw [hm]
  dsimp only
  rw [Option.bind_some, MR.atI_nat hd]
  rfl
theorem wf_rdSteps {a : Nat} {s : Int} (h : figD s) (hm : μ[a]? = some (.lst [.str (numS s)])) (q : ∀ μ', Gr μ μ' → Q (.int s) μ') : WF m_read_steps [.ref a] μ Q := by
  have h0 : oIx (.ref a) (.int 0) μ = some (.str (numS s), μ) := ix0 (i := 0) hm rfl
  refine wf_def ?_
  show WS _ [some (.ref a)] _ _
  refine ws_seq (ws_if (wt_or (wt_ts (we_op (we_call (wa_cons (we_varX ⟨_, rfl, wa_nil (wf_len hm (we_c (wo_ne rfl rfl rfl rfl ⟨_, rfl, fun _ => ?_, fun z => ?_⟩)))⟩)))))))
  rotate_left
  · cases z
  refine wt_not (wt_ts (we_call (wa_cons (we_op (we_varX ⟨_, rfl, we_c ⟨_, _, h0, wa_nil (wf_lenIs rfl (wf_isFig h fun m1 g1 => ⟨_, rfl, fun z => (by cases z), fun _ => ws_skip ?_⟩))⟩⟩)))))
  refine ws_ret (we_call (wa_cons (we_op (we_varX ⟨_, rfl, we_c ⟨_, _, ix0 (i := 0) (g1.at_ hm) rfl, wa_nil (wf_lenIs rfl (wf_eq (read_fig h) (q _ g1)))⟩⟩))))
theorem dash_ok : PyData.strOk ("-" : Str) = true := by decide +kernel
theorem num_dash {i : Int} (h : figD i) : (numS i == ("-" : Str)) = false := by
  rcases fig_cases h with rfl | rfl | rfl | rfl | rfl | rfl | rfl | rfl | rfl | rfl <;> decide +kernel
theorem wf_rdFolk {a : Nat} {p : Pn} (hf : p.fit) (hm : μ[a]? = some (.lst [.str p.n, .str p.k, .str (keepS p.q)])) (q : ∀ μ', Gr μ μ' → Q p.d μ') : WF m_read_folk [.ref a] μ Q := by
  refine wf_def ?_
  show WS _ [some (.ref a)] _ _
  refine ws_seq (ws_if (wt_or (wt_ts (we_op (we_call (wa_cons (we_varX ⟨_, rfl, wa_nil (wf_len hm (we_c (wo_ne rfl rfl rfl rfl ⟨_, rfl, fun _ => ?_, fun z => ?_⟩)))⟩)))))))
  rotate_left
  · cases z
  cases hq : p.q with
  | none =>
    rw [hq] at hm
    refine wt_and (wt_ts (we_op (we_op (we_varX ⟨_, rfl, we_c ⟨_, _, ix0 (i := 2) hm rfl, we_c (wo_neS dash_ok dash_ok ⟨_, rfl, fun z => ?_, fun _ => ⟨fun z => (by cases z), fun _ => ws_skip ?_⟩⟩)⟩⟩))))
    · exact absurd z (by decide +kernel)
    refine ws_ret (we_tup (wa_cons (we_op (we_varX ⟨_, rfl, we_c ⟨_, _, ix0 (i := 0) hm rfl, wa_cons (we_op (we_varX ⟨_, rfl, we_c ⟨_, _, ix0 (i := 1) hm rfl, wa_cons ?_⟩⟩))⟩⟩))))
    refine we_ite (wt_ts (we_op (we_op (we_varX ⟨_, rfl, we_c ⟨_, _, ix0 (i := 2) hm rfl, we_c (wo_eqS dash_ok dash_ok ⟨_, rfl, fun _ => we_c (wa_nil ⟨by simp, ?_⟩), fun z => ?_⟩)⟩⟩))))
    · have e : p.d = .tup [.str p.n, .str p.k, .non] := by unfold Pn.d; rw [hq]; rfl
      rw [← e]; exact q _ (Gr.refl _)
    · exact absurd z (by decide +kernel)
  | some i =>
    have fg := keep_fig hf hq
    rw [hq] at hm
    refine wt_and (wt_ts (we_op (we_op (we_varX ⟨_, rfl, we_c ⟨_, _, ix0 (i := 2) hm rfl, we_c (wo_neS (num_ok fg) dash_ok ⟨_, rfl, fun _ => ?_, fun z => ?_⟩)⟩⟩))))
    · refine wt_not (wt_ts (we_call (wa_cons (we_op (we_varX ⟨_, rfl, we_c ⟨_, _, ix0 (i := 2) hm rfl, wa_nil (wf_lenIs rfl (wf_isFig fg fun m1 g1 => ⟨_, rfl, fun z => (by cases z), fun _ => ws_skip ?_⟩))⟩⟩)))))
      have hm1 := g1.at_ hm
      refine ws_ret (we_tup (wa_cons (we_op (we_varX ⟨_, rfl, we_c ⟨_, _, ix0 (i := 0) hm1 rfl, wa_cons (we_op (we_varX ⟨_, rfl, we_c ⟨_, _, ix0 (i := 1) hm1 rfl, wa_cons ?_⟩⟩))⟩⟩))))
      refine we_ite (wt_ts (we_op (we_op (we_varX ⟨_, rfl, we_c ⟨_, _, ix0 (i := 2) hm1 rfl, we_c (wo_eqS (num_ok fg) dash_ok ⟨_, rfl, fun z => ?_, fun _ => ?_⟩)⟩⟩))))
      · exact absurd z (by rw [show (keepS (some i) == Str.ofString "-") = false from num_dash fg]; decide)
      · refine we_call (wa_cons (we_op (we_varX ⟨_, rfl, we_c ⟨_, _, ix0 (i := 2) hm1 rfl, wa_nil (wf_lenIs rfl (wf_eq (read_fig fg) (wa_nil ⟨by simp, ?_⟩)))⟩⟩)))
        have e : p.d = .tup [.str p.n, .str p.k, .int i] := by unfold Pn.d; rw [hq]; rfl
        rw [← e]; exact q _ g1
    · exact absurd z (by rw [show (keepS (some i) == Str.ofString "-") = false from num_dash fg]; decide)
def tlW (w : Wy) : List Str := (if w.lo then [("loses" : Str)] else []) ++ (if w.tw then [("twice" : Str)] else [])
def rdW (w : Wy) : List D := [.str w.g, .str w.t, .str (numS w.l), .str (numS w.m)] ++ (tlW w).map D.str
theorem cut4 {a b c d : D} {r : List D} (h : r.length ≤ 2) : cut (a :: b :: c :: d :: r) (some 4) none = r := by
  match r, h with
  | [], _ => rfl
  | [_], _ => rfl
  | [_, _], _ => rfl
theorem toPy_at {k : Nat} {xs : List D} {n : Nat} (hm : μ[n]? = some (.lst xs)) : toPy μ (k + 1) (.ref n) = (xs.mapM (toPy μ k)).map .list := by
  rw [toPy, hm]
theorem sl4 {a : Nat} {w : Wy} {env : Sl} (h0 : env[0]? = some (some (.ref a))) (hm : μ[a]? = some (.lst (rdW w))) : mSl (mVar 0) (mPt (mC (.int 4))) mNo env μ = some (.ref μ.length, μ ++ [.lst ((tlW w).map D.str)]) := by
  have e : cut (rdW w) (some 4) none = (tlW w).map D.str := cut4 (by unfold tlW; cases w.lo <;> cases w.tw <;> simp)
  simp only [mDef, mSeq, mAsg, mVar, gmTup, gmCons, gmN, gmNil, mRet, mJs, jsGo, mC, mFmt, mIte, mTs, mOp, oIs, isN, mIf, mSkip, mEx, mBM, fAppend, fMut, mLst, mTup, mCons, mNil, mCall, lenIs, mAnd, mOr, mNot, mAndV, mOrV, mNotV, mChain, mSl, mPt, mNo, mPar, mFld, mSfld, gmSub, mAug, mBrk, mCnt, mJoin, seqAt, lstAt, strsOf, List.map_cons, List.map_nil, List.length_cons, List.length_nil, List.length_append, List.replicate, List.cons_append, List.nil_append, List.append_assoc, List.append_nil, List.set, List.getElem?_cons_zero, List.getElem?_cons_succ, List.getElem?_nil, Nat.reduceAdd, Nat.reduceSub, Nat.reduceLeDiff, Nat.reduceEqDiff, Nat.reduceLT, Nat.reduceMul, Nat.add_assoc, Nat.zero_add, if_true, if_false, Option.map_some, Option.map_none, Option.bind_some, Bool.false_eq_true, Bool.not_true, Bool.not_false, at_app, at_app0, set_app, set_app0, h0, hm, oSl, e]
theorem way_in {a : Nat} {w : Wy} {env : Sl} (h0 : env[0]? = some (some (.ref a))) (hm : μ[a]? = some (.lst (rdW w))) : ∃ xs, mOp (oInT true) (mSl (mVar 0) (mPt (mC (.int 4))) mNo) (mTup (mCons (mLst mNil) (mCons (mLst (mCons (mC (.str "loses")) mNil)) (mCons (mLst (mCons (mC (.str "twice")) mNil)) (mCons (mLst (mCons (mC (.str "loses")) (mCons (mC (.str "twice")) mNil))) mNil))))) env μ = some (.bl false, μ ++ xs) := by
  generalize hX : (tlW w).map D.str = X
  refine ⟨[.lst X, .lst [], .lst [.str "loses"], .lst [.str "twice"], .lst [.str "loses", .str "twice"]], ?_⟩
  simp only [mDef, mSeq, mAsg, gmTup, gmCons, gmN, gmNil, mRet, mJs, jsGo, mC, mFmt, mIte, mTs, mOp, oIs, isN, mIf, mSkip, mEx, mBM, fAppend, fMut, mLst, mTup, mCons, mNil, mCall, lenIs, mAnd, mOr, mNot, mAndV, mOrV, mNotV, mChain, mPar, mFld, mSfld, gmSub, mAug, mBrk, mCnt, mJoin, seqAt, lstAt, strsOf, List.map_cons, List.map_nil, List.length_cons, List.length_nil, List.length_append, List.replicate, List.cons_append, List.nil_append, List.append_assoc, List.append_nil, List.set, List.getElem?_cons_zero, List.getElem?_cons_succ, List.getElem?_nil, Nat.reduceAdd, Nat.reduceSub, Nat.reduceLeDiff, Nat.reduceEqDiff, Nat.reduceLT, Nat.reduceMul, Nat.add_assoc, Nat.zero_add, if_true, if_false, Option.map_some, Option.map_none, Option.bind_some, Bool.false_eq_true, Bool.not_true, Bool.not_false, at_app, at_app0, set_app, set_app0, sl4 h0 hm, hX]
  generalize hM : μ ++ [MO.lst X, .lst [], .lst [.str "loses"], .lst [.str "twice"], .lst [.str "loses", .str "twice"]] = M
  have m0 : M[μ.length]? = some (.lst X) := by rw [← hM, at_app0]; rfl
  have m1 : M[μ.length + 1]? = some (.lst []) := by rw [← hM, at_app]; rfl
  have m2 : M[μ.length + 2]? = some (.lst [.str "loses"]) := by rw [← hM, at_app]; rfl
  have m3 : M[μ.length + 3]? = some (.lst [.str "twice"]) := by rw [← hM, at_app]; rfl
  have m4 : M[μ.length + 4]? = some (.lst [.str "loses", .str "twice"]) := by rw [← hM, at_app]; rfl
  have p1 : toPy M 39 (.ref (μ.length + 1)) = some (.list []) := by rw [toPy_at m1]; rfl
  have p2 : toPy M 39 (.ref (μ.length + 2)) = some (.list [.str "loses"]) := by rw [toPy_at m2]; rfl
  have p3 : toPy M 39 (.ref (μ.length + 3)) = some (.list [.str "twice"]) := by rw [toPy_at m3]; rfl
  have p4 : toPy M 39 (.ref (μ.length + 4)) = some (.list [.str "loses", .str "twice"]) := by rw [toPy_at m4]; rfl
  have pt : toPy M 40 (.tup [.ref (μ.length + 1), .ref (μ.length + 2), .ref (μ.length + 3), .ref (μ.length + 4)]) = some (.tuple [.list [], .list [.str "loses"], .list [.str "twice"], .list [.str "loses", .str "twice"]]) := by
    rw [toPy]
    simp only [List.mapM_cons, List.mapM_nil, p1, p2, p3, p4]
    rfl
  have p0 : toPy M 40 (.ref μ.length) = some (.list ((tlW w).map .str)) := by
    rw [toPy_at m0, ← hX, mapM_strs]
    rfl
  unfold oInT
  rw [p0, pt]
  dsimp only
  unfold tlW
  cases w.lo <;> cases w.tw <;> (rw [if_pos (by decide +kernel)]; rfl)
theorem in_tl {n : Nat} {w : Wy} {z : Str} {b : Bool} (hz : PyData.strOk z = true) (hm : μ[n]? = some (.lst ((tlW w).map D.str))) (hb : decide (z ∈ tlW w) = b) : oIn false (.str z) (.ref n) μ = some (.bl b, μ) := by
  have hs : ∀ t ∈ tlW w, PyData.strOk t = true := fun t ht => by
    unfold tlW at ht
    rcases List.mem_append.mp ht with h | h <;> split at h
    · rw [List.mem_singleton.mp h]; decide +kernel
    · cases h
    · rw [List.mem_singleton.mp h]; decide +kernel
    · cases h
  obtain ⟨d, m, e, q⟩ := wo_inL (Q := fun d m => d = .bl b ∧ m = μ) hz hs hm ⟨by rw [hb], rfl⟩
  rw [e, q.1, q.2]
theorem lt4 {a : Nat} {w : Wy} (hm : μ[a]? = some (.lst (rdW w))) (q : Q (.bl false) μ) : WE (mOp oLt (mCall fLen (mCons (mVar 0) mNil)) (mC (.int 4))) [some (.ref a), none, none] μ Q := by
  refine we_op (we_call (wa_cons (we_varX ⟨_, rfl, wa_nil (wf_len hm (we_c (wo_lt ?_)))⟩)))
  rw [decide_eq_false (by unfold rdW; simp; omega)]
  exact q
theorem wf_rdWay {a : Nat} {w : Wy} (hf : w.fit) (hm : μ[a]? = some (.lst (rdW w))) (q : ∀ μ', Gr μ μ' → Q w.d μ') : WF m_read_way [.ref a] μ Q := by
  obtain ⟨f1, f2⟩ := way_fig hf
  refine wf_def ?_
  show WS _ [some (.ref a), none, none] _ _
  refine ws_seq (ws_if (wt_or (wt_ts (lt4 hm ⟨_, rfl, fun _ => wt_or (wt_not (wt_ts (we_call (wa_cons (we_op (we_varX ⟨_, rfl, we_c ⟨_, _, ix0 (i := 2) hm rfl, wa_nil (wf_lenIs rfl (wf_isFig f1 fun m1 g1 => ⟨_, rfl, fun _ => ?_, (fun z => nomatch z)⟩))⟩⟩)))))), (fun z => nomatch z)⟩))))
  have hm1 := g1.at_ hm
  refine wt_not (wt_ts (we_call (wa_cons (we_op (we_varX ⟨_, rfl, we_c ⟨_, _, ix0 (i := 3) hm1 rfl, wa_nil (wf_lenIs rfl (wf_isFig f2 fun m2 g2 => ⟨_, rfl, (fun z => nomatch z), fun _ => ws_skip ?_⟩))⟩⟩)))))
  have hm2 := g2.at_ hm1
  obtain ⟨xs, e⟩ := way_in (w := w) (env := [some (.ref a), none, none]) rfl hm2
  refine ws_seq (ws_if (wt_ts (we_eq e ⟨_, rfl, (fun z => nomatch z), fun _ => ws_skip ?_⟩)))
  have g3 : Gr μ (m2 ++ xs) := (g1.trans g2).trans gr_app
  generalize m2 ++ xs = m3 at g3
  have hm3 := g3.at_ hm
  refine ws_seq (ws_par ?_)
  refine wa_cons (we_call (wa_cons (we_op (we_varX ⟨_, rfl, we_c ⟨_, _, ix0 (i := 2) hm3 rfl, wa_nil (wf_lenIs rfl (wf_eq (read_fig f1) ?_))⟩⟩))))
  refine wa_cons (we_call (wa_cons (we_op (we_varX ⟨_, rfl, we_c ⟨_, _, ix0 (i := 3) hm3 rfl, wa_nil (wf_lenIs rfl (wf_eq (read_fig f2) (wa_nil ⟨_, _, rfl, ?_⟩)))⟩⟩))))
  refine ws_ret (we_tup (wa_cons (we_op (we_varX ⟨_, rfl, we_c ⟨_, _, ix0 (i := 0) hm3 rfl, wa_cons (we_op (we_varX ⟨_, rfl, we_c ⟨_, _, ix0 (i := 1) hm3 rfl, ?_⟩⟩))⟩⟩))))
  refine wa_cons (we_varX ⟨_, rfl, wa_cons (we_varX ⟨_, rfl, wa_cons (we_op (we_c (we_eq (sl4 rfl hm3) ⟨_, _, in_tl (b := w.lo) (by decide +kernel) at_app0 ?_, wa_cons (we_op (we_c (we_eq (sl4 rfl (gr_app.at_ hm3)) ⟨_, _, in_tl (b := w.tw) (by decide +kernel) at_app0 ?_, wa_nil ⟨by simp, ?_⟩⟩)))⟩)))⟩)⟩)
  · unfold tlW; cases w.lo <;> cases w.tw <;> decide +kernel
  · unfold tlW; cases w.lo <;> cases w.tw <;> decide +kernel
  · exact q _ ((g3.trans gr_app).trans gr_app)
end T4

/-! T45: lines read, habits read. -/
namespace T4
open PySem L2 MR
variable {μ : Mem} {Q : D → Mem → Prop}
inductive It where
  | sI (i : Int) | pI (p : Pn) | wI (w : Wy)
def It.words : It → List Str
  | .sI i => wS i | .pI p => wF p | .wI w => wW w
def It.kw : It → Str
  | .sI _ => "steps" | .pI _ => "folk" | .wI _ => "way"
def It.d : It → D
  | .sI i => .int i | .pI p => p.d | .wI w => w.d
def It.ok : It → Prop
  | .sI i => figD i | .pI p => Name p.n ∧ p.fit | .wI w => w.fit ∧ (Wd w.g ∧ w.g.length ≤ 8) ∧ Wd w.t ∧ w.t.length ≤ 8
def It.rest : It → List D
  | .sI i => [.str (numS i)] | .pI p => [.str p.n, .str p.k, .str (keepS p.q)] | .wI w => rdW w
def It.fn : It → Nat
  | .sI _ => 3 | .pI _ => 4 | .wI _ => 5
def items (h : Hb) : List It := .sI h.s :: (h.ps.map .pI ++ h.ws.map .wI)
theorem items_lines (h : Hb) : (items h).map It.words = linesH h.ps h.ws h.s := by
  simp [items, linesH, It.words, Function.comp_def]
theorem items_ok {h : Hb} (L : h.ok) : ∀ i ∈ items h, i.ok := fun i hi => by
  rcases List.mem_cons.mp hi with rfl | hi
  · exact steps_fig L
  · rcases List.mem_append.mp hi with hi | hi
    · obtain ⟨p, hp, rfl⟩ := List.mem_map.mp hi
      exact ⟨L.nm p hp, L.pf p hp⟩
    · obtain ⟨w, hw, rfl⟩ := List.mem_map.mp hi
      exact ⟨L.rd.fit w hw, ao_wd L.names (L.rd.inn w hw)⟩
theorem It.wd {i : It} (h : i.ok) : ∀ z ∈ i.words, Wd z := by
  cases i with
  | sI i =>
    intro z hz
    (rcases List.mem_cons.mp hz with rfl | hz)
    · exact wd_c (by decide +kernel)
    · rw [List.mem_singleton.mp hz]; exact wd_num h
  | pI p => exact wd_f h.1 h.2
  | wI w => exact wd_w h.1 h.2.1.1 h.2.2.1
theorem It.words_map (i : It) : i.words.map D.str = .str i.kw :: i.rest := by
  cases i with
  | sI i => rfl
  | pI p => rfl
  | wI w => simp [It.words, wW, It.kw, It.rest, rdW, tlW]
theorem It.words_ne (i : It) : i.words ≠ [] := by cases i <;> simp [It.words, wS, wF, wW]
/-- the reader of an item tells it -/
theorem wf_read {i : It} (h : i.ok) {a : Nat} (hm : μ[a]? = some (.lst i.rest)) (q : ∀ μ', Gr μ μ' → Q i.d μ') : ∃ f, fvT i.fn = some (1, f) ∧ WF f [.ref a] μ Q := by
  cases i with
  | sI i => exact ⟨_, rfl, wf_rdSteps h hm q⟩
  | pI p => exact ⟨_, rfl, wf_rdFolk h.2 hm q⟩
  | wI w => exact ⟨_, rfl, wf_rdWay h.1 hm q⟩
theorem tbR (i : It) : tb_READERS i.kw = some (.cl i.fn) := by cases i <;> rfl
def ahd : It → List Str
  | .sI _ => [""] | .pI _ => ["steps", "folk"] | .wI _ => ["steps", "folk", "way"]
theorem tbA (i : It) : tb_AHEAD i.kw = some (.tup ((ahd i).map D.str)) := by cases i <;> rfl
theorem kw_ok (i : It) : PyData.strOk i.kw = true := by cases i <;> (dsimp only [It.kw]; decide +kernel)
def lastK (z : List It) : Str := match z.getLast? with
  | none => ""
  | some i => i.kw
theorem lastK_ok (z : List It) : PyData.strOk (lastK z) = true := by
  unfold lastK
  split
  · decide +kernel
  · exact kw_ok _
theorem lastK_app (z : List It) (i : It) : lastK (z ++ [i]) = i.kw := by simp [lastK]
/-- each line may stand behind the one ahead -/
def Ord (l : List It) : Prop := ∀ z i r, l = z ++ i :: r → lastK z ∈ ahd i
theorem ord_items (h : Hb) : Ord (items h) := fun z i r e => by
  unfold items at e
  cases z with
  | nil =>
    injection e with e1 e2
    subst e1
    simp [lastK, ahd]
  | cons y z =>
    injection e with e1 e2
    subst e1
    rcases List.append_eq_append_iff.mp e2 with ⟨a, h1, h2⟩ | ⟨a, h1, h2⟩
    · -- z = ps ++ a, ws = a ++ i :: r
      have hi : i ∈ h.ws.map It.wI := by rw [h2]; simp
      obtain ⟨w, _, rfl⟩ := List.mem_map.mp hi
      have : lastK (.sI h.s :: z) = "steps" ∨ lastK (.sI h.s :: z) = "folk" ∨ lastK (.sI h.s :: z) = "way" := by
        rw [h1]
        rcases List.eq_nil_or_concat a with rfl | ⟨b, x, rfl⟩
        · rcases List.eq_nil_or_concat (h.ps.map It.pI) with e | ⟨b, x, e⟩
          · rw [e]; exact .inl rfl
          · have : x ∈ h.ps.map It.pI := by rw [e]; simp
            obtain ⟨p, _, rfl⟩ := List.mem_map.mp this
            rw [e, List.append_nil, List.concat_eq_append, ← List.cons_append, lastK_app]; exact .inr (.inl rfl)
        · have : x ∈ h.ws.map It.wI := by rw [h2]; simp
          obtain ⟨w, _, rfl⟩ := List.mem_map.mp this
          rw [List.concat_eq_append, ← List.append_assoc, ← List.cons_append, lastK_app]; exact .inr (.inr rfl)
      show lastK (.sI h.s :: z) ∈ ahd (.wI w)
      rcases this with e | e | e <;> rw [e] <;> simp [ahd]
    · -- ps = z ++ a
      cases a with
      | nil =>
        have hi : i ∈ h.ws.map It.wI := by
          have : i :: r = h.ws.map It.wI := by simpa using h2
          rw [← this]; simp
        obtain ⟨w, _, rfl⟩ := List.mem_map.mp hi
        have : lastK (.sI h.s :: z) = "steps" ∨ lastK (.sI h.s :: z) = "folk" := by
          rcases List.eq_nil_or_concat z with rfl | ⟨b, x, rfl⟩
          · exact .inl rfl
          · have : x ∈ h.ps.map It.pI := by rw [h1]; simp
            obtain ⟨p, _, rfl⟩ := List.mem_map.mp this
            rw [List.concat_eq_append, ← List.cons_append, lastK_app]; exact .inr rfl
        rcases this with e | e <;> rw [e] <;> simp [ahd]
      | cons x a =>
        have e3 : i = x := by
          have := h2
          rw [List.cons_append] at this
          injection this with e4
        subst e3
        have hi : i ∈ h.ps.map It.pI := by rw [h1]; simp
        obtain ⟨p, _, rfl⟩ := List.mem_map.mp hi
        have : lastK (.sI h.s :: z) = "steps" ∨ lastK (.sI h.s :: z) = "folk" := by
          rcases List.eq_nil_or_concat z with rfl | ⟨b, x, rfl⟩
          · exact .inl rfl
          · have : x ∈ h.ps.map It.pI := by rw [h1]; simp
            obtain ⟨p, _, rfl⟩ := List.mem_map.mp this
            rw [List.concat_eq_append, ← List.cons_append, lastK_app]; exact .inr rfl
        rcases this with e | e <;> rw [e] <;> simp [ahd]
end T4

/-! T46: texts of habits read. -/
namespace T4
open PySem L2 MR
variable {μ : Mem} {Q : D → Mem → Prop}
theorem ways_len {h : Hb} (L : h.ok) : h.ws.length ≤ 18 := by
  have l3 : (h.ps.map Pn.n).length ≤ 3 := by rw [List.length_map]; exact L.l3
  generalize hts : h.ps.map Pn.n = ts at l3
  have hp := pig (h.ws.map Wy.ends) (ts.flatMap fun t => (t, house) :: (house, t) :: ts.map fun u => (t, u)) L.rd.nd fun e he => by
    obtain ⟨w, hw, rfl⟩ := List.mem_map.mp he
    obtain ⟨t, ht, h1⟩ := L.rd.inn w hw
    rw [hts] at ht h1
    rw [List.mem_flatMap]
    refine ⟨t, ht, ?_⟩
    rcases h1 with h1 | h1 | ⟨h1, h2, _⟩
    · rw [h1]; simp
    · rw [h1]; simp
    · refine List.mem_cons_of_mem _ (List.mem_cons_of_mem _ (List.mem_map.mpr ⟨w.ends.2, h2, ?_⟩))
      rw [← h1]
  rw [List.length_map] at hp
  refine Nat.le_trans hp ?_
  match ts, l3 with
  | [], _ => simp
  | [a], _ => simp
  | [a, b], _ => simp
  | [a, b, c], _ => simp
theorem feed_ne : feed.length = 1 := by decide +kernel
theorem wf_lines {h : Hb} (L : h.ok) (q : Q (.ref μ.length) (μ ++ [.lst ((items h).map fun i => .str (line i.words))])) : WF m_lines_of [.str (textH h), .int 40] μ Q := by
  have hl := textH_len L
  have e1 : mSplit (mVar 0) (mC (.str "\n")) [some (.str (textH h)), some (.int 40), none] μ = some (.ref μ.length, μ ++ [.lst ((items h).map fun i => .str (line i.words))]) := by
    unfold mSplit
    show (if _ then _ else _) = _
    rw [if_neg (by rw [show (Str.ofString "\n").length = 1 from feed_ne]; omega)]
    rw [show Txt.split (textH h) (Str.ofString "\n") = _ from textH_split L, ← items_lines]
    simp [Function.comp_def]
  refine wf_def ?_
  show WS _ [some (.str (textH h)), some (.int 40), none] _ _
  refine ws_seq (ws_if (wt_not (wt_ts (we_call (wa_cons (we_varX ⟨_, rfl, wa_cons (we_c (wa_nil ⟨.bl true, μ, rfl, _, rfl, (fun z => nomatch z), fun _ => ws_skip ?_⟩))⟩))))))
  refine ws_seq (ws_asg (we_eq e1 (wg_n ?_)))
  refine ws_seq (ws_if (wt_ts (we_op (we_call (wa_cons (we_varX ⟨_, rfl, wa_nil (wf_len at_app0 (we_varX ⟨_, rfl, wo_gt ⟨_, rfl, fun z => ?_, fun _ => ws_skip (ws_ret (we_varX ⟨_, rfl, q⟩))⟩⟩))⟩))))))
  exfalso
  have := of_decide_eq_true z
  have l3 := L.l3
  have wl := ways_len L
  simp only [items, List.length_map, List.length_cons, List.length_append] at this
  omega
/-! ### the loop -/
theorem enumD_zip {α : Type} (g : α → D) : ∀ (xs : List α), enumD (xs.map g) = (xs.zipIdx).map fun x => .tup [.int (x.2 : Nat), g x.1] := by
  intro xs
  unfold enumD
  (refine List.ext_getElem? fun k => ?_)
  rw [List.getElem?_map, List.getElem?_zipIdx, List.getElem?_zipWith, List.getElem?_map]
  by_cases hk : k < xs.length
  · rw [List.getElem?_range (by simpa using hk)]
    cases xs[k]? <;> simp
  · have : xs[k]? = none := by simpa using hk
    rw [this]
    simp
def cS (z : List It) : List D := z.filterMap fun | .sI i => some (.int i) | _ => none
def cF (z : List It) : List D := z.filterMap fun | .pI p => some p.d | _ => none
def cW (z : List It) : List D := z.filterMap fun | .wI w => some w.d | _ => none
/-- where an item goes to, what is there behind it -/
abbrev toldK (n : Nat) : List (Str × D) := [("steps", .ref (n + 1)), ("folk", .ref (n + 2)), ("way", .ref (n + 3))]
def toldD (n : Nat) : MO := .dct (toldK n)
structure Tl (μ : Mem) (z : List It) (m : Mem) : Prop where
  len : μ.length + 4 ≤ m.length
  old : ∀ k, k < μ.length → m[k]? = μ[k]?
  dct : m[μ.length]? = some (toldD μ.length)
  a1 : m[μ.length + 1]? = some (.lst (cS z))
  a2 : m[μ.length + 2]? = some (.lst (cF z))
  a3 : m[μ.length + 3]? = some (.lst (cW z))
theorem Tl.gr {z : List It} {m m' : Mem} (h : Tl μ z m) (g : Gr m m') : Tl μ z m' :=
  ⟨Nat.le_trans h.len g.1, fun k hk => by rw [g.2 k (by have := h.len; omega)]; exact h.old k hk, g.at_ h.dct, g.at_ h.a1, g.at_ h.a2, g.at_ h.a3⟩
def off : It → Nat
  | .sI _ => 1 | .pI _ => 2 | .wI _ => 3
def cI : It → List It → List D
  | .sI _ => cS | .pI _ => cF | .wI _ => cW
theorem Tl.at_ {z : List It} {m : Mem} (h : Tl μ z m) (i : It) : m[μ.length + off i]? = some (.lst (cI i z)) := by cases i <;> first | exact h.a1 | exact h.a2 | exact h.a3
theorem look_told (i : It) (n : Nat) : (toldK n).lookup i.kw = some (.ref (n + off i)) := by cases i <;> rfl
theorem Tl.add {z : List It} {m : Mem} (h : Tl μ z m) (i : It) : Tl μ (z ++ [i]) (m.set (μ.length + off i) (.lst (cI i z ++ [i.d]))) := by
  have hl := h.len
  cases i with
  | sI i => exact ⟨by simpa using hl, fun k hk => by rw [List.getElem?_set_ne (by simp only [off]; omega)]; exact h.old k hk, by rw [List.getElem?_set_ne (by simp [off])]; exact h.dct,
      by rw [show off (.sI i) = 1 from rfl, List.getElem?_set_self (by omega)]; simp [cS, cI, It.d], by rw [List.getElem?_set_ne (by simp [off])]; simpa [cF] using h.a2, by rw [List.getElem?_set_ne (by simp [off])]; simpa [cW] using h.a3⟩
  | pI p => exact ⟨by simpa using hl, fun k hk => by rw [List.getElem?_set_ne (by simp only [off]; omega)]; exact h.old k hk, by rw [List.getElem?_set_ne (by simp [off])]; exact h.dct,
      by rw [List.getElem?_set_ne (by simp [off])]; simpa [cS] using h.a1, by rw [show off (.pI p) = 2 from rfl, List.getElem?_set_self (by omega)]; simp [cF, cI, It.d], by rw [List.getElem?_set_ne (by simp [off])]; simpa [cW] using h.a3⟩
  | wI w => exact ⟨by simpa using hl, fun k hk => by rw [List.getElem?_set_ne (by simp only [off]; omega)]; exact h.old k hk, by rw [List.getElem?_set_ne (by simp [off])]; exact h.dct,
      by rw [List.getElem?_set_ne (by simp [off])]; simpa [cS] using h.a1, by rw [List.getElem?_set_ne (by simp [off])]; simpa [cF] using h.a2, by rw [show off (.wI w) = 3 from rfl, List.getElem?_set_self (by omega)]; simp [cW, cI, It.d]⟩
theorem wg_star {b : MTgs} {k : Nat} {x : D} {xs : List D} {env : Sl} {QG : Sl → Mem → Prop} (hm : μ[k]? = some (.lst (x :: xs))) (h : WGs b [x, .ref μ.length] env (μ ++ [.lst xs]) QG) : WG (gmStar b) (.ref k) env μ QG := by
  obtain ⟨e, m, h1, q⟩ := h
  exact ⟨e, m, by unfold gmStar; dsimp only; rw [hm]; exact h1, q⟩
theorem It.words_len (i : It) : i.words.length ≤ 10 := by
  cases i with
  | sI i => simp [It.words, wS]
  | pI p => simp [It.words, wF]
  | wI w =>
    simp only [It.words, wW]
    cases w.lo <;> cases w.tw <;> simp
theorem split_e {i : It} (h : i.ok) {env : Sl} {j : Nat} (h4 : env[j]? = some (some (.str (line i.words)))) : mSplit (mVar j) (mC (.str " ")) env μ = some (.ref μ.length, μ ++ [.lst (.str i.kw :: i.rest)]) := by
  have hl : (line i.words).length ≤ 210 := line_len i.words_len (It.wd h)
  unfold mSplit mVar mC
  rw [h4]
  dsimp only
  rw [if_neg (by rw [l_blank]; omega), show Txt.split (line i.words) (Str.ofString " ") = _ from split_line i.words_ne (It.wd h), i.words_map]
noncomputable def rdBody : MSt := (mSeq (mAsg (mSplit (mVar 4) (mC (.str " "))) (gmStar (gmCons (gmN 7) (gmCons (gmN 8) gmNil))))
  (mSeq (mIf (mOr (mTs (mOp (oInK true 1 tb_READERS) (mVar 7) (mC (.cl 1)))) (mTs (mOp (oIn true) (mVar 2) (mOp (oIxK 2 tb_AHEAD) (mC (.cl 2)) (mVar 7)))))
  mBad
  mSkip)
  (mSeq (mAsg (mOp (oIxK 1 tb_READERS) (mC (.cl 1)) (mVar 7)) (gmN 5))
  (mSeq (mAsg (mCallN 5 fvT (mCons (mVar 8) mNil)) (gmN 6))
  (mSeq (mIf (mTs (mOp (oIs false) (mVar 6) (mC .non)))
  mBad
  mSkip)
  (mSeq (mEx (mBM fAppend (mDGet (mVar 1) (mVar 7)) (mCons (mVar 6) mNil)))
  (mAsg (mVar 7) (gmN 2))))))))
theorem It.d_not (i : It) : isN i.d = false := by cases i <;> rfl
theorem w_rdBody {z : List It} {i : It} (hi : i.ok) (ha : lastK z ∈ ahd i) {m : Mem} (T : Tl μ z m) (hz : (cI i z).length < 100000) {x0 x5 x6 x7 x8 x3 : Option D} {QS : Fl → Sl → Mem → Prop}
    (q : ∀ m' y3 y5 y6 y7 y8, Tl μ (z ++ [i]) m' → QS .nx [x0, some (.ref μ.length), some (.str i.kw), y3, some (.str (line i.words)), y5, y6, y7, y8] m') :
    WS rdBody [x0, some (.ref μ.length), some (.str (lastK z)), x3, some (.str (line i.words)), x5, x6, x7, x8] m QS := by
  unfold rdBody
  refine ws_seq (ws_asg (we_eq (split_e (j := 4) hi rfl) (wg_star at_app0 (wgs_cons (wg_n (wgs_cons (wg_n (wgs_nil ?_))))))))
  have T1 : Tl μ z (m ++ [MO.lst (D.str i.kw :: i.rest)] ++ [MO.lst i.rest]) := T.gr (gr_app.trans gr_app)
  have hr : (m ++ [MO.lst (D.str i.kw :: i.rest)] ++ [MO.lst i.rest])[m.length + 1]? = some (.lst i.rest) := by rw [List.append_assoc, at_app]; rfl
  rw [show (m ++ [MO.lst (D.str i.kw :: i.rest)]).length = m.length + 1 by simp]
  generalize m ++ [MO.lst (D.str i.kw :: i.rest)] ++ [MO.lst i.rest] = m1 at T1 hr
  show WS _ [x0, some (.ref μ.length), some (.str (lastK z)), x3, some (.str (line i.words)), x5, x6, some (.str i.kw), some (.ref (m.length + 1))] m1 _
  have k1 : oInK true 1 tb_READERS (.str i.kw) (.cl 1) m1 = some (.bl false, m1) := by unfold oInK; dsimp only; rw [if_pos ⟨rfl, by rw [tbR i]; rfl⟩]; rfl
  have k2 : oIxK 2 tb_AHEAD (.cl 2) (.str i.kw) m1 = some (.tup ((ahd i).map D.str), m1) := by unfold oIxK; dsimp only; rw [if_pos rfl, tbA i]; rfl
  have k3 : oIxK 1 tb_READERS (.cl 1) (.str i.kw) m1 = some (.cl i.fn, m1) := by unfold oIxK; dsimp only; rw [if_pos rfl, tbR i]; rfl
  refine ws_seq (ws_if (wt_or (wt_ts (we_op (we_varX ⟨_, rfl, we_c ⟨_, _, k1, _, rfl, fun _ => ?_, (fun z => nomatch z)⟩⟩)))))
  refine wt_ts (we_op (we_varX ⟨_, rfl, we_op (we_c (we_varX ⟨_, rfl, _, _, k2, wo_niT (b := true) (lastK_ok z) ⟨_, rfl, fun h => ?_, fun _ => ws_skip ?_⟩⟩))⟩))
  · rw [decide_eq_true ha] at h; cases h
  refine ws_seq (ws_asg (we_op (we_c (we_varX ⟨_, rfl, _, _, k3, wg_n ?_⟩))))
  obtain ⟨f, hf, d6, m6, e6, he6, g6⟩ := wf_read (Q := fun d m' => d = i.d ∧ Gr m1 m') hi hr fun m' g => ⟨rfl, g⟩
  subst he6
  refine ws_seq (ws_asg (we_eq (d := i.d) (μ' := m6) ?_ (wg_n ?_)))
  · unfold mCallN
    show (match fvT i.fn with | some (k, f) => _ | none => none) = _
    rw [hf]
    dsimp only
    show (if _ then f [D.ref (m.length + 1)] m1 else none) = _
    rw [if_pos (show [D.ref (m.length + 1)].length = 1 from rfl)]
    exact e6
  have T6 := T1.gr g6
  refine ws_seq (ws_if (wt_ts (we_op (we_varX ⟨_, rfl, we_c ⟨_, m6, rfl, _, rfl, fun h => ?_, fun _ => ws_skip ?_⟩⟩))))
  · have h' : isN i.d = true := h
    rw [It.d_not] at h'; cases h'
  have kd : mDGet (mVar 1) (mVar 7) [x0, some (.ref μ.length), some (.str (lastK z)), x3, some (.str (line i.words)), some (.cl i.fn), some i.d, some (.str i.kw), some (.ref (m.length + 1))] m6 = some (.ref (μ.length + off i), m6) := by
    show (match m6[μ.length]? with | some (.dct kvs) => _ | _ => none) = _
    rw [T6.dct]
    show ((List.lookup i.kw _).map _) = _
    rw [look_told]
    rfl
  refine ws_seq (ws_ex (we_bm (we_eq kd ⟨_, _, rfl, T6.at_ i, wa_cons (we_varX ⟨_, rfl, wa_nil ⟨.non, m6.set (μ.length + off i) (.lst (cI i z ++ [i.d])), ?_, ?_⟩⟩)⟩)))
  · unfold fAppend fMut
    dsimp only
    rw [T6.at_ i]
    dsimp only
    rw [if_pos hz]
    rfl
  · exact ws_asg (we_varX ⟨_, rfl, wg_n (q _ _ _ _ _ _ (T6.add i))⟩)
theorem c_len (i : It) (z : List It) : (cI i z).length ≤ z.length := by cases i <;> exact List.length_filterMap_le _ _
theorem c_items (h : Hb) : cS (items h) = [.int h.s] ∧ cF (items h) = h.ps.map Pn.d ∧ cW (items h) = h.ws.map Wy.d := by
  have f1 : ∀ ps : List Pn, cF (ps.map It.pI) = ps.map Pn.d ∧ cS (ps.map It.pI) = [] ∧ cW (ps.map It.pI) = [] := fun ps => by
    induction ps with
    | nil => exact ⟨rfl, rfl, rfl⟩
    | cons p ps ih =>
      refine ⟨?_, ?_, ?_⟩
      · show p.d :: cF (ps.map It.pI) = _; rw [ih.1]; rfl
      · exact ih.2.1
      · exact ih.2.2
  have f2 : ∀ ws : List Wy, cW (ws.map It.wI) = ws.map Wy.d ∧ cS (ws.map It.wI) = [] ∧ cF (ws.map It.wI) = [] := fun ws => by
    induction ws with
    | nil => exact ⟨rfl, rfl, rfl⟩
    | cons p ps ih =>
      refine ⟨?_, ?_, ?_⟩
      · show p.d :: cW (ps.map It.wI) = _; rw [ih.1]; rfl
      · exact ih.2.1
      · exact ih.2.2
  unfold items
  refine ⟨?_, ?_, ?_⟩
  · show .int h.s :: cS (_ ++ _) = _
    unfold cS at f1 f2 ⊢
    rw [List.filterMap_append, (f1 _).2.1, (f2 _).2.1]; rfl
  · show cF (_ ++ _) = _
    unfold cF at f1 f2 ⊢
    rw [List.filterMap_append, (f1 _).1, (f2 _).2.2, List.append_nil]
  · show cW (_ ++ _) = _
    unfold cW at f1 f2 ⊢
    rw [List.filterMap_append, (f1 _).2.2, (f2 _).1, List.nil_append]
theorem disp_e {env : Sl} : mDisp [("steps", (mLst mNil)), ("folk", (mLst mNil)), ("way", (mLst mNil))] env μ = some (.ref μ.length, μ ++ [toldD μ.length, .lst [], .lst [], .lst []]) := by
  have e : dispGo [("steps", (mLst mNil)), ("folk", (mLst mNil)), ("way", (mLst mNil))] env (μ ++ [.dct []]) = some (toldK μ.length, μ ++ [MO.dct [], .lst [], .lst [], .lst []]) := by
    simp only [mDef, mSeq, mAsg, mVar, gmTup, gmCons, gmN, gmNil, mRet, mJs, jsGo, mC, mFmt, mIte, mTs, mOp, oIs, isN, mIf, mSkip, mEx, mBM, fAppend, fMut, mLst, mTup, mCons, mNil, mCall, lenIs, mAnd, mOr, mNot, mAndV, mOrV, mNotV, mChain, mSl, mPt, mNo, mPar, mFld, mSfld, gmSub, mAug, mBrk, mCnt, mJoin, seqAt, lstAt, strsOf, List.map_cons, List.map_nil, List.length_cons, List.length_nil, List.length_append, List.replicate, List.cons_append, List.nil_append, List.append_assoc, List.append_nil, List.set, List.getElem?_cons_zero, List.getElem?_cons_succ, List.getElem?_nil, Nat.reduceAdd, Nat.reduceSub, Nat.reduceLeDiff, Nat.reduceEqDiff, Nat.reduceLT, Nat.reduceMul, Nat.add_assoc, Nat.zero_add, if_true, if_false, Option.map_some, Option.map_none, Option.bind_some, Bool.false_eq_true, Bool.not_true, Bool.not_false, at_app, at_app0, set_app, set_app0, dispGo]
  unfold mDisp
  rw [e]
  dsimp only
  rw [at_app0]
  dsimp only [List.getElem?_cons_zero]
  rw [if_pos ⟨show [("steps" : Str), "folk", "way"].Nodup by decide +kernel, by simp⟩, set_app0]
  rfl
theorem wf_rdLines {h : Hb} (L : h.ok) {a : Nat} (hm : μ[a]? = some (.lst ((items h).map fun i => .str (line i.words)))) (q : ∀ m, Tl μ (items h) m → Q (.ref μ.length) m) : WF m_read_lines [.ref a] μ Q := by
  have ha := lt_at hm
  refine wf_def ?_
  show WS _ [some (.ref a), none, none, none, none, none, none, none, none] _ _
  refine ws_seq (ws_asg (we_eq disp_e (wg_n ?_)))
  have T0 : Tl μ [] (μ ++ [toldD μ.length, .lst [], .lst [], .lst []]) := ⟨by simp, fun k hk => by rw [List.getElem?_append_left hk], at_app0, at_app, at_app, at_app⟩
  generalize μ ++ [toldD μ.length, .lst [], .lst [], .lst []] = m0 at T0
  refine ws_seq (ws_asg (we_c (wg_n ?_)))
  have hm0 : m0[a]? = some (.lst ((items h).map fun i => .str (line i.words))) := by rw [T0.old a ha]; exact hm
  refine ws_seq (ws_for ⟨_, _, m0, show iE (mCons (mVar 0) mNil) _ m0 = some (enumD ((items h).map fun i => .str (line i.words)), some (a, (items h).map fun i => .str (line i.words)), m0) from ?_, ?_⟩)
  · show (match m0[a]? with | some (.lst xs) => _ | _ => none) = _
    rw [hm0]
  rw [enumD_zip (fun i : It => D.str (line i.words))]
  refine ws_forA (as := (items h).zipIdx) (f := fun x : It × Nat => .tup [.int (x.2 : Nat), .str (line x.1.words)]) (fun z e m => ∃ y3 y4 y5 y6 y7 y8, e = [some (.ref a), some (.ref μ.length), some (.str (lastK (z.map (·.1)))), y3, y4, y5, y6, y7, y8] ∧ Tl μ (z.map (·.1)) m) (fun z e m hI => ?_) ?_ ?_
    ⟨_, _, _, _, _, _, rfl, T0⟩
  · obtain ⟨_, _, _, _, _, _, _, T⟩ := hI
    show m[a]? = _
    rw [T.old a ha]; exact hm
  · rintro z ⟨i, k⟩ r e m hz ⟨y3, y4, y5, y6, y7, y8, rfl, T⟩
    have hsp : items h = z.map (·.1) ++ i :: r.map (·.1) := by
      have := congrArg (List.map Prod.fst) hz
      simpa using this
    have hi : i ∈ items h := by rw [hsp]; simp
    refine wg_tup rfl (wgs_cons (wg_n (wgs_cons (wg_n (wgs_nil ?_)))))
    refine w_rdBody (items_ok L i hi) (ord_items h _ _ _ hsp) T ?_ fun m' z3 z5 z6 z7 z8 T' => .inl ⟨.inl rfl, z3, some (.str (line i.words)), z5, z6, z7, z8, ?_, ?_⟩
    · have h1 := c_len i (z.map (·.1))
      have h2 := congrArg List.length hsp
      have l3 := L.l3
      have wl := ways_len L
      simp only [items, List.length_cons, List.length_append, List.length_map] at h2 h1
      omega
    · rw [List.map_append, List.map_cons, List.map_nil, lastK_app]
    · simpa using T'
  · rintro e m ⟨y3, y4, y5, y6, y7, y8, rfl, T⟩
    refine ws_ret (we_varX ⟨_, rfl, q m ?_⟩)
    simpa using T
theorem wf_rdHabits {h : Hb} (L : h.ok) (q : ∀ n μ', Gr μ μ' → μ.length ≤ n → μ'[n]? = some h.o → Q (.ref n) μ') : WF m_read_habits [.str (textH h)] μ Q := by
  refine wf_def ?_
  show WS _ [some (.str (textH h)), none] _ _
  refine ws_seq (ws_asg (we_call (wa_cons (we_call (wa_cons (we_varX ⟨_, rfl, wa_cons (we_c (wa_nil (wf_lenIs rfl (wf_lines L (wa_nil (wf_lenIs rfl (wf_rdLines L at_app0 fun m T => wg_n ?_)))))))⟩))))))
  have g0 : Gr μ m := ⟨by have := T.len; simp at this; omega, fun k hk => by rw [T.old k (by simp; omega)]; rw [List.getElem?_append_left hk]⟩
  generalize hn : (μ ++ [MO.lst ((items h).map fun i => D.str (line i.words))]).length = n at T
  have hn' : μ.length ≤ n := by rw [← hn]; simp
  obtain ⟨c1, c2, c3⟩ := c_items h
  have d1 := T.dct
  have e1 := T.a1
  have e2 := T.a2
  have e3 := T.a3
  rw [hn] at d1 e1 e2 e3
  rw [c1] at e1
  rw [c2] at e2
  rw [c3] at e3
  have kd : ∀ (k : Str) (j : Nat), (toldK n).lookup k = some (.ref (n + j)) → mDGet (mVar 1) (mC (.str k)) [some (.str (textH h)), some (.ref n)] m = some (.ref (n + j), m) := fun k j hk => by
    show (match m[n]? with | some (.dct kvs) => _ | _ => none) = _
    rw [d1]
    show ((List.lookup k _).map _) = _
    rw [hk]; rfl
  refine ws_ret (we_habits L ?_)
  refine we_call (wa_cons (we_eq (kd "folk" 2 rfl) (wa_nil (wf_tupR e2 ?_))))
  refine we_call (wa_cons (we_eq (kd "way" 3 rfl) (wa_nil (wf_tupR e3 ?_))))
  refine we_op (we_eq (kd "steps" 1 rfl) (we_c ⟨_, _, ix0 (i := 0) e1 rfl, rfl, rfl, rfl, fun μ' ho hg => q _ μ' (g0.trans hg) g0.1 ho⟩))
end T4

/-! T47: names drawn otherwise. -/
namespace T4
open PySem L2 MR
variable {μ : Mem} {Q : D → Mem → Prop} {n : Nat} {c : Int}
theorem w_text0 {a1 a3 a5 a6 : Option D} {z : Nat} (B : BagAt μ n c) (hc : c + 8 < 1000000000) (z1 : z ≤ 8) (q : ∀ t μ', t.length = z → Low t → BagAt μ' n (c + 8) → Fr n μ μ' → Q (.str t) μ') :
    WE (mJoin (mC (.str "")) (mLc (iR1 (mCons (mVar 4) mNil)) (gmN 6) mYes (mOp oIx (mVar 2) (mTake (mC (.int 26)))) [6])) [some (.ref n), a1, some (.str base), a3, some (.int z), a5, a6] μ Q := by
  have hz : -(2 ^ 62) ≤ (z : Int) ∧ (z : Int) < 2 ^ 62 := ⟨by omega, by omega⟩
  refine we_join (we_c ⟨_, rfl, we_lc (wi_R1 (wa_cons (we_varX ⟨_, rfl, wa_nil ⟨_, rfl, hz, ?_⟩⟩)))⟩)
  have e0 : (μ ++ [MO.lst []])[μ.length]? = some (.lst []) := by simp
  obtain ⟨m, hm, ys, l1, l2, l3, l4, l5⟩ := w_compGo (c := none) (g := gmN 6) (tt := mYes) (el := mOp oIx (mVar 2) (mTake (mC (.int 26)))) (l := μ.length) (env := wipeD [some (.ref n), a1, some (.str base), a3, some (.int z), a5, a6] [6])
    (QM := fun m => ∃ ys : List Str, ys.length = z ∧ (∀ y ∈ ys, y.length = 1 ∧ Low y) ∧ m[μ.length]? = some (.lst (ys.map .str)) ∧ BagAt m n (c + 8) ∧ Fr n μ m)
    (fun r acc m => ∃ ys : List Str, acc = ys.map .str ∧ (∀ y ∈ ys, y.length = 1 ∧ Low y) ∧ ys.length + r.length = z ∧ BagAt m n (c + ys.length) ∧ Fr n μ m)
    (fun _ _ _ _ => trivial) (fun r acc m ⟨ys, h1, _, h2, _⟩ => by rw [h1, List.length_map]; omega)
    (fun x r acc m ⟨ys, h1, h2, h3, h4, h5⟩ hl => by
      subst h1
      simp only [List.length_cons] at h3
      refine wg_n ⟨true, m, rfl, fun z => (by cases z), fun _ => we_op (we_var rfl (we_takeC rfl h4 (by omega) (by decide) (by decide) fun d m' d0 d1 B' F' => wo_ixS (by rw [base_len]; decide) (base_at d0 d1) ?_))⟩
      have nl : μ.length ≠ n := by have := B.lt; omega
      refine ⟨(F'.2 _ nl).trans hl, ys ++ [⟨#[97 + d.toNat]⟩], by simp, fun y hy => ?_, by simp; omega, BagAt.mono (B'.set nl) (by simp; omega), fr_set (h5.trans F'.fr) (Nat.le_refl _)⟩
      (rcases List.mem_append.mp hy with hy | hy)
      · exact h2 y hy
      · rw [List.mem_singleton.mp hy]
        exact ⟨rfl, low_one (by omega)⟩)
    (fun acc m ⟨ys, h1, h2, h3, h4, h5⟩ hm => ⟨ys, by simpa using h3, h2, hm.trans (by rw [h1]), h4.mono (by simp at h3; omega), h5⟩)
    (rngD 0 (z : Int).toNat) [] (μ ++ [.lst []]) e0 ⟨[], rfl, by simp, by simp [rngD_len], by simpa using B.app, fr_app⟩
  refine ⟨m, hm, ys, ?_, ?_, ?_⟩
  · show (seqAt m (.ref μ.length)).bind strsOf = _
    rw [show seqAt m (.ref μ.length) = some (ys.map .str) by simp [seqAt, lstAt, l3]]
    exact strsOf_map ys
  · rw [sum_ones l2, l1, show ((Str.ofString "").length : Nat) = 0 from rfl]
    omega
  · obtain ⟨j1, j2⟩ := low_join l2
    exact q _ m (j1.trans l1) j2 l4 l5
theorem size0_at {d : Int} (h0 : 0 ≤ d) (h1 : d < 5) : ∃ z : Nat, L2.atI [D.int 0, .int 0, .int 1, .int 3, .int 7] d = some (.int z) ∧ (z = 0 ∨ z = 1 ∨ z = 3 ∨ z = 7) := by
  have h : d = 0 ∨ d = 1 ∨ d = 2 ∨ d = 3 ∨ d = 4 := by omega
  rcases h with rfl | rfl | rfl | rfl | rfl
  · exact ⟨0, rfl, by decide⟩
  · exact ⟨0, rfl, by decide⟩
  · exact ⟨1, rfl, by decide⟩
  · exact ⟨3, rfl, by decide⟩
  · exact ⟨7, rfl, by decide⟩
def nmK (b : Str) (f k : Nat) : Str := b ++ ⟨#[97 + (f + 7 * k) % 26]⟩
theorem nmK_name {b : Str} {f k : Nat} (hb : Low b) (hl : b.length = 0 ∨ b.length = 1 ∨ b.length = 3 ∨ b.length = 7) : Name (nmK b f k) := by
  have e : (nmK b f k).length = b.length + 1 := by unfold nmK; rw [app_len]; rfl
  refine ⟨⟨by omega, by omega, low_app hb (low_one (by omega))⟩, fun z => ?_⟩
  have := congrArg Str.length z
  rw [e, show (Str.ofString "house").length = 5 by decide +kernel] at this
  omega
theorem nmK_inj {b : Str} {f j k : Nat} (hj : j < 3) (hk : k < 3) (h : nmK b f j = nmK b f k) : j = k := by
  have e := congrArg (fun z : Str => z.cps.toList) h
  simp only [nmK, app_list] at e
  have e2 := List.append_cancel_left e
  simp at e2
  omega
theorem nmK_nodup {b : Str} {f m : Nat} (h3 : m ≤ 3) : ((List.range m).map (nmK b f)).Nodup := by
  rw [List.Nodup, List.pairwise_map]
  exact List.Pairwise.imp_of_mem (fun hj hk hne e => hne (nmK_inj (by have := List.mem_range.mp hj; omega) (by have := List.mem_range.mp hk; omega) e)) List.nodup_range
theorem w_names0 {many : Nat} (B : BagAt μ n c) (hc : c + 40 < 1000000000) (h3 : many ≤ 3)
    (q : ∀ (ts : List Str) a μ', ts.length = many → ts.Nodup → (∀ t ∈ ts, Name t) → μ.length ≤ a → μ'[a]? = some (.lst (ts.map .str)) → BagAt μ' n (c + 40) → Fr n μ μ' → Q (.ref a) μ') : WF m_law_names [.ref n, .int many] μ Q := by
  refine wf_def ?_
  show WS _ [some (.ref n), some (.int many), none, none, none, none, none] _ _
  refine ws_seq (ws_asg (we_c (wg_n ?_)))
  refine ws_seq (ws_asg (we_tup (wa_cons (we_op (we_tup ?_)))))
  refine wa_cons (we_c (wa_cons (we_c (wa_cons (we_c (wa_cons (we_c (wa_cons (we_c (wa_nil ⟨by simp, ?_⟩)))))))))) 
  refine we_takeC rfl B (by omega) (by decide) (by decide) fun d m1 d0 d1 B1 F1 => ?_
  obtain ⟨z, hz, hz2⟩ := size0_at d0 d1
  refine wo_ixT hz (wa_cons (we_takeC rfl B1 (by omega) (by decide) (by decide) fun f m2 f0 f1 B2 F2 => wa_nil ⟨by simp, wg_tup rfl (wgs_cons (wg_n (wgs_cons (wg_n (wgs_nil ?_)))))⟩))
  refine ws_seq (ws_asg (w_text0 B2 (by omega) (by omega) fun b m3 hb lb B3 F3 => wg_n ?_))
  have hm : -(2 ^ 62) ≤ (many : Int) ∧ (many : Int) < 2 ^ 62 := ⟨by omega, by omega⟩
  refine ws_ret (we_lcA0 (as := List.range many) (f := fun k => .int (k : Nat)) (F := fun k => .str (nmK b f.toNat k)) (wi_R1 (wa_cons (we_varX ⟨_, rfl, wa_nil ⟨_, rfl, hm, ?_, fun _ _ => trivial, by simp; omega, fun k hk m hg => ?_, fun m hg ha => ?_⟩⟩))))
  · simp [rngD]
  · have hk3 := List.mem_range.mp hk
    refine wg_n (we_op (we_varX ⟨_, rfl, we_op (we_varX ⟨_, rfl, ?_⟩)⟩))
    refine we_op (we_op (we_varX ⟨_, rfl, we_op (we_c (we_varX ⟨_, rfl, ⟨.int (7 * k), m, ?_, ?_⟩⟩))⟩))
    · unfold oMulU oMulI oI
      dsimp only
      rw [if_pos (decide_eq_true (by
        have h1 : (7 : Int).natAbs.log2 < 31 := by decide
        have h2 : ((k : Nat) : Int).natAbs.log2 < 31 := log2_int (by omega) (by omega) (by decide)
        omega))]
    · refine wo_add (we_c (wo_mod (by decide) ?_))
      refine wo_ixS (by rw [base_len]; decide) (base_at (Int.emod_nonneg _ (by decide)) (Int.emod_lt_of_pos _ (by decide))) ?_
      refine wo_addS ?_ ⟨?_, Gr.refl _⟩
      · have : (⟨#[97 + ((f + 7 * (k : Int)) % 26).toNat]⟩ : Str).length = 1 := rfl
        omega
      · unfold nmK
        have e : ((f + 7 * (k : Int)) % 26).toNat = (f.toNat + 7 * k) % 26 := by omega
        rw [e]
  · refine q ((List.range many).map (nmK b f.toNat)) _ m (by simp) (nmK_nodup h3) (fun t ht => ?_) ?_ (by rw [ha, List.map_map]; rfl) ?_ ?_
    · obtain ⟨k, _, rfl⟩ := List.mem_map.mp ht
      exact nmK_name lb (by omega)
    · have h1 := F1.1
      have h2 := F2.1
      have h3 := F3.1
      omega
    · exact (B3.fr (hg.2 _ B3.lt)).mono (by omega)
    · exact ((F1.fr.trans F2.fr).trans F3).trans hg.fr
end T4

/-! T48: habits drawn otherwise. -/
namespace T4
open PySem L2 MR
variable {μ : Mem} {Q : D → Mem → Prop} {n : Nat} {c : Int}
def eD (e : Str × Str) : D := .tup [.str e.1, .str e.2]
def eP (e : Str × Str) : PyData := .tuple [.str e.1, .str e.2]
def okE (e : Str × Str) : Prop := PyData.strOk e.1 = true ∧ PyData.strOk e.2 = true
theorem mapM_e {k : Nat} (es : List (Str × Str)) : (es.map eD).mapM (toPy μ (k + 2)) = some (es.map eP) := mapM_fn (f := eD) (g := eP) (fun e => rfl) es
theorem shaped_e {es : List (Str × Str)} (h : ∀ e ∈ es, okE e) : SeqAt.shaped (.list (es.map eP)) = true := by
  have := shaped_ends (ws := es.map fun e => ⟨e.1, e.2, 0, 0, false, false⟩) fun w hw => by
    obtain ⟨e, he, rfl⟩ := List.mem_map.mp hw
    exact h e he
  rw [List.map_map] at this
  exact this
theorem any_e (x : Str × Str) (es : List (Str × Str)) : ((es.map eP).any fun z => PyData.eqv z (eP x)) = decide (x ∈ es) := by
  (rw [Bool.eq_iff_iff, List.any_eq_true, decide_eq_true_eq])
  constructor
  · rintro ⟨z, hz, e⟩
    obtain ⟨y, hy, rfl⟩ := List.mem_map.mp hz
    simp only [eP, PyData.eqv, PyData.eqvAll, Bool.and_true, Bool.and_eq_true, beq_iff_eq, decide_eq_true_eq] at e
    have : y = x := Prod.ext e.1 e.2
    rw [← this]; exact hy
  · intro h
    exact ⟨eP x, List.mem_map_of_mem h, by simp [eP, PyData.eqv, PyData.eqvAll]⟩
theorem wo_niE {a : Nat} {es : List (Str × Str)} {x : Str × Str} (h : μ[a]? = some (.lst (es.map eD))) (hs : ∀ e ∈ es, okE e) (hx : okE x) (q : Q (.bl (!decide (x ∈ es))) μ) : WO (oIn true) (eD x) (.ref a) μ Q := by
  refine ⟨_, μ, ?_, q⟩
  have h1 : toPy μ 40 (.ref a) = some (.list (es.map eP)) := by rw [toPy_at h, mapM_e]; rfl
  show (match toPy μ 40 (eD x), toPy μ 40 (.ref a) with
    | some a, some (.list bs) => if SeqAt.shaped a = true ∧ SeqAt.shaped (.list bs) = true then some ((.bl (if true then !bs.any fun z => PyData.eqv z a else bs.any fun z => PyData.eqv z a), μ) : D × Mem) else none
    | _, _ => none) = _
  rw [h1, show toPy μ 40 (eD x) = some (eP x) from rfl]
  show (if SeqAt.shaped (eP x) = true ∧ SeqAt.shaped (.list (es.map eP)) = true then some ((.bl (!(es.map eP).any fun z => PyData.eqv z (eP x)), μ) : D × Mem) else none) = _
  rw [if_pos ⟨shaped_end hx.1 hx.2, shaped_e hs⟩, any_e]
/-! ### the folk, the ends -/
/-- ends drawn for the names dn -/
structure En (ts dn : List Str) (es : List (Str × Str)) : Prop where
  nd : es.Nodup
  inn : ∀ e ∈ es, ∃ t ∈ dn, e = (t, house) ∨ e = (house, t)
  hm : ∀ t ∈ dn, (t, house) ∈ es
  len : es.length ≤ 2 * dn.length
theorem En.nil {ts : List Str} : En ts [] [] := ⟨by simp, by simp, by simp, by simp⟩
theorem En.add {ts dn : List Str} {es : List (Str × Str)} {t : Str} (h : En ts dn es) (ht : t ∉ dn) (hn : Name t) (hdn : ∀ u ∈ dn, Name u) (b : Bool) : En ts (dn ++ [t]) (es ++ [(t, house)] ++ (if b then [(house, t)] else [])) := by
  have hne : t ≠ house := hn.2
  have f1 : ∀ e ∈ es, e ≠ (t, house) ∧ e ≠ (house, t) := fun e he => by
    obtain ⟨u, hu, h1⟩ := h.inn e he
    have hut : u ≠ t := fun z => ht (z ▸ hu)
    have huh : u ≠ house := (hdn u hu).2
    rcases h1 with rfl | rfl
    · exact ⟨fun z => hut (congrArg Prod.fst z), fun z => huh (congrArg Prod.fst z)⟩
    · exact ⟨fun z => hne (congrArg Prod.fst z).symm, fun z => hut (congrArg Prod.snd z)⟩
  refine ⟨?_, fun e he => ?_, fun u hu => ?_, ?_⟩
  · rw [List.append_assoc, List.nodup_append]
    refine ⟨h.nd, ?_, fun e he x hx z => ?_⟩
    · cases b
      · simp
      · simp only [if_true, List.cons_append, List.nil_append, List.nodup_cons, List.mem_singleton]
        exact ⟨fun z => hne (congrArg Prod.fst z), by simp⟩
    · subst z
      obtain ⟨k1, k2⟩ := f1 e he
      cases b
      · simp at hx; exact k1 hx
      · simp at hx
        rcases hx with hx | hx
        · exact k1 hx
        · exact k2 hx
  · (rcases List.mem_append.mp he with he | he)
    · (rcases List.mem_append.mp he with he | he)
      · obtain ⟨u, hu, h1⟩ := h.inn e he
        exact ⟨u, List.mem_append_left _ hu, h1⟩
      · exact ⟨t, by simp, .inl (List.mem_singleton.mp he)⟩
    · cases b
      · simp at he
      · exact ⟨t, by simp, .inr (List.mem_singleton.mp he)⟩
  · refine List.mem_append_left _ ?_
    (rcases List.mem_append.mp hu with hu | hu)
    · exact List.mem_append_left _ (h.hm u hu)
    · rw [List.mem_singleton.mp hu]; simp
  · have := h.len
    cases b <;> simp <;> omega
theorem En.okE {ts dn : List Str} {es : List (Str × Str)} (h : En ts dn es) (hdn : ∀ u ∈ dn, Name u) : ∀ e ∈ es, okE e := fun e he => by
  obtain ⟨u, hu, h1⟩ := h.inn e he
  rcases h1 with rfl | rfl
  · exact ⟨name_ok (hdn u hu), house_ok⟩
  · exact ⟨house_ok, name_ok (hdn u hu)⟩
end T4

/-! T49: habits drawn otherwise: the loops. -/
namespace MR
theorem BagAt.gr {μ μ' : Mem} {n : Nat} {c : Int} (B : BagAt μ n c) (g : Gr μ μ') : BagAt μ' n c := B.fr (g.2 _ B.lt)
theorem Gr.sv {μ μ' : Mem} {n a : Nat} (g : Gr μ μ') : Sv n a μ μ' := ⟨g.1, fun m h _ _ => g.2 m h⟩
end MR
namespace T4
open PySem L2 MR
variable {μ : Mem} {Q : D → Mem → Prop} {n : Nat} {c : Int}
noncomputable def folkB : MSt := (mSeq (mAsg (mOp oIx (mTup (mCons (mC (.str "saying")) (mCons (mC (.str "saying")) (mCons (mC (.str "still")) mNil)))) (mTake (mC (.int 3)))) (gmN 9))
  (mSeq (mEx (mBM fAppend (mVar 7) (mCons (mTup (mCons (mVar 3) (mCons (mVar 9) (mCons (mOp oIx (mTup (mCons (mC (.int 1)) (mCons (mC (.int 2)) (mCons (mC (.int 1)) (mCons (mC (.int 2)) (mCons (mC (.int 1)) (mCons (mC (.int 3)) (mCons (mC .non) (mCons (mC (.int 2)) mNil))))))))) (mTake (mC (.int 8)))) mNil)))) mNil)))
  (mAsg (mOp oAdd (mOp oAdd (mVar 8) (mLst (mCons (mTup (mCons (mVar 3) (mCons (mC (.str "house")) mNil))) mNil))) (mOp oMulU (mLst (mCons (mTup (mCons (mC (.str "house")) (mCons (mVar 3) mNil))) mNil)) (mCall fIntU (mCons (mOp oGt (mTake (mC (.int 6))) (mC (.int 0))) mNil)))) (gmN 8))))
theorem w_folkB {m : Mem} {t : Str} {a7 a8 : Nat} {xs : List D} {es : List (Str × Str)} (B : BagAt m n c) (hc : c + 3 < 1000000000) (h7 : m[a7]? = some (.lst xs)) (h8 : m[a8]? = some (.lst (es.map eD))) (n7 : a7 ≠ n) (n8 : a8 ≠ n) (d78 : a7 ≠ a8) (hx : xs.length < 1000) (he : es.length < 1000)
    {x1 x2 x4 x5 x6 x9 x10 : Option D} {QS : Fl → Sl → Mem → Prop}
    (q : ∀ (p : Pn) (b : Bool) m' a y9, p.n = t → p.fit → BagAt m' n (c + 3) → m'[a7]? = some (.lst (xs ++ [p.d])) → m.length ≤ a → m'[a]? = some (.lst ((es ++ [(t, house)] ++ (if b then [(house, t)] else [])).map eD)) → Sv n a7 m m' →
      QS .nx [some (.ref n), x1, x2, some (.str t), x4, x5, x6, some (.ref a7), some (.ref a), y9, x10] m') :
    WS folkB [some (.ref n), x1, x2, some (.str t), x4, x5, x6, some (.ref a7), some (.ref a8), x9, x10] m QS := by
  unfold folkB
  refine ws_seq (ws_asg (we_op (we_tup (wa_cons (we_c (wa_cons (we_c (wa_cons (we_c (wa_nil ⟨by simp, we_takeC rfl B (by omega) (by decide) (by decide) fun d m1 d0 d1 B1 F1 => ?_⟩))))))))))
  obtain ⟨k, hk, hk2⟩ := kind_at d0 d1
  refine wo_ixT hk (wg_n ?_)
  have h71 : m1[a7]? = some (.lst xs) := by rw [F1.2 _ n7]; exact h7
  refine ws_seq (ws_ex (we_bm (we_varX ⟨_, rfl, _, _, rfl, h71, wa_cons (we_tup (wa_cons (we_varX ⟨_, rfl, wa_cons (we_varX ⟨_, rfl, wa_cons (we_op (we_tup ?_))⟩)⟩)))⟩)))
  refine wa_cons (we_c (wa_cons (we_c (wa_cons (we_c (wa_cons (we_c (wa_cons (we_c (wa_cons (we_c (wa_cons (we_c (wa_cons (we_c (wa_nil ⟨by simp, we_takeC rfl B1 (by omega) (by decide) (by decide) fun d' m2 d0' d1' B2 F2 => ?_⟩))))))))))))))))
  obtain ⟨kp, hkp, hkp2⟩ := keep_at d0' d1'
  refine wo_ixT hkp (wa_nil ⟨by simp, wa_nil ?_⟩)
  have h72 : m2[a7]? = some (.lst xs) := by rw [F2.2 _ n7]; exact h71
  let p : Pn := ⟨t, k, kp⟩
  refine ⟨.non, m2.set a7 (.lst (xs ++ [p.d])), ?_, ?_⟩
  · unfold fAppend fMut
    dsimp only
    rw [h72]
    dsimp only
    rw [if_pos (by omega)]
    rfl
  have B3 : BagAt (m2.set a7 (.lst (xs ++ [p.d]))) n (c + 2) := (B2.set n7).mono (by omega)
  have h83 : (m2.set a7 (.lst (xs ++ [p.d])))[a8]? = some (.lst (es.map eD)) := by rw [List.getElem?_set_ne d78, F2.2 _ n8, F1.2 _ n8]; exact h8
  have h73 : (m2.set a7 (.lst (xs ++ [p.d])))[a7]? = some (.lst (xs ++ [p.d])) := List.getElem?_set_self (lt_at h72)
  have l3 : (m2.set a7 (.lst (xs ++ [p.d]))).length = m.length := by rw [List.length_set, F2.1, F1.1]
  have s3 : Sv n a7 m (m2.set a7 (.lst (xs ++ [p.d]))) := ⟨by omega, fun j _ h1 h2 => by rw [List.getElem?_set_ne (Ne.symm h2), F2.2 _ h1, F1.2 _ h1]⟩
  generalize m2.set a7 (.lst (xs ++ [p.d])) = m3 at B3 h83 h73 l3 s3
  refine ws_asg (we_op (we_op (we_varX ⟨_, rfl, we_lst (wa_cons (we_tup (wa_cons (we_varX ⟨_, rfl, wa_cons (we_c (wa_nil ⟨by simp, wa_nil ⟨by simp, ?_⟩⟩))⟩))))⟩)))
  refine wo_addL (gr_app.at_ h83) at_app0 (by simp; omega) ?_
  rw [show (m3 ++ [MO.lst [D.tup [D.str t, D.str "house"]]]).length = m3.length + 1 by simp, List.append_assoc]
  have e4 : (m3 ++ ([MO.lst [D.tup [D.str t, D.str "house"]]] ++ [MO.lst (es.map eD ++ [D.tup [D.str t, D.str "house"]])]))[m3.length + 1]? = some (.lst ((es ++ [(t, house)]).map eD)) := by rw [at_app]; simp [eD]
  have g4 : Gr m3 (m3 ++ ([MO.lst [D.tup [D.str t, D.str "house"]]] ++ [MO.lst (es.map eD ++ [D.tup [D.str t, D.str "house"]])])) := gr_app
  generalize m3 ++ ([MO.lst [D.tup [D.str t, D.str "house"]]] ++ [MO.lst (es.map eD ++ [D.tup [D.str t, D.str "house"]])]) = m4 at e4 g4
  have B4 := B3.gr g4
  refine we_op (we_lst (wa_cons (we_tup (wa_cons (we_c (wa_cons (we_varX ⟨_, rfl, wa_nil ⟨by simp, wa_nil ⟨by simp, ?_⟩⟩⟩)))))))
  refine we_call (wa_cons (we_op (we_takeC rfl (B4.gr gr_app) (by omega) (by decide) (by decide) fun d'' m5 d0'' d1'' B5 F5 => we_c (wo_gt (wa_nil ⟨.int (if decide (0 < d'') then 1 else 0), m5, rfl, ?_⟩)))))
  have nl : m4.length ≠ n := by have := B4.lt; omega
  have e5 : m5[m4.length]? = some (.lst [eD (house, t)]) := by rw [F5.2 _ nl]; exact at_app0
  have k5 : m5[m3.length + 1]? = some (.lst ((es ++ [(t, house)]).map eD)) := by
    rw [F5.2 _ (by have := B3.lt; omega)]; exact gr_app.at_ e4
  have g5 : Sv n a7 m m5 := (s3.trans ((g4.trans gr_app).sv)).trans F5.sv
  have h75 : m5[a7]? = some (.lst (xs ++ [p.d])) := by rw [F5.2 _ n7]; exact (g4.trans gr_app).at_ h73
  have fin : ∀ b : Bool, decide (0 < d'') = b → WO oMulU (.ref m4.length) (.int (if b then 1 else 0)) m5 fun y μ2 => WO oAdd (.ref (m3.length + 1)) y μ2 fun d μ1 => WG (gmN 8) d [some (.ref n), x1, x2, some (.str t), x4, x5, x6, some (.ref a7), some (.ref a8), some (.str k), x10] μ1 fun e μ2 => QS .nx e μ2 := fun b hb => by
    refine ⟨.ref m5.length, m5 ++ [.lst ((if b then [(house, t)] else []).map eD)], ?_, ?_⟩
    · unfold oMulU
      dsimp only
      rw [e5]
      dsimp only
      cases b
      · rw [if_pos ⟨by decide, by decide, by simp⟩]; rfl
      · rw [if_pos ⟨by decide, by decide, by simp⟩]; rfl
    · refine wo_addL (gr_app.at_ k5) at_app0 (by cases b <;> simp <;> omega) (wg_n ?_)
      have gz : Gr m5 (m5 ++ [MO.lst ((if b then [(house, t)] else []).map eD)] ++ [MO.lst ((es ++ [(t, house)]).map eD ++ (if b then [(house, t)] else []).map eD)]) := gr_app.trans gr_app
      refine q p b _ _ (some (.str k)) rfl ⟨hk2, hkp2⟩ ((B5.gr gz).mono (by omega)) (gz.at_ h75) ?_ ?_ (g5.trans gz.sv)
      · have := g5.1; simp; omega
      · rw [at_app0]; simp
  exact fin _ rfl
/-! ### two ways between folk, perhaps -/
structure Eo (ts : List Str) (es : List (Str × Str)) : Prop where
  nd : es.Nodup
  ao : ∀ e ∈ es, Ao ts ts e
  hm : ∀ t ∈ ts, (t, house) ∈ es
theorem En.eo {ts : List Str} {es : List (Str × Str)} (h : En ts ts es) : Eo ts es := ⟨h.nd, fun e he => by
  obtain ⟨t, ht, h1⟩ := h.inn e he
  exact ⟨t, ht, h1.imp_right .inl⟩, h.hm⟩
theorem Eo.okE {ts : List Str} {es : List (Str × Str)} (h : Eo ts es) (hts : ∀ t ∈ ts, Name t) : ∀ e ∈ es, okE e := fun e he => by
  obtain ⟨t, ht, h1⟩ := h.ao e he
  rcases h1 with rfl | rfl | ⟨h1, h2, _⟩
  · exact ⟨name_ok (hts t ht), house_ok⟩
  · exact ⟨house_ok, name_ok (hts t ht)⟩
  · exact ⟨by rw [h1]; exact name_ok (hts t ht), name_ok (hts _ h2)⟩
theorem Eo.add {ts : List Str} {es : List (Str × Str)} {a b : Str} (h : Eo ts es) (ha : a ∈ ts) (hb : b ∈ ts) (hne : a ≠ b) (hn : (a, b) ∉ es) : Eo ts (es ++ [(a, b)]) := by
  refine ⟨?_, fun e he => ?_, fun t ht => List.mem_append_left _ (h.hm t ht)⟩
  · rw [List.nodup_append]
    exact ⟨h.nd, by simp, fun e he x hx z => hn (by rw [← List.mem_singleton.mp hx, ← z]; exact he)⟩
  · (rcases List.mem_append.mp he with he | he)
    · exact h.ao e he
    · rw [List.mem_singleton.mp he]
      exact ⟨a, ha, .inr (.inr ⟨rfl, hb, fun z => hne z.symm⟩)⟩
noncomputable def pairB : MSt := (mSeq (mAsg (mTup (mCons (mOp oIx (mVar 2) (mTake (mCall fLen (mCons (mVar 2) mNil)))) (mCons (mOp oIx (mVar 2) (mTake (mCall fLen (mCons (mVar 2) mNil)))) mNil))) (gmN 10))
  (mIf (mAnd (mTs (mOp (oEq true) (mOp oIx (mVar 10) (mC (.int 0))) (mOp oIx (mVar 10) (mC (.int 1))))) (mTs (mOp (oIn true) (mVar 10) (mVar 8))))
  (mEx (mBM fAppend (mVar 8) (mCons (mVar 10) mNil)))
  mSkip))
theorem w_pick {m : Mem} {env : Sl} {a2 : Nat} {ts : List Str} {Q : D → Mem → Prop} (h0 : env[0]? = some (some (.ref n))) (h2e : env[2]? = some (some (.ref a2))) (B : BagAt m n c) (hc : c < 1000000000) (h2 : m[a2]? = some (.lst (ts.map .str))) (n2 : a2 ≠ n) (hl : 1 ≤ ts.length) (hl2 : ts.length ≤ 3)
    (q : ∀ t m', t ∈ ts → BagAt m' n (c + 1) → Fr1 n m m' → Q (.str t) m') : WE (mOp oIx (mVar 2) (mTake (mCall fLen (mCons (mVar 2) mNil)))) env m Q := by
  refine we_op (we_var h2e (we_take (many := (ts.length : Int)) h0 (we_call (wa_cons (we_var h2e (wa_nil (wf_len h2 ⟨by simp, rfl⟩))))) B hc (by omega) (by omega) fun d m' d0 d1 B' F' => ?_))
  obtain ⟨k, rfl⟩ : ∃ k : Nat, d = (k : Int) := ⟨d.toNat, by omega⟩
  have hk : k < ts.length := by omega
  refine wo_ixR (d := .str ts[k]) (by rw [F'.2 _ n2]; exact h2) (MR.atI_nat ?_) (q _ _ (List.getElem_mem hk) B' F')
  rw [List.getElem?_map, List.getElem?_eq_getElem hk]
  rfl
theorem w_pairB {m : Mem} {a2 a8 : Nat} {ts : List Str} {es : List (Str × Str)} (B : BagAt m n c) (hc : c + 2 < 1000000000) (h2 : m[a2]? = some (.lst (ts.map .str))) (h8 : m[a8]? = some (.lst (es.map eD))) (n2 : a2 ≠ n) (n8 : a8 ≠ n) (hl : 1 ≤ ts.length) (hl2 : ts.length ≤ 3) (hts : ∀ t ∈ ts, Name t) (E : Eo ts es) (he : es.length < 1000)
    {x1 x3 x4 x5 x6 x7 x9 x10 : Option D} {QS : Fl → Sl → Mem → Prop}
    (q : ∀ es' m' y10, Eo ts es' → es'.length ≤ es.length + 1 → BagAt m' n (c + 2) → m'[a8]? = some (.lst (es'.map eD)) → Sv n a8 m m' → QS .nx [some (.ref n), x1, some (.ref a2), x3, x4, x5, x6, x7, some (.ref a8), x9, y10] m') :
    WS pairB [some (.ref n), x1, some (.ref a2), x3, x4, x5, x6, x7, some (.ref a8), x9, x10] m QS := by
  unfold pairB
  refine ws_seq (ws_asg (we_tup (wa_cons (w_pick rfl rfl B (by omega) h2 n2 hl hl2 fun a m1 ha B1 F1 => wa_cons (w_pick rfl rfl B1 (by omega) (by rw [F1.2 _ n2]; exact h2) n2 hl hl2 fun b m2 hb B2 F2 => wa_nil ⟨by simp, wg_n ?_⟩)))))
  have h82 : m2[a8]? = some (.lst (es.map eD)) := by rw [F2.2 _ n8, F1.2 _ n8]; exact h8
  have s2 : Sv n a8 m m2 := (F1.trans F2).sv
  refine ws_if (wt_and (wt_ts (we_op (we_op (we_varX ⟨_, rfl, we_c (wo_ixT (i := 0) (d := .str a) rfl (we_op (we_varX ⟨_, rfl, we_c (wo_ixT (i := 1) (d := .str b) rfl (wo_neS (name_ok (hts a ha)) (name_ok (hts b hb)) ⟨_, rfl, fun hne => ?_, fun heq => ?_⟩))⟩)))⟩)))))
  · refine wt_ts (we_op (we_varX ⟨eD (a, b), rfl, we_varX ⟨_, rfl, wo_niE h82 (E.okE hts) ⟨name_ok (hts a ha), name_ok (hts b hb)⟩ ⟨_, rfl, fun hin => ?_, fun hin => ?_⟩⟩⟩))
    · have hni : (a, b) ∉ es := by simpa using hin
      have hab : a ≠ b := by simpa using hne
      refine ws_ex (we_bm (we_varX ⟨_, rfl, _, _, rfl, h82, wa_cons (we_varX ⟨_, rfl, wa_nil ⟨.non, m2.set a8 (.lst (es.map eD ++ [eD (a, b)])), ?_, ?_⟩⟩)⟩))
      · unfold fAppend fMut
        dsimp only
        rw [h82]
        dsimp only
        rw [if_pos (by rw [List.length_map]; omega)]
        rfl
      · refine q (es ++ [(a, b)]) _ _ (E.add ha hb hab hni) (by simp) ((B2.set n8).mono (by omega)) (by rw [List.getElem?_set_self (lt_at h82)]; simp) ⟨by rw [List.length_set]; exact s2.1, fun j h1 h3 h4 => by rw [List.getElem?_set_ne (Ne.symm h4)]; exact s2.2 j h1 h3 h4⟩
    · exact ws_skip (q es m2 _ E (by omega) (B2.mono (by omega)) h82 s2)
  · refine ⟨(fun z => nomatch z), fun _ => ws_skip (q es m2 _ E (by omega) (B2.mono (by omega)) h82 s2)⟩
/-! ### the ways -/
theorem w_ways {m : Mem} {env : Sl} {a : Nat} {es : List (Str × Str)} {x : MEx} {Q : D → Mem → Prop} (B : BagAt m n c) (hc : c + 200 < 1000000000) (hl : es.length ≤ 40) (hok : ∀ e ∈ es, okE e) (h0 : env[0]? = some (some (.ref n))) (le : env.length = 11)
    (hx : WE x env m fun d m1 => d = .ref a ∧ m1[a]? = some (.lst (es.map eD)) ∧ a ≠ n ∧ Gr m m1 ∧ ∀ (ws : List Wy) m2, ws.map Wy.ends = es → (∀ w ∈ ws, w.fit) → BagAt m2 n (c + 4 * es.length) → m2[m1.length]? = some (.lst (ws.map Wy.d)) → Fr n m1 m2 → Q (.ref m1.length) m2) :
    WE (mLc (iL x) (gmN 10) mYes (mCall (lenIs 3 m_law_way) (mCons (mVar 0) (mCons (mOp oIx (mVar 10) (mC (.int 0))) (mCons (mOp oIx (mVar 10) (mC (.int 1))) mNil)))) [10]) env m Q := by
  obtain ⟨d, m1, e1, rfl, ha, na, g1, q⟩ := hx
  have B1 := B.gr g1
  have al := lt_at ha
  refine we_lc (wi_L (we_eq e1 ⟨_, _, rfl, ha, ?_⟩))
  have nl : m1.length ≠ n := by have := B1.lt; omega
  obtain ⟨m2, hm2, ws, w1, w2, w3, w4, w5⟩ := w_compGo (c := some (a, es.map eD)) (g := gmN 10) (tt := mYes) (el := mCall (lenIs 3 m_law_way) (mCons (mVar 0) (mCons (mOp oIx (mVar 10) (mC (.int 0))) (mCons (mOp oIx (mVar 10) (mC (.int 1))) mNil)))) (l := m1.length) (env := wipeD env [10])
    (QM := fun m2 => ∃ ws : List Wy, ws.map Wy.ends = es ∧ (∀ w ∈ ws, w.fit) ∧ BagAt m2 n (c + 4 * es.length) ∧ m2[m1.length]? = some (.lst (ws.map Wy.d)) ∧ Fr n m1 m2)
    (fun r acc m => ∃ (ws : List Wy) (rs : List (Str × Str)), acc = ws.map Wy.d ∧ r = rs.map eD ∧ ws.map Wy.ends ++ rs = es ∧ (∀ w ∈ ws, w.fit) ∧ BagAt m n (c + 4 * ws.length) ∧ Fr n m1 m)
    (fun r acc m ⟨ws, rs, _, _, _, _, _, F⟩ => by show m[a]? = _; rw [F.2 a al na]; exact ha)
    (fun r acc m ⟨ws, rs, h1, h2, h3, _⟩ => by
      have := congrArg List.length h3
      simp only [List.length_append, List.length_map] at this
      rw [h1, h2, List.length_map, List.length_map]; omega)
    (fun x r acc m ⟨ws, rs, h1, h2, h3, h4, h5, h6⟩ hl2 => by
      cases rs with
      | nil => cases h2
      | cons e rs =>
        rw [List.map_cons] at h2
        injection h2 with h7 h8
        subst h7 h8 h1
        have hlen := congrArg List.length h3
        simp only [List.length_append, List.length_map, List.length_cons] at hlen
        have he : e ∈ es := by rw [← h3]; simp
        have kw : (wipeD env [10])[0]? = some (some (.ref n)) := by
          show (env.set 10 none)[0]? = _
          rw [List.getElem?_set_ne (by decide)]; exact h0
        have k0 : ((wipeD env [10]).set 10 (some (eD e)))[0]? = some (some (.ref n)) := by rw [List.getElem?_set_ne (by decide)]; exact kw
        have k10 : ((wipeD env [10]).set 10 (some (eD e)))[10]? = some (some (eD e)) := by
          rw [List.getElem?_set_self]
          show 10 < (env.set 10 none).length
          rw [List.length_set, le]; decide
        refine wg_n ⟨true, m, rfl, fun z => (by cases z), fun _ => we_call (wa_cons (we_var k0 (wa_cons (we_op (we_var k10 (we_c (wo_ixT (i := 0) (d := .str e.1) rfl (wa_cons (we_op (we_var k10 (we_c (wo_ixT (i := 1) (d := .str e.2) rfl (wa_nil (wf_lenIs rfl (w_way h5 (by omega) (hok e he).1 fun w m' wg wt wf B' F' => ?_)))))))))))))))⟩
        refine ⟨by rw [F'.2 _ nl]; exact hl2, ws ++ [w], rs, by simp, rfl, ?_, fun y hy => ?_, BagAt.mono (B'.set nl) (by simp; omega), fr_set (h6.trans F'.fr) (Nat.le_refl _)⟩
        · rw [← h3]
          have : w.ends = e := Prod.ext wg wt
          simp [this]
        · rcases List.mem_append.mp hy with hy | hy
          · exact h4 y hy
          · rw [List.mem_singleton.mp hy]; exact wf)
    (fun acc m ⟨ws, rs, h1, h2, h3, h4, h5, h6⟩ hm => by
      have h7 : rs = [] := by simpa using h2.symm
      subst h7
      rw [List.append_nil] at h3
      have h8 := congrArg List.length h3
      rw [List.length_map] at h8
      exact ⟨ws, h3, h4, by rw [← h8]; exact h5, hm.trans (by rw [h1]), h6⟩)
    (es.map eD) [] (m1 ++ [MO.lst []]) (by simp) ⟨[], es, rfl, rfl, rfl, by simp, by simpa using B1.app, fr_app⟩
  exact ⟨m2, hm2, q ws m2 w1 w2 w3 w4 w5⟩
end T4

/-! T4A: habits drawn otherwise: whole. -/
namespace T4
open PySem L2 MR
variable {μ : Mem} {Q : D → Mem → Prop} {n : Nat} {c : Int}
theorem eo_laid {ps : List Pn} {ws : List Wy} {s : Int} {es : List (Str × Str)} (l1 : 1 ≤ ps.length) (l3 : ps.length ≤ 3) (hn : ∀ p ∈ ps, Name p.n) (hd : (ps.map Pn.n).Nodup) (pf : ∀ p ∈ ps, p.fit) (E : Eo (ps.map Pn.n) es) (hp : (ws.map Wy.ends).Perm es) (wf : ∀ w ∈ ws, w.fit) (wl : ws.length ≤ 60) (s0 : 0 ≤ s) (s2 : s ≤ 2) : Laid ps ws s :=
  ⟨l1, l3, hn, hd, pf, ⟨wf, fun w hw => E.ao _ (hp.mem_iff.mp (List.mem_map_of_mem hw)), hp.nodup_iff.mpr E.nd⟩, fun t ht => hp.mem_iff.mpr (E.hm t ht), wl, s0, s2⟩
theorem rot_perm {α : Type} (xs : List α) (k : Nat) : (xs.drop k ++ xs.take k).Perm xs := by
  have h := List.perm_append_comm (l₁ := xs.drop k) (l₂ := xs.take k)
  rwa [List.take_append_drop] at h
theorem cutLo {ds : List D} {k : Nat} (hk : k ≤ ds.length) : cut ds (some (k : Int)) none = ds.drop k := by
  unfold cut
  have h1 : HT.sIx ds.length 0 (some (k : Int)) = k := by
    simp only [HT.sIx]
    rw [if_neg (by omega)]
    omega
  have h2 : HT.sIx ds.length ds.length none = ds.length := rfl
  rw [h1, h2, List.take_of_length_le (by simp)]
theorem cutHi {ds : List D} {k : Nat} (hk : k ≤ ds.length) : cut ds none (some (k : Int)) = ds.take k := by
  unfold cut
  have h1 : HT.sIx ds.length ds.length (some (k : Int)) = k := by
    simp only [HT.sIx]
    rw [if_neg (by omega)]
    omega
  have h2 : HT.sIx ds.length 0 none = 0 := rfl
  rw [h1, h2]
  simp
theorem w_habits4 {most : Nat} (B : BagAt μ n c) (hc : c + 300 < 1000000000) (hm1 : 1 ≤ most) (hm3 : most ≤ 3)
    (q : ∀ h : Hb, h.ok → ∀ μ', BagAt μ' n (c + 300) → Fr n μ μ' → Q (habX h) μ') : WF m_law_habits [.ref n, .int most] μ Q := by
  have nlt := B.lt
  refine wf_def ?_
  show WS _ [some (.ref n), some (.int most), none, none, none, none, none, none, none, none, none] _ _
  refine ws_seq (ws_asg (we_call (wa_cons (we_varX ⟨_, rfl, wa_cons (we_call (wa_cons (we_varX ⟨_, rfl, wa_cons (we_op (we_tup ?_))⟩)))⟩))))
  refine wa_cons (we_c (wa_cons (we_c (wa_cons (we_c (wa_cons (we_c (wa_cons (we_c (wa_cons (we_c (wa_nil ⟨by simp, we_takeC rfl B (by omega) (by decide) (by decide) fun d m1 d0 d1 B1 F1 => ?_⟩))))))))))))
  obtain ⟨z, hz, z1, z3⟩ := many_at d0 d1
  obtain ⟨many, hmany, mn1, mn3⟩ : ∃ many : Nat, (if (z : Int) < (most : Int) then (z : Int) else (most : Int)) = (many : Int) ∧ 1 ≤ many ∧ many ≤ 3 := by
    split
    · exact ⟨z, rfl, z1, z3⟩
    · exact ⟨most, rfl, hm1, hm3⟩
  refine wo_ixT hz (wa_nil (wf_min (wa_nil ?_)))
  rw [hmany]
  refine wf_lenIs rfl (w_names0 B1 (by omega) mn3 fun ts a2 m2 tl tn tN ha2 h2 B2 F2 => wg_n ?_)
  have l12 : μ.length ≤ m2.length := by have := F1.1; have := F2.1; omega
  have n2 : a2 ≠ n := by have := B1.lt; omega
  refine ws_seq (ws_par (wa_cons (we_lst (wa_nil ⟨by simp, wa_cons (we_lst (wa_nil ⟨by simp, wa_nil ⟨_, _, rfl, ?_⟩⟩))⟩))))
  have l22 := lt_at h2
  rw [show (m2 ++ [MO.lst []]).length = m2.length + 1 by simp, List.append_assoc]
  have k7 : (m2 ++ ([MO.lst []] ++ [MO.lst []]))[m2.length]? = some (.lst []) := by rw [at_app0]; rfl
  have k8 : (m2 ++ ([MO.lst []] ++ [MO.lst []]))[m2.length + 1]? = some (.lst []) := by rw [at_app]; rfl
  have g3 : Gr m2 (m2 ++ ([MO.lst []] ++ [MO.lst []])) := gr_app
  generalize m2 ++ ([MO.lst []] ++ [MO.lst []]) = m3 at k7 k8 g3
  have B3 := B2.gr g3
  have n2lt := B2.lt
  refine ws_seq (ws_for (wi_L (we_varX ⟨_, rfl, _, _, rfl, g3.at_ h2, ?_⟩)))
  refine ws_forA (as := ts) (f := D.str) (fun z e m => ∃ x3 x9 a8 ps es, e = [some (.ref n), some (.int most), some (.ref a2), x3, none, none, none, some (.ref m2.length), some (.ref a8), x9, none] ∧ BagAt m n (c + 50 + 3 * (z.length : Int)) ∧ m[m2.length]? = some (.lst (ps.map Pn.d)) ∧ ps.map Pn.n = z ∧ (∀ p ∈ ps, p.fit) ∧
    m[a8]? = some (.lst (es.map eD)) ∧ En ts z es ∧ m2.length < a8 ∧ Sv n m2.length m3 m) (fun z e m hI => ?_) ?_ ?_ ⟨none, none, m2.length + 1, [], [], rfl, by simpa using B3.mono (by omega), k7, rfl, by simp, k8, En.nil, by omega, Sv.refl⟩
  · obtain ⟨x3, x9, a8, ps, es, _, _, _, _, _, _, _, _, sv⟩ := hI
    show m[a2]? = _
    exact sv.at_ (g3.at_ h2) n2 (by omega)
  · rintro z t r e m hz2 ⟨x3, x9, a8, ps, es, rfl, B4, h7, hpn, hpf, h8, E, ha8, sv⟩
    have hz3 : z.length + 1 ≤ 3 := by
      have := congrArg List.length hz2
      simp only [List.length_append, List.length_cons] at this
      omega
    have ht : t ∈ ts := by rw [hz2]; simp
    have htz : t ∉ z := fun q => by
      rw [hz2, List.nodup_append] at tn
      exact tn.2.2 t q t (by simp) rfl
    have hzN : ∀ u ∈ z, Name u := fun u hu => tN u (by rw [hz2]; exact List.mem_append_left _ hu)
    have hpl : ps.length = z.length := by rw [← hpn, List.length_map]
    have hel := E.len
    refine wg_n (w_folkB B4 (by omega) h7 h8 (by omega) (by omega) (by omega) (by rw [List.length_map]; omega) (by omega) fun p b m' a y9 hp hf B' h7' la h8' sv' => .inl ⟨.inl rfl, some (.str t), y9, a, ps ++ [p], _, rfl, B'.mono (by simp; omega), by rw [h7']; simp, ?_, fun y hy => ?_, h8', E.add htz (tN t ht) hzN b, ?_, sv.trans sv'⟩)
    · rw [List.map_append, hpn, ← hp]; rfl
    · rcases List.mem_append.mp hy with hy | hy
      · exact hpf y hy
      · rw [List.mem_singleton.mp hy]; exact hf
    · have := lt_at h7
      omega
  · rintro e m ⟨x3, x9, a8, ps, es, rfl, B4, h7, hpn, hpf, h8, E, ha8, sv⟩
    have tl3 : ts.length ≤ 3 := by omega
    have hel := E.len
    have hrg : -(2 ^ 62) ≤ (2 : Int) ∧ (2 : Int) < 2 ^ 62 := by decide
    refine ws_seq (ws_for (wi_R1 (wa_cons (we_c (wa_nil ⟨_, rfl, hrg, ?_⟩)))))
    rw [show rngD 0 (2 : Int).toNat = [0, 1].map (fun k : Int => D.int k) from rfl]
    have h24 : m[a2]? = some (.lst (ts.map .str)) := sv.at_ (g3.at_ h2) n2 (by omega)
    have hm8 := lt_at h8
    refine ws_forA (c := none) (as := [0, 1]) (f := fun k : Int => D.int k) (fun z e m' => ∃ x4 x10 es', e = [some (.ref n), some (.int most), some (.ref a2), x3, x4, none, none, some (.ref m2.length), some (.ref a8), x9, x10] ∧ BagAt m' n (c + 70 + 2 * (z.length : Int)) ∧ m'[a8]? = some (.lst (es'.map eD)) ∧ Eo ts es' ∧ es'.length ≤ es.length + z.length ∧ Sv n a8 m m') (fun _ _ _ _ => trivial) ?_ ?_
      ⟨none, none, es, rfl, by simpa using B4.mono (by omega), h8, E.eo, by simp, Sv.refl⟩
    · rintro z k r e m' hz4 ⟨x4, x10, es', rfl, B5, h85, E5, l5, s5⟩
      have hz5 : z.length + 1 ≤ 2 := by
        have := congrArg List.length hz4
        simp only [List.length_append, List.length_cons, List.length_nil] at this
        omega
      refine wg_n (w_pairB B5 (by omega) (s5.at_ h24 n2 (by omega)) h85 n2 (by omega) (by omega) tl3 tN E5 (by omega) fun es'' m'' y10 E6 l6 B6 h86 s6 => .inl ⟨.inl rfl, some (.int k), y10, es'', rfl, B6.mono (by simp; omega), h86, E6, by simp; omega, s5.trans s6⟩)
    · rintro e m' ⟨x4, x10, es', rfl, B5, h85, E5, l5, s5⟩
      simp only [List.length_cons, List.length_nil] at l5 B5
      have hE1 : 1 ≤ es'.length := by
        obtain ⟨t, ht⟩ : ∃ t, t ∈ ts := List.exists_mem_of_length_pos (by omega)
        exact List.length_pos_of_mem (E5.hm t ht)
      refine ws_seq (ws_asg (we_take (many := (es'.length : Int)) rfl (we_call (wa_cons (we_varX ⟨_, rfl, wa_nil (wf_len h85 ⟨by simp, rfl⟩)⟩))) B5 (by omega) (by omega) (by omega) fun d m6 d0 d1 B6 F6 => wg_n ?_))
      obtain ⟨k, rfl⟩ : ∃ k : Nat, d = (k : Int) := ⟨d.toNat, by omega⟩
      have n8 : a8 ≠ n := by omega
      have h86 : m6[a8]? = some (.lst (es'.map eD)) := by rw [F6.2 _ n8]; exact h85
      have hkl : k ≤ (es'.map eD).length := by rw [List.length_map]; omega
      have sl1 : ∀ (env : Sl) (mm : Mem), env[8]? = some (some (.ref a8)) → env[5]? = some (some (.int k)) → mm[a8]? = some (.lst (es'.map eD)) → mSl (mVar 8) (mPt (mVar 5)) mNo env mm = some (.ref mm.length, mm ++ [.lst ((es'.map eD).drop k)]) := fun env mm k8 k5 km => by
        simp only [mDef, mSeq, mAsg, mVar, gmTup, gmCons, gmN, gmNil, mRet, mJs, jsGo, mC, mFmt, mIte, mTs, mOp, oIs, isN, mIf, mSkip, mEx, mBM, fAppend, fMut, mLst, mTup, mCons, mNil, mCall, lenIs, mAnd, mOr, mNot, mAndV, mOrV, mNotV, mChain, mSl, mPt, mNo, mPar, mFld, mSfld, gmSub, mAug, mBrk, mCnt, mJoin, seqAt, lstAt, strsOf, List.map_cons, List.map_nil, List.length_cons, List.length_nil, List.length_append, List.replicate, List.cons_append, List.nil_append, List.append_assoc, List.append_nil, List.set, List.getElem?_cons_zero, List.getElem?_cons_succ, List.getElem?_nil, Nat.reduceAdd, Nat.reduceSub, Nat.reduceLeDiff, Nat.reduceEqDiff, Nat.reduceLT, Nat.reduceMul, Nat.add_assoc, Nat.zero_add, if_true, if_false, Option.map_some, Option.map_none, Option.bind_some, Bool.false_eq_true, Bool.not_true, Bool.not_false, at_app, at_app0, set_app, set_app0, k8, k5, km, oSl, cutLo hkl]
      have sl2 : ∀ (env : Sl) (mm : Mem), env[8]? = some (some (.ref a8)) → env[5]? = some (some (.int k)) → mm[a8]? = some (.lst (es'.map eD)) → mSl (mVar 8) mNo (mPt (mVar 5)) env mm = some (.ref mm.length, mm ++ [.lst ((es'.map eD).take k)]) := fun env mm k8 k5 km => by
        simp only [mDef, mSeq, mAsg, mVar, gmTup, gmCons, gmN, gmNil, mRet, mJs, jsGo, mC, mFmt, mIte, mTs, mOp, oIs, isN, mIf, mSkip, mEx, mBM, fAppend, fMut, mLst, mTup, mCons, mNil, mCall, lenIs, mAnd, mOr, mNot, mAndV, mOrV, mNotV, mChain, mSl, mPt, mNo, mPar, mFld, mSfld, gmSub, mAug, mBrk, mCnt, mJoin, seqAt, lstAt, strsOf, List.map_cons, List.map_nil, List.length_cons, List.length_nil, List.length_append, List.replicate, List.cons_append, List.nil_append, List.append_assoc, List.append_nil, List.set, List.getElem?_cons_zero, List.getElem?_cons_succ, List.getElem?_nil, Nat.reduceAdd, Nat.reduceSub, Nat.reduceLeDiff, Nat.reduceEqDiff, Nat.reduceLT, Nat.reduceMul, Nat.add_assoc, Nat.zero_add, if_true, if_false, Option.map_some, Option.map_none, Option.bind_some, Bool.false_eq_true, Bool.not_true, Bool.not_false, at_app, at_app0, set_app, set_app0, k8, k5, km, oSl, cutHi hkl]
      refine ws_seq (ws_asg (w_ways (es := es'.drop k ++ es'.take k) B6 (by omega) (by simp; omega) (fun e he => E5.okE tN e ((rot_perm es' k).mem_iff.mp he)) rfl rfl (a := m6.length + 2) ?_))
      refine we_op (we_eq (sl1 _ _ rfl rfl h86) (we_eq (sl2 _ _ rfl rfl (gr_app.at_ h86)) (wo_addL (xs := (es'.map eD).drop k) (ys := (es'.map eD).take k) ?_ at_app0 (by simp; omega) ⟨by simp, ?_, by have := B6.lt; omega, ?_, fun ws m7 hw wf B7 h7w F7 => wg_n ?_⟩)))
      · rw [List.append_assoc, at_app0]; rfl
      · rw [List.append_assoc, List.append_assoc, at_app]; simp
      · exact (gr_app.trans gr_app).trans gr_app
      have g67 : Gr m6 (m6 ++ [MO.lst ((es'.map eD).drop k)] ++ [MO.lst ((es'.map eD).take k)] ++ [MO.lst ((es'.map eD).drop k ++ (es'.map eD).take k)]) := (gr_app.trans gr_app).trans gr_app
      generalize m6 ++ [MO.lst ((es'.map eD).drop k)] ++ [MO.lst ((es'.map eD).take k)] ++ [MO.lst ((es'.map eD).drop k ++ (es'.map eD).take k)] = m6b at g67 h7w F7
      have hwl : ws.length = es'.length := by
        have := congrArg List.length hw
        rw [List.length_map, (rot_perm es' k).length_eq] at this
        exact this
      have k75 : m7[m2.length]? = some (.lst (ps.map Pn.d)) := by
        rw [F7.2 _ (by have := g67.1; have := F6.1; have := s5.1; have := lt_at h7; omega) (by omega)]
        refine g67.at_ ?_
        rw [F6.2 _ (by omega)]
        exact s5.at_ h7 (by omega) (by omega)
      have hBl := B7.lt
      refine ws_ret (we_tup (wa_cons (we_call (wa_cons (we_varX ⟨_, rfl, wa_nil (wf_tupR k75 (wa_cons (we_call (wa_cons (we_varX ⟨_, rfl, wa_nil (wf_tupR h7w (wa_cons (we_op (we_tup ?_))))⟩)))))⟩)))))
      refine wa_cons (we_c (wa_cons (we_c (wa_cons (we_c (wa_cons (we_c (wa_nil ⟨by simp, we_takeC rfl B7 (by simp; omega) (by decide) (by decide) fun d m8 d0 d1 B8 F8 => ?_⟩))))))))
      obtain ⟨s, hs, s0, s2⟩ := steps_at d0 d1
      refine wo_ixT hs (wa_nil ⟨by simp, ?_⟩)
      have hpl : ps.length = ts.length := by rw [← hpn, List.length_map]
      have okL : Laid ps ws s := (eo_laid (by omega) (by omega) (fun p hp => tN _ (by rw [← hpn]; exact List.mem_map_of_mem hp)) (by rw [hpn]; exact tn) hpf (by rw [hpn]; exact E5) (by rw [hw]; exact rot_perm es' k) wf (by omega) s0 s2)
      refine q ⟨ps, ws, s⟩ okL m8 (B8.mono (by simp; omega)) ?_
      refine ⟨?_, fun j hj hjn => ?_⟩
      · have := F8.1; have := F7.1; have := g67.1; have := F6.1; have := s5.1; have := sv.1; have := g3.1; omega
      · have a1 := F7.1; have a2 := g67.1; have a3 := F6.1; have a4 := s5.1; have a5 := sv.1; have a6 := g3.1
        rw [F8.2 _ hjn, F7.2 _ (by omega) hjn, g67.2 _ (by omega), F6.2 _ hjn, s5.2 _ (by omega) hjn (by omega), sv.2 _ (by omega) hjn (by omega), g3.2 _ (by omega), F2.2 _ (by have := F1.1; omega) hjn, F1.2 _ hjn]
end T4

/-! T4B: the law k74. -/
namespace T4
open PySem L2 MR
variable {μ : Mem} {Q : D → Mem → Prop} {n : Nat} {c : Int}
theorem ok_chars {z : Str} (h : ∀ c ∈ z.cps.toList, c ≤ 122) : PyData.strOk z = true := by
  unfold PyData.strOk
  rw [Array.all_eq_true']
  intro c hc
  have := h c (by simpa using hc); exact decide_eq_true (by omega)
def Ch (z : Str) : Prop := ∀ c ∈ z.cps.toList, c ≤ 122
theorem ch_c {z : Str} (h : decide (∀ c ∈ z.cps.toList, c ≤ 122) = true) : Ch z := of_decide_eq_true (p := ∀ c ∈ z.cps.toList, c ≤ 122) h
theorem ch_low {z : Str} (h : Low z) : Ch z := fun c hc => (h c hc).2
theorem ch_num {i : Int} (h : figD i) : Ch (numS i) := fun c hc => by
  have hc' : c = 48 + i.toNat := by simpa [numS] using hc
  unfold figD at h
  omega
theorem ch_name {z : Str} (h : Name z) : Ch z := ch_low h.1.2.2
theorem ch_ao {ts : List Str} (hts : ∀ t ∈ ts, Name t) {w : Wy} (h : Ao ts ts w.ends) : Ch w.g ∧ Ch w.t := by
  have hh : Ch house := ch_c (by decide +kernel)
  obtain ⟨t, ht, h⟩ := h
  rcases h with h | h | ⟨h1, h2, _⟩
  · rw [show w.g = t from congrArg Prod.fst h, show w.t = house from congrArg Prod.snd h]; exact ⟨ch_name (hts t ht), hh⟩
  · rw [show w.g = house from congrArg Prod.fst h, show w.t = t from congrArg Prod.snd h]; exact ⟨hh, ch_name (hts t ht)⟩
  · rw [show w.g = t from h1]; exact ⟨ch_name (hts t ht), ch_name (hts w.t h2)⟩
theorem ch_words {h : Hb} (L : h.ok) : ∀ l ∈ linesH h.ps h.ws h.s, ∀ z ∈ l, Ch z := fun l hl z hz => by
  rcases List.mem_cons.mp hl with rfl | hl
  · rcases List.mem_cons.mp hz with rfl | hz
    · exact ch_c (by decide +kernel)
    · rw [List.mem_singleton.mp hz]; exact ch_num (steps_fig L)
  · rcases List.mem_append.mp hl with hl | hl
    · obtain ⟨p, hp, rfl⟩ := List.mem_map.mp hl
      simp only [wF, List.mem_cons, List.not_mem_nil, or_false] at hz
      rcases hz with rfl | rfl | rfl | rfl
      · exact ch_c (by decide +kernel)
      · exact ch_name (L.nm p hp)
      · rcases (L.pf p hp).1 with h | h <;> rw [h] <;> exact ch_c (by decide +kernel)
      · cases hq : p.q with
        | none => exact ch_c (by decide +kernel)
        | some i => exact ch_num (keep_fig (L.pf p hp) hq)
    · obtain ⟨w, hw, rfl⟩ := List.mem_map.mp hl
      obtain ⟨k1, k2⟩ := ch_ao L.names (L.rd.inn w hw)
      obtain ⟨f1, f2⟩ := way_fig (L.rd.fit w hw)
      unfold wW at hz
      (rcases List.mem_append.mp hz with hz | hz)
      · rcases List.mem_append.mp hz with hz | hz
        · simp only [List.mem_cons, List.not_mem_nil, or_false] at hz
          rcases hz with rfl | rfl | rfl | rfl | rfl
          · exact ch_c (by decide +kernel)
          · exact k1
          · exact k2
          · exact ch_num f1
          · exact ch_num f2
        · split at hz
          · rw [List.mem_singleton.mp hz]; exact ch_c (by decide +kernel)
          · cases hz
      · split at hz
        · rw [List.mem_singleton.mp hz]; exact ch_c (by decide +kernel)
        · cases hz
theorem textH_ok {h : Hb} (L : h.ok) : PyData.strOk (textH h) = true := ok_chars fun c hc => by
  unfold textH text at hc
  rw [feed_is, join_jn] at hc
  rcases jn_mem hc with h1 | ⟨x, hx, h1⟩
  · omega
  · rw [List.map_map] at hx
    obtain ⟨l, hl, rfl⟩ := List.mem_map.mp hx
    have h1' : c ∈ (line l).cps.toList := h1
    rw [line_list] at h1'
    rcases jn_mem h1' with h2 | ⟨y, hy, h2⟩
    · omega
    · obtain ⟨z, hz, rfl⟩ := List.mem_map.mp hy
      exact ch_words L l hl z hz c h2
theorem wf_made {h : Hb} (L : h.ok) (q : ∀ k μ', Gr μ μ' → μ.length ≤ k → μ'[k]? = some h.o → Q (.ref k) μ') : WF m_law_made [habX h] μ Q := by
  refine wf_def ?_
  show WS _ [some (habX h)] _ _
  refine ws_ret (we_habits L ?_)
  refine we_op (we_varX ⟨_, rfl, we_c (wo_ixT (i := 0) (d := .tup (h.ps.map Pn.d)) rfl ?_)⟩)
  refine we_op (we_varX ⟨_, rfl, we_c (wo_ixT (i := 1) (d := .tup (h.ws.map Wy.d)) rfl ?_)⟩)
  refine we_op (we_varX ⟨_, rfl, we_c (wo_ixT (i := 2) (d := .int h.s) rfl ⟨rfl, rfl, rfl, fun μ' ho hg => q _ μ' hg (Nat.le_refl _) ho⟩)⟩)
theorem ne_same {a : Str} : (!(a == a)) = false := by simp
theorem ne_hb {h : Hb} (L : h.ok) : (!h.e h) = false := by rw [Hb.e_refl L]; rfl
def up (h : Hb) : Hb := ⟨h.ps, h.ws, (h.s + 1) % 3⟩
theorem up_ok {h : Hb} (L : h.ok) : (up h).ok := ⟨L.l1, L.l3, L.nm, L.nd, L.pf, L.rd, L.hm, L.wl, Int.emod_nonneg _ (by decide), by have := Int.emod_lt_of_pos (h.s + 1) (show (0 : Int) < 3 by decide); show (h.s + 1) % 3 ≤ 2; omega⟩
theorem up_ne {h : Hb} (L : h.ok) : (up h).e h = false := by
  rw [Hb.e_eq]
  have : PyData.eqv (.int (up h).s) (.int h.s) = false := by
    have h0 := L.s0
    have h2 := L.s2
    have : (up h).s ≠ h.s := by show (h.s + 1) % 3 ≠ h.s; omega
    simpa [PyData.eqv] using this
  rw [this]
  simp
noncomputable def lawB : MSt := (mSeq (mAsg (mCall (lenIs 2 m_law_bag) (mCons (mVar 0) (mCons (mVar 1) mNil))) (gmN 2))
  (mSeq (mAsg (mCall (lenIs 2 m_law_habits) (mCons (mVar 2) (mCons (mC (.int 3)) mNil))) (gmN 3))
  (mSeq (mPar 7 8 (mCons (mCall (lenIs 1 m_law_made) (mCons (mVar 3) mNil)) (mCons (mCall (lenIs 1 m_law_text) (mCons (mVar 3) mNil)) mNil)))
  (mSeq (mAsg (mCall (lenIs 1 m_show_habits) (mCons (mVar 7) mNil)) (gmN 4))
  (mSeq (mIf (mOr (mNot (mTs (mCall fIsi (mCons (mVar 4) (mCons (mC (.ty "str")) mNil))))) (mOr (mTs (mOp (oEq true) (mVar 4) (mVar 8))) (mTs (mOp (oEq true) (mCall (lenIs 1 m_show_habits) (mCons (mCall (lenIs 1 m_law_made) (mCons (mVar 3) mNil)) mNil)) (mVar 8)))))
  (mRet (mC (.bl false)))
  mSkip)
  (mSeq (mAsg (mCall (lenIs 1 m_read_habits) (mCons (mVar 8) mNil)) (gmN 5))
  (mSeq (mIf (mOr (mNot (mTs (mCall (fIsiO 0) (mCons (mVar 5) (mCons (mC (.cl 0)) mNil))))) (mOr (mTs (mOp (oNeOwn 0 m_Habits_eq) (mVar 5) (mVar 7))) (mTs (mOp (oEq true) (mTup (mCons (mFld 0 "folk" (mVar 5)) (mCons (mFld 0 "ways" (mVar 5)) (mCons (mFld 0 "steps" (mVar 5)) mNil)))) (mVar 3)))))
  (mRet (mC (.bl false)))
  mSkip)
  (mSeq (mIf (mOr (mTs (mOp (oNeOwn 0 m_Habits_eq) (mCall (lenIs 1 m_read_habits) (mCons (mVar 8) mNil)) (mVar 5))) (mOr (mTs (mOp (oEq true) (mCall (lenIs 1 m_show_habits) (mCons (mVar 5) mNil)) (mVar 8))) (mTs (mOp (oEq true) (mCall (fLenOwn 0 m_Habits_len) (mCons (mVar 5) mNil)) (mCall fLen (mCons (mOp oIx (mVar 3) (mC (.int 0))) mNil))))))
  (mRet (mC (.bl false)))
  mSkip)
  (mSeq (mAsg (mCall (lenIs 2 m_law_habits) (mCons (mVar 2) (mCons (mC (.int 3)) mNil))) (gmN 6))
  (mSeq (mIf (mTs (mOp (oEq true) (mOp (oEqA 0 m_Habits_eq) (mCall (lenIs 1 m_read_habits) (mCons (mCall (lenIs 1 m_law_text) (mCons (mVar 6) mNil)) mNil)) (mVar 5)) (mOp (oEq false) (mVar 6) (mVar 3))))
  (mRet (mC (.bl false)))
  mSkip)
  (mIf (mTs (mOp (oEqA 0 m_Habits_eq) (mCall (lenIs 1 m_read_habits) (mCons (mCall (lenIs 1 m_law_text) (mCons (mTup (mCons (mOp oIx (mVar 3) (mC (.int 0))) (mCons (mOp oIx (mVar 3) (mC (.int 1))) (mCons (mOp oMod (mOp oAdd (mOp oIx (mVar 3) (mC (.int 2))) (mC (.int 1))) (mC (.int 3))) mNil)))) mNil)) mNil)) (mVar 5)))
  (mRet (mC (.bl false)))
  mSkip)))))))))))
theorem w_lawB {xs : List Int} {k : Nat} (hk : k < 1000000) {x2 x3 x4 x5 x6 x7 x8 : Option D} {QS : Fl → Sl → Mem → Prop} (q : ∀ y2 y3 y4 y5 y6 y7 y8 m, QS .nx [some (.scr (xs.map .int)), some (.int k), y2, y3, y4, y5, y6, y7, y8] m) :
    WS lawB [some (.scr (xs.map .int)), some (.int k), x2, x3, x4, x5, x6, x7, x8] μ QS := by
  unfold lawB
  refine ws_seq (ws_asg (we_call (wa_cons (we_varX ⟨_, rfl, wa_cons (we_varX ⟨_, rfl, wa_nil (wf_lenIs rfl (w_bag hk fun m1 B1 l1 _ => wg_n ?_))⟩)⟩))))
  generalize μ.length + 1 = n at B1
  refine ws_seq (ws_asg (we_call (wa_cons (we_varX ⟨_, rfl, wa_cons (we_c (wa_nil (wf_lenIs rfl (w_habits4 (most := 3) B1 (by omega) (by decide) (by decide) fun h L m2 B2 F2 => wg_n ?_))))⟩))))
  have ok := textH_ok L
  refine ws_seq (ws_par (wa_cons (we_call (wa_cons (we_varX ⟨_, rfl, wa_nil (wf_lenIs rfl (wf_made L fun k7 m3 g3 _ h7 => wa_cons (we_call (wa_cons (we_varX ⟨_, rfl, wa_nil (wf_lenIs rfl (wf_lawText L fun m4 g4 => wa_nil ⟨_, _, rfl, ?_⟩))⟩)))))⟩)))))
  have h74 := g4.at_ h7
  have B4 := (B2.gr g3).gr g4
  refine ws_seq (ws_asg (we_call (wa_cons (we_varX ⟨_, rfl, wa_nil (wf_lenIs rfl (wf_show L h74 fun m5 g5 => wg_n ?_))⟩))))
  have B5 := B4.gr g5
  have h75 := g5.at_ h74
  refine ws_seq (ws_if (wt_or (wt_not (wt_ts (we_call (wa_cons (we_varX ⟨_, rfl, wa_cons (we_c (wa_nil ⟨.bl true, m5, rfl, _, rfl, fun _ => ?_, fun z => ?_⟩))⟩)))))))
  rotate_left
  · cases z
  refine wt_or (wt_ts (we_op (we_varX ⟨_, rfl, we_varX ⟨_, rfl, wo_neS ok ok ⟨_, rfl, fun _ => ?_, fun z => ?_⟩⟩⟩)))
  rotate_left
  · rw [ne_same] at z; cases z
  refine wt_ts (we_op (we_call (wa_cons (we_call (wa_cons (we_varX ⟨_, rfl, wa_nil (wf_lenIs rfl (wf_made L fun k8 m6 g6 _ h8 => wa_nil (wf_lenIs rfl (wf_show L h8 fun m7 g7 => we_varX ⟨_, rfl, wo_neS ok ok ⟨_, rfl, fun z => ?_, fun _ => ws_skip ?_⟩⟩))))⟩))))))
  · rw [ne_same] at z; cases z
  have g57 := g6.trans g7
  have h77 := g57.at_ h75
  have B7 := B5.gr g57
  refine ws_seq (ws_asg (we_call (wa_cons (we_varX ⟨_, rfl, wa_nil (wf_lenIs rfl (wf_rdHabits L fun k9 m8 g8 _ h9 => wg_n ?_))⟩))))
  have h78 := g8.at_ h77
  have B8 := B7.gr g8
  refine ws_seq (ws_if (wt_or (wt_not (wt_ts (we_call (wa_cons (we_varX ⟨_, rfl, wa_cons (we_c (wa_nil (wf_isiO (seen_hb h9) ⟨_, rfl, fun _ => ?_, fun z => ?_⟩)))⟩)))))))
  rotate_left
  · cases z
  refine wt_or (wt_ts (we_op (we_varX ⟨_, rfl, we_varX ⟨_, rfl, wo_neOO L L h9 h78 ⟨_, rfl, fun _ => ?_, fun z => ?_⟩⟩⟩)))
  rotate_left
  · rw [ne_hb L] at z; cases z
  refine wt_ts (we_op (we_tup (wa_cons (we_eq (fld_folk rfl h9) (wa_cons (we_eq (fld_ways rfl h9) (wa_cons (we_eq (fld_steps rfl h9) (wa_nil ⟨by simp, we_varX ⟨_, rfl, wo_hbN L L ⟨_, rfl, fun z => ?_, fun _ => ws_skip ?_⟩⟩⟩)))))))))
  · rw [ne_hb L] at z; cases z
  refine ws_seq (ws_if (wt_or (wt_ts (we_op (we_call (wa_cons (we_varX ⟨_, rfl, wa_nil (wf_lenIs rfl (wf_rdHabits L fun kA m9 g9 _ hA => we_varX ⟨_, rfl, wo_neOO L L hA (g9.at_ h9) ⟨_, rfl, fun _ => ?_, fun z => ?_⟩⟩))⟩)))))))
  rotate_left
  · rw [ne_hb L] at z; cases z
  have h99 := g9.at_ h9
  have B9 := B8.gr g9
  refine wt_or (wt_ts (we_op (we_call (wa_cons (we_varX ⟨_, rfl, wa_nil (wf_lenIs rfl (wf_show L h99 fun mA gA => we_varX ⟨_, rfl, wo_neS ok ok ⟨_, rfl, fun _ => ?_, fun z => ?_⟩⟩))⟩)))))
  rotate_left
  · rw [ne_same] at z; cases z
  have h9A := gA.at_ h99
  have BA := B9.gr gA
  refine wt_ts (we_op (we_call (wa_cons (we_varX ⟨_, rfl, wa_nil (wf_lenO L h9A (we_call (wa_cons (we_op (we_varX ⟨_, rfl, we_c (wo_ixT (i := 0) (d := .tup (h.ps.map Pn.d)) rfl (wa_nil (wf_lenT (wo_ne rfl rfl rfl rfl ⟨_, rfl, fun z => ?_, fun _ => ws_skip ?_⟩))))⟩)))))⟩))))
  · simp [PyData.eqv] at z
  refine ws_seq (ws_asg (we_call (wa_cons (we_varX ⟨_, rfl, wa_cons (we_c (wa_nil (wf_lenIs rfl (w_habits4 (most := 3) BA (by omega) (by decide) (by decide) fun h2 L2 mB BB FB => wg_n ?_))))⟩))))
  have nB : k9 ≠ n := by
    rintro rfl
    obtain ⟨_, _, _, e, _⟩ := BA
    rw [h9A] at e; cases e
  have h9B : mB[k9]? = some h.o := by rw [FB.2 _ (lt_at h9A) nB]; exact h9A
  refine ws_seq (ws_if (wt_ts (we_op (we_op (we_call (wa_cons (we_call (wa_cons (we_varX ⟨_, rfl, wa_nil (wf_lenIs rfl (wf_lawText L2 fun mC gC => wa_nil (wf_lenIs rfl (wf_rdHabits L2 fun kD mD gD _ hD => we_varX ⟨_, rfl, wo_eqOO L2 L hD ((gC.trans gD).at_ h9B) ?_⟩))))⟩)))))))))
  refine we_op (we_varX ⟨_, rfl, we_varX ⟨_, rfl, wo_hb L2 L (wo_ne rfl rfl rfl rfl ⟨_, rfl, fun z => ?_, fun _ => ws_skip ?_⟩)⟩⟩)
  · cases hh : h2.e h <;> rw [hh] at z <;> simp [PyData.eqv] at z
  have h9D := (gC.trans gD).at_ h9B
  have Lu := up_ok L
  refine ws_if (wt_ts (we_op (we_call (wa_cons (we_call (wa_cons (we_tup ?_)))))))
  refine wa_cons (we_op (we_varX ⟨_, rfl, we_c (wo_ixT (i := 0) (d := .tup (h.ps.map Pn.d)) rfl ?_)⟩))
  refine wa_cons (we_op (we_varX ⟨_, rfl, we_c (wo_ixT (i := 1) (d := .tup (h.ws.map Wy.d)) rfl ?_)⟩))
  refine wa_cons (we_op (we_op (we_op (we_varX ⟨_, rfl, we_c (wo_ixT (i := 2) (d := .int h.s) rfl (we_c (wo_add (we_c (wo_mod (by decide) (wa_nil ⟨by simp, ?_⟩))))))⟩))))
  refine wa_nil (wf_lenIs rfl (wf_lawText Lu fun mE gE => wa_nil (wf_lenIs rfl (wf_rdHabits Lu fun kF mF gF _ hF => we_varX ⟨_, rfl, wo_eqOO Lu L hF ((gE.trans gF).at_ h9D) ⟨_, rfl, fun z => ?_, fun _ => ws_skip (q _ _ _ _ _ _ _ _)⟩⟩))))
  rw [up_ne L] at z; cases z
theorem wf_max4 {i j : Int} (q : Q (.int (if j > i then j else i)) μ) : WF fMax2 [.int i, .int j] μ Q := ⟨_, μ, rfl, q⟩
theorem wf_k74 {xs : List Int} (hl : xs.length < 1000) : WF m_law [.scr (xs.map .int)] [] fun d _ => d = .bl true := by
  refine wf_def ?_
  show WS _ [some (.scr (xs.map .int)), none, none, none, none, none, none, none, none] _ _
  have hlen : WF fLen [.scr (xs.map .int)] [] fun d m => d = .int xs.length ∧ m = [] := ⟨_, [], rfl, by simp, rfl⟩
  refine ws_seq (ws_for (wi_R1 (wa_cons (we_call (wa_cons (we_c (wa_cons (we_call (wa_cons (we_c (wa_cons (we_call (wa_cons (we_var rfl (wa_nil (hlen.imp ?_))))))))))))))))
  rintro d m ⟨rfl, rfl⟩
  refine wa_nil (wf_min (wa_nil (wf_max4 (wa_nil ⟨_, rfl, ?_, ?_⟩))))
  · split <;> split <;> omega
  generalize hj : (if (if (xs.length : Int) < 8 then (xs.length : Int) else 8) > 4 then (if (xs.length : Int) < 8 then (xs.length : Int) else 8) else 4) = j
  have j8 : j ≤ 8 := by rw [← hj]; split <;> split <;> omega
  rw [show rngD 0 j.toNat = (List.range j.toNat).map (fun k : Nat => D.int (k : Int)) by simp [rngD]]
  refine ws_forA (c := none) (as := List.range j.toNat) (f := fun k : Nat => D.int (k : Int)) (fun _ e _ => ∃ x1 x2 x3 x4 x5 x6 x7 x8, e = [some (.scr (xs.map .int)), x1, x2, x3, x4, x5, x6, x7, x8]) (fun _ _ _ _ => trivial) ?_ ?_ ⟨_, _, _, _, _, _, _, _, rfl⟩
  · rintro z k r e m hz ⟨x1, x2, x3, x4, x5, x6, x7, x8, rfl⟩
    have hk : k < j.toNat := List.mem_range.mp (by rw [hz]; simp)
    exact wg_n (w_lawB (by omega) fun y2 y3 y4 y5 y6 y7 y8 m' => .inl ⟨.inl rfl, _, y2, y3, y4, y5, y6, y7, y8, rfl⟩)
  · rintro e m ⟨x1, x2, x3, x4, x5, x6, x7, x8, rfl⟩
    exact ws_ret (we_c rfl)
end T4

/-! MREnd: a law's promise out of its twin's wish. -/
namespace MR
open PySem L2
theorem sqf_only {K : PySem.W.Frag} {H : Hp} {a : Addr} {xs : List V} (hO : Only H) (h : SqL K H a xs) : SqF K H a xs := by
  (rcases h with (h | ⟨o, h⟩) | h)
  · rcases hO a with e | ⟨o, ys, e⟩ <;> rw [h] at e <;> cases e
  · exact .inl ⟨o, h⟩
  · exact .inr (.inr h)
theorem dens_ints {G : Gx} {ρ : List Addr} {H : Hp} : ∀ ns : List Int, Dens G ρ H (ns.map V.int) (ns.map D.int)
  | [] => .nil
  | n :: r => .cons .int (dens_ints r)
theorem law_wish {G : Gx} {f : List D → Mem → Option (D × Mem)} {H : Hp} {a : Addr} {ns : List Int} {E : XK} (hO : Only H) (hS : SqL G.K H a (ns.map V.int)) (h : ∃ d μ', f [.scr (ns.map .int)] [] = some (d, μ') ∧ d = .bl true) : spM G f 1 [.ref a] H (fun v _ => v = .bl true) E := by
  obtain ⟨d, μ', e, rfl⟩ := h
  refine ⟨[], [], [.scr (ns.map .int)], .bl true, μ', ⟨rfl, fun i j b h => by simp at h, fun n b o h => by simp at h⟩, .cons (.scr (sqf_only hO hS) (dens_ints ns)) .nil, rfl, e, fun ρ' H' v _ _ d => ?_⟩
  cases d
  rfl
end MR

namespace Tx
open PySem PySem.Spec PyProof.Rows L2 MR
theorem fin74 (hlaw : ∀ ns : List Int, ns.length ≤ 63 → ∃ d μ', m_law [.scr (ns.map .int)] [] = some (d, μ') ∧ d = .bl true) {w : World} {mg : Str → Option Value} {fa : Addr} {h : Heap} {K : PySem.W.Frag} (KX : K.In h) (G : h.Ns mainGlobals mg) (hlw : mg ("law" : PySem.Str) = some (.ref fa)) (c : He.SaysT Tx.fa Tx.fn Tx.ts w K) (x : (Tx.ex.all fun f => f K) = true) :
    ∃ (K : PySem.W.Frag) (fd : FuncData) (sp : Sp), K.In h ∧ (∀ (s : Shared) (u : Value), BindsTo s fd ⟨[u], []⟩ [("_law_script", u)]) ∧
        (∀ (H : Hp) (a : Addr) (ns : List Int), ns.length ≤ 63 → Only H → SqL K H a (ns.map V.int) → sp [.ref a] H (fun v _ => v = .bl true) fun _ _ _ => False) ∧
        ∀ base : Heap, K.In base → base.Ns mainGlobals mg → FnOk (PySem.Challenge.rw_nameagain_k74_habits_written).prog w K mg base CX0 8 fa fd ["_law_script"] sp := by
  have T := Tx.txt_of (w := w) KX G c x
  have e := hlw.symm.trans T.g_law
  cases e
  obtain ⟨fd, F, hF⟩ := Tx.ok_law (P := (PySem.Challenge.rw_nameagain_k74_habits_written).prog) (w := w) (G := ⟨K, fun c => He.ga K (xnames.getD c "")⟩) T rfl fun _ => rfl
  have b := L2.FunD.bindsA (ps := ["_law_script"]) F fun _ _ _ _ _ _ us hl => match us, hl with | [_], _ => rfl
  exact ⟨K, fd, _, KX, fun s v => b s [v] rfl, fun H a ns hl hO hS => MR.law_wish hO hS (hlaw ns (by omega)), fun base _ _ => hF base⟩
end Tx
open PySem
open PySem.W
open PySem.Calls PyProof.Rows
theorem PySem.Challenge.cw_nameagain_k74_habits_written_holds : PySem.Challenge.rw_nameagain_k74_habits_written.Holds := by
  w_on; o_law
  k_head
  (case hw => w_witness2)
  k_fill
  refine L2.walk_ofE (l := PySem.Challenge.rw_nameagain_k74_habits_written) (n := 63) (k := 8) (x := "_law_script") (CX := L2.CX0) rfl (by decide) (by kernel_rfl) ⟨rfl, by decide, by decide⟩ ?F (fun _ _ _ _ z => z)
  intro w mg fa h Y G hmg0
  have KX := PySem.W.kIn_of Y
  refine Tx.fin74 (fun ns hl => T4.wf_k74 (xs := ns) (by omega)) KX G hmg0 ?c ?x
  case c => (unfold He.SaysT; kernel_rfl)
  case x => kernel_rfl
