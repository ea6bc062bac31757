import PyProof.Rows.All
import Wide.All
import OpenK.AllK
import Wide.FinOn
import HandS.ForMost
import HandS.Conv
import HandS.StrMore
import HandS.IsInst
import HandS.Walk
import KE.DataMinMax
import HandS.ForExc
import HandS.ExcField
import HandS.TryMany
import HandS.ExcValue
import KE.KExcInit
import KE.KExcIs
import HandS.GenList
import HandS.NoneIn
import HandS.Star
import HandS.ClsMeth
import HandS.Property
import HandS.MakeKw
import HandS.SlotsOwn
import HandS.Style
import PyProof.Rows.StrRev
import KE.KFmtOwn
import PyProof.InstEq
import KE.GoesMore
import HandS.Iter
import HandS.More
import HandS.SuiteRaise
import HandS.RaiseFrom
import HandS.ExcInitHot
import KE.KSuper
import HandS.Defaults
import HandS.FStr
import HandS.Steps
import HandS.Strs
import HandS.SetFor
import HandS.DictComp
import PyProof.NeKinds
import HandS.OwnEq
import HandS.CallSlots
import PyProof.ReprLen
import HandS.TryOnly
import PyProof.Rows.SetFrom
import PyProof.P3In
import PyProof.ListIndex
import KE.GoesZip
import PyProof.CollectStr
import PyProof.Rows.SortStr
import PyProof.StrLaws
import HandS.Call
import HandS.SortKw
import PyProof.WalkInts
import HandS.Comp
import HandS.GenCall
import KE.GoesComp
import KE.KStateDown
import HandS.Head0
import HandS.Head1
import HandS.Head2
import HandS.HeadEnd
import HandS.HeadHook1
import HandS.HeadHook2
import HandS.Replace
import HandS.Flow
import HandS.Codes
import PySem.Challenge.RW_leakyqueue_k03_parts_of_programs
set_option Elab.async false
set_option linter.all false
set_option maxRecDepth 100000
set_option maxHeartbeats 4000000
namespace Own
open PySem PySem.Spec PyProof.Rows L2

section
variable {X : Cx} {k : Nat}
/-! repr of data, where no repr is under way -/
def rRepr (K : PySem.W.Frag) : List V → Hp → VK → Prop := fun xs H Q =>
  ∃ v d, xs = [v] ∧ Dp K H v d ∧ d.showable = true ∧ d.hasDict = false ∧ d.depth ≤ 60 ∧ d.shown.length ≤ sizeLine ∧ Q (.str d.shown) H
theorem call_reprD (hg : X.A.guards = some []) (hr : Room k X.A) : CallR X (.builtin "repr") (rRepr X.K) := by
  intro pins s σ H xs us Q I rl hh
  obtain ⟨v, d, rfl, hd, hs, hn, hdep, hsz, hq⟩ := hh
  obtain ⟨u, rfl, ru⟩ := vals1 rl
  have hun := hr.un
  obtain ⟨as, rd⟩ := Dp.reads I d v u hd ru
  cases hd with
  | non =>
    cases ru
    exact PySem.P.repr_of_none ⟨.str _, H, I.tok _, ⟨_, rfl⟩, hq⟩
  | bl b =>
    cases ru
    exact PySem.P.repr_of_bool ⟨.str _, H, I.tok _, ⟨_, rfl⟩, hq⟩
  | int i =>
    obtain ⟨t, rfl⟩ := ru
    exact PySem.P.repr_of_int (of_decide_eq_true hs) ⟨.str _, H, I.tok _, ⟨_, rfl⟩, hq⟩
  | str x =>
    obtain ⟨t, rfl⟩ := ru
    exact PySem.P.repr_of_str ⟨.str _, H, I.tok _, ⟨_, rfl⟩, hq⟩ hsz
  | lst h1 h2 =>
    cases ru
    exact repr_of_reads' rd hs (PyData.noDict_hsm hn) hg (by omega) (fun _ _ e => e)
      (fun h' u tk hk => ⟨.str _, H, I.kept hk, ⟨_, rfl⟩, hq⟩) hsz
  | tup h1 h2 =>
    cases ru
    exact repr_of_reads' rd hs (PyData.noDict_hsm hn) hg (by omega) (fun _ _ e => e)
      (fun h' u tk hk => ⟨.str _, H, I.kept hk, ⟨_, rfl⟩, hq⟩) hsz

/-! min of a list of alike data -/
theorem minD_mem (x : PyData) : ∀ ds : List PyData, PySem.W.minD x ds ∈ x :: ds := by
  intro ds
  unfold PySem.W.minD
  suffices h : ∀ (ds all : List PyData) (a : PyData), a ∈ all → (∀ y ∈ ds, y ∈ all) → ds.foldl (fun a y => if PySem.W.dataLt y a then y else a) a ∈ all from
    h ds (x :: ds) x (List.mem_cons_self ..) (fun y hy => List.mem_cons_of_mem _ hy)
  intro ds
  induction ds with
  | nil => intro all a ha _; exact ha
  | cons d ds ih =>
    intro all a ha hall
    rw [List.foldl_cons]
    refine ih all _ ?_ (fun y hy => hall y (List.mem_cons_of_mem _ hy))
    split
    · exact hall d (List.mem_cons_self ..)
    · exact ha
theorem DpAll.at {K : PySem.W.Frag} {H : Hp} : ∀ {vs : List V} {ds : List PyData} {i : Nat} {v : V}, DpAll K H vs ds → vs[i]? = some v → ∃ d, ds[i]? = some d ∧ Dp K H v d
  | _, _, _, _, .nil, e => by simp at e
  | _, _, 0, _, .cons h _, e => by simp at e; subst e; exact ⟨_, rfl, h⟩
  | _, _, i + 1, v, .cons _ t, e => by
    obtain ⟨d, h1, h2⟩ := DpAll.at (i := i) (v := v) t (by simpa using e)
    exact ⟨d, by simpa using h1, h2⟩
def rMinD (K : PySem.W.Frag) : List V → Hp → VK → Prop := fun xs H Q =>
  ∃ a vs x ds, xs = [.ref a] ∧ SqL K H a vs ∧ DpAll K H vs (x :: ds) ∧ PySem.W.AlikeAll (x :: ds) ∧ PyData.depthAll (x :: ds) ≤ 60 ∧
    ∀ (i : Nat) (v : V), vs[i]? = some v → (x :: ds)[i]? = some (PySem.W.minD x ds) → Q v H
theorem call_minD (hc : X.calm = true) (hr : Room k X.A) : CallR X (.builtin "min") (rMinD X.K) := by
  intro pins s σ H xs us Q I rl hh
  obtain ⟨a, vs, x, ds, rfl, hl, hd, hal, hdep, hq⟩ := hh
  obtain ⟨u, rfl, ru⟩ := vals1 rl
  cases ru
  have hun := hr.un
  obtain ⟨its, rv, pl, _⟩ := I.list hl
  obtain ⟨o, n, ho, hcl, hsl, hdt⟩ := pl
  obtain ⟨as, rd⟩ := Dp.readsAll I (x :: ds) vs its hd rv
  refine PySem.W.min_list_data (vs := its.toArray) (I.ok.hd hc) ⟨o, ho, hcl, n, hdt⟩ (by simpa using rd) hal (by omega) fun i v h' tk bs hv hrd hk => ?_
  have hv' : its[i]? = some v := by simpa using hv
  have hi : i < its.length := by
    rcases Nat.lt_or_ge i its.length with h | h
    · exact h
    · rw [List.getElem?_eq_none h] at hv'; cases hv'
  have hlen : vs.length = its.length := rv.length
  obtain ⟨w, hw⟩ : ∃ w, vs[i]? = some w := ⟨vs[i], List.getElem?_eq_getElem (by omega)⟩
  obtain ⟨v2, e2, rw2⟩ := rv.get hw
  rw [hv'] at e2
  cases e2
  obtain ⟨d, hd1, hd2⟩ := DpAll.at hd hw
  obtain ⟨cs, rdd⟩ := Dp.reads I d w v hd2 rw2
  have hmem : d ∈ x :: ds := List.mem_of_getElem? hd1
  have e : d = PySem.W.minD x ds := PySem.W.alike_unique d (PySem.W.minD x ds) v cs bs (hal.1 d hmem _ (minD_mem x ds)) (PySem.W.reads_keeps hk rdd) hrd
  rw [e] at hd1
  exact ⟨w, H, I.kept hk, rw2, hq i w hw hd1⟩

/-! list(text) -/
def sgV (z : Str) : List V := z.cps.toList.map fun c => V.str ⟨#[c]⟩
theorem vals_signs {z : Str} : ∀ (cs : List Nat) (its : List Value), cs.length = its.length → (∀ (j : Nat) (v : Value), its[j]? = some v → ∃ c u, cs[j]? = some c ∧ v = .str ⟨#[c]⟩ u) → Vals (cs.map fun c => V.str ⟨#[c]⟩) its
  | [], [], _, _ => .nil
  | c :: cs, v :: its, hl, h => by
    obtain ⟨c', u, e1, e2⟩ := h 0 v rfl
    have e1' : c = c' := by simpa using e1
    subst e1'
    refine .cons ⟨u, e2⟩ (vals_signs (z := z) cs its (by simpa using hl) fun j w hw => ?_)
    have := h (j + 1) w (by simpa using hw)
    simpa using this
  | [], _ :: _, hl, _ => by simp at hl
  | _ :: _, [], hl, _ => by simp at hl
theorem call_list_str (hc : X.calm = true) : CallR X (.type "list") (fun xs H Q => ∃ z : Str, xs = [.str z] ∧ z.cps.size ≤ sizeLine ∧ ∀ p, H p = none → Q (.ref p) (upd H p (.lst (sgV z)))) := by
  intro pins s σ H xs us Q I rl hh
  obtain ⟨z, rfl, hz, hq⟩ := hh
  obtain ⟨u, rfl, t, rfl⟩ := vals1 rl
  refine PySem.call_list_str (I.ok.hd hc) z t (fun h' tk acc c' hk hS hacc => ?_) hz
  have hf : H s.heap.objs.size = none := I.hok.fresh (Nat.le_refl _)
  have hv : Vals (sgV z) acc.toList := vals_signs (z := z) z.cps.toList acc.toList (by simp [hacc.1]) fun j v hv => by
    obtain ⟨c, u, h1, h2⟩ := hacc.2 j v (by simpa using hv)
    exact ⟨c, u, by simpa using h1, h2⟩
  have hlen : (sgV z).length ≤ sizeLine := by
    unfold sgV
    rw [List.length_map, Array.length_toList]
    exact hz
  exact ⟨.ref _, upd H _ (.lst (sgV z)), I.laid hk (Nat.le_refl _) ⟨hlen, acc.toList, c', hv, by simpa using hS⟩, rfl, hq _ hf⟩

/-! f(k = v, ..), nothing by position -/
theorem pe_callK0 {CX : CXT} {f : Addr} {fd : FuncData} {ps ks : List Str} {sp : Sp} {E : XK} {x : Str} {p pos : Pos} {kws : List Keyword} {tk : TA} {g : List Value → List Value → List Value} {gV : List V → List V → List V}
    (F : FnOk X.prog X.w X.K X.mg X.base CX k f fd ps sp) (hr : Room k X.A) (hg : Gl X x) (hm : X.mg x = some (.ref f)) (hk : PySem.W.keepIn X.K (.ref f) = true) (hb : KBinds X.K fd ps ks g gV) (hx : Passes CX X E) (hkw : PK X kws tk)
    (hal : (backToKw pos (keywordEach kws X.env)).all (·.1.isSome) = true := by rfl) (hks : (backToKw pos (keywordEach kws X.env)).filterMap (·.1) = ks := by rfl) (hdg : (x == ("__debug__" : Str)) = false := by decide)
    (hst : ((backTo pos (starEach [] X.env)).any (·.1) || (backToKw pos (keywordEach kws X.env)).any (·.1.isNone)) = false := by rfl) :
    PE X (.Call (.Name x p) [] kws pos) (tCallK sp gV E tNil tk) := by
  refine ⟨fun pins s σ H Q I q => wpAny_Call_Name_kw (ld_glob I hg hm ?_ hdg)⟩
  refine PySem.W.callWith_KW0 (h₀ := X.base) I.ok.mod.kin hk hal (thn (hkw.run pos pins s σ H _ I q) ?_) hst
  rintro ws s2 ⟨zs, H2, I2, rz, q2⟩
  refine ⟨I2.kIn, ?_⟩
  rw [hks]
  exact run_fnk (us := []) (vs := []) F hr hb hx I2 .nil rz q2
def sw {α : Type} : List α → List α → List α
  | [], [a, b] => [b, a]
  | _, _ => []
theorem sw_rel : ∀ {vs : List V} {us : List Value} {zs : List V} {ws : List Value}, Vals vs us → Vals zs ws → Vals (sw vs zs) (sw us ws)
  | _, _, _, _, .nil, .nil => .nil
  | _, _, _, _, .nil, .cons _ .nil => .nil
  | _, _, _, _, .nil, .cons a (.cons b .nil) => .cons b (.cons a .nil)
  | _, _, _, _, .nil, .cons _ (.cons _ (.cons _ _)) => .nil
  | _, _, _, _, .cons _ _, .nil => .nil
  | _, _, _, _, .cons _ _, .cons _ _ => .nil
theorem kb_sw {K : PySem.W.Frag} {fd : FuncData} {p1 p2 k1 k2 : Str} (h : ∀ (s : Shared) (a b : Value), BindsTo s fd ⟨[], [(k1, a), (k2, b)]⟩ [(p1, b), (p2, a)]) : KBinds K fd [p1, p2] [k1, k2] sw sw where
  to := fun s us ws _ hl => by
    match us, ws, hl with
    | [], [a, b], _ => exact h s a b
    | [], [], hl => cases hl
    | [], [_], hl => cases hl
    | [], _ :: _ :: _ :: _, hl => cases hl
    | _ :: _, _, hl => cases hl
  rel := sw_rel
end
/-! a def's promise where no repr is under way -/
structure FnG (P : Program) (w : World) (K : PySem.W.Frag) (mg : Str → Option Value) (base : Heap) (CX : CXT) (k : Nat) (f : Addr) (fd : FuncData) (ps : List Str) (sp : Sp) : Prop where
  lenG : ∀ vs H Q E, sp vs H Q E → vs.length = ps.length
  runG : ∀ (A : Around) (out : List Env) (s : Shared) (H : Hp) (ar : Args) (us : List Value) (vs : List V) (Q : VK) (E : XK), A.guards = some [] → Room k A → Env0 P w K mg base A out s H →
    BindsTo s fd ar (ps.zip us) → Vals vs us → sp vs H Q E → codeAny (model P w) A (.call (.ref f) ar) (CR CX out P w H s Q E) s
section
variable {P : Program} {w : World} {K : PySem.W.Frag} {mg : Str → Option Value} {base : Heap} {CX : CXT} {k : Nat} {f : Addr} {fd : FuncData} {ps : List Str} {sp : Sp}
theorem FnG.of (F : FnOk P w K mg base CX k f fd ps sp) : FnG P w K mg base CX k f fd ps sp :=
  ⟨F.len, fun A out s H ar us vs Q E _ hr he hb hv hs => F.run A out s H ar us vs Q E hr he hb hv hs⟩
theorem FnG.mono {j : Nat} (F : FnG P w K mg base CX j f fd ps sp) (h : j ≤ k) : FnG P w K mg base CX k f fd ps sp :=
  ⟨F.lenG, fun A out s H ar us vs Q E hg hr => F.runG A out s H ar us vs Q E hg (hr.mono h)⟩
/-- by its body -/
theorem fnG_of {name qual : Str} {params : Arguments} {body : List Stmt} {scope : Scope} {dV kV doc pm cdv ct oc : Value} {an od : Option Addr} {osl : Array (Option Value)} {N : List Str}
    (lk : K.lookup f = some ⟨oc, od, .func (PySem.W.fnOf name qual params body scope dV kV doc pm an cdv ct), osl⟩) (hcd : PySem.W.codeIn K cdv qual = true) (S : FnScope N ps scope) (len : ∀ vs H Q E, sp vs H Q E → vs.length = ps.length)
    (hbody : ∀ (A : Around) (out : List Env) (s : Shared) (H : Hp) (vs : List V) (Q : VK) (E : XK), (A.deeper (envOfC qual scope s.heap.objs.size f cdv)).guards = some [] → Room k (A.deeper (envOfC qual scope s.heap.objs.size f cdv)) → sp vs H Q E →
      ∃ t, PSs (cxOf CX P w K mg base N qual scope f cdv A out s H E) body t ∧ t { nx := fun _ H' => Q .non H', rt := Q } (start N vs) H) :
    FnG P w K mg base CX (k + 1) f (PySem.W.fnOf name qual params body scope dV kV doc pm an cdv ct) ps sp := by
  constructor
  · exact len
  intro A out s H ar us vs Q E hg hr e0 hb rv hsp
  have keeps : ∀ b o, base.get? b = some o → s.heap.get? b = some o := fun b o e => (e0.bs b o e).1
  have KX : K.In s.heap := e0.mod.kin.keeps keeps
  have kinds : ∀ y ∈ ps.zip us, scope.names.lookup y.1 = some .local ∨
      (scope.names.lookup y.1 = some .cell ∧ ((cellsFrom (s.heap.objs.size + 1) scope.names []).lookup y.1).isSome = true) := by
    rintro ⟨n, v⟩ hy
    exact (S.par n (List.of_mem_zip hy).1).imp id fun q => ⟨q, PySem.W.cellsFrom_some _ _ _ (.inl q)⟩
  refine codeAny_call_function hr.depth (KX _ _ lk) rfl S.co S.gen rfl (PySem.W.codeRec_of KX hcd) (hb _ _ _ _ (wpAny_newFunctionEnv_cells S.kind kinds ?_))
  rintro env rfl s1 x
  refine ⟨(e0.mod.nolimit.keeps keeps).keeps x.toInCall.keep, codeAny_func ?_⟩
  obtain ⟨t, ht, hq⟩ := hbody A out s H vs Q E hg (hr.deeper _) hsp
  have I := inv_start (CX := CX) (E := E) S hr.hd e0 (len _ _ _ _ hsp) rv x
  refine wpAny_mono (ht.run [] s1 (start N vs) H _ I hq) ?_ fun e s' hs => hs
  rintro (u | _ | _ | u) s' hs
  all_goals first
    | (obtain ⟨σ', H', J, q⟩ := hs; exact ⟨.non, H', J.os, J.bare, J.base, J.hok, rfl, q⟩)
    | (obtain ⟨v, σ', H', J, rr, q⟩ := hs; exact ⟨v, H', J.os, J.bare, J.base, J.hok, rr, q⟩)
    | (obtain ⟨_, _, _, q⟩ := hs; exact False.elim q)
theorem Fun_okG {x qual : Str} {st : Stmt} {N : List Str} (F : Fun K x qual st f fd) (S : FnScope N ps (defScope st)) (len : ∀ vs H Q E, sp vs H Q E → vs.length = ps.length)
    (hbody : ∀ (cdv : Value) (A : Around) (out : List Env) (s : Shared) (H : Hp) (vs : List V) (Q : VK) (E : XK), (A.deeper (envOfC qual (defScope st) s.heap.objs.size f cdv)).guards = some [] → Room k (A.deeper (envOfC qual (defScope st) s.heap.objs.size f cdv)) → sp vs H Q E →
      ∃ t, PSs (cxOf CX0 P w K mg base N qual (defScope st) f cdv A out s H E).nox (defBody st) t ∧ t { nx := fun _ H' => Q .non H', rt := Q } (start N vs) H) :
    FnG P w K mg base CX0 (k + 1) f fd ps sp := by
  obtain ⟨oc, od, kV, doc, pm, an, cdv, ct, osl, rfl, lk, hcd⟩ := F.ex
  exact fnG_of lk hcd S len fun A out s H vs Q E hg hr hsp => let ⟨t, h, q⟩ := hbody cdv A out s H vs Q E hg hr hsp; ⟨t, h.nox, q⟩
end
/-! the law's end -/
theorem law_callG {P : Program} {w : World} {K : PySem.W.Frag} {mg mb : Str → Option Value} {CX : CXT} {k : Nat} {fa a : Addr} {fd : FuncData} {x : Str} {sp : Sp} {s1 : Shared} {vs : List Value} {ns : List Int}
    (KX : K.In s1.heap) (hns : s1.heap.Ns mainGlobals mg) (hb : s1.heap.Ns builtinsNs mb) (hbb : ∀ x : Str, x ≠ "__name__" → mb x = bootBuiltins x) (hlim : s1.heap.NoLimit) (hgen : s1.gens = #[])
    (ha : s1.heap.get? a = some { cls := .type "list", data := .seq vs.toArray }) (hi : IntsAre vs ns) (hl : ns.length ≤ sizeLine) (hr : Room k callerA)
    (F : ∀ base : Heap, K.In base → base.Ns mainGlobals mg → FnG P w K mg base CX k fa fd [x] sp) (hbind : ∀ (s : Shared) (u : Value), BindsTo s fd ⟨[u], []⟩ [(x, u)])
    (hsp : ∀ H : Hp, Only H → SqL K H a (ns.map V.int) → sp [.ref a] H (fun v _ => v = .bl true) fun _ _ _ => False) (hCX : ∀ H e s', CX [] H s1 (fun _ _ _ => False) e s' → False) :
    codeAny (model P w) callerA (.call (.ref fa) ⟨[.ref a], []⟩) (fun r s' => r = .ok (.ret (.bool true)) ∧ OldK s1.heap s'.heap ∧ s'.os = s1.os ∧ AllBare s'.gens) s1 := by
  have rv := vals_ints hi
  have core : ∀ H : Hp, Only H → SqL K H a (ns.map V.int) → HOk P w H s1.heap → (∀ b, H b ≠ none → b = a ∧ K.lookup a = none) →
      codeAny (model P w) callerA (.call (.ref fa) ⟨[.ref a], []⟩) (fun r s' => r = .ok (.ret (.bool true)) ∧ OldK s1.heap s'.heap ∧ s'.os = s1.os ∧ AllBare s'.gens) s1 := by
    intro H hO hS hok hA
    have off : ∀ {b : Addr} {o : Obj} {es : Array DictEntry} {ep : Nat}, s1.heap.get? b = some o → o.data = .dict es ep → H b = none := by
      intro b o es ep e d
      rcases Option.eq_none_or_eq_some (H b) with q | ⟨u, q⟩
      · exact q
      · obtain ⟨e', _⟩ := hA b (by simp [q])
        subst e'
        rw [ha] at e
        cases e
        cases d
    have nsK : ∀ {b : Addr} {m : Str → Option Value}, s1.heap.Ns b m → (hidT s1.heap H).Ns b m := by
      rintro b m ⟨o, es, ep, e, d, r⟩
      exact ⟨o, es, ep, hidT_get e (off e d), d, r⟩
    have KB : K.In (hidT s1.heap H) := by
      intro b o e
      refine hidT_get (KX b o e) ?_
      rcases Option.eq_none_or_eq_some (H b) with q | ⟨u, q⟩
      · exact q
      · obtain ⟨e', kn⟩ := hA b (by simp [q])
        subst e'
        rw [kn] at e
        cases e
    obtain ⟨mc, l1, l2⟩ := hlim
    have md : Mod K mg (hidT s1.heap H) := ⟨KB, nsK hns, ⟨mb, nsK hb, hbb⟩, mc, nsK l1, l2⟩
    have e0 : Env0 P w K mg (hidT s1.heap H) callerA [] s1 H :=
      { frames := rfl, mod := md, bs := fun b o e => of_hidT e, bsz := Nat.le_of_eq (hidT_size _ _), funs := trivial, frf := fun b hb => (by cases hb), hok := hok, bare := .of_eq hgen }
    have run := (F _ KB (nsK hns)).runG callerA [] s1 H ⟨[.ref a], []⟩ [.ref a] [.ref a] _ _ rfl hr e0 (hbind s1 (.ref a)) (.cons rfl .nil) (hsp H hO hS)
    refine codeAny_mono run ?_
    rintro (e | _ | _ | _ | u) s' hh
    all_goals first
      | exact (hCX H e s' hh).elim
      | exact False.elim hh
      | skip
    obtain ⟨v, H', os, bare, un, hok', r', q⟩ := hh
    obtain rfl : v = .bl true := q
    obtain rfl : u = Value.bool true := r'
    refine ⟨rfl, OldK.of_keep fun b o e => ?_, os, bare⟩
    rcases hO b with z | ⟨ob, xs, z⟩
    · exact un.keep b o e z (fun y => by cases y) (fun y => by cases y)
    · have g1 := (hok b _ z).1
      have g2 := (hok' b _ (un.frzs b ob _ z)).1
      rw [e] at g1
      cases g1
      exact g2
  have hv : (ns.map V.int).length ≤ sizeLine := by rw [List.length_map]; exact hl
  rcases Option.eq_none_or_eq_some (K.lookup a) with kn | ⟨o, kn⟩
  · refine core (fun b => if b = a then some (.frz { cls := .type "list", data := .seq vs.toArray } (.lst (ns.map V.int))) else none) ?_ (.inl (.inr ⟨_, if_pos rfl⟩)) ?_ ?_
    · intro b
      by_cases hb : b = a
      · exact .inr ⟨_, _, if_pos hb⟩
      · exact .inl (if_neg hb)
    · intro b u z
      by_cases hb : b = a
      · subst hb
        have z' := (if_pos rfl).symm.trans z
        cases z'
        exact ⟨ha, hv, vs, _, rv, ha⟩
      · have z' := (if_neg hb).symm.trans z
        cases z'
    · intro b z
      by_cases hb : b = a
      · exact ⟨hb, kn⟩
      · exact absurd (if_neg hb) z
  · have e := KX a o kn
    rw [ha] at e
    cases e
    refine core (fun _ => none) (fun _ => .inl rfl) (.inr ⟨_, vs.toArray, _, kn, rfl, rfl, rfl, ?_, by simpa using rv⟩) (fun b u z => by cases z) (fun b z => absurd rfl z)
    rw [List.size_toArray, hi.length]
    exact hl
theorem walk_G {l : PySem.W.OpenLaw} {n k : Nat} {q : Program} {loose : List Str} {XP : (Str → Option Value) → Heap → Prop} {YP : World → Heap → Prop} {d : DefRec} {K : Params → PySem.W.Frag} {CX : World → CXT} {sp : World → Sp} {x : Str}
    (hn : l.most = some n) (hn2 : n ≤ sizeLine) (hdf : d.params.defaults = []) (hr : Room k callerA) (hY : ∀ (w : World) (h : Heap), YP w h → (K w.params).In h)
    (F : ∀ (w : World) (mg : Str → Option Value) (fa : Addr) (h : Heap), (K w.params).In h → h.Ns mainGlobals mg → mg d.name = some (.ref fa) →
      ∃ fd : FuncData, (∀ (s : Shared) (u : Value), BindsTo s fd ⟨[u], []⟩ [(x, u)]) ∧ ∀ base : Heap, (K w.params).In base → base.Ns mainGlobals mg → FnG l.prog w (K w.params) mg base (CX w) k fa fd [x] (sp w))
    (hsp : ∀ (w : World) (H : Hp) (a : Addr) (ns : List Int), ns.length ≤ n → Only H → SqL (K w.params) H a (ns.map V.int) → sp w [.ref a] H (fun v _ => v = .bl true) fun _ _ _ => False)
    (hCX : ∀ (w : World) (H : Hp) (s : Shared) (e : Value) (s' : Shared), CX w [] H s (fun _ _ _ => False) e s' → False) :
    PySem.W.WalkO q loose XP YP l.row.toRowW d [] (fun f vs => PySem.call f vs) := by
  apply Att.attach_call hn hdf
  intro w s0 s1 mg mb fa o pm cd doc a vs ns G Y _ _ _ hmg hobj hints hlen hgen
  obtain ⟨fd, hb, hF⟩ := F w mg fa _ (hY w _ Y) G.T.g hmg
  exact law_callG (hY w _ Y) G.T.g G.T.b G.T.builtins G.T.nolimit hgen hobj hints (Nat.le_trans hlen hn2) hr hF hb (fun H => hsp w H a ns hlen) fun H e s' => hCX w H s1 e s'
end Own

set_option Elab.async false
set_option linter.all false
set_option maxRecDepth 100000
set_option maxHeartbeats 4000000
namespace Mth
/-! the earliest places of a part in a word (w: the rest of the word from o on) -/
def emb : List Nat → List Nat → Nat → List Nat
  | [], _, _ => []
  | _ :: _, [], _ => []
  | c :: p, x :: w, o => if x = c then o :: emb p w (o + 1) else emb (c :: p) w (o + 1)
theorem emb_nil (w : List Nat) (o : Nat) : emb [] w o = [] := by cases w <;> rfl
theorem emb_none' : ∀ (p : List Nat) (o : Nat), emb p [] o = []
  | [], _ => rfl
  | _ :: _, _ => rfl
theorem emb_yes {c : Nat} {p w : List Nat} {o : Nat} : emb (c :: p) (c :: w) o = o :: emb p w (o + 1) := by
  rw [emb, if_pos rfl]
theorem emb_no {c x : Nat} {p w : List Nat} {o : Nat} (h : x ≠ c) : emb (c :: p) (x :: w) o = emb (c :: p) w (o + 1) := by
  rw [emb, if_neg h]
theorem emb_le : ∀ (w p : List Nat) (o : Nat), (emb p w o).length ≤ p.length
  | [], p, o => by rw [emb_none']; exact Nat.zero_le _
  | x :: w, [], o => by rw [emb_nil]; exact Nat.zero_le _
  | x :: w, c :: p, o => by
    by_cases h : x = c
    · subst h
      rw [emb_yes]
      have := emb_le w p (o + 1)
      simp only [List.length_cons]
      omega
    · rw [emb_no h]
      exact emb_le w (c :: p) (o + 1)
theorem emb_skip (c : Nat) (p : List Nat) (w : List Nat) : ∀ (n o : Nat), (∀ v, o ≤ v → v < o + n → w[v]? ≠ some c) → o + n ≤ w.length → emb (c :: p) (w.drop o) o = emb (c :: p) (w.drop (o + n)) (o + n)
  | 0, o, _, _ => rfl
  | n + 1, o, h, hl => by
    have ho : o < w.length := by omega
    rw [List.drop_eq_getElem_cons ho, emb_no (by
      have := h o (Nat.le_refl _) (by omega)
      rw [List.getElem?_eq_getElem ho] at this
      exact fun e => this (by rw [e])), emb_skip c p w n (o + 1) (fun v h1 h2 => h v (by omega) (by omega)) (by omega)]
    rw [show o + 1 + n = o + (n + 1) by omega]
theorem emb_step {c : Nat} {p w : List Nat} {o k : Nat} (hk : w[k]? = some c) (hok : o ≤ k) (hn : ∀ v, o ≤ v → v < k → w[v]? ≠ some c) : emb (c :: p) (w.drop o) o = k :: emb p (w.drop (k + 1)) (k + 1) := by
  have hl : k < w.length := by
    rcases Nat.lt_or_ge k w.length with h | h
    · exact h
    · rw [List.getElem?_eq_none h] at hk; cases hk
  rw [emb_skip c p w (k - o) o (fun v h1 h2 => hn v h1 (by omega)) (by omega), show o + (k - o) = k by omega, List.drop_eq_getElem_cons hl]
  rw [List.getElem?_eq_getElem hl] at hk
  rw [Option.some.inj hk, emb_yes]
theorem emb_stop {c : Nat} {p w : List Nat} {o : Nat} (hn : ∀ v, o ≤ v → w[v]? ≠ some c) : emb (c :: p) (w.drop o) o = [] := by
  rcases Nat.lt_or_ge o w.length with h | h
  · rw [emb_skip c p w (w.length - o) o (fun v h1 _ => hn v h1) (by omega), show o + (w.length - o) = w.length by omega, List.drop_length, emb_none']
  · rw [List.drop_of_length_le h, emb_none']
theorem emb_take : ∀ (w p : List Nat) (o k : Nat), emb (p.take k) w o = (emb p w o).take k
  | [], p, o, k => by rw [emb_none', emb_none', List.take_nil]
  | x :: w, [], o, k => by rw [List.take_nil, emb_nil, List.take_nil]
  | x :: w, c :: p, o, 0 => by rw [List.take_zero, List.take_zero, emb_nil]
  | x :: w, c :: p, o, k + 1 => by
    rw [List.take_succ_cons]
    by_cases h : x = c
    · subst h
      rw [emb_yes, emb_yes, List.take_succ_cons, emb_take w p (o + 1) k]
    · rw [emb_no h, emb_no h, ← List.take_succ_cons, emb_take w (c :: p) (o + 1) (k + 1)]
/-! ascending places -/
def Asc : Nat → Nat → List Nat → Prop
  | _, _, [] => True
  | lo, hi, j :: r => lo ≤ j ∧ j < hi ∧ Asc (j + 1) hi r
theorem Asc.lower : ∀ {l : List Nat} {lo lo' hi : Nat}, Asc lo hi l → lo' ≤ lo → Asc lo' hi l
  | [], _, _, _, _, _ => trivial
  | _ :: _, _, _, _, ⟨h1, h2, h3⟩, h => ⟨Nat.le_trans h h1, h2, h3⟩
theorem Asc.mem : ∀ {l : List Nat} {lo hi j : Nat}, Asc lo hi l → j ∈ l → lo ≤ j ∧ j < hi
  | [], _, _, _, _, h => by cases h
  | i :: r, lo, hi, j, ⟨h1, h2, h3⟩, h => by
    rcases List.mem_cons.mp h with e | e
    · subst e; exact ⟨h1, h2⟩
    · have := Asc.mem h3 e
      exact ⟨by omega, this.2⟩
theorem emb_asc : ∀ (w p : List Nat) (o : Nat), Asc o (o + w.length) (emb p w o)
  | [], p, o => by rw [emb_none']; trivial
  | x :: w, [], o => by rw [emb_nil]; trivial
  | x :: w, c :: p, o => by
    have e : o + (x :: w).length = o + 1 + w.length := by simp only [List.length_cons]; omega
    by_cases h : x = c
    · subst h
      rw [emb_yes, e]
      exact ⟨Nat.le_refl _, by omega, emb_asc w p (o + 1)⟩
    · rw [emb_no h, e]
      exact (emb_asc w (c :: p) (o + 1)).lower (by omega)
theorem getD_cons {x : Nat} {w : List Nat} {j o : Nat} (h : o + 1 ≤ j) : (x :: w).getD (j - o) 0 = w.getD (j - (o + 1)) 0 := by
  rw [show j - o = (j - (o + 1)) + 1 by omega]
  rfl
theorem emb_reads : ∀ (w p : List Nat) (o : Nat), (emb p w o).map (fun j => w.getD (j - o) 0) = p.take (emb p w o).length
  | [], p, o => by rw [emb_none']; rfl
  | x :: w, [], o => by rw [emb_nil]; rfl
  | x :: w, c :: p, o => by
    by_cases h : x = c
    · subst h
      rw [emb_yes, List.map_cons, List.length_cons, List.take_succ_cons, ← emb_reads w p (o + 1)]
      congr 1
      · rw [Nat.sub_self]; rfl
      · refine List.map_congr_left fun j hj => ?_
        exact getD_cons ((emb_asc w p (o + 1)).mem hj).1
    · rw [emb_no h, ← emb_reads w (c :: p) (o + 1)]
      refine List.map_congr_left fun j hj => ?_
      exact getD_cons ((emb_asc w (c :: p) (o + 1)).mem hj).1
/-! place by place no greater -/
def Leq : List Nat → List Nat → Prop
  | [], [] => True
  | a :: l, b :: m => a ≤ b ∧ Leq l m
  | _, _ => False
theorem emb_least : ∀ (w p c : List Nat) (o : Nat), Asc o (o + w.length) c → c.map (fun j => w.getD (j - o) 0) = p → Leq (emb p w o) c
  | [], p, [], o, _, e => by subst e; trivial
  | [], p, j :: c, o, ⟨h1, h2, _⟩, _ => by simp only [List.length_nil] at h2; omega
  | x :: w, p, [], o, _, e => by subst e; rw [List.map_nil, emb_nil]; trivial
  | x :: w, p, j :: c, o, ⟨h1, h2, h3⟩, e => by
    have el : o + (x :: w).length = o + 1 + w.length := by simp only [List.length_cons]; omega
    rw [el] at h2 h3
    rw [List.map_cons] at e
    by_cases h : o + 1 ≤ j
    · have e2 : (j :: c).map (fun i => w.getD (i - (o + 1)) 0) = p := by
        rw [← e, List.map_cons, getD_cons h]
        congr 1
        refine List.map_congr_left fun i hi => ?_
        exact (getD_cons (by have := (h3.mem hi).1; omega)).symm
      have ih := emb_least w p (j :: c) (o + 1) ⟨h, h2, h3⟩ e2
      subst e
      by_cases hx : x = (x :: w).getD (j - o) 0
      · rw [← hx, emb_yes]
        refine ⟨h1, ?_⟩
        refine emb_least w _ c (o + 1) (h3.lower (by omega)) ?_
        refine List.map_congr_left fun i hi => ?_
        exact (getD_cons (by have := (h3.mem hi).1; omega)).symm
      · rw [emb_no hx]
        exact ih
    · have hj : j = o := by omega
      subst hj
      rw [Nat.sub_self] at e
      have e0 : (x :: w).getD 0 0 = x := rfl
      rw [e0] at e
      subst e
      rw [emb_yes]
      refine ⟨Nat.le_refl _, emb_least w _ c (j + 1) h3 ?_⟩
      refine List.map_congr_left fun i hi => ?_
      exact (getD_cons ((h3.mem hi).1)).symm
theorem Leq.len : ∀ {l m : List Nat}, Leq l m → l.length = m.length
  | [], [], _ => rfl
  | _ :: _, _ :: _, ⟨_, h⟩ => by rw [List.length_cons, List.length_cons, Leq.len h]
  | [], _ :: _, h => h.elim
  | _ :: _, [], h => h.elim
/-! all choices of places, as the law lists them -/
def least (c : List Nat) : Nat := match c.getLast? with | some j => j + 1 | none => 0
def ext (size : Nat) (c : List Nat) : List (List Nat) := (List.range' (least c) (size - least c)).map fun j => c ++ [j]
def ch (size : Nat) : Nat → List (List Nat)
  | 0 => [[]]
  | m + 1 => (ch size m).flatMap (ext size)
theorem ch_small : ∀ size < 9, ∀ m < 10, (ch size m).length ≤ 70 := by decide +kernel
theorem asc_snoc : ∀ {c : List Nat} {lo hi x : Nat}, Asc lo hi (c ++ [x]) ↔ Asc lo hi c ∧ (match c.getLast? with | some j => j + 1 | none => lo) ≤ x ∧ x < hi
  | [], lo, hi, x => by simp [Asc]
  | [j], lo, hi, x => by simp [Asc]; omega
  | j :: i :: r, lo, hi, x => by
    have ih := asc_snoc (c := i :: r) (lo := j + 1) (hi := hi) (x := x)
    have e : (j :: i :: r).getLast? = (i :: r).getLast? := List.getLast?_cons_cons
    have e2 : (i :: r).getLast? ≠ none := by simp
    rw [e]
    cases q : (i :: r).getLast? with
    | none => exact absurd q e2
    | some y =>
      rw [q] at ih
      show lo ≤ j ∧ j < hi ∧ Asc (j + 1) hi ((i :: r) ++ [x]) ↔ _
      rw [ih]
      show _ ↔ (lo ≤ j ∧ j < hi ∧ Asc (j + 1) hi (i :: r)) ∧ _
      constructor
      · rintro ⟨a, b, c, d, e⟩; exact ⟨⟨a, b, c⟩, d, e⟩
      · rintro ⟨⟨a, b, c⟩, d, e⟩; exact ⟨a, b, c, d, e⟩
theorem mem_ch (size : Nat) : ∀ (m : Nat) (c : List Nat), c ∈ ch size m ↔ c.length = m ∧ Asc 0 size c
  | 0, c => by
    rw [ch, List.mem_singleton]
    constructor
    · rintro rfl; exact ⟨rfl, trivial⟩
    · rintro ⟨h, _⟩; exact List.length_eq_zero_iff.mp h
  | m + 1, c => by
    rw [ch, List.mem_flatMap]
    constructor
    · rintro ⟨d, hd, hc⟩
      obtain ⟨h1, h2⟩ := (mem_ch size m d).mp hd
      obtain ⟨j, hj, rfl⟩ := List.mem_map.mp hc
      rw [List.mem_range'_1] at hj
      refine ⟨by simp [h1], asc_snoc.mpr ⟨h2, ?_, by omega⟩⟩
      exact hj.1
    · rintro ⟨h1, h2⟩
      have hne : c ≠ [] := by rintro rfl; cases h1
      have hc : c = c.dropLast ++ [c.getLast hne] := (List.dropLast_concat_getLast hne).symm
      rw [hc] at h2
      obtain ⟨a1, a2, a3⟩ := asc_snoc.mp h2
      refine ⟨c.dropLast, (mem_ch size m _).mpr ⟨by simp [h1], a1⟩, ?_⟩
      refine List.mem_map.mpr ⟨c.getLast hne, ?_, hc.symm⟩
      rw [List.mem_range'_1]
      exact ⟨a2, by have : least c.dropLast ≤ c.getLast hne := a2
                    omega⟩
/-! which of them read the part, and the least of these -/
def rdOf (w c : List Nat) : List Nat := c.map fun j => w.getD j 0
def fnd (p w : List Nat) : List (List Nat) := (ch w.length p.length).filter fun c => decide (rdOf w c = p)
def due (p w : List Nat) : Option (List Nat) := if (emb p w 0).length = p.length then some (emb p w 0) else none
theorem mem_fnd {p w c : List Nat} : c ∈ fnd p w ↔ Asc 0 w.length c ∧ rdOf w c = p := by
  unfold fnd
  rw [List.mem_filter, mem_ch, decide_eq_true_iff]
  constructor
  · rintro ⟨⟨_, h⟩, e⟩; exact ⟨h, e⟩
  · rintro ⟨h, e⟩
    refine ⟨⟨?_, h⟩, e⟩
    rw [← e]; simp [rdOf]
theorem emb_in_fnd {p w : List Nat} (h : (emb p w 0).length = p.length) : emb p w 0 ∈ fnd p w := by
  refine mem_fnd.mpr ⟨by have := emb_asc w p 0; rw [Nat.zero_add] at this; exact this, ?_⟩
  have := emb_reads w p 0
  rw [h, List.take_length] at this
  exact this
theorem fnd_leq {p w c : List Nat} (h : c ∈ fnd p w) : Leq (emb p w 0) c := by
  obtain ⟨h1, h2⟩ := mem_fnd.mp h
  exact emb_least w p c 0 (by rw [Nat.zero_add]; exact h1) h2
theorem fnd_nil {p w : List Nat} (h : (emb p w 0).length ≠ p.length) : fnd p w = [] := by
  cases q : fnd p w with
  | nil => rfl
  | cons c r =>
    have hc : c ∈ fnd p w := by rw [q]; exact List.mem_cons_self ..
    have e1 := (fnd_leq hc).len
    have e2 := (mem_fnd.mp hc).2
    exact absurd (by rw [e1, ← e2]; simp [rdOf]) h
theorem due_take {p w : List Nat} {k : Nat} (hk : k ≤ p.length) : (due (p.take k) w).isSome = decide (k ≤ (emb p w 0).length) := by
  unfold due
  rw [emb_take, List.length_take, List.length_take]
  have := emb_le w p 0
  by_cases h : k ≤ (emb p w 0).length
  · rw [if_pos (by omega), decide_eq_true h]; rfl
  · rw [if_neg (by omega), decide_eq_false h]; rfl
theorem emb_self : ∀ (w : List Nat) (o : Nat), emb w w o = List.range' o w.length
  | [], _ => rfl
  | x :: w, o => by rw [emb_yes, emb_self w (o + 1)]; rfl
end Mth

set_option Elab.async false
set_option linter.all false
set_option maxRecDepth 100000
set_option maxHeartbeats 4000000
namespace Mth
open PySem PySem.Spec PyProof.Rows L2
/-! data: lists of places, lists of signs -/
def iL (l : List Nat) : PyData := .list (l.map fun j => PyData.int (j : Nat))
def sL (l : List Nat) : PyData := .list (l.map fun c => PyData.str ⟨#[c]⟩)
theorem toks_leq : ∀ {g y : List Nat}, Leq g y → PyProof.Rows.lexLt PyProof.Rows.itemOrd (PySem.W.keyToksAll (y.map fun j => PyData.int (j : Nat))) (PySem.W.keyToksAll (g.map fun j => PyData.int (j : Nat))) = false ∧
    (g ≠ y → PyProof.Rows.lexLt PyProof.Rows.itemOrd (PySem.W.keyToksAll (g.map fun j => PyData.int (j : Nat))) (PySem.W.keyToksAll (y.map fun j => PyData.int (j : Nat))) = true)
  | [], [], _ => ⟨by decide +kernel, fun h => absurd rfl h⟩
  | a :: g, b :: y, ⟨h, r⟩ => by
    obtain ⟨i1, i2⟩ := toks_leq r
    rw [List.map_cons, List.map_cons]
    by_cases e : a = b
    · subst e
      have eq : PyData.eqv (.int (a : Nat)) (.int (a : Nat)) = true := by simp [PyData.eqv]
      rw [PySem.W.dataLt_all_yes rfl eq, PySem.W.dataLt_all_yes rfl eq]
      exact ⟨i1, fun hne => i2 fun z => hne (by rw [z])⟩
    · have e1 : PyData.eqv (.int (a : Nat)) (.int (b : Nat)) = false := by simp [PyData.eqv]; omega
      have e2 : PyData.eqv (.int (b : Nat)) (.int (a : Nat)) = false := by simp [PyData.eqv]; omega
      rw [PySem.W.dataLt_all_no rfl e1, PySem.W.dataLt_all_no rfl e2, PySem.W.dataLt_int, PySem.W.dataLt_int]
      exact ⟨decide_eq_false (by omega), fun _ => decide_eq_true (by omega)⟩
theorem lt_leq {g y : List Nat} (h : Leq g y) : PySem.W.dataLt (iL y) (iL g) = false ∧ (g ≠ y → PySem.W.dataLt (iL g) (iL y) = true) := by
  unfold iL
  rw [PySem.W.dataLt_list, PySem.W.dataLt_list]
  exact toks_leq h
theorem minD_eq {g : PyData} : ∀ (ds : List PyData) (x : PyData), g ∈ x :: ds → (∀ y ∈ x :: ds, PySem.W.dataLt y g = false) → (∀ a ∈ x :: ds, a ≠ g → PySem.W.dataLt g a = true) → PySem.W.minD x ds = g
  | [], x, h, _, _ => by
    rcases List.mem_cons.mp h with e | e
    · exact e.symm
    · cases e
  | d :: ds, x, h, h1, h2 => by
    show PySem.W.minD (if PySem.W.dataLt d x then d else x) ds = g
    have sub : ∀ y ∈ (if PySem.W.dataLt d x then d else x) :: ds, y ∈ x :: d :: ds := by
      intro y hy
      rcases List.mem_cons.mp hy with e | e
      · subst e
        split
        · exact List.mem_cons_of_mem _ (List.mem_cons_self ..)
        · exact List.mem_cons_self ..
      · exact List.mem_cons_of_mem _ (List.mem_cons_of_mem _ e)
    refine minD_eq ds _ ?_ (fun y hy => h1 y (sub y hy)) (fun a ha => h2 a (sub a ha))
    rcases List.mem_cons.mp h with e | e
    · subst e
      rw [if_neg (by rw [h1 d (by simp)]; exact Bool.false_ne_true)]
      exact List.mem_cons_self ..
    · rcases List.mem_cons.mp e with e | e
      · subst e
        by_cases hx : x = g
        · subst hx; split <;> exact List.mem_cons_self ..
        · rw [if_pos (h2 x (by simp) hx)]
          exact List.mem_cons_self ..
      · exact List.mem_cons_of_mem _ e
theorem ints_inj {l m : List Nat} (h : iL l = iL m) : l = m := by
  unfold iL at h
  have h' := PyData.list.inj h
  have : ∀ (l m : List Nat), l.map (fun j => PyData.int (j : Nat)) = m.map (fun j => PyData.int (j : Nat)) → l = m := by
    intro l
    induction l with
    | nil => intro m e; cases m with
      | nil => rfl
      | cons _ _ => simp at e
    | cons a l ih => intro m e; cases m with
      | nil => simp at e
      | cons b m =>
        rw [List.map_cons, List.map_cons] at e
        injection e with e1 e2
        injection e1 with e1
        rw [ih m e2, show a = b by omega]
  exact this l m h'
theorem min_due {p w : List Nat} {x : List Nat} {r : List (List Nat)} (h : fnd p w = x :: r) : PySem.W.minD (iL x) (r.map iL) = iL (emb p w 0) ∧ due p w = some (emb p w 0) := by
  have ne : (emb p w 0).length = p.length := by
    rcases Decidable.em ((emb p w 0).length = p.length) with e | e
    · exact e
    · rw [fnd_nil e] at h; cases h
  refine ⟨?_, by unfold due; rw [if_pos ne]⟩
  have mm : ∀ y ∈ iL x :: r.map iL, ∃ c ∈ fnd p w, y = iL c := by
    intro y hy
    rw [← List.map_cons, List.mem_map] at hy
    obtain ⟨c, hc, rfl⟩ := hy
    exact ⟨c, by rw [h]; exact hc, rfl⟩
  refine minD_eq _ _ ?_ (fun y hy => ?_) fun a ha hne => ?_
  · rw [← List.map_cons, ← h]
    exact List.mem_map.mpr ⟨_, emb_in_fnd ne, rfl⟩
  · obtain ⟨c, hc, rfl⟩ := mm y hy
    exact (lt_leq (fnd_leq hc)).1
  · obtain ⟨c, hc, rfl⟩ := mm a ha
    exact (lt_leq (fnd_leq hc)).2 fun e => hne (by rw [e])
theorem due_none {p w : List Nat} (h : fnd p w = []) : due p w = none := by
  unfold due
  rw [if_neg]
  intro e
  have := emb_in_fnd e
  rw [h] at this
  cases this
theorem depth_ints : ∀ l : List Nat, PyData.depthAll (l.map fun j => PyData.int (j : Nat)) = 0
  | [] => rfl
  | a :: l => by rw [List.map_cons, PyData.depthAll, depth_ints l]; rfl
theorem depth_sgs : ∀ l : List Nat, PyData.depthAll (l.map fun c => PyData.str ⟨#[c]⟩) = 0
  | [] => rfl
  | a :: l => by rw [List.map_cons, PyData.depthAll, depth_sgs l]; rfl
theorem depth_lists : ∀ ls : List (List Nat), PyData.depthAll (ls.map iL) ≤ 1
  | [] => by decide
  | l :: ls => by
    rw [List.map_cons, PyData.depthAll]
    have := depth_lists ls
    have e : (iL l).depth = 1 := by unfold iL; rw [PyData.depth, depth_ints]
    omega
theorem alike_ints : ∀ l m : List Nat, PySem.W.alikeAll (l.map fun j => PyData.int (j : Nat)) (m.map fun j => PyData.int (j : Nat)) = true
  | [], m => by rw [List.map_nil]; unfold PySem.W.alikeAll; cases m <;> rfl
  | a :: l, [] => by rw [List.map_nil, List.map_cons, PySem.W.alikeAll]
  | a :: l, b :: m => by rw [List.map_cons, List.map_cons, PySem.W.alikeAll, alike_ints l m]; rfl
theorem alike_lists (ls : List (List Nat)) : PySem.W.AlikeAll (ls.map iL) := by
  refine ⟨fun x hx y hy => ?_, fun x hx => ?_⟩
  · obtain ⟨l, _, rfl⟩ := List.mem_map.mp hx
    obtain ⟨m, _, rfl⟩ := List.mem_map.mp hy
    unfold iL
    rw [PySem.W.alike]
    exact alike_ints l m
  · obtain ⟨l, _, rfl⟩ := List.mem_map.mp hx
    intro e; cases e
theorem lay_ints : ∀ l : List Nat, PyData.canLayAll0 (l.map fun j => PyData.int (j : Nat)) = true
  | [] => rfl
  | a :: l => by rw [List.map_cons, PyData.canLayAll0, lay_ints l]; rfl
theorem lay_sgs : ∀ l : List Nat, (∀ c ∈ l, c < 1114112) → PyData.canLayAll0 (l.map fun c => PyData.str ⟨#[c]⟩) = true
  | [], _ => rfl
  | a :: l, h => by
    rw [List.map_cons, PyData.canLayAll0, lay_sgs l fun c hc => h c (List.mem_cons_of_mem _ hc), PyData.canLay0]
    have ha : a < 1114112 := h a (List.mem_cons_self ..)
    have : PyData.strOk ⟨#[a]⟩ = true := by
      unfold PyData.strOk
      simp
      exact ha
    rw [this]
    rfl
theorem shaped_ints (l : List Nat) : SeqAt.shaped (iL l) = true := by
  unfold SeqAt.shaped iL
  rw [PyData.canLay0, lay_ints, PyData.depth, depth_ints]
  rfl
theorem shaped_sgs {l : List Nat} (h : ∀ c ∈ l, c < 1114112) : SeqAt.shaped (sL l) = true := by
  unfold SeqAt.shaped sL
  rw [PyData.canLay0, lay_sgs l h, PyData.depth, depth_sgs]
  rfl
theorem lay_lists : ∀ ls : List (List Nat), PyData.canLayAll0 (ls.map iL) = true
  | [] => rfl
  | l :: ls => by
    rw [List.map_cons, PyData.canLayAll0, lay_lists ls]
    unfold iL
    rw [PyData.canLay0, lay_ints]
    rfl
theorem shaped_lists (ls : List (List Nat)) : SeqAt.shaped (.list (ls.map iL)) = true := by
  unfold SeqAt.shaped
  rw [PyData.canLay0, lay_lists, PyData.depth]
  have := depth_lists ls
  rw [Bool.true_and, decide_eq_true_iff]
  omega
theorem eqv_sgs : ∀ l m : List Nat, PyData.eqvAll (l.map fun c => PyData.str ⟨#[c]⟩) (m.map fun c => PyData.str ⟨#[c]⟩) = decide (l = m)
  | [], [] => rfl
  | [], b :: m => rfl
  | a :: l, [] => rfl
  | a :: l, b :: m => by
    rw [List.map_cons, List.map_cons, PyData.eqvAll, eqv_sgs l m, PyData.eqv]
    by_cases e : a = b
    · subst e; simp
    · have : ((⟨#[a]⟩ : Str) == ⟨#[b]⟩) = false := by
        rw [beq_eq_false_iff_ne]
        intro z
        injection z with z
        simp at z
        exact e z
      rw [this]; simp [e]
theorem eqv_ints : ∀ l m : List Nat, PyData.eqvAll (l.map fun j => PyData.int (j : Nat)) (m.map fun j => PyData.int (j : Nat)) = decide (l = m)
  | [], [] => rfl
  | [], b :: m => rfl
  | a :: l, [] => rfl
  | a :: l, b :: m => by
    rw [List.map_cons, List.map_cons, PyData.eqvAll, eqv_ints l m, PyData.eqv]
    by_cases e : a = b
    · subst e; simp
    · have : (((a : Nat) : Int) == ((b : Nat) : Int)) = false := by
        rw [beq_eq_false_iff_ne]; omega
      rw [this]; simp [e]
/-! what is shown -/
theorem show_ints : ∀ l : List Nat, (∀ j ∈ l, j < 10) → PyData.showableAll (l.map fun j => PyData.int (j : Nat)) = true ∧ ((PyData.shownAll (l.map fun j => PyData.int (j : Nat))).map (·.length)).sum = l.length ∧ (PyData.shownAll (l.map fun j => PyData.int (j : Nat))).length = l.length
  | [], _ => ⟨rfl, rfl, rfl⟩
  | a :: l, h => by
    obtain ⟨h1, h2, h3⟩ := show_ints l fun j hj => h j (List.mem_cons_of_mem _ hj)
    have ha : a < 10 := h a (List.mem_cons_self ..)
    have key : ∀ a < 10, (PyData.int ((a : Nat) : Int)).showable = true ∧ (PyData.int ((a : Nat) : Int)).shown.length = 1 := by decide +kernel
    obtain ⟨k1, k2⟩ := key a ha
    rw [List.map_cons, PyData.showableAll, h1, k1, PyData.shownAll, List.map_cons, List.sum_cons, h2, k2, List.length_cons, List.length_cons, h3]
    exact ⟨rfl, by omega, rfl⟩
theorem shown_ints {l : List Nat} (h : ∀ j ∈ l, j < 10) (hl : l.length ≤ 1000) : (iL l).showable = true ∧ (iL l).hasDict = false ∧ (iL l).depth ≤ 60 ∧ (iL l).shown.length ≤ sizeLine := by
  obtain ⟨h1, h2, h3⟩ := show_ints l h
  have nd : ∀ l : List Nat, PyData.hasDictAll (l.map fun j => PyData.int (j : Nat)) = false := by
    intro l
    induction l with
    | nil => rfl
    | cons a l ih => rw [List.map_cons, PyData.hasDictAll, ih]; rfl
  unfold iL
  rw [PyData.showable, h1, PyData.hasDict, nd, PyData.depth, depth_ints, PyData.shown]
  refine ⟨rfl, rfl, by decide, ?_⟩
  have := listText_len_le (PyData.shownAll (l.map fun j => PyData.int (j : Nat)))
  rw [h2, h3] at this
  rw [sizeLine_eq]
  omega
/-! a part of the letters is stripped away -/
theorem strip_all {z b : Str} (h : ∀ c ∈ z.cps.toList, c ∈ b.cps.toList) : Txt.stripChars z b = (⟨#[]⟩ : Str) := by
  unfold Txt.stripChars
  rw [PySem.W.stripBy_eq]
  unfold PySem.W.stripped
  have e : z.cps.toList.takeWhile b.cps.contains = z.cps.toList := by
    have : ∀ l : List Nat, (∀ c ∈ l, c ∈ b.cps.toList) → l.takeWhile b.cps.contains = l := by
      intro l
      induction l with
      | nil => intro _; rfl
      | cons a l ih =>
        intro hl
        have ha : b.cps.contains a = true := by simpa using hl a (List.mem_cons_self ..)
        rw [List.takeWhile_cons_of_pos ha, ih fun c hc => hl c (List.mem_cons_of_mem _ hc)]
    exact this _ h
  simp only [if_true, e]
  rw [Array.length_toList]
  unfold Builtin.Str.strSub
  simp [Str.length]
end Mth

set_option Elab.async false
set_option linter.all false
set_option maxRecDepth 100000
set_option maxHeartbeats 4000000
namespace Exn
open PySem PySem.W PySem.Calls PyProof.Rows PySem.HandSPX
/-! an own error class over any built-in error: def __init__(self, f): self.f = f -/
section
open Builtin Builtin.ObjectAttr
variable {prog : Program} {w : World} {A : Around} {E : Value → Shared → Prop} {R : Result → Shared → Prop} {hp : Heap} {g : Array GenState} {d : Drawn} {t : Nat} {os : OsState} {B : String} {bmB : List Value}
theorem osaB {K : Frag} {name : Str} {tk : Tok} {v : Value} {x C : Addr} {fv : Array Value} {cd : ClassData} (SF : StoreFacts B bmB "object.__setattr__" "object")
    (X : K.In hp) (hx : hp.get? x = some { cls := .ref C, data := .fields fv }) (ho : excOver K C bmB = true) (ht : takerIn K C name = some none) (hcd : clsIn K C = some cd) (hh : cd.hasDict = true)
    (hq : ∀ h' tk' dx, (∀ b o, b ≠ x → hp.get? b = some o → h'.get? b = some o) → hp.objs.size ≤ dx → dx ≠ x → h'.get? x = some { cls := .ref C, dict := some dx, data := .fields fv } → h'.Ns1 dx (fun y => if y = name then some v else none) →
      R (.ok (.ret .none)) ⟨h', g, d, tk', os⟩) : codeAny (model prog w) A (.call (.builtin "object.__setattr__") ⟨[.ref x, .str name tk, v], []⟩) R ⟨hp, g, d, t, os⟩ := by
  have xs : x ≠ hp.objs.size := Nat.ne_of_lt (Heap.lt_size hx)
  have hcls : Looks (model prog w) hp (classData C) cd := looks_clsIn X hcd
  refine osa_openX (s := ⟨hp, g, d, t, os⟩) (ox := { cls := .ref C, data := .fields fv }) (od := none) SF X ⟨hx, rfl, rfl, trivial⟩ ho ht fun b => ?_
  show wpAny _ _ (storeInOwnDict (.ref x) (.ref C) (.str name tk) name v b) _ _ _
  obtain ⟨nm, bs, mro, ns, qn, hd, sn, sb, ab, col, del⟩ := cd
  cases hh
  unfold storeInOwnDict ownDictForStores
  repeat (first | with_reducible refine store_in_new ?_ ?_ | with_reducible refine wpAny_loadPart_at hx ?_ | with_reducible refine hcls.at ?_ | wp_step)
  · exact ⟨_, #[], _, (Heap.get?_update_ne _ _ _ _ xs.symm).trans (Heap.get?_push_at rfl rfl), rfl, fun e he => absurd he (by simp), fun _ => rfl⟩
  · intro h' tk' hn' hs
    refine hq h' tk' hp.objs.size (fun b o hb hob => ?_) (Nat.le_refl _) xs.symm ?_ hn'
    · exact (hs.2 b (Nat.ne_of_lt (Heap.lt_size hob))).trans ((Heap.get?_update_ne _ _ _ _ hb).trans (Heap.get?_push_of_some _ hob))
    · exact (hs.2 x xs).trans (Heap.get?_update_self _ (Heap.get?_push_of_some _ hx) rfl)
end
def iA (f : Str) (p1 p2 : Pos) : Arguments := { posonlyargs := [], args := [{ arg := "self", annotation := none, pos := p1 }, { arg := f, annotation := none, pos := p2 }], vararg := none, kwonlyargs := [], kw_defaults := [], kwarg := none, defaults := [] }
def iB (f : Str) (q1 q2 q3 q4 : Pos) : List Stmt := [.Assign [.Attribute (.Name "self" q1) f q2] (.Name f q3) q4]
def iS (f : Str) (m : List (Str × Const)) : Scope := { kind := .function, names := [("self", .local), (f, .local)], isGenerator := false, isCoroutine := false, more := m }
end Exn

set_option Elab.async false
set_option linter.all false
set_option maxRecDepth 100000
set_option maxHeartbeats 4000000
namespace Exn
open PySem PySem.W PySem.Calls PyProof.Rows PySem.HandSPX
abbrev keyTail : List Value := [.type "KeyError", .type "LookupError", .type "Exception", .type "BaseException", .type "object"]
open PySem.F in
theorem storeKey : StoreFacts "KeyError" keyTail "object.__setattr__" "object" :=
  { mro := by kernel_rfl, slot := .of (owner := "object") (n := "__setattr__") (by rw [typeLookup_type, builtinLookup_eq_fast]; kernel_rfl) (by decide +kernel) (by decide +kernel) (by decide +kernel) (by first | exact .inl (by decide +kernel) | exact .inr (by decide +kernel)) (by rw [isSubtype_type]; kernel_rfl),
    entry := entry_object_sa, kind := by decide +kernel, split := by decide +kernel, hasOwner := by decide +kernel, args := fun a b c => by unfold argsOk; kernel_rfl, passes := fun self => by kernel_rfl }
/-! such a class called, by position or with keywords; the maker may be that of a base -/
section
variable {prog : Program} {w : World} {M : Model} {A : Around} {E : Value → Shared → Prop} {R : Result → Shared → Prop} {h : Heap} {g : Array GenState} {d : Drawn} {t : Nat} {os : OsState}
variable {nm q : Str} {C N : Addr} {bs bm bm0 : List Value} {hdct : Bool} {sn : List Str} {sub : List Value} {ab : Bool} {col : Option Bool} {dd : Option Addr} {k0 k1 k2 k3 k5 : Option Value} {B newId initId : String} {rest : List Value} {kw : List (Str × Value)}
/-- what the class's chain must say of the maker -/
structure Chain (bm : List Value) (B : String) : Prop where
  cB : bm.contains (.type B) = true
  cA : bm.contains (.type "AttributeError") = false
  cN : bm.contains (.type "NameError") = false
theorem checkNewX (F : ExcBaseFacts B newId initId bm0) (hT : Chain bm B) {Q : Unit → Shared → Prop}
    (hC : h.get? C = some (excClassObj nm q C N bs bm hdct sn sub ab col dd k0 k1 k2 k3 k5 newId)) (hq : Q () ⟨h, g, d, t, os⟩) : wpAny M A (checkBuiltinCall newId ⟨.ref C :: rest, kw⟩) Q E ⟨h, g, d, t, os⟩ := by
  have hcB : (Value.ref C :: bm).contains (.type B) = true := by rw [List.contains_cons, hT.cB, Bool.or_true]
  have hst := F.noStar
  simp only [checkBuiltinCall, F.newKind, F.newSplit, F.newRow]
  repeat (first | refine wpAny_loadPart_at hC ?_ | (refine wpAny_isSubtype_exc hC ?_; rw [hcB]) | refine wpAny_staticBase_exc hC ?_ | refine wpAny_madeBy_exc hC ?_ | simp only [bne_self_eq_false, Bool.false_eq_true, if_false] | wp_step)
  exact hq
theorem newX (F : ExcBaseFacts B newId initId bm0) (hT : Chain bm B) (hC : h.get? C = some (excClassObj nm q C N bs bm hdct sn sub ab col dd k0 k1 k2 k3 k5 newId)) (hrest : rest.length ≤ sizeLine)
    (hq : R (.ok (.ret (.ref (h.objs.size + 1)))) ⟨(h.push (W.kdv_tup rest)).push (excO C h.objs.size), g, d, t, os⟩) :
    codeAny (model prog w) A (.builtin newId ⟨.ref C :: rest, kw⟩) R ⟨h, g, d, t, os⟩ := by
  have hends := F.ends
  have cB : (Value.ref C :: bm).contains (.type B) = true := by rw [List.contains_cons, hT.cB, Bool.or_true]
  have cA : (Value.ref C :: bm).contains (.type "AttributeError") = false := by rw [List.contains_cons, hT.cA]; rfl
  have cN : (Value.ref C :: bm).contains (.type "NameError") = false := by rw [List.contains_cons, hT.cN]; rfl
  refine codeAny_builtinAt F.entry ?_
  unfold Builtin.«BaseException.__new__»
  refine PySem.wpAt_bind ?_
  show PySem.wpAt _ _ _ (stack >>= _) _ _ _
  refine PySem.wpAt_bind (PySem.wpAt_stack fun p below => PySem.wpAt_of_wpAny ?_)
  wp_walk
  refine PySem.wpAt_of_wpAny ?_
  rw [F.owner]
  repeat (first | with_reducible refine wpAny_madeHere_exc F.canon hC ?_ | with_reducible refine wpAny_loadPart_at hC ?_ | (with_reducible refine wpAny_isSubtype_exc hC ?_; first | rw [cB] | rw [cA] | rw [cN]) | wp_step)
  show R _ _
  rw [Heap.size_push]
  exact hq
theorem typeCallX (F : ExcBaseFacts B newId initId bm0) (hT : Chain bm B) {fI : Addr} {Q : Fin → Shared → Prop} (hC : h.get? C = some (excClassObj nm q C N bs bm hdct sn sub ab col dd k0 k1 k2 k3 k5 newId))
    (hi : W.Looks (model prog w) h (typeLookup (.ref C) "__init__") (some (.ref fI))) (hb : ∀ self, W.Looks (model prog w) h (bindSpecial (.ref fI) self) (.ref fI, [self])) (hrest : rest.length ≤ sizeLine)
    (hq : codeAny (model prog w) A (.call (.ref fI) ⟨.ref (h.objs.size + 1) :: rest, kw⟩) (fun r s' => match r with | .ok (.ret v) => v = .none ∧ Q (.done (.ret (.ref (h.objs.size + 1)))) s' | .ok _ => False | .error e => E e s')
      ⟨(h.push (W.kdv_tup rest)).push (excO C h.objs.size), g, d, t, os⟩) : wpAny (model prog w) A (Builtin.«type.__call__» ⟨.ref C :: rest, kw⟩) Q E ⟨h, g, d, t, os⟩ := by
  repeat (first | with_reducible refine wpAny_loadPart_at hC ?_ | with_reducible refine wpAny_madeBy_exc hC ?_ | wp_step)
  refine codeAny_call_builtin_code (Code.quiet_builtin _ F.quiet) (checkNewX F hT hC (newX F hT hC hrest ?_))
  show wpAny _ _ _ _ _ _
  have k : ∀ b o, h.get? b = some o → ((h.push (W.kdv_tup rest)).push (excO C h.objs.size)).get? b = some o := fun b o e => Heap.get?_push_of_some _ (Heap.get?_push_of_some _ e)
  have hC1 := k _ _ hC
  have hge : ((h.push (W.kdv_tup rest)).push (excO C h.objs.size)).get? (h.objs.size + 1) = some (excO C h.objs.size) := by heap_get
  have cC : (Value.ref C :: bm).contains (.ref C) = true := by simp
  have i1 := hi.keeps k
  have b1 := (hb (.ref (h.objs.size + 1))).keeps k
  unfold isInstance
  repeat (first | with_reducible refine wpAny_loadPart_at hge ?_ | (with_reducible refine wpAny_isSubtype_exc hC1 ?_; rw [cC]) | wp_step)
  show wpAny _ _ (typeLookup (.ref C) _) _ _ _
  refine i1.at (wpAny_holding (wpAny_bind (b1.at (wpAny_bind (wpAny_call (codeAny_mono hq fun r s' z => ?_))))))
  rcases r with e | (v | _ | _ | _) <;> first | exact z | exact z.elim | skip
  obtain ⟨rfl, z⟩ := z
  first | exact wpAny_pure (wpAny_pure z) | (wp_walk; exact z)
theorem callX (F : ExcBaseFacts B newId initId bm0) (hT : Chain bm B) {fI : Addr} (hC : h.get? C = some (excClassObj nm q C N bs bm hdct sn sub ab col dd k0 k1 k2 k3 k5 newId))
    (hi : W.Looks (model prog w) h (typeLookup (.ref C) "__init__") (some (.ref fI))) (hb : ∀ self, W.Looks (model prog w) h (bindSpecial (.ref fI) self) (.ref fI, [self])) (hrest : rest.length ≤ sizeLine)
    (hq : codeAny (model prog w) (A.under (.builtin "type.__call__" ⟨.ref C :: rest, kw⟩)) (.call (.ref fI) ⟨.ref (h.objs.size + 1) :: rest, kw⟩) (W.InitBack (h.objs.size + 1) R)
      ⟨(h.push (W.kdv_tup rest)).push (excO C h.objs.size), g, d, t, os⟩) : codeAny (model prog w) A (.call (.ref C) ⟨rest, kw⟩) R ⟨h, g, d, t, os⟩ := by
  have f1 := tc_lookup
  have f2 := tc_bind (.ref C)
  have hTy : (⟨h, g, d, t, os⟩ : Shared).TypeIs (.ref C) "type" := ⟨_, hC, rfl⟩
  refine codeAny_of_tree ?_
  show wpAny _ _ (callAny (.ref C) _) _ _ _
  repeat (any_goals (first | assumption | with_reducible refine wpAny_loadPart_at hC ?_ | wp_step))
  refine ⟨rfl, codeAny_call_builtin_at (Code.quiet_builtin _ (by decide +kernel)) entry_typeCall (wpAny_check_type_call_sub hC (typeCallX F hT hC hi hb hrest ?_))⟩
  exact codeAny_mono hq fun r s' z => by rcases r with e | (v | _ | _ | _) <;> exact z
end
end Exn

set_option Elab.async false
set_option linter.all false
set_option maxRecDepth 100000
set_option maxHeartbeats 4000000
namespace Exn
open PySem PySem.Spec PyProof.Rows L2
/-! an own error held as a value: at a, of the class at C, its dict at d -/
def ExV (C d a : Addr) : HO := .ext fun h => ∃ t1 : Addr, h.get? a = some { cls := .ref C, dict := some d, data := .fields #[.ref t1, .none, .none, .none, .bool false, .none] }
theorem exV_ok {P : Program} {w : World} {H : Hp} {h : Heap} {a C d t1 : Addr} (e : h.get? a = some { cls := .ref C, dict := some d, data := .fields #[.ref t1, .none, .none, .none, .bool false, .none] }) : ObjOk P w H h a (ExV C d a) :=
  ⟨⟨t1, e⟩, ⟨_, e⟩, fun _ _ ⟨t, z⟩ k => ⟨t, k _ z⟩⟩
/-- what its class must say, for a field f to be read and for isinstance -/
structure Xv (K : PySem.W.Frag) (C : Addr) : Prop where
  ga : PySem.W.findIn K (.ref C) "__getattribute__" = some (some (.builtin "BaseException.__getattribute__"))
  gg : PySem.W.findIn K (.ref C) "__getattr__" = some none
  exC : PySem.W.subIn K (.ref C) (.type "BaseException") = some true
  hdC : PySem.W.hasDictIn K C = true
  ha : PySem.W.findIn K (.ref C) "__class__" = some (some (.builtin "object.__class__"))
  hm : PySem.W.mroIn K C (.type "object") = some true
  hn : PySem.W.specialIn K (.builtin "object.__class__") "__get__" = some (some (.builtin "getset_descriptor.__get__"))
  ht : PySem.W.takesIn K (.builtin "object.__class__") = some true
/-- an error made as a value: its dict at d, itself at a, both new -/
def tMkVg (f : Str) (C : Addr) (ta : TA) : TE := fun σ H Q => ta σ H fun vs H1 => ∃ v, vs = [v] ∧ ∀ d a, H1 d = none → H1 a = none → a ≠ d → Q (.ref a) (upd (upd H1 d (.xd [(f, v)])) a (ExV C d a))
open PySem.W in
/-- these facts, asked at once -/
def ecB (K : PySem.W.Frag) (C fI : Addr) (f : Str) (bmB : List Value) (newId : String) : Bool :=
  excInitIn K C bmB newId && (excOver K C bmB && (hasDictIn K C && (decide (findIn K (.ref C) "__setattr__" = some (some (.builtin "object.__setattr__"))) && (decide (findIn K (.ref C) "__getattribute__" = some (some (.builtin "BaseException.__getattribute__"))) && (decide (findIn K (.ref C) "__getattr__" = some none) &&
    (decide (findIn K (.ref C) f = some none) && (decide (takerIn K C f = some none) && (decide (typeIn K (.ref fI) = some (.type "function")) && (keepIn K (.ref C) && (decide (subIn K (.ref C) (.type "BaseException") = some true) && (decide (typeIn K (.ref C) = some (.type "type")) &&
      (decide (findIn K (.ref C) "__class__" = some (some (.builtin "object.__class__"))) && decide (mroIn K C (.type "object") = some true)))))))))))))
theorem xv_of {K : PySem.W.Frag} {C fI : Addr} {f : Str} {bmB : List Value} {newId : String} (h : ecB K C fI f bmB newId = true) (hn : PySem.W.specialIn K (.builtin "object.__class__") "__get__" = some (some (.builtin "getset_descriptor.__get__"))) (ht : PySem.W.takesIn K (.builtin "object.__class__") = some true) :
    Xv K C ∧ PySem.W.findIn K (.ref C) f = some none := by
  unfold ecB at h
  simp only [Bool.and_eq_true, decide_eq_true_eq] at h
  obtain ⟨_, _, h3, _, h5, h6, h7, _, _, _, h11, _, h13, h14⟩ := h
  exact ⟨⟨h5, h6, h11, h3, h13, h14, hn, ht⟩, h7⟩
section
variable {X : Cx}
theorem exV_inst {pins : List (Addr × Obj)} {σ : L2.St} {H : Hp} {s : Shared} {a C d : Addr} {fs : List (Str × V)} (I : Inv X pins σ H s) (ea : H a = some (ExV C d a)) (ed : H d = some (.xd fs)) :
    ∃ (ox od : Obj) (mA : Str → Option Value), PySem.W.InstAt s.heap a ox C (some od) ∧ (∀ n, PySem.W.lookIn n od = some (mA n)) ∧ ∀ f, RelO (fs.lookup f) (mA f) := by
  obtain ⟨⟨t1, ha⟩, _⟩ := (show ObjOk X.prog X.w H s.heap a (ExV C d a) from I.hok a _ ea)
  obtain ⟨mA, hns, hr⟩ := (show ObjOk X.prog X.w H s.heap d (.xd fs) from I.hok d _ ed)
  obtain ⟨od, ho, hl⟩ := lookIn_ns hns
  exact ⟨_, od, mA, ⟨ha, rfl, rfl, ho⟩, hl, hr⟩
def tAttrV (K : PySem.W.Frag) (f : Str) (te : TE) : TE := fun σ H Q => te σ H fun x H1 => ∃ (a C d : Addr) (fs : List (Str × V)) (v : V), x = .ref a ∧ H1 a = some (ExV C d a) ∧ H1 d = some (.xd fs) ∧ fs.lookup f = some v ∧ Xv K C ∧ PySem.W.findIn K (.ref C) f = some none ∧ Q v H1
theorem pe_attrV {e : Expr} {te : TE} {pos : Pos} {f : Str} (he : PE X e te) (hb : attributeBase e f X.env (eval e X.env) = eval e X.env := by rfl) : PE X (.Attribute e f pos) (tAttrV X.K f te) := by
  refine ⟨fun pins s σ H Q I h => attr_of hb (thn (he.run pins s σ H _ I h) ?_)⟩
  rintro u s1 ⟨x, H1, I1, rx, a, C, d, fs, v, rfl, ea, ed, l, T, hno, q⟩
  obtain rfl : u = Value.ref a := rx
  obtain ⟨ox, od, mA, J, hl, hr⟩ := exV_inst I1 ea ed
  obtain ⟨u, hu, ru⟩ := RelO.some_of (v := v) (o := mA f) (by rw [← l]; exact hr f)
  exact HandSPX.exc_get I1.kIn J T.ga T.gg T.exC (PySem.W.findObj_own T.hdC hno rfl (by rw [hl, hu])) (handed_of ru) ⟨v, H1, I1.tok _, ru, q⟩
def rIsV (K : PySem.W.Frag) : List V → Hp → VK → Prop := fun xs H Q => ∃ (a C d : Addr) (fs : List (Str × V)) (c : V) (u : Value) (b : Bool), xs = [.ref a, c] ∧ ClsV c u ∧ H a = some (ExV C d a) ∧ H d = some (.xd fs) ∧ Xv K C ∧ PySem.W.kitOne K (.ref C) u = some b ∧ Q (.bl b) H
theorem call_isV : CallR X (.builtin "isinstance") (rIsV X.K) := by
  intro pins s σ H xs us Q I r h
  obtain ⟨a, C, d, fs, c, u, b, rfl, kc, ea, ed, T, e, q⟩ := h
  obtain ⟨u1, u2, rfl, r1, r2⟩ := vals2 r
  obtain rfl : u1 = Value.ref a := r1
  have e2 := kc.eq r2
  subst e2
  obtain ⟨ox, od, mA, J, _, _⟩ := exV_inst I ea ed
  obtain ⟨cd, hcd, _⟩ := PySem.W.any_some T.hdC
  exact PySem.W.kia_one (PySem.W.kitx_exc (by rw [hcd]; rfl) T.ga T.gg T.exC T.ha T.hn T.ht T.hm) I.kIn J e (fun z => nomatch z) fun tk => ⟨.bl b, H, I.tok tk, rfl, q⟩
end
end Exn
/-! the field value -/
namespace Exn
open PySem PySem.W PySem.Calls PyProof.Rows PySem.HandSPX
/-- what the written part says of such a class: its name, its place C, its __init__ at fI -/
structure Ecl_value (K : Frag) (mg : Str → Option Value) (nm qual : Str) (B Bm newId initId : String) (bmB bm0 : List Value) (C fI : Addr) : Prop where
  fb : ExcBaseFacts Bm newId initId bm0
  ch : Chain bmB Bm
  sf : StoreFacts B bmB "object.__setattr__" "object"
  gC : mg nm = some (.ref C)
  ini : excInitIn K C bmB newId = true
  ovr : excOver K C bmB = true
  hdC : hasDictIn K C = true
  sa : findIn K (.ref C) "__setattr__" = some (some (.builtin "object.__setattr__"))
  ga : findIn K (.ref C) "__getattribute__" = some (some (.builtin "BaseException.__getattribute__"))
  gg : findIn K (.ref C) "__getattr__" = some none
  noN : findIn K (.ref C) "value" = some none
  tk : takerIn K C "value" = some none
  iC : findIn K (.ref C) "__init__" = some (some (.ref fI))
  tC : typeIn K (.ref fI) = some (.type "function")
  kC : keepIn K (.ref C) = true
  exC : subIn K (.ref C) (.type "BaseException") = some true
  tyC : typeIn K (.ref C) = some (.type "type")
  fn : ∃ (oc : Value) (od : Option Addr) (doc pm : Value) (an : Option Addr) (cdv ct : Value) (osl : Array (Option Value)) (p1 p2 q1 q2 q3 q4 : Pos),
    K.lookup fI = some ⟨oc, od, .func (fnOf "__init__" qual (iA "value" p1 p2) (iB "value" q1 q2 q3 q4) (iS "value" []) .none .none doc pm an cdv ct), osl⟩ ∧ codeIn K cdv qual = true
theorem ecl_value {K : Frag} {mg : Str → Option Value} {nm qual : Str} {B Bm newId initId : String} {bmB bm0 : List Value} {C fI : Addr} (fb : ExcBaseFacts Bm newId initId bm0) (ch : Chain bmB Bm) (sf : StoreFacts B bmB "object.__setattr__" "object") (gC : mg nm = some (.ref C))
    (h : ecB K C fI "value" bmB newId = true) (iC : findIn K (.ref C) "__init__" = some (some (.ref fI))) {oc : Value} {od : Option Addr} {doc pm : Value} {an : Option Addr} {cdv ct : Value} {osl : Array (Option Value)} {p1 p2 q1 q2 q3 q4 : Pos}
    (l : K.lookup fI = some ⟨oc, od, .func (fnOf "__init__" qual (iA "value" p1 p2) (iB "value" q1 q2 q3 q4) (iS "value" []) .none .none doc pm an cdv ct), osl⟩) (c : codeIn K cdv qual = true) : Ecl_value K mg nm qual B Bm newId initId bmB bm0 C fI := by
  unfold ecB at h
  simp only [Bool.and_eq_true, decide_eq_true_eq] at h
  obtain ⟨h1, h2, h3, h4, h5, h6, h7, h8, h9, h10, h11, h12, _⟩ := h
  exact ⟨fb, ch, sf, gC, h1, h2, h3, h4, h5, h6, h7, h8, iC, h9, h10, h11, h12, ⟨oc, od, doc, pm, an, cdv, ct, osl, p1, p2, q1, q2, q3, q4, l, c⟩⟩
/-- an error just made: at e, its dict at d, the field in it -/
structure Made_value (h h' : Heap) (e C d : Addr) (v : Value) : Prop where
  keep : ∀ b o, h.get? b = some o → h'.get? b = some o
  new : h.objs.size ≤ e
  obj : ∃ t1 : Addr, h'.get? e = some { cls := .ref C, dict := some d, data := .fields #[.ref t1, .none, .none, .none, .bool false, .none] }
  dbig : h.objs.size ≤ d
  dne : d ≠ e
  ns : h'.Ns1 d (fun y => if y = "value" then some v else none)
section
variable {prog : Program} {w : World} {A : Around} {E : Value → Shared → Prop} {R : Result → Shared → Prop} {s : Shared} {K : Frag} {mg : Str → Option Value} {nm qual : Str} {B Bm newId initId : String} {bmB bm0 : List Value} {C fI : Addr}
theorem init_value (T : Ecl_value K mg nm qual B Bm newId initId bmB bm0 C fI) {x t0 : Addr} {v : Value} {ar : Args} (X : K.In s.heap) (hlim : s.heap.NoLimit) (hx : s.heap.get? x = some (excO C t0)) (hroom : A.depth < recursionLimit)
    (hbind : ∀ doc pm an cdv ct p1 p2 q1 q2 q3 q4 s', BindsTo s' (fnOf "__init__" qual (iA "value" p1 p2) (iB "value" q1 q2 q3 q4) (iS "value" []) .none .none doc pm an cdv ct) ar [("self", .ref x), ("value", v)])
    (hq : ∀ h' tk dx, (∀ b o, b ≠ x → s.heap.get? b = some o → h'.get? b = some o) → h'.get? x = some { cls := .ref C, dict := some dx, data := .fields #[.ref t0, .none, .none, .none, .bool false, .none] } → s.heap.objs.size ≤ dx → dx ≠ x →
      h'.Ns1 dx (fun y => if y = "value" then some v else none) → R (.ok (.ret .none)) { s with heap := h', toks := tk }) :
    codeAny (model prog w) A (.call (.ref fI) ar) R s := by
  obtain ⟨oc, od, doc, pm, an, cdv, ct, osl, p1, p2, q1, q2, q3, q4, ho, hcd⟩ := T.fn
  obtain ⟨cd, hcl, hhd⟩ := any_some T.hdC
  refine Att.call_fn (binds := [("self", .ref x), ("value", v)]) X hlim ho hcd hroom (hbind _ _ _ _ _ _ _ _ _ _ _ _) (by first | rfl | decide | with_unfolding_all rfl) (fun s₁ IC => ?_) rfl rfl rfl
  obtain ⟨h₁, tk₁, rfl⟩ := IC.toInCall.same
  have k := IC.toInCall.keep
  have hn := IC.toInCall.ns
  have X₁ : K.In h₁ := X.keeps k
  show wpAny _ _ (execs _ _) _ _ _
  refine wpAny_execs_cons (plainObj_wpAny_Assign_Attribute ?_)
  refine wpAny_Name (wpAny_loadName_local rfl rfl hn (v := v) (by first | rfl | with_unfolding_all rfl | kernel_rfl) ?_) (by decide)
  refine wpAny_Name (wpAny_loadName_local rfl rfl hn (v := .ref x) (by first | rfl | with_unfolding_all rfl | kernel_rfl) ?_) (by decide)
  refine set_plain X₁ (ox := excO C t0) (od := none) ⟨k _ _ hx, rfl, rfl, trivial⟩ T.sa (osaB T.sf X₁ (k _ _ hx) T.ovr T.tk hcl hhd fun h₃ tk₃ dx k₃ dn dne hx₃ hn₃ => ?_)
  show wpAny _ _ (execs _ _) _ _ _
  exact wpAny_execs_nil (hq h₃ tk₃ dx (fun b o hb e => k₃ b o hb (k b o e)) hx₃ (Nat.le_of_lt (Nat.lt_of_lt_of_le hn.lt dn)) dne hn₃)
theorem made_value (T : Ecl_value K mg nm qual B Bm newId initId bmB bm0 C fI) {v : Value} {rest : List Value} {kw : List (Str × Value)} (X : K.In s.heap) (hlim : s.heap.NoLimit) (hroom : A.depth + 1 < recursionLimit) (how : (rest = [v] ∧ kw = []) ∨ (rest = [] ∧ kw = [(("value" : Str), v)]))
    (hq : ∀ h' tk e d, Made_value s.heap h' e C d v → R (.ok (.ret (.ref e))) { s with heap := h', toks := tk }) :
    codeAny (model prog w) A (.call (.ref C) ⟨rest, kw⟩) R s := by
  obtain ⟨nm', N, q, bs, bm, hd, sn, sub, ab, col, dd, k0, k1, k2, k3, k5, hC, hbm⟩ := excInit_of X T.ini
  obtain ⟨hp, g, dr, tk, os⟩ := s
  have k : ∀ b o, hp.get? b = some o → ((hp.push (kdv_tup rest)).push (excO C hp.objs.size)).get? b = some o := fun b o e => Heap.get?_push_of_some _ (Heap.get?_push_of_some _ e)
  have hget : ((hp.push (kdv_tup rest)).push (excO C hp.objs.size)).get? (hp.objs.size + 1) = some (excO C hp.objs.size) := by heap_get
  have chn : Chain bm Bm := ⟨by rw [hbm]; exact T.ch.cB, by rw [hbm]; exact T.ch.cA, by rw [hbm]; exact T.ch.cN⟩
  have hsz : rest.length ≤ sizeLine := by rcases how with ⟨rfl, _⟩ | ⟨rfl, _⟩ <;> (rw [sizeLine_eq]; simp)
  refine callX T.fb chn hC (looks_findIn X T.iC) (fun self => bind_fn X self T.tC) hsz ?_
  refine init_value (s := ⟨(hp.push (kdv_tup rest)).push (excO C hp.objs.size), g, dr, tk, os⟩) (v := v) T (X.keeps k) (hlim.keeps k) hget (show A.depth + 1 < recursionLimit from hroom) ?_ fun h' tk' dx k' hx dn dne hns => ?_
  · rcases how with ⟨rfl, rfl⟩ | ⟨rfl, rfl⟩
    · exact fun _ _ _ _ _ _ _ _ _ _ _ _ => BindsTo.of_eq (by first | rfl | with_unfolding_all rfl)
    · exact fun _ _ _ _ _ _ _ _ _ _ _ _ => BindsTo.of_eq (by first | rfl | with_unfolding_all rfl)
  have old : ∀ b o, hp.get? b = some o → h'.get? b = some o := fun b o e => k' b o (Nat.ne_of_lt (Nat.lt_succ_of_lt (Heap.lt_size e))) (k b o e)
  have z : hp.objs.size + 1 + 1 ≤ dx := by
    have q := dn
    rw [Heap.size_push, Heap.size_push] at q
    exact q
  exact ⟨rfl, hq h' tk' (hp.objs.size + 1) dx ⟨old, Nat.le_succ _, ⟨_, hx⟩, (show hp.objs.size ≤ dx by omega), dne, hns⟩⟩
end
end Exn
namespace Exn
open PySem PySem.Spec PyProof.Rows L2
theorem relO_value {v : V} {v' : Value} (r : RelV v v') (f : Str) : RelO (List.lookup f [(("value" : Str), v)]) (if f = "value" then some v' else none) := by
  by_cases hw : f = "value"
  · subst hw
    rw [if_pos rfl, show List.lookup ("value" : Str) [(("value" : Str), v)] = some v by simp [List.lookup]]
    exact r
  · have qw : (f == ("value" : Str)) = false := by simpa using hw
    rw [if_neg hw, show List.lookup f [(("value" : Str), v)] = none by simp [List.lookup, qw]]
    trivial
section
variable {X : Cx} {nm qual : Str} {B Bm newId initId : String} {bmB bm0 : List Value} {C fI : Addr}
/-- the making of the error that is raised at once -/
def tMk_value (C : Addr) (ta : TA) : L2.St → Hp → XK → Prop := fun σ H Q => ta σ H fun vs H1 => ∃ v, vs = [v] ∧ ∀ d, H1 d = none → Q (.ref C) (some d) (upd H1 d (.xd [(("value" : Str), v)]))
theorem pmk_value {a : Expr} {ta : TA} {p pos : Pos} {k : Nat} (T : Ecl_value X.K X.mg nm qual B Bm newId initId bmB bm0 C fI) (hr : Room k X.A) (ha : PA X [a] ta) (hg : Gl X nm) (hdb : (nm == ("__debug__" : Str)) = false := by decide)
    (he : starEach (a :: []) X.env = (false, eval a X.env) :: starEach [] X.env := by rfl) (hpl : (backTo pos (starEach [] X.env)).any (·.1) = false := by rfl) :
    PMk X (.Call (.Name nm p) [a] [] pos) (tMk_value C ta) := by
  intro pins s σ H Q I h
  refine wpAny_Call_Name_kw (ld_glob I hg T.gC ?_ hdb)
  refine PySem.W.callWith_K (h₀ := X.base) I.ok.mod.kin T.kC (thn (ha.run pos pins s σ H _ I h) ?_) he hpl
  rintro us s1 ⟨vs, H1, I1, r1, v, rfl, q1⟩
  obtain ⟨v', rfl, rv⟩ := vals1 r1
  refine ⟨I1.kIn, ?_⟩
  have hlim := I1.nolimit
  have hdp := hr.dp
  obtain ⟨hp, g, dr, tk, os⟩ := s1
  refine wpAny_call (made_value T I1.kIn hlim (by omega) (.inl ⟨rfl, rfl⟩) fun h' tk' e d M => ?_)
  show MkP X pins σ Q (.ref e) ⟨h', g, dr, tk', os⟩
  obtain ⟨t1, hoe⟩ := M.obj
  have hns := M.ns
  obtain ⟨G', g1, g2⟩ := restrict h' fun b => decide (b ≠ e)
  have gk : ∀ b, b ≠ e → G'.get? b = h'.get? b := fun b hb => g1 b (decide_eq_true hb)
  have ge : G'.get? e = none := g2 e (by simp)
  have old : ∀ b o, hp.get? b = some o → G'.get? b = some o := fun b o q => (gk b (Nat.ne_of_lt (Nat.lt_of_lt_of_le (Heap.lt_size q) M.new))).trans (M.keep b o q)
  have ob : ObjOk X.prog X.w (upd H1 d (.xd [(("value" : Str), v)])) G' d (.xd [(("value" : Str), v)]) := ⟨_, hns.at (fun o q => (gk d M.dne).trans q), fun f => relO_value rv f⟩
  have J : Inv X pins σ (upd H1 d (.xd [(("value" : Str), v)])) ⟨G', g, dr, tk', os⟩ := I1.laid (t' := tk') old M.dbig ob
  refine ⟨e, _, _, ⟨G', g, dr, tk', os⟩, _, .ref C, some d, rfl, J, fun b o q => ?_, ge, hoe, ⟨rfl, rfl⟩, rfl, rfl, ?_, rfl, I1.bare, raises_own T.exC T.tyC, q1 d (I1.hok.fresh M.dbig)⟩
  · by_cases hb : b = e
    · have q' : G'.get? b = some o := q
      rw [hb, ge] at q'
      cases q'
    · exact (gk b hb).symm.trans q
  · rw [upd_ne (Ne.symm M.dne)]
    exact I1.hok.fresh M.new
/-- the error as a value -/
abbrev tMkV_value (C : Addr) (ta : TA) : TE := tMkVg "value" C ta
theorem mkV_value {pins : List (Addr × Obj)} {s : Shared} {σ : L2.St} {H : Hp} {Q : VK} {v : V} {v' : Value} {rest : List Value} {kw : List (Str × Value)} {k : Nat} (T : Ecl_value X.K X.mg nm qual B Bm newId initId bmB bm0 C fI) (hr : Room k X.A) (I : Inv X pins σ H s) (rv : RelV v v')
    (how : (rest = [v'] ∧ kw = []) ∨ (rest = [] ∧ kw = [(("value" : Str), v')])) (q : ∀ d a, H d = none → H a = none → a ≠ d → Q (.ref a) (upd (upd H d (.xd [(("value" : Str), v)])) a (ExV C d a))) :
    wpAny (model X.prog X.w) X.A (call (.ref C) rest kw) (EP X pins σ Q) X.xe s := by
  have hlim := I.nolimit
  have hdp := hr.dp
  obtain ⟨hp, g, dr, tk, os⟩ := s
  refine wpAny_call (made_value T I.kIn hlim (by omega) how fun h' tk' e d M => ?_)
  obtain ⟨t1, hoe⟩ := M.obj
  obtain ⟨G', g1, g2⟩ := restrict h' fun b => decide (b ≠ e)
  have gk : ∀ b, b ≠ e → G'.get? b = h'.get? b := fun b hb => g1 b (decide_eq_true hb)
  have ge : G'.get? e = none := g2 e (by simp)
  have old : ∀ b o, hp.get? b = some o → G'.get? b = some o := fun b o z => (gk b (Nat.ne_of_lt (Nat.lt_of_lt_of_le (Heap.lt_size z) M.new))).trans (M.keep b o z)
  have J : Inv X pins σ (upd H d (.xd [(("value" : Str), v)])) ⟨G', g, dr, tk', os⟩ := I.laid (t' := tk') old M.dbig ⟨_, M.ns.at (fun o z => (gk d M.dne).trans z), fun f => relO_value rv f⟩
  have nHe : H e = none := I.hok.fresh M.new
  have nHe2 : (upd H d (.xd [(("value" : Str), v)])) e = none := by rw [upd_ne (Ne.symm M.dne)]; exact nHe
  have sub : ∀ b u, G'.get? b = some u → h'.get? b = some u := fun b o z => by
    by_cases hb : b = e
    · rw [hb, ge] at z; cases z
    · exact (gk b hb).symm.trans z
  exact ⟨.ref e, _, J.laidN (t' := tk') sub ge nHe2 (exV_ok hoe), rfl, q d e (I.hok.fresh M.dbig) nHe (Ne.symm M.dne)⟩
theorem pe_mkV_value {a : Expr} {ta : TA} {p pos : Pos} {k : Nat} (T : Ecl_value X.K X.mg nm qual B Bm newId initId bmB bm0 C fI) (hr : Room k X.A) (ha : PA X [a] ta) (hg : Gl X nm) (hdb : (nm == ("__debug__" : Str)) = false := by decide)
    (he : starEach (a :: []) X.env = (false, eval a X.env) :: starEach [] X.env := by rfl) (hpl : (backTo pos (starEach [] X.env)).any (·.1) = false := by rfl) : PE X (.Call (.Name nm p) [a] [] pos) (tMkV_value C ta) := by
  refine ⟨fun pins s σ H Q I h => wpAny_Call_Name_kw (ld_glob I hg T.gC ?_ hdb)⟩
  refine PySem.W.callWith_K (h₀ := X.base) I.ok.mod.kin T.kC (thn (ha.run pos pins s σ H _ I h) ?_) he hpl
  rintro us s1 ⟨vs, H1, I1, r1, v, rfl, q1⟩
  obtain ⟨v', rfl, rv⟩ := vals1 r1
  exact ⟨I1.kIn, mkV_value T hr I1 rv (.inl ⟨rfl, rfl⟩) q1⟩
theorem pe_mkK_value {kws : List Keyword} {tk : TA} {p pos : Pos} {k : Nat} (T : Ecl_value X.K X.mg nm qual B Bm newId initId bmB bm0 C fI) (hr : Room k X.A) (hkw : PK X kws tk) (hg : Gl X nm) (hdb : (nm == ("__debug__" : Str)) = false := by decide)
    (hal : (backToKw pos (keywordEach kws X.env)).all (·.1.isSome) = true := by rfl) (hks : (backToKw pos (keywordEach kws X.env)).filterMap (·.1) = [("value" : Str)] := by rfl)
    (hst : ((backTo pos (starEach [] X.env)).any (·.1) || (backToKw pos (keywordEach kws X.env)).any (·.1.isNone)) = false := by rfl) : PE X (.Call (.Name nm p) [] kws pos) (tMkV_value C tk) := by
  refine ⟨fun pins s σ H Q I h => wpAny_Call_Name_kw (ld_glob I hg T.gC ?_ hdb)⟩
  refine PySem.W.callWith_KW0 (h₀ := X.base) I.ok.mod.kin T.kC hal (thn (hkw.run pos pins s σ H _ I h) ?_) hst
  rintro us s1 ⟨vs, H1, I1, r1, v, rfl, q1⟩
  obtain ⟨v', rfl, rv⟩ := vals1 r1
  refine ⟨I1.kIn, ?_⟩
  rw [hks]
  exact mkV_value T hr I1 rv (.inr ⟨rfl, rfl⟩) q1
end
end Exn
/-! the field index -/
namespace Exn
open PySem PySem.W PySem.Calls PyProof.Rows PySem.HandSPX
/-- what the written part says of such a class: its name, its place C, its __init__ at fI -/
structure Ecl_index (K : Frag) (mg : Str → Option Value) (nm qual : Str) (B Bm newId initId : String) (bmB bm0 : List Value) (C fI : Addr) : Prop where
  fb : ExcBaseFacts Bm newId initId bm0
  ch : Chain bmB Bm
  sf : StoreFacts B bmB "object.__setattr__" "object"
  gC : mg nm = some (.ref C)
  ini : excInitIn K C bmB newId = true
  ovr : excOver K C bmB = true
  hdC : hasDictIn K C = true
  sa : findIn K (.ref C) "__setattr__" = some (some (.builtin "object.__setattr__"))
  ga : findIn K (.ref C) "__getattribute__" = some (some (.builtin "BaseException.__getattribute__"))
  gg : findIn K (.ref C) "__getattr__" = some none
  noN : findIn K (.ref C) "index" = some none
  tk : takerIn K C "index" = some none
  iC : findIn K (.ref C) "__init__" = some (some (.ref fI))
  tC : typeIn K (.ref fI) = some (.type "function")
  kC : keepIn K (.ref C) = true
  exC : subIn K (.ref C) (.type "BaseException") = some true
  tyC : typeIn K (.ref C) = some (.type "type")
  fn : ∃ (oc : Value) (od : Option Addr) (doc pm : Value) (an : Option Addr) (cdv ct : Value) (osl : Array (Option Value)) (p1 p2 q1 q2 q3 q4 : Pos),
    K.lookup fI = some ⟨oc, od, .func (fnOf "__init__" qual (iA "index" p1 p2) (iB "index" q1 q2 q3 q4) (iS "index" []) .none .none doc pm an cdv ct), osl⟩ ∧ codeIn K cdv qual = true
theorem ecl_index {K : Frag} {mg : Str → Option Value} {nm qual : Str} {B Bm newId initId : String} {bmB bm0 : List Value} {C fI : Addr} (fb : ExcBaseFacts Bm newId initId bm0) (ch : Chain bmB Bm) (sf : StoreFacts B bmB "object.__setattr__" "object") (gC : mg nm = some (.ref C))
    (h : ecB K C fI "index" bmB newId = true) (iC : findIn K (.ref C) "__init__" = some (some (.ref fI))) {oc : Value} {od : Option Addr} {doc pm : Value} {an : Option Addr} {cdv ct : Value} {osl : Array (Option Value)} {p1 p2 q1 q2 q3 q4 : Pos}
    (l : K.lookup fI = some ⟨oc, od, .func (fnOf "__init__" qual (iA "index" p1 p2) (iB "index" q1 q2 q3 q4) (iS "index" []) .none .none doc pm an cdv ct), osl⟩) (c : codeIn K cdv qual = true) : Ecl_index K mg nm qual B Bm newId initId bmB bm0 C fI := by
  unfold ecB at h
  simp only [Bool.and_eq_true, decide_eq_true_eq] at h
  obtain ⟨h1, h2, h3, h4, h5, h6, h7, h8, h9, h10, h11, h12, _⟩ := h
  exact ⟨fb, ch, sf, gC, h1, h2, h3, h4, h5, h6, h7, h8, iC, h9, h10, h11, h12, ⟨oc, od, doc, pm, an, cdv, ct, osl, p1, p2, q1, q2, q3, q4, l, c⟩⟩
/-- an error just made: at e, its dict at d, the field in it -/
structure Made_index (h h' : Heap) (e C d : Addr) (v : Value) : Prop where
  keep : ∀ b o, h.get? b = some o → h'.get? b = some o
  new : h.objs.size ≤ e
  obj : ∃ t1 : Addr, h'.get? e = some { cls := .ref C, dict := some d, data := .fields #[.ref t1, .none, .none, .none, .bool false, .none] }
  dbig : h.objs.size ≤ d
  dne : d ≠ e
  ns : h'.Ns1 d (fun y => if y = "index" then some v else none)
section
variable {prog : Program} {w : World} {A : Around} {E : Value → Shared → Prop} {R : Result → Shared → Prop} {s : Shared} {K : Frag} {mg : Str → Option Value} {nm qual : Str} {B Bm newId initId : String} {bmB bm0 : List Value} {C fI : Addr}
theorem init_index (T : Ecl_index K mg nm qual B Bm newId initId bmB bm0 C fI) {x t0 : Addr} {v : Value} {ar : Args} (X : K.In s.heap) (hlim : s.heap.NoLimit) (hx : s.heap.get? x = some (excO C t0)) (hroom : A.depth < recursionLimit)
    (hbind : ∀ doc pm an cdv ct p1 p2 q1 q2 q3 q4 s', BindsTo s' (fnOf "__init__" qual (iA "index" p1 p2) (iB "index" q1 q2 q3 q4) (iS "index" []) .none .none doc pm an cdv ct) ar [("self", .ref x), ("index", v)])
    (hq : ∀ h' tk dx, (∀ b o, b ≠ x → s.heap.get? b = some o → h'.get? b = some o) → h'.get? x = some { cls := .ref C, dict := some dx, data := .fields #[.ref t0, .none, .none, .none, .bool false, .none] } → s.heap.objs.size ≤ dx → dx ≠ x →
      h'.Ns1 dx (fun y => if y = "index" then some v else none) → R (.ok (.ret .none)) { s with heap := h', toks := tk }) :
    codeAny (model prog w) A (.call (.ref fI) ar) R s := by
  obtain ⟨oc, od, doc, pm, an, cdv, ct, osl, p1, p2, q1, q2, q3, q4, ho, hcd⟩ := T.fn
  obtain ⟨cd, hcl, hhd⟩ := any_some T.hdC
  refine Att.call_fn (binds := [("self", .ref x), ("index", v)]) X hlim ho hcd hroom (hbind _ _ _ _ _ _ _ _ _ _ _ _) (by first | rfl | decide | with_unfolding_all rfl) (fun s₁ IC => ?_) rfl rfl rfl
  obtain ⟨h₁, tk₁, rfl⟩ := IC.toInCall.same
  have k := IC.toInCall.keep
  have hn := IC.toInCall.ns
  have X₁ : K.In h₁ := X.keeps k
  show wpAny _ _ (execs _ _) _ _ _
  refine wpAny_execs_cons (plainObj_wpAny_Assign_Attribute ?_)
  refine wpAny_Name (wpAny_loadName_local rfl rfl hn (v := v) (by first | rfl | with_unfolding_all rfl | kernel_rfl) ?_) (by decide)
  refine wpAny_Name (wpAny_loadName_local rfl rfl hn (v := .ref x) (by first | rfl | with_unfolding_all rfl | kernel_rfl) ?_) (by decide)
  refine set_plain X₁ (ox := excO C t0) (od := none) ⟨k _ _ hx, rfl, rfl, trivial⟩ T.sa (osaB T.sf X₁ (k _ _ hx) T.ovr T.tk hcl hhd fun h₃ tk₃ dx k₃ dn dne hx₃ hn₃ => ?_)
  show wpAny _ _ (execs _ _) _ _ _
  exact wpAny_execs_nil (hq h₃ tk₃ dx (fun b o hb e => k₃ b o hb (k b o e)) hx₃ (Nat.le_of_lt (Nat.lt_of_lt_of_le hn.lt dn)) dne hn₃)
theorem made_index (T : Ecl_index K mg nm qual B Bm newId initId bmB bm0 C fI) {v : Value} {rest : List Value} {kw : List (Str × Value)} (X : K.In s.heap) (hlim : s.heap.NoLimit) (hroom : A.depth + 1 < recursionLimit) (how : (rest = [v] ∧ kw = []) ∨ (rest = [] ∧ kw = [(("index" : Str), v)]))
    (hq : ∀ h' tk e d, Made_index s.heap h' e C d v → R (.ok (.ret (.ref e))) { s with heap := h', toks := tk }) :
    codeAny (model prog w) A (.call (.ref C) ⟨rest, kw⟩) R s := by
  obtain ⟨nm', N, q, bs, bm, hd, sn, sub, ab, col, dd, k0, k1, k2, k3, k5, hC, hbm⟩ := excInit_of X T.ini
  obtain ⟨hp, g, dr, tk, os⟩ := s
  have k : ∀ b o, hp.get? b = some o → ((hp.push (kdv_tup rest)).push (excO C hp.objs.size)).get? b = some o := fun b o e => Heap.get?_push_of_some _ (Heap.get?_push_of_some _ e)
  have hget : ((hp.push (kdv_tup rest)).push (excO C hp.objs.size)).get? (hp.objs.size + 1) = some (excO C hp.objs.size) := by heap_get
  have chn : Chain bm Bm := ⟨by rw [hbm]; exact T.ch.cB, by rw [hbm]; exact T.ch.cA, by rw [hbm]; exact T.ch.cN⟩
  have hsz : rest.length ≤ sizeLine := by rcases how with ⟨rfl, _⟩ | ⟨rfl, _⟩ <;> (rw [sizeLine_eq]; simp)
  refine callX T.fb chn hC (looks_findIn X T.iC) (fun self => bind_fn X self T.tC) hsz ?_
  refine init_index (s := ⟨(hp.push (kdv_tup rest)).push (excO C hp.objs.size), g, dr, tk, os⟩) (v := v) T (X.keeps k) (hlim.keeps k) hget (show A.depth + 1 < recursionLimit from hroom) ?_ fun h' tk' dx k' hx dn dne hns => ?_
  · rcases how with ⟨rfl, rfl⟩ | ⟨rfl, rfl⟩
    · exact fun _ _ _ _ _ _ _ _ _ _ _ _ => BindsTo.of_eq (by first | rfl | with_unfolding_all rfl)
    · exact fun _ _ _ _ _ _ _ _ _ _ _ _ => BindsTo.of_eq (by first | rfl | with_unfolding_all rfl)
  have old : ∀ b o, hp.get? b = some o → h'.get? b = some o := fun b o e => k' b o (Nat.ne_of_lt (Nat.lt_succ_of_lt (Heap.lt_size e))) (k b o e)
  have z : hp.objs.size + 1 + 1 ≤ dx := by
    have q := dn
    rw [Heap.size_push, Heap.size_push] at q
    exact q
  exact ⟨rfl, hq h' tk' (hp.objs.size + 1) dx ⟨old, Nat.le_succ _, ⟨_, hx⟩, (show hp.objs.size ≤ dx by omega), dne, hns⟩⟩
end
end Exn
namespace Exn
open PySem PySem.Spec PyProof.Rows L2
theorem relO_index {v : V} {v' : Value} (r : RelV v v') (f : Str) : RelO (List.lookup f [(("index" : Str), v)]) (if f = "index" then some v' else none) := by
  by_cases hw : f = "index"
  · subst hw
    rw [if_pos rfl, show List.lookup ("index" : Str) [(("index" : Str), v)] = some v by simp [List.lookup]]
    exact r
  · have qw : (f == ("index" : Str)) = false := by simpa using hw
    rw [if_neg hw, show List.lookup f [(("index" : Str), v)] = none by simp [List.lookup, qw]]
    trivial
section
variable {X : Cx} {nm qual : Str} {B Bm newId initId : String} {bmB bm0 : List Value} {C fI : Addr}
/-- the making of the error that is raised at once -/
def tMk_index (C : Addr) (ta : TA) : L2.St → Hp → XK → Prop := fun σ H Q => ta σ H fun vs H1 => ∃ v, vs = [v] ∧ ∀ d, H1 d = none → Q (.ref C) (some d) (upd H1 d (.xd [(("index" : Str), v)]))
theorem pmk_index {a : Expr} {ta : TA} {p pos : Pos} {k : Nat} (T : Ecl_index X.K X.mg nm qual B Bm newId initId bmB bm0 C fI) (hr : Room k X.A) (ha : PA X [a] ta) (hg : Gl X nm) (hdb : (nm == ("__debug__" : Str)) = false := by decide)
    (he : starEach (a :: []) X.env = (false, eval a X.env) :: starEach [] X.env := by rfl) (hpl : (backTo pos (starEach [] X.env)).any (·.1) = false := by rfl) :
    PMk X (.Call (.Name nm p) [a] [] pos) (tMk_index C ta) := by
  intro pins s σ H Q I h
  refine wpAny_Call_Name_kw (ld_glob I hg T.gC ?_ hdb)
  refine PySem.W.callWith_K (h₀ := X.base) I.ok.mod.kin T.kC (thn (ha.run pos pins s σ H _ I h) ?_) he hpl
  rintro us s1 ⟨vs, H1, I1, r1, v, rfl, q1⟩
  obtain ⟨v', rfl, rv⟩ := vals1 r1
  refine ⟨I1.kIn, ?_⟩
  have hlim := I1.nolimit
  have hdp := hr.dp
  obtain ⟨hp, g, dr, tk, os⟩ := s1
  refine wpAny_call (made_index T I1.kIn hlim (by omega) (.inl ⟨rfl, rfl⟩) fun h' tk' e d M => ?_)
  show MkP X pins σ Q (.ref e) ⟨h', g, dr, tk', os⟩
  obtain ⟨t1, hoe⟩ := M.obj
  have hns := M.ns
  obtain ⟨G', g1, g2⟩ := restrict h' fun b => decide (b ≠ e)
  have gk : ∀ b, b ≠ e → G'.get? b = h'.get? b := fun b hb => g1 b (decide_eq_true hb)
  have ge : G'.get? e = none := g2 e (by simp)
  have old : ∀ b o, hp.get? b = some o → G'.get? b = some o := fun b o q => (gk b (Nat.ne_of_lt (Nat.lt_of_lt_of_le (Heap.lt_size q) M.new))).trans (M.keep b o q)
  have ob : ObjOk X.prog X.w (upd H1 d (.xd [(("index" : Str), v)])) G' d (.xd [(("index" : Str), v)]) := ⟨_, hns.at (fun o q => (gk d M.dne).trans q), fun f => relO_index rv f⟩
  have J : Inv X pins σ (upd H1 d (.xd [(("index" : Str), v)])) ⟨G', g, dr, tk', os⟩ := I1.laid (t' := tk') old M.dbig ob
  refine ⟨e, _, _, ⟨G', g, dr, tk', os⟩, _, .ref C, some d, rfl, J, fun b o q => ?_, ge, hoe, ⟨rfl, rfl⟩, rfl, rfl, ?_, rfl, I1.bare, raises_own T.exC T.tyC, q1 d (I1.hok.fresh M.dbig)⟩
  · by_cases hb : b = e
    · have q' : G'.get? b = some o := q
      rw [hb, ge] at q'
      cases q'
    · exact (gk b hb).symm.trans q
  · rw [upd_ne (Ne.symm M.dne)]
    exact I1.hok.fresh M.new
/-- the error as a value -/
abbrev tMkV_index (C : Addr) (ta : TA) : TE := tMkVg "index" C ta
theorem mkV_index {pins : List (Addr × Obj)} {s : Shared} {σ : L2.St} {H : Hp} {Q : VK} {v : V} {v' : Value} {rest : List Value} {kw : List (Str × Value)} {k : Nat} (T : Ecl_index X.K X.mg nm qual B Bm newId initId bmB bm0 C fI) (hr : Room k X.A) (I : Inv X pins σ H s) (rv : RelV v v')
    (how : (rest = [v'] ∧ kw = []) ∨ (rest = [] ∧ kw = [(("index" : Str), v')])) (q : ∀ d a, H d = none → H a = none → a ≠ d → Q (.ref a) (upd (upd H d (.xd [(("index" : Str), v)])) a (ExV C d a))) :
    wpAny (model X.prog X.w) X.A (call (.ref C) rest kw) (EP X pins σ Q) X.xe s := by
  have hlim := I.nolimit
  have hdp := hr.dp
  obtain ⟨hp, g, dr, tk, os⟩ := s
  refine wpAny_call (made_index T I.kIn hlim (by omega) how fun h' tk' e d M => ?_)
  obtain ⟨t1, hoe⟩ := M.obj
  obtain ⟨G', g1, g2⟩ := restrict h' fun b => decide (b ≠ e)
  have gk : ∀ b, b ≠ e → G'.get? b = h'.get? b := fun b hb => g1 b (decide_eq_true hb)
  have ge : G'.get? e = none := g2 e (by simp)
  have old : ∀ b o, hp.get? b = some o → G'.get? b = some o := fun b o z => (gk b (Nat.ne_of_lt (Nat.lt_of_lt_of_le (Heap.lt_size z) M.new))).trans (M.keep b o z)
  have J : Inv X pins σ (upd H d (.xd [(("index" : Str), v)])) ⟨G', g, dr, tk', os⟩ := I.laid (t' := tk') old M.dbig ⟨_, M.ns.at (fun o z => (gk d M.dne).trans z), fun f => relO_index rv f⟩
  have nHe : H e = none := I.hok.fresh M.new
  have nHe2 : (upd H d (.xd [(("index" : Str), v)])) e = none := by rw [upd_ne (Ne.symm M.dne)]; exact nHe
  have sub : ∀ b u, G'.get? b = some u → h'.get? b = some u := fun b o z => by
    by_cases hb : b = e
    · rw [hb, ge] at z; cases z
    · exact (gk b hb).symm.trans z
  exact ⟨.ref e, _, J.laidN (t' := tk') sub ge nHe2 (exV_ok hoe), rfl, q d e (I.hok.fresh M.dbig) nHe (Ne.symm M.dne)⟩
theorem pe_mkV_index {a : Expr} {ta : TA} {p pos : Pos} {k : Nat} (T : Ecl_index X.K X.mg nm qual B Bm newId initId bmB bm0 C fI) (hr : Room k X.A) (ha : PA X [a] ta) (hg : Gl X nm) (hdb : (nm == ("__debug__" : Str)) = false := by decide)
    (he : starEach (a :: []) X.env = (false, eval a X.env) :: starEach [] X.env := by rfl) (hpl : (backTo pos (starEach [] X.env)).any (·.1) = false := by rfl) : PE X (.Call (.Name nm p) [a] [] pos) (tMkV_index C ta) := by
  refine ⟨fun pins s σ H Q I h => wpAny_Call_Name_kw (ld_glob I hg T.gC ?_ hdb)⟩
  refine PySem.W.callWith_K (h₀ := X.base) I.ok.mod.kin T.kC (thn (ha.run pos pins s σ H _ I h) ?_) he hpl
  rintro us s1 ⟨vs, H1, I1, r1, v, rfl, q1⟩
  obtain ⟨v', rfl, rv⟩ := vals1 r1
  exact ⟨I1.kIn, mkV_index T hr I1 rv (.inl ⟨rfl, rfl⟩) q1⟩
theorem pe_mkK_index {kws : List Keyword} {tk : TA} {p pos : Pos} {k : Nat} (T : Ecl_index X.K X.mg nm qual B Bm newId initId bmB bm0 C fI) (hr : Room k X.A) (hkw : PK X kws tk) (hg : Gl X nm) (hdb : (nm == ("__debug__" : Str)) = false := by decide)
    (hal : (backToKw pos (keywordEach kws X.env)).all (·.1.isSome) = true := by rfl) (hks : (backToKw pos (keywordEach kws X.env)).filterMap (·.1) = [("index" : Str)] := by rfl)
    (hst : ((backTo pos (starEach [] X.env)).any (·.1) || (backToKw pos (keywordEach kws X.env)).any (·.1.isNone)) = false := by rfl) : PE X (.Call (.Name nm p) [] kws pos) (tMkV_index C tk) := by
  refine ⟨fun pins s σ H Q I h => wpAny_Call_Name_kw (ld_glob I hg T.gC ?_ hdb)⟩
  refine PySem.W.callWith_KW0 (h₀ := X.base) I.ok.mod.kin T.kC hal (thn (hkw.run pos pins s σ H _ I h) ?_) hst
  rintro us s1 ⟨vs, H1, I1, r1, v, rfl, q1⟩
  obtain ⟨v', rfl, rv⟩ := vals1 r1
  refine ⟨I1.kIn, ?_⟩
  rw [hks]
  exact mkV_index T hr I1 rv (.inr ⟨rfl, rfl⟩) q1
end
end Exn
/-! the field name -/
namespace Exn
open PySem PySem.W PySem.Calls PyProof.Rows PySem.HandSPX
/-- what the written part says of such a class: its name, its place C, its __init__ at fI -/
structure Ecl_name (K : Frag) (mg : Str → Option Value) (nm qual : Str) (B Bm newId initId : String) (bmB bm0 : List Value) (C fI : Addr) : Prop where
  fb : ExcBaseFacts Bm newId initId bm0
  ch : Chain bmB Bm
  sf : StoreFacts B bmB "object.__setattr__" "object"
  gC : mg nm = some (.ref C)
  ini : excInitIn K C bmB newId = true
  ovr : excOver K C bmB = true
  hdC : hasDictIn K C = true
  sa : findIn K (.ref C) "__setattr__" = some (some (.builtin "object.__setattr__"))
  ga : findIn K (.ref C) "__getattribute__" = some (some (.builtin "BaseException.__getattribute__"))
  gg : findIn K (.ref C) "__getattr__" = some none
  noN : findIn K (.ref C) "name" = some none
  tk : takerIn K C "name" = some none
  iC : findIn K (.ref C) "__init__" = some (some (.ref fI))
  tC : typeIn K (.ref fI) = some (.type "function")
  kC : keepIn K (.ref C) = true
  exC : subIn K (.ref C) (.type "BaseException") = some true
  tyC : typeIn K (.ref C) = some (.type "type")
  fn : ∃ (oc : Value) (od : Option Addr) (doc pm : Value) (an : Option Addr) (cdv ct : Value) (osl : Array (Option Value)) (p1 p2 q1 q2 q3 q4 : Pos),
    K.lookup fI = some ⟨oc, od, .func (fnOf "__init__" qual (iA "name" p1 p2) (iB "name" q1 q2 q3 q4) (iS "name" []) .none .none doc pm an cdv ct), osl⟩ ∧ codeIn K cdv qual = true
theorem ecl_name {K : Frag} {mg : Str → Option Value} {nm qual : Str} {B Bm newId initId : String} {bmB bm0 : List Value} {C fI : Addr} (fb : ExcBaseFacts Bm newId initId bm0) (ch : Chain bmB Bm) (sf : StoreFacts B bmB "object.__setattr__" "object") (gC : mg nm = some (.ref C))
    (h : ecB K C fI "name" bmB newId = true) (iC : findIn K (.ref C) "__init__" = some (some (.ref fI))) {oc : Value} {od : Option Addr} {doc pm : Value} {an : Option Addr} {cdv ct : Value} {osl : Array (Option Value)} {p1 p2 q1 q2 q3 q4 : Pos}
    (l : K.lookup fI = some ⟨oc, od, .func (fnOf "__init__" qual (iA "name" p1 p2) (iB "name" q1 q2 q3 q4) (iS "name" []) .none .none doc pm an cdv ct), osl⟩) (c : codeIn K cdv qual = true) : Ecl_name K mg nm qual B Bm newId initId bmB bm0 C fI := by
  unfold ecB at h
  simp only [Bool.and_eq_true, decide_eq_true_eq] at h
  obtain ⟨h1, h2, h3, h4, h5, h6, h7, h8, h9, h10, h11, h12, _⟩ := h
  exact ⟨fb, ch, sf, gC, h1, h2, h3, h4, h5, h6, h7, h8, iC, h9, h10, h11, h12, ⟨oc, od, doc, pm, an, cdv, ct, osl, p1, p2, q1, q2, q3, q4, l, c⟩⟩
/-- an error just made: at e, its dict at d, the field in it -/
structure Made_name (h h' : Heap) (e C d : Addr) (v : Value) : Prop where
  keep : ∀ b o, h.get? b = some o → h'.get? b = some o
  new : h.objs.size ≤ e
  obj : ∃ t1 : Addr, h'.get? e = some { cls := .ref C, dict := some d, data := .fields #[.ref t1, .none, .none, .none, .bool false, .none] }
  dbig : h.objs.size ≤ d
  dne : d ≠ e
  ns : h'.Ns1 d (fun y => if y = "name" then some v else none)
section
variable {prog : Program} {w : World} {A : Around} {E : Value → Shared → Prop} {R : Result → Shared → Prop} {s : Shared} {K : Frag} {mg : Str → Option Value} {nm qual : Str} {B Bm newId initId : String} {bmB bm0 : List Value} {C fI : Addr}
theorem init_name (T : Ecl_name K mg nm qual B Bm newId initId bmB bm0 C fI) {x t0 : Addr} {v : Value} {ar : Args} (X : K.In s.heap) (hlim : s.heap.NoLimit) (hx : s.heap.get? x = some (excO C t0)) (hroom : A.depth < recursionLimit)
    (hbind : ∀ doc pm an cdv ct p1 p2 q1 q2 q3 q4 s', BindsTo s' (fnOf "__init__" qual (iA "name" p1 p2) (iB "name" q1 q2 q3 q4) (iS "name" []) .none .none doc pm an cdv ct) ar [("self", .ref x), ("name", v)])
    (hq : ∀ h' tk dx, (∀ b o, b ≠ x → s.heap.get? b = some o → h'.get? b = some o) → h'.get? x = some { cls := .ref C, dict := some dx, data := .fields #[.ref t0, .none, .none, .none, .bool false, .none] } → s.heap.objs.size ≤ dx → dx ≠ x →
      h'.Ns1 dx (fun y => if y = "name" then some v else none) → R (.ok (.ret .none)) { s with heap := h', toks := tk }) :
    codeAny (model prog w) A (.call (.ref fI) ar) R s := by
  obtain ⟨oc, od, doc, pm, an, cdv, ct, osl, p1, p2, q1, q2, q3, q4, ho, hcd⟩ := T.fn
  obtain ⟨cd, hcl, hhd⟩ := any_some T.hdC
  refine Att.call_fn (binds := [("self", .ref x), ("name", v)]) X hlim ho hcd hroom (hbind _ _ _ _ _ _ _ _ _ _ _ _) (by first | rfl | decide | with_unfolding_all rfl) (fun s₁ IC => ?_) rfl rfl rfl
  obtain ⟨h₁, tk₁, rfl⟩ := IC.toInCall.same
  have k := IC.toInCall.keep
  have hn := IC.toInCall.ns
  have X₁ : K.In h₁ := X.keeps k
  show wpAny _ _ (execs _ _) _ _ _
  refine wpAny_execs_cons (plainObj_wpAny_Assign_Attribute ?_)
  refine wpAny_Name (wpAny_loadName_local rfl rfl hn (v := v) (by first | rfl | with_unfolding_all rfl | kernel_rfl) ?_) (by decide)
  refine wpAny_Name (wpAny_loadName_local rfl rfl hn (v := .ref x) (by first | rfl | with_unfolding_all rfl | kernel_rfl) ?_) (by decide)
  refine set_plain X₁ (ox := excO C t0) (od := none) ⟨k _ _ hx, rfl, rfl, trivial⟩ T.sa (osaB T.sf X₁ (k _ _ hx) T.ovr T.tk hcl hhd fun h₃ tk₃ dx k₃ dn dne hx₃ hn₃ => ?_)
  show wpAny _ _ (execs _ _) _ _ _
  exact wpAny_execs_nil (hq h₃ tk₃ dx (fun b o hb e => k₃ b o hb (k b o e)) hx₃ (Nat.le_of_lt (Nat.lt_of_lt_of_le hn.lt dn)) dne hn₃)
theorem made_name (T : Ecl_name K mg nm qual B Bm newId initId bmB bm0 C fI) {v : Value} {rest : List Value} {kw : List (Str × Value)} (X : K.In s.heap) (hlim : s.heap.NoLimit) (hroom : A.depth + 1 < recursionLimit) (how : (rest = [v] ∧ kw = []) ∨ (rest = [] ∧ kw = [(("name" : Str), v)]))
    (hq : ∀ h' tk e d, Made_name s.heap h' e C d v → R (.ok (.ret (.ref e))) { s with heap := h', toks := tk }) :
    codeAny (model prog w) A (.call (.ref C) ⟨rest, kw⟩) R s := by
  obtain ⟨nm', N, q, bs, bm, hd, sn, sub, ab, col, dd, k0, k1, k2, k3, k5, hC, hbm⟩ := excInit_of X T.ini
  obtain ⟨hp, g, dr, tk, os⟩ := s
  have k : ∀ b o, hp.get? b = some o → ((hp.push (kdv_tup rest)).push (excO C hp.objs.size)).get? b = some o := fun b o e => Heap.get?_push_of_some _ (Heap.get?_push_of_some _ e)
  have hget : ((hp.push (kdv_tup rest)).push (excO C hp.objs.size)).get? (hp.objs.size + 1) = some (excO C hp.objs.size) := by heap_get
  have chn : Chain bm Bm := ⟨by rw [hbm]; exact T.ch.cB, by rw [hbm]; exact T.ch.cA, by rw [hbm]; exact T.ch.cN⟩
  have hsz : rest.length ≤ sizeLine := by rcases how with ⟨rfl, _⟩ | ⟨rfl, _⟩ <;> (rw [sizeLine_eq]; simp)
  refine callX T.fb chn hC (looks_findIn X T.iC) (fun self => bind_fn X self T.tC) hsz ?_
  refine init_name (s := ⟨(hp.push (kdv_tup rest)).push (excO C hp.objs.size), g, dr, tk, os⟩) (v := v) T (X.keeps k) (hlim.keeps k) hget (show A.depth + 1 < recursionLimit from hroom) ?_ fun h' tk' dx k' hx dn dne hns => ?_
  · rcases how with ⟨rfl, rfl⟩ | ⟨rfl, rfl⟩
    · exact fun _ _ _ _ _ _ _ _ _ _ _ _ => BindsTo.of_eq (by first | rfl | with_unfolding_all rfl)
    · exact fun _ _ _ _ _ _ _ _ _ _ _ _ => BindsTo.of_eq (by first | rfl | with_unfolding_all rfl)
  have old : ∀ b o, hp.get? b = some o → h'.get? b = some o := fun b o e => k' b o (Nat.ne_of_lt (Nat.lt_succ_of_lt (Heap.lt_size e))) (k b o e)
  have z : hp.objs.size + 1 + 1 ≤ dx := by
    have q := dn
    rw [Heap.size_push, Heap.size_push] at q
    exact q
  exact ⟨rfl, hq h' tk' (hp.objs.size + 1) dx ⟨old, Nat.le_succ _, ⟨_, hx⟩, (show hp.objs.size ≤ dx by omega), dne, hns⟩⟩
end
end Exn
namespace Exn
open PySem PySem.Spec PyProof.Rows L2
theorem relO_name {v : V} {v' : Value} (r : RelV v v') (f : Str) : RelO (List.lookup f [(("name" : Str), v)]) (if f = "name" then some v' else none) := by
  by_cases hw : f = "name"
  · subst hw
    rw [if_pos rfl, show List.lookup ("name" : Str) [(("name" : Str), v)] = some v by simp [List.lookup]]
    exact r
  · have qw : (f == ("name" : Str)) = false := by simpa using hw
    rw [if_neg hw, show List.lookup f [(("name" : Str), v)] = none by simp [List.lookup, qw]]
    trivial
section
variable {X : Cx} {nm qual : Str} {B Bm newId initId : String} {bmB bm0 : List Value} {C fI : Addr}
/-- the making of the error that is raised at once -/
def tMk_name (C : Addr) (ta : TA) : L2.St → Hp → XK → Prop := fun σ H Q => ta σ H fun vs H1 => ∃ v, vs = [v] ∧ ∀ d, H1 d = none → Q (.ref C) (some d) (upd H1 d (.xd [(("name" : Str), v)]))
theorem pmk_name {a : Expr} {ta : TA} {p pos : Pos} {k : Nat} (T : Ecl_name X.K X.mg nm qual B Bm newId initId bmB bm0 C fI) (hr : Room k X.A) (ha : PA X [a] ta) (hg : Gl X nm) (hdb : (nm == ("__debug__" : Str)) = false := by decide)
    (he : starEach (a :: []) X.env = (false, eval a X.env) :: starEach [] X.env := by rfl) (hpl : (backTo pos (starEach [] X.env)).any (·.1) = false := by rfl) :
    PMk X (.Call (.Name nm p) [a] [] pos) (tMk_name C ta) := by
  intro pins s σ H Q I h
  refine wpAny_Call_Name_kw (ld_glob I hg T.gC ?_ hdb)
  refine PySem.W.callWith_K (h₀ := X.base) I.ok.mod.kin T.kC (thn (ha.run pos pins s σ H _ I h) ?_) he hpl
  rintro us s1 ⟨vs, H1, I1, r1, v, rfl, q1⟩
  obtain ⟨v', rfl, rv⟩ := vals1 r1
  refine ⟨I1.kIn, ?_⟩
  have hlim := I1.nolimit
  have hdp := hr.dp
  obtain ⟨hp, g, dr, tk, os⟩ := s1
  refine wpAny_call (made_name T I1.kIn hlim (by omega) (.inl ⟨rfl, rfl⟩) fun h' tk' e d M => ?_)
  show MkP X pins σ Q (.ref e) ⟨h', g, dr, tk', os⟩
  obtain ⟨t1, hoe⟩ := M.obj
  have hns := M.ns
  obtain ⟨G', g1, g2⟩ := restrict h' fun b => decide (b ≠ e)
  have gk : ∀ b, b ≠ e → G'.get? b = h'.get? b := fun b hb => g1 b (decide_eq_true hb)
  have ge : G'.get? e = none := g2 e (by simp)
  have old : ∀ b o, hp.get? b = some o → G'.get? b = some o := fun b o q => (gk b (Nat.ne_of_lt (Nat.lt_of_lt_of_le (Heap.lt_size q) M.new))).trans (M.keep b o q)
  have ob : ObjOk X.prog X.w (upd H1 d (.xd [(("name" : Str), v)])) G' d (.xd [(("name" : Str), v)]) := ⟨_, hns.at (fun o q => (gk d M.dne).trans q), fun f => relO_name rv f⟩
  have J : Inv X pins σ (upd H1 d (.xd [(("name" : Str), v)])) ⟨G', g, dr, tk', os⟩ := I1.laid (t' := tk') old M.dbig ob
  refine ⟨e, _, _, ⟨G', g, dr, tk', os⟩, _, .ref C, some d, rfl, J, fun b o q => ?_, ge, hoe, ⟨rfl, rfl⟩, rfl, rfl, ?_, rfl, I1.bare, raises_own T.exC T.tyC, q1 d (I1.hok.fresh M.dbig)⟩
  · by_cases hb : b = e
    · have q' : G'.get? b = some o := q
      rw [hb, ge] at q'
      cases q'
    · exact (gk b hb).symm.trans q
  · rw [upd_ne (Ne.symm M.dne)]
    exact I1.hok.fresh M.new
/-- the error as a value -/
abbrev tMkV_name (C : Addr) (ta : TA) : TE := tMkVg "name" C ta
theorem mkV_name {pins : List (Addr × Obj)} {s : Shared} {σ : L2.St} {H : Hp} {Q : VK} {v : V} {v' : Value} {rest : List Value} {kw : List (Str × Value)} {k : Nat} (T : Ecl_name X.K X.mg nm qual B Bm newId initId bmB bm0 C fI) (hr : Room k X.A) (I : Inv X pins σ H s) (rv : RelV v v')
    (how : (rest = [v'] ∧ kw = []) ∨ (rest = [] ∧ kw = [(("name" : Str), v')])) (q : ∀ d a, H d = none → H a = none → a ≠ d → Q (.ref a) (upd (upd H d (.xd [(("name" : Str), v)])) a (ExV C d a))) :
    wpAny (model X.prog X.w) X.A (call (.ref C) rest kw) (EP X pins σ Q) X.xe s := by
  have hlim := I.nolimit
  have hdp := hr.dp
  obtain ⟨hp, g, dr, tk, os⟩ := s
  refine wpAny_call (made_name T I.kIn hlim (by omega) how fun h' tk' e d M => ?_)
  obtain ⟨t1, hoe⟩ := M.obj
  obtain ⟨G', g1, g2⟩ := restrict h' fun b => decide (b ≠ e)
  have gk : ∀ b, b ≠ e → G'.get? b = h'.get? b := fun b hb => g1 b (decide_eq_true hb)
  have ge : G'.get? e = none := g2 e (by simp)
  have old : ∀ b o, hp.get? b = some o → G'.get? b = some o := fun b o z => (gk b (Nat.ne_of_lt (Nat.lt_of_lt_of_le (Heap.lt_size z) M.new))).trans (M.keep b o z)
  have J : Inv X pins σ (upd H d (.xd [(("name" : Str), v)])) ⟨G', g, dr, tk', os⟩ := I.laid (t' := tk') old M.dbig ⟨_, M.ns.at (fun o z => (gk d M.dne).trans z), fun f => relO_name rv f⟩
  have nHe : H e = none := I.hok.fresh M.new
  have nHe2 : (upd H d (.xd [(("name" : Str), v)])) e = none := by rw [upd_ne (Ne.symm M.dne)]; exact nHe
  have sub : ∀ b u, G'.get? b = some u → h'.get? b = some u := fun b o z => by
    by_cases hb : b = e
    · rw [hb, ge] at z; cases z
    · exact (gk b hb).symm.trans z
  exact ⟨.ref e, _, J.laidN (t' := tk') sub ge nHe2 (exV_ok hoe), rfl, q d e (I.hok.fresh M.dbig) nHe (Ne.symm M.dne)⟩
theorem pe_mkV_name {a : Expr} {ta : TA} {p pos : Pos} {k : Nat} (T : Ecl_name X.K X.mg nm qual B Bm newId initId bmB bm0 C fI) (hr : Room k X.A) (ha : PA X [a] ta) (hg : Gl X nm) (hdb : (nm == ("__debug__" : Str)) = false := by decide)
    (he : starEach (a :: []) X.env = (false, eval a X.env) :: starEach [] X.env := by rfl) (hpl : (backTo pos (starEach [] X.env)).any (·.1) = false := by rfl) : PE X (.Call (.Name nm p) [a] [] pos) (tMkV_name C ta) := by
  refine ⟨fun pins s σ H Q I h => wpAny_Call_Name_kw (ld_glob I hg T.gC ?_ hdb)⟩
  refine PySem.W.callWith_K (h₀ := X.base) I.ok.mod.kin T.kC (thn (ha.run pos pins s σ H _ I h) ?_) he hpl
  rintro us s1 ⟨vs, H1, I1, r1, v, rfl, q1⟩
  obtain ⟨v', rfl, rv⟩ := vals1 r1
  exact ⟨I1.kIn, mkV_name T hr I1 rv (.inl ⟨rfl, rfl⟩) q1⟩
theorem pe_mkK_name {kws : List Keyword} {tk : TA} {p pos : Pos} {k : Nat} (T : Ecl_name X.K X.mg nm qual B Bm newId initId bmB bm0 C fI) (hr : Room k X.A) (hkw : PK X kws tk) (hg : Gl X nm) (hdb : (nm == ("__debug__" : Str)) = false := by decide)
    (hal : (backToKw pos (keywordEach kws X.env)).all (·.1.isSome) = true := by rfl) (hks : (backToKw pos (keywordEach kws X.env)).filterMap (·.1) = [("name" : Str)] := by rfl)
    (hst : ((backTo pos (starEach [] X.env)).any (·.1) || (backToKw pos (keywordEach kws X.env)).any (·.1.isNone)) = false := by rfl) : PE X (.Call (.Name nm p) [] kws pos) (tMkV_name C tk) := by
  refine ⟨fun pins s σ H Q I h => wpAny_Call_Name_kw (ld_glob I hg T.gC ?_ hdb)⟩
  refine PySem.W.callWith_KW0 (h₀ := X.base) I.ok.mod.kin T.kC hal (thn (hkw.run pos pins s σ H _ I h) ?_) hst
  rintro us s1 ⟨vs, H1, I1, r1, v, rfl, q1⟩
  obtain ⟨v', rfl, rv⟩ := vals1 r1
  refine ⟨I1.kIn, ?_⟩
  rw [hks]
  exact mkV_name T hr I1 rv (.inr ⟨rfl, rfl⟩) q1
end
end Exn
/-! the field item -/
namespace Exn
open PySem PySem.W PySem.Calls PyProof.Rows PySem.HandSPX
/-- what the written part says of such a class: its name, its place C, its __init__ at fI -/
structure Ecl_item (K : Frag) (mg : Str → Option Value) (nm qual : Str) (B Bm newId initId : String) (bmB bm0 : List Value) (C fI : Addr) : Prop where
  fb : ExcBaseFacts Bm newId initId bm0
  ch : Chain bmB Bm
  sf : StoreFacts B bmB "object.__setattr__" "object"
  gC : mg nm = some (.ref C)
  ini : excInitIn K C bmB newId = true
  ovr : excOver K C bmB = true
  hdC : hasDictIn K C = true
  sa : findIn K (.ref C) "__setattr__" = some (some (.builtin "object.__setattr__"))
  ga : findIn K (.ref C) "__getattribute__" = some (some (.builtin "BaseException.__getattribute__"))
  gg : findIn K (.ref C) "__getattr__" = some none
  noN : findIn K (.ref C) "item" = some none
  tk : takerIn K C "item" = some none
  iC : findIn K (.ref C) "__init__" = some (some (.ref fI))
  tC : typeIn K (.ref fI) = some (.type "function")
  kC : keepIn K (.ref C) = true
  exC : subIn K (.ref C) (.type "BaseException") = some true
  tyC : typeIn K (.ref C) = some (.type "type")
  fn : ∃ (oc : Value) (od : Option Addr) (doc pm : Value) (an : Option Addr) (cdv ct : Value) (osl : Array (Option Value)) (p1 p2 q1 q2 q3 q4 : Pos),
    K.lookup fI = some ⟨oc, od, .func (fnOf "__init__" qual (iA "item" p1 p2) (iB "item" q1 q2 q3 q4) (iS "item" []) .none .none doc pm an cdv ct), osl⟩ ∧ codeIn K cdv qual = true
theorem ecl_item {K : Frag} {mg : Str → Option Value} {nm qual : Str} {B Bm newId initId : String} {bmB bm0 : List Value} {C fI : Addr} (fb : ExcBaseFacts Bm newId initId bm0) (ch : Chain bmB Bm) (sf : StoreFacts B bmB "object.__setattr__" "object") (gC : mg nm = some (.ref C))
    (h : ecB K C fI "item" bmB newId = true) (iC : findIn K (.ref C) "__init__" = some (some (.ref fI))) {oc : Value} {od : Option Addr} {doc pm : Value} {an : Option Addr} {cdv ct : Value} {osl : Array (Option Value)} {p1 p2 q1 q2 q3 q4 : Pos}
    (l : K.lookup fI = some ⟨oc, od, .func (fnOf "__init__" qual (iA "item" p1 p2) (iB "item" q1 q2 q3 q4) (iS "item" []) .none .none doc pm an cdv ct), osl⟩) (c : codeIn K cdv qual = true) : Ecl_item K mg nm qual B Bm newId initId bmB bm0 C fI := by
  unfold ecB at h
  simp only [Bool.and_eq_true, decide_eq_true_eq] at h
  obtain ⟨h1, h2, h3, h4, h5, h6, h7, h8, h9, h10, h11, h12, _⟩ := h
  exact ⟨fb, ch, sf, gC, h1, h2, h3, h4, h5, h6, h7, h8, iC, h9, h10, h11, h12, ⟨oc, od, doc, pm, an, cdv, ct, osl, p1, p2, q1, q2, q3, q4, l, c⟩⟩
/-- an error just made: at e, its dict at d, the field in it -/
structure Made_item (h h' : Heap) (e C d : Addr) (v : Value) : Prop where
  keep : ∀ b o, h.get? b = some o → h'.get? b = some o
  new : h.objs.size ≤ e
  obj : ∃ t1 : Addr, h'.get? e = some { cls := .ref C, dict := some d, data := .fields #[.ref t1, .none, .none, .none, .bool false, .none] }
  dbig : h.objs.size ≤ d
  dne : d ≠ e
  ns : h'.Ns1 d (fun y => if y = "item" then some v else none)
section
variable {prog : Program} {w : World} {A : Around} {E : Value → Shared → Prop} {R : Result → Shared → Prop} {s : Shared} {K : Frag} {mg : Str → Option Value} {nm qual : Str} {B Bm newId initId : String} {bmB bm0 : List Value} {C fI : Addr}
theorem init_item (T : Ecl_item K mg nm qual B Bm newId initId bmB bm0 C fI) {x t0 : Addr} {v : Value} {ar : Args} (X : K.In s.heap) (hlim : s.heap.NoLimit) (hx : s.heap.get? x = some (excO C t0)) (hroom : A.depth < recursionLimit)
    (hbind : ∀ doc pm an cdv ct p1 p2 q1 q2 q3 q4 s', BindsTo s' (fnOf "__init__" qual (iA "item" p1 p2) (iB "item" q1 q2 q3 q4) (iS "item" []) .none .none doc pm an cdv ct) ar [("self", .ref x), ("item", v)])
    (hq : ∀ h' tk dx, (∀ b o, b ≠ x → s.heap.get? b = some o → h'.get? b = some o) → h'.get? x = some { cls := .ref C, dict := some dx, data := .fields #[.ref t0, .none, .none, .none, .bool false, .none] } → s.heap.objs.size ≤ dx → dx ≠ x →
      h'.Ns1 dx (fun y => if y = "item" then some v else none) → R (.ok (.ret .none)) { s with heap := h', toks := tk }) :
    codeAny (model prog w) A (.call (.ref fI) ar) R s := by
  obtain ⟨oc, od, doc, pm, an, cdv, ct, osl, p1, p2, q1, q2, q3, q4, ho, hcd⟩ := T.fn
  obtain ⟨cd, hcl, hhd⟩ := any_some T.hdC
  refine Att.call_fn (binds := [("self", .ref x), ("item", v)]) X hlim ho hcd hroom (hbind _ _ _ _ _ _ _ _ _ _ _ _) (by first | rfl | decide | with_unfolding_all rfl) (fun s₁ IC => ?_) rfl rfl rfl
  obtain ⟨h₁, tk₁, rfl⟩ := IC.toInCall.same
  have k := IC.toInCall.keep
  have hn := IC.toInCall.ns
  have X₁ : K.In h₁ := X.keeps k
  show wpAny _ _ (execs _ _) _ _ _
  refine wpAny_execs_cons (plainObj_wpAny_Assign_Attribute ?_)
  refine wpAny_Name (wpAny_loadName_local rfl rfl hn (v := v) (by first | rfl | with_unfolding_all rfl | kernel_rfl) ?_) (by decide)
  refine wpAny_Name (wpAny_loadName_local rfl rfl hn (v := .ref x) (by first | rfl | with_unfolding_all rfl | kernel_rfl) ?_) (by decide)
  refine set_plain X₁ (ox := excO C t0) (od := none) ⟨k _ _ hx, rfl, rfl, trivial⟩ T.sa (osaB T.sf X₁ (k _ _ hx) T.ovr T.tk hcl hhd fun h₃ tk₃ dx k₃ dn dne hx₃ hn₃ => ?_)
  show wpAny _ _ (execs _ _) _ _ _
  exact wpAny_execs_nil (hq h₃ tk₃ dx (fun b o hb e => k₃ b o hb (k b o e)) hx₃ (Nat.le_of_lt (Nat.lt_of_lt_of_le hn.lt dn)) dne hn₃)
theorem made_item (T : Ecl_item K mg nm qual B Bm newId initId bmB bm0 C fI) {v : Value} {rest : List Value} {kw : List (Str × Value)} (X : K.In s.heap) (hlim : s.heap.NoLimit) (hroom : A.depth + 1 < recursionLimit) (how : (rest = [v] ∧ kw = []) ∨ (rest = [] ∧ kw = [(("item" : Str), v)]))
    (hq : ∀ h' tk e d, Made_item s.heap h' e C d v → R (.ok (.ret (.ref e))) { s with heap := h', toks := tk }) :
    codeAny (model prog w) A (.call (.ref C) ⟨rest, kw⟩) R s := by
  obtain ⟨nm', N, q, bs, bm, hd, sn, sub, ab, col, dd, k0, k1, k2, k3, k5, hC, hbm⟩ := excInit_of X T.ini
  obtain ⟨hp, g, dr, tk, os⟩ := s
  have k : ∀ b o, hp.get? b = some o → ((hp.push (kdv_tup rest)).push (excO C hp.objs.size)).get? b = some o := fun b o e => Heap.get?_push_of_some _ (Heap.get?_push_of_some _ e)
  have hget : ((hp.push (kdv_tup rest)).push (excO C hp.objs.size)).get? (hp.objs.size + 1) = some (excO C hp.objs.size) := by heap_get
  have chn : Chain bm Bm := ⟨by rw [hbm]; exact T.ch.cB, by rw [hbm]; exact T.ch.cA, by rw [hbm]; exact T.ch.cN⟩
  have hsz : rest.length ≤ sizeLine := by rcases how with ⟨rfl, _⟩ | ⟨rfl, _⟩ <;> (rw [sizeLine_eq]; simp)
  refine callX T.fb chn hC (looks_findIn X T.iC) (fun self => bind_fn X self T.tC) hsz ?_
  refine init_item (s := ⟨(hp.push (kdv_tup rest)).push (excO C hp.objs.size), g, dr, tk, os⟩) (v := v) T (X.keeps k) (hlim.keeps k) hget (show A.depth + 1 < recursionLimit from hroom) ?_ fun h' tk' dx k' hx dn dne hns => ?_
  · rcases how with ⟨rfl, rfl⟩ | ⟨rfl, rfl⟩
    · exact fun _ _ _ _ _ _ _ _ _ _ _ _ => BindsTo.of_eq (by first | rfl | with_unfolding_all rfl)
    · exact fun _ _ _ _ _ _ _ _ _ _ _ _ => BindsTo.of_eq (by first | rfl | with_unfolding_all rfl)
  have old : ∀ b o, hp.get? b = some o → h'.get? b = some o := fun b o e => k' b o (Nat.ne_of_lt (Nat.lt_succ_of_lt (Heap.lt_size e))) (k b o e)
  have z : hp.objs.size + 1 + 1 ≤ dx := by
    have q := dn
    rw [Heap.size_push, Heap.size_push] at q
    exact q
  exact ⟨rfl, hq h' tk' (hp.objs.size + 1) dx ⟨old, Nat.le_succ _, ⟨_, hx⟩, (show hp.objs.size ≤ dx by omega), dne, hns⟩⟩
end
end Exn
namespace Exn
open PySem PySem.Spec PyProof.Rows L2
theorem relO_item {v : V} {v' : Value} (r : RelV v v') (f : Str) : RelO (List.lookup f [(("item" : Str), v)]) (if f = "item" then some v' else none) := by
  by_cases hw : f = "item"
  · subst hw
    rw [if_pos rfl, show List.lookup ("item" : Str) [(("item" : Str), v)] = some v by simp [List.lookup]]
    exact r
  · have qw : (f == ("item" : Str)) = false := by simpa using hw
    rw [if_neg hw, show List.lookup f [(("item" : Str), v)] = none by simp [List.lookup, qw]]
    trivial
section
variable {X : Cx} {nm qual : Str} {B Bm newId initId : String} {bmB bm0 : List Value} {C fI : Addr}
/-- the making of the error that is raised at once -/
def tMk_item (C : Addr) (ta : TA) : L2.St → Hp → XK → Prop := fun σ H Q => ta σ H fun vs H1 => ∃ v, vs = [v] ∧ ∀ d, H1 d = none → Q (.ref C) (some d) (upd H1 d (.xd [(("item" : Str), v)]))
theorem pmk_item {a : Expr} {ta : TA} {p pos : Pos} {k : Nat} (T : Ecl_item X.K X.mg nm qual B Bm newId initId bmB bm0 C fI) (hr : Room k X.A) (ha : PA X [a] ta) (hg : Gl X nm) (hdb : (nm == ("__debug__" : Str)) = false := by decide)
    (he : starEach (a :: []) X.env = (false, eval a X.env) :: starEach [] X.env := by rfl) (hpl : (backTo pos (starEach [] X.env)).any (·.1) = false := by rfl) :
    PMk X (.Call (.Name nm p) [a] [] pos) (tMk_item C ta) := by
  intro pins s σ H Q I h
  refine wpAny_Call_Name_kw (ld_glob I hg T.gC ?_ hdb)
  refine PySem.W.callWith_K (h₀ := X.base) I.ok.mod.kin T.kC (thn (ha.run pos pins s σ H _ I h) ?_) he hpl
  rintro us s1 ⟨vs, H1, I1, r1, v, rfl, q1⟩
  obtain ⟨v', rfl, rv⟩ := vals1 r1
  refine ⟨I1.kIn, ?_⟩
  have hlim := I1.nolimit
  have hdp := hr.dp
  obtain ⟨hp, g, dr, tk, os⟩ := s1
  refine wpAny_call (made_item T I1.kIn hlim (by omega) (.inl ⟨rfl, rfl⟩) fun h' tk' e d M => ?_)
  show MkP X pins σ Q (.ref e) ⟨h', g, dr, tk', os⟩
  obtain ⟨t1, hoe⟩ := M.obj
  have hns := M.ns
  obtain ⟨G', g1, g2⟩ := restrict h' fun b => decide (b ≠ e)
  have gk : ∀ b, b ≠ e → G'.get? b = h'.get? b := fun b hb => g1 b (decide_eq_true hb)
  have ge : G'.get? e = none := g2 e (by simp)
  have old : ∀ b o, hp.get? b = some o → G'.get? b = some o := fun b o q => (gk b (Nat.ne_of_lt (Nat.lt_of_lt_of_le (Heap.lt_size q) M.new))).trans (M.keep b o q)
  have ob : ObjOk X.prog X.w (upd H1 d (.xd [(("item" : Str), v)])) G' d (.xd [(("item" : Str), v)]) := ⟨_, hns.at (fun o q => (gk d M.dne).trans q), fun f => relO_item rv f⟩
  have J : Inv X pins σ (upd H1 d (.xd [(("item" : Str), v)])) ⟨G', g, dr, tk', os⟩ := I1.laid (t' := tk') old M.dbig ob
  refine ⟨e, _, _, ⟨G', g, dr, tk', os⟩, _, .ref C, some d, rfl, J, fun b o q => ?_, ge, hoe, ⟨rfl, rfl⟩, rfl, rfl, ?_, rfl, I1.bare, raises_own T.exC T.tyC, q1 d (I1.hok.fresh M.dbig)⟩
  · by_cases hb : b = e
    · have q' : G'.get? b = some o := q
      rw [hb, ge] at q'
      cases q'
    · exact (gk b hb).symm.trans q
  · rw [upd_ne (Ne.symm M.dne)]
    exact I1.hok.fresh M.new
/-- the error as a value -/
abbrev tMkV_item (C : Addr) (ta : TA) : TE := tMkVg "item" C ta
theorem mkV_item {pins : List (Addr × Obj)} {s : Shared} {σ : L2.St} {H : Hp} {Q : VK} {v : V} {v' : Value} {rest : List Value} {kw : List (Str × Value)} {k : Nat} (T : Ecl_item X.K X.mg nm qual B Bm newId initId bmB bm0 C fI) (hr : Room k X.A) (I : Inv X pins σ H s) (rv : RelV v v')
    (how : (rest = [v'] ∧ kw = []) ∨ (rest = [] ∧ kw = [(("item" : Str), v')])) (q : ∀ d a, H d = none → H a = none → a ≠ d → Q (.ref a) (upd (upd H d (.xd [(("item" : Str), v)])) a (ExV C d a))) :
    wpAny (model X.prog X.w) X.A (call (.ref C) rest kw) (EP X pins σ Q) X.xe s := by
  have hlim := I.nolimit
  have hdp := hr.dp
  obtain ⟨hp, g, dr, tk, os⟩ := s
  refine wpAny_call (made_item T I.kIn hlim (by omega) how fun h' tk' e d M => ?_)
  obtain ⟨t1, hoe⟩ := M.obj
  obtain ⟨G', g1, g2⟩ := restrict h' fun b => decide (b ≠ e)
  have gk : ∀ b, b ≠ e → G'.get? b = h'.get? b := fun b hb => g1 b (decide_eq_true hb)
  have ge : G'.get? e = none := g2 e (by simp)
  have old : ∀ b o, hp.get? b = some o → G'.get? b = some o := fun b o z => (gk b (Nat.ne_of_lt (Nat.lt_of_lt_of_le (Heap.lt_size z) M.new))).trans (M.keep b o z)
  have J : Inv X pins σ (upd H d (.xd [(("item" : Str), v)])) ⟨G', g, dr, tk', os⟩ := I.laid (t' := tk') old M.dbig ⟨_, M.ns.at (fun o z => (gk d M.dne).trans z), fun f => relO_item rv f⟩
  have nHe : H e = none := I.hok.fresh M.new
  have nHe2 : (upd H d (.xd [(("item" : Str), v)])) e = none := by rw [upd_ne (Ne.symm M.dne)]; exact nHe
  have sub : ∀ b u, G'.get? b = some u → h'.get? b = some u := fun b o z => by
    by_cases hb : b = e
    · rw [hb, ge] at z; cases z
    · exact (gk b hb).symm.trans z
  exact ⟨.ref e, _, J.laidN (t' := tk') sub ge nHe2 (exV_ok hoe), rfl, q d e (I.hok.fresh M.dbig) nHe (Ne.symm M.dne)⟩
theorem pe_mkV_item {a : Expr} {ta : TA} {p pos : Pos} {k : Nat} (T : Ecl_item X.K X.mg nm qual B Bm newId initId bmB bm0 C fI) (hr : Room k X.A) (ha : PA X [a] ta) (hg : Gl X nm) (hdb : (nm == ("__debug__" : Str)) = false := by decide)
    (he : starEach (a :: []) X.env = (false, eval a X.env) :: starEach [] X.env := by rfl) (hpl : (backTo pos (starEach [] X.env)).any (·.1) = false := by rfl) : PE X (.Call (.Name nm p) [a] [] pos) (tMkV_item C ta) := by
  refine ⟨fun pins s σ H Q I h => wpAny_Call_Name_kw (ld_glob I hg T.gC ?_ hdb)⟩
  refine PySem.W.callWith_K (h₀ := X.base) I.ok.mod.kin T.kC (thn (ha.run pos pins s σ H _ I h) ?_) he hpl
  rintro us s1 ⟨vs, H1, I1, r1, v, rfl, q1⟩
  obtain ⟨v', rfl, rv⟩ := vals1 r1
  exact ⟨I1.kIn, mkV_item T hr I1 rv (.inl ⟨rfl, rfl⟩) q1⟩
theorem pe_mkK_item {kws : List Keyword} {tk : TA} {p pos : Pos} {k : Nat} (T : Ecl_item X.K X.mg nm qual B Bm newId initId bmB bm0 C fI) (hr : Room k X.A) (hkw : PK X kws tk) (hg : Gl X nm) (hdb : (nm == ("__debug__" : Str)) = false := by decide)
    (hal : (backToKw pos (keywordEach kws X.env)).all (·.1.isSome) = true := by rfl) (hks : (backToKw pos (keywordEach kws X.env)).filterMap (·.1) = [("item" : Str)] := by rfl)
    (hst : ((backTo pos (starEach [] X.env)).any (·.1) || (backToKw pos (keywordEach kws X.env)).any (·.1.isNone)) = false := by rfl) : PE X (.Call (.Name nm p) [] kws pos) (tMkV_item C tk) := by
  refine ⟨fun pins s σ H Q I h => wpAny_Call_Name_kw (ld_glob I hg T.gC ?_ hdb)⟩
  refine PySem.W.callWith_KW0 (h₀ := X.base) I.ok.mod.kin T.kC hal (thn (hkw.run pos pins s σ H _ I h) ?_) hst
  rintro us s1 ⟨vs, H1, I1, r1, v, rfl, q1⟩
  obtain ⟨v', rfl, rv⟩ := vals1 r1
  refine ⟨I1.kIn, ?_⟩
  rw [hks]
  exact mkV_item T hr I1 rv (.inr ⟨rfl, rfl⟩) q1
end
end Exn
/-! the field limit -/
namespace Exn
open PySem PySem.W PySem.Calls PyProof.Rows PySem.HandSPX
/-- what the written part says of such a class: its name, its place C, its __init__ at fI -/
structure Ecl_limit (K : Frag) (mg : Str → Option Value) (nm qual : Str) (B Bm newId initId : String) (bmB bm0 : List Value) (C fI : Addr) : Prop where
  fb : ExcBaseFacts Bm newId initId bm0
  ch : Chain bmB Bm
  sf : StoreFacts B bmB "object.__setattr__" "object"
  gC : mg nm = some (.ref C)
  ini : excInitIn K C bmB newId = true
  ovr : excOver K C bmB = true
  hdC : hasDictIn K C = true
  sa : findIn K (.ref C) "__setattr__" = some (some (.builtin "object.__setattr__"))
  ga : findIn K (.ref C) "__getattribute__" = some (some (.builtin "BaseException.__getattribute__"))
  gg : findIn K (.ref C) "__getattr__" = some none
  noN : findIn K (.ref C) "limit" = some none
  tk : takerIn K C "limit" = some none
  iC : findIn K (.ref C) "__init__" = some (some (.ref fI))
  tC : typeIn K (.ref fI) = some (.type "function")
  kC : keepIn K (.ref C) = true
  exC : subIn K (.ref C) (.type "BaseException") = some true
  tyC : typeIn K (.ref C) = some (.type "type")
  fn : ∃ (oc : Value) (od : Option Addr) (doc pm : Value) (an : Option Addr) (cdv ct : Value) (osl : Array (Option Value)) (p1 p2 q1 q2 q3 q4 : Pos),
    K.lookup fI = some ⟨oc, od, .func (fnOf "__init__" qual (iA "limit" p1 p2) (iB "limit" q1 q2 q3 q4) (iS "limit" []) .none .none doc pm an cdv ct), osl⟩ ∧ codeIn K cdv qual = true
theorem ecl_limit {K : Frag} {mg : Str → Option Value} {nm qual : Str} {B Bm newId initId : String} {bmB bm0 : List Value} {C fI : Addr} (fb : ExcBaseFacts Bm newId initId bm0) (ch : Chain bmB Bm) (sf : StoreFacts B bmB "object.__setattr__" "object") (gC : mg nm = some (.ref C))
    (h : ecB K C fI "limit" bmB newId = true) (iC : findIn K (.ref C) "__init__" = some (some (.ref fI))) {oc : Value} {od : Option Addr} {doc pm : Value} {an : Option Addr} {cdv ct : Value} {osl : Array (Option Value)} {p1 p2 q1 q2 q3 q4 : Pos}
    (l : K.lookup fI = some ⟨oc, od, .func (fnOf "__init__" qual (iA "limit" p1 p2) (iB "limit" q1 q2 q3 q4) (iS "limit" []) .none .none doc pm an cdv ct), osl⟩) (c : codeIn K cdv qual = true) : Ecl_limit K mg nm qual B Bm newId initId bmB bm0 C fI := by
  unfold ecB at h
  simp only [Bool.and_eq_true, decide_eq_true_eq] at h
  obtain ⟨h1, h2, h3, h4, h5, h6, h7, h8, h9, h10, h11, h12, _⟩ := h
  exact ⟨fb, ch, sf, gC, h1, h2, h3, h4, h5, h6, h7, h8, iC, h9, h10, h11, h12, ⟨oc, od, doc, pm, an, cdv, ct, osl, p1, p2, q1, q2, q3, q4, l, c⟩⟩
/-- an error just made: at e, its dict at d, the field in it -/
structure Made_limit (h h' : Heap) (e C d : Addr) (v : Value) : Prop where
  keep : ∀ b o, h.get? b = some o → h'.get? b = some o
  new : h.objs.size ≤ e
  obj : ∃ t1 : Addr, h'.get? e = some { cls := .ref C, dict := some d, data := .fields #[.ref t1, .none, .none, .none, .bool false, .none] }
  dbig : h.objs.size ≤ d
  dne : d ≠ e
  ns : h'.Ns1 d (fun y => if y = "limit" then some v else none)
section
variable {prog : Program} {w : World} {A : Around} {E : Value → Shared → Prop} {R : Result → Shared → Prop} {s : Shared} {K : Frag} {mg : Str → Option Value} {nm qual : Str} {B Bm newId initId : String} {bmB bm0 : List Value} {C fI : Addr}
theorem init_limit (T : Ecl_limit K mg nm qual B Bm newId initId bmB bm0 C fI) {x t0 : Addr} {v : Value} {ar : Args} (X : K.In s.heap) (hlim : s.heap.NoLimit) (hx : s.heap.get? x = some (excO C t0)) (hroom : A.depth < recursionLimit)
    (hbind : ∀ doc pm an cdv ct p1 p2 q1 q2 q3 q4 s', BindsTo s' (fnOf "__init__" qual (iA "limit" p1 p2) (iB "limit" q1 q2 q3 q4) (iS "limit" []) .none .none doc pm an cdv ct) ar [("self", .ref x), ("limit", v)])
    (hq : ∀ h' tk dx, (∀ b o, b ≠ x → s.heap.get? b = some o → h'.get? b = some o) → h'.get? x = some { cls := .ref C, dict := some dx, data := .fields #[.ref t0, .none, .none, .none, .bool false, .none] } → s.heap.objs.size ≤ dx → dx ≠ x →
      h'.Ns1 dx (fun y => if y = "limit" then some v else none) → R (.ok (.ret .none)) { s with heap := h', toks := tk }) :
    codeAny (model prog w) A (.call (.ref fI) ar) R s := by
  obtain ⟨oc, od, doc, pm, an, cdv, ct, osl, p1, p2, q1, q2, q3, q4, ho, hcd⟩ := T.fn
  obtain ⟨cd, hcl, hhd⟩ := any_some T.hdC
  refine Att.call_fn (binds := [("self", .ref x), ("limit", v)]) X hlim ho hcd hroom (hbind _ _ _ _ _ _ _ _ _ _ _ _) (by first | rfl | decide | with_unfolding_all rfl) (fun s₁ IC => ?_) rfl rfl rfl
  obtain ⟨h₁, tk₁, rfl⟩ := IC.toInCall.same
  have k := IC.toInCall.keep
  have hn := IC.toInCall.ns
  have X₁ : K.In h₁ := X.keeps k
  show wpAny _ _ (execs _ _) _ _ _
  refine wpAny_execs_cons (plainObj_wpAny_Assign_Attribute ?_)
  refine wpAny_Name (wpAny_loadName_local rfl rfl hn (v := v) (by first | rfl | with_unfolding_all rfl | kernel_rfl) ?_) (by decide)
  refine wpAny_Name (wpAny_loadName_local rfl rfl hn (v := .ref x) (by first | rfl | with_unfolding_all rfl | kernel_rfl) ?_) (by decide)
  refine set_plain X₁ (ox := excO C t0) (od := none) ⟨k _ _ hx, rfl, rfl, trivial⟩ T.sa (osaB T.sf X₁ (k _ _ hx) T.ovr T.tk hcl hhd fun h₃ tk₃ dx k₃ dn dne hx₃ hn₃ => ?_)
  show wpAny _ _ (execs _ _) _ _ _
  exact wpAny_execs_nil (hq h₃ tk₃ dx (fun b o hb e => k₃ b o hb (k b o e)) hx₃ (Nat.le_of_lt (Nat.lt_of_lt_of_le hn.lt dn)) dne hn₃)
theorem made_limit (T : Ecl_limit K mg nm qual B Bm newId initId bmB bm0 C fI) {v : Value} {rest : List Value} {kw : List (Str × Value)} (X : K.In s.heap) (hlim : s.heap.NoLimit) (hroom : A.depth + 1 < recursionLimit) (how : (rest = [v] ∧ kw = []) ∨ (rest = [] ∧ kw = [(("limit" : Str), v)]))
    (hq : ∀ h' tk e d, Made_limit s.heap h' e C d v → R (.ok (.ret (.ref e))) { s with heap := h', toks := tk }) :
    codeAny (model prog w) A (.call (.ref C) ⟨rest, kw⟩) R s := by
  obtain ⟨nm', N, q, bs, bm, hd, sn, sub, ab, col, dd, k0, k1, k2, k3, k5, hC, hbm⟩ := excInit_of X T.ini
  obtain ⟨hp, g, dr, tk, os⟩ := s
  have k : ∀ b o, hp.get? b = some o → ((hp.push (kdv_tup rest)).push (excO C hp.objs.size)).get? b = some o := fun b o e => Heap.get?_push_of_some _ (Heap.get?_push_of_some _ e)
  have hget : ((hp.push (kdv_tup rest)).push (excO C hp.objs.size)).get? (hp.objs.size + 1) = some (excO C hp.objs.size) := by heap_get
  have chn : Chain bm Bm := ⟨by rw [hbm]; exact T.ch.cB, by rw [hbm]; exact T.ch.cA, by rw [hbm]; exact T.ch.cN⟩
  have hsz : rest.length ≤ sizeLine := by rcases how with ⟨rfl, _⟩ | ⟨rfl, _⟩ <;> (rw [sizeLine_eq]; simp)
  refine callX T.fb chn hC (looks_findIn X T.iC) (fun self => bind_fn X self T.tC) hsz ?_
  refine init_limit (s := ⟨(hp.push (kdv_tup rest)).push (excO C hp.objs.size), g, dr, tk, os⟩) (v := v) T (X.keeps k) (hlim.keeps k) hget (show A.depth + 1 < recursionLimit from hroom) ?_ fun h' tk' dx k' hx dn dne hns => ?_
  · rcases how with ⟨rfl, rfl⟩ | ⟨rfl, rfl⟩
    · exact fun _ _ _ _ _ _ _ _ _ _ _ _ => BindsTo.of_eq (by first | rfl | with_unfolding_all rfl)
    · exact fun _ _ _ _ _ _ _ _ _ _ _ _ => BindsTo.of_eq (by first | rfl | with_unfolding_all rfl)
  have old : ∀ b o, hp.get? b = some o → h'.get? b = some o := fun b o e => k' b o (Nat.ne_of_lt (Nat.lt_succ_of_lt (Heap.lt_size e))) (k b o e)
  have z : hp.objs.size + 1 + 1 ≤ dx := by
    have q := dn
    rw [Heap.size_push, Heap.size_push] at q
    exact q
  exact ⟨rfl, hq h' tk' (hp.objs.size + 1) dx ⟨old, Nat.le_succ _, ⟨_, hx⟩, (show hp.objs.size ≤ dx by omega), dne, hns⟩⟩
end
end Exn
namespace Exn
open PySem PySem.Spec PyProof.Rows L2
theorem relO_limit {v : V} {v' : Value} (r : RelV v v') (f : Str) : RelO (List.lookup f [(("limit" : Str), v)]) (if f = "limit" then some v' else none) := by
  by_cases hw : f = "limit"
  · subst hw
    rw [if_pos rfl, show List.lookup ("limit" : Str) [(("limit" : Str), v)] = some v by simp [List.lookup]]
    exact r
  · have qw : (f == ("limit" : Str)) = false := by simpa using hw
    rw [if_neg hw, show List.lookup f [(("limit" : Str), v)] = none by simp [List.lookup, qw]]
    trivial
section
variable {X : Cx} {nm qual : Str} {B Bm newId initId : String} {bmB bm0 : List Value} {C fI : Addr}
/-- the making of the error that is raised at once -/
def tMk_limit (C : Addr) (ta : TA) : L2.St → Hp → XK → Prop := fun σ H Q => ta σ H fun vs H1 => ∃ v, vs = [v] ∧ ∀ d, H1 d = none → Q (.ref C) (some d) (upd H1 d (.xd [(("limit" : Str), v)]))
theorem pmk_limit {a : Expr} {ta : TA} {p pos : Pos} {k : Nat} (T : Ecl_limit X.K X.mg nm qual B Bm newId initId bmB bm0 C fI) (hr : Room k X.A) (ha : PA X [a] ta) (hg : Gl X nm) (hdb : (nm == ("__debug__" : Str)) = false := by decide)
    (he : starEach (a :: []) X.env = (false, eval a X.env) :: starEach [] X.env := by rfl) (hpl : (backTo pos (starEach [] X.env)).any (·.1) = false := by rfl) :
    PMk X (.Call (.Name nm p) [a] [] pos) (tMk_limit C ta) := by
  intro pins s σ H Q I h
  refine wpAny_Call_Name_kw (ld_glob I hg T.gC ?_ hdb)
  refine PySem.W.callWith_K (h₀ := X.base) I.ok.mod.kin T.kC (thn (ha.run pos pins s σ H _ I h) ?_) he hpl
  rintro us s1 ⟨vs, H1, I1, r1, v, rfl, q1⟩
  obtain ⟨v', rfl, rv⟩ := vals1 r1
  refine ⟨I1.kIn, ?_⟩
  have hlim := I1.nolimit
  have hdp := hr.dp
  obtain ⟨hp, g, dr, tk, os⟩ := s1
  refine wpAny_call (made_limit T I1.kIn hlim (by omega) (.inl ⟨rfl, rfl⟩) fun h' tk' e d M => ?_)
  show MkP X pins σ Q (.ref e) ⟨h', g, dr, tk', os⟩
  obtain ⟨t1, hoe⟩ := M.obj
  have hns := M.ns
  obtain ⟨G', g1, g2⟩ := restrict h' fun b => decide (b ≠ e)
  have gk : ∀ b, b ≠ e → G'.get? b = h'.get? b := fun b hb => g1 b (decide_eq_true hb)
  have ge : G'.get? e = none := g2 e (by simp)
  have old : ∀ b o, hp.get? b = some o → G'.get? b = some o := fun b o q => (gk b (Nat.ne_of_lt (Nat.lt_of_lt_of_le (Heap.lt_size q) M.new))).trans (M.keep b o q)
  have ob : ObjOk X.prog X.w (upd H1 d (.xd [(("limit" : Str), v)])) G' d (.xd [(("limit" : Str), v)]) := ⟨_, hns.at (fun o q => (gk d M.dne).trans q), fun f => relO_limit rv f⟩
  have J : Inv X pins σ (upd H1 d (.xd [(("limit" : Str), v)])) ⟨G', g, dr, tk', os⟩ := I1.laid (t' := tk') old M.dbig ob
  refine ⟨e, _, _, ⟨G', g, dr, tk', os⟩, _, .ref C, some d, rfl, J, fun b o q => ?_, ge, hoe, ⟨rfl, rfl⟩, rfl, rfl, ?_, rfl, I1.bare, raises_own T.exC T.tyC, q1 d (I1.hok.fresh M.dbig)⟩
  · by_cases hb : b = e
    · have q' : G'.get? b = some o := q
      rw [hb, ge] at q'
      cases q'
    · exact (gk b hb).symm.trans q
  · rw [upd_ne (Ne.symm M.dne)]
    exact I1.hok.fresh M.new
/-- the error as a value -/
abbrev tMkV_limit (C : Addr) (ta : TA) : TE := tMkVg "limit" C ta
theorem mkV_limit {pins : List (Addr × Obj)} {s : Shared} {σ : L2.St} {H : Hp} {Q : VK} {v : V} {v' : Value} {rest : List Value} {kw : List (Str × Value)} {k : Nat} (T : Ecl_limit X.K X.mg nm qual B Bm newId initId bmB bm0 C fI) (hr : Room k X.A) (I : Inv X pins σ H s) (rv : RelV v v')
    (how : (rest = [v'] ∧ kw = []) ∨ (rest = [] ∧ kw = [(("limit" : Str), v')])) (q : ∀ d a, H d = none → H a = none → a ≠ d → Q (.ref a) (upd (upd H d (.xd [(("limit" : Str), v)])) a (ExV C d a))) :
    wpAny (model X.prog X.w) X.A (call (.ref C) rest kw) (EP X pins σ Q) X.xe s := by
  have hlim := I.nolimit
  have hdp := hr.dp
  obtain ⟨hp, g, dr, tk, os⟩ := s
  refine wpAny_call (made_limit T I.kIn hlim (by omega) how fun h' tk' e d M => ?_)
  obtain ⟨t1, hoe⟩ := M.obj
  obtain ⟨G', g1, g2⟩ := restrict h' fun b => decide (b ≠ e)
  have gk : ∀ b, b ≠ e → G'.get? b = h'.get? b := fun b hb => g1 b (decide_eq_true hb)
  have ge : G'.get? e = none := g2 e (by simp)
  have old : ∀ b o, hp.get? b = some o → G'.get? b = some o := fun b o z => (gk b (Nat.ne_of_lt (Nat.lt_of_lt_of_le (Heap.lt_size z) M.new))).trans (M.keep b o z)
  have J : Inv X pins σ (upd H d (.xd [(("limit" : Str), v)])) ⟨G', g, dr, tk', os⟩ := I.laid (t' := tk') old M.dbig ⟨_, M.ns.at (fun o z => (gk d M.dne).trans z), fun f => relO_limit rv f⟩
  have nHe : H e = none := I.hok.fresh M.new
  have nHe2 : (upd H d (.xd [(("limit" : Str), v)])) e = none := by rw [upd_ne (Ne.symm M.dne)]; exact nHe
  have sub : ∀ b u, G'.get? b = some u → h'.get? b = some u := fun b o z => by
    by_cases hb : b = e
    · rw [hb, ge] at z; cases z
    · exact (gk b hb).symm.trans z
  exact ⟨.ref e, _, J.laidN (t' := tk') sub ge nHe2 (exV_ok hoe), rfl, q d e (I.hok.fresh M.dbig) nHe (Ne.symm M.dne)⟩
theorem pe_mkV_limit {a : Expr} {ta : TA} {p pos : Pos} {k : Nat} (T : Ecl_limit X.K X.mg nm qual B Bm newId initId bmB bm0 C fI) (hr : Room k X.A) (ha : PA X [a] ta) (hg : Gl X nm) (hdb : (nm == ("__debug__" : Str)) = false := by decide)
    (he : starEach (a :: []) X.env = (false, eval a X.env) :: starEach [] X.env := by rfl) (hpl : (backTo pos (starEach [] X.env)).any (·.1) = false := by rfl) : PE X (.Call (.Name nm p) [a] [] pos) (tMkV_limit C ta) := by
  refine ⟨fun pins s σ H Q I h => wpAny_Call_Name_kw (ld_glob I hg T.gC ?_ hdb)⟩
  refine PySem.W.callWith_K (h₀ := X.base) I.ok.mod.kin T.kC (thn (ha.run pos pins s σ H _ I h) ?_) he hpl
  rintro us s1 ⟨vs, H1, I1, r1, v, rfl, q1⟩
  obtain ⟨v', rfl, rv⟩ := vals1 r1
  exact ⟨I1.kIn, mkV_limit T hr I1 rv (.inl ⟨rfl, rfl⟩) q1⟩
theorem pe_mkK_limit {kws : List Keyword} {tk : TA} {p pos : Pos} {k : Nat} (T : Ecl_limit X.K X.mg nm qual B Bm newId initId bmB bm0 C fI) (hr : Room k X.A) (hkw : PK X kws tk) (hg : Gl X nm) (hdb : (nm == ("__debug__" : Str)) = false := by decide)
    (hal : (backToKw pos (keywordEach kws X.env)).all (·.1.isSome) = true := by rfl) (hks : (backToKw pos (keywordEach kws X.env)).filterMap (·.1) = [("limit" : Str)] := by rfl)
    (hst : ((backTo pos (starEach [] X.env)).any (·.1) || (backToKw pos (keywordEach kws X.env)).any (·.1.isNone)) = false := by rfl) : PE X (.Call (.Name nm p) [] kws pos) (tMkV_limit C tk) := by
  refine ⟨fun pins s σ H Q I h => wpAny_Call_Name_kw (ld_glob I hg T.gC ?_ hdb)⟩
  refine PySem.W.callWith_KW0 (h₀ := X.base) I.ok.mod.kin T.kC hal (thn (hkw.run pos pins s σ H _ I h) ?_) hst
  rintro us s1 ⟨vs, H1, I1, r1, v, rfl, q1⟩
  obtain ⟨v', rfl, rv⟩ := vals1 r1
  refine ⟨I1.kIn, ?_⟩
  rw [hks]
  exact mkV_limit T hr I1 rv (.inr ⟨rfl, rfl⟩) q1
end
end Exn
/-! the field count -/
namespace Exn
open PySem PySem.W PySem.Calls PyProof.Rows PySem.HandSPX
/-- what the written part says of such a class: its name, its place C, its __init__ at fI -/
structure Ecl_count (K : Frag) (mg : Str → Option Value) (nm qual : Str) (B Bm newId initId : String) (bmB bm0 : List Value) (C fI : Addr) : Prop where
  fb : ExcBaseFacts Bm newId initId bm0
  ch : Chain bmB Bm
  sf : StoreFacts B bmB "object.__setattr__" "object"
  gC : mg nm = some (.ref C)
  ini : excInitIn K C bmB newId = true
  ovr : excOver K C bmB = true
  hdC : hasDictIn K C = true
  sa : findIn K (.ref C) "__setattr__" = some (some (.builtin "object.__setattr__"))
  ga : findIn K (.ref C) "__getattribute__" = some (some (.builtin "BaseException.__getattribute__"))
  gg : findIn K (.ref C) "__getattr__" = some none
  noN : findIn K (.ref C) "count" = some none
  tk : takerIn K C "count" = some none
  iC : findIn K (.ref C) "__init__" = some (some (.ref fI))
  tC : typeIn K (.ref fI) = some (.type "function")
  kC : keepIn K (.ref C) = true
  exC : subIn K (.ref C) (.type "BaseException") = some true
  tyC : typeIn K (.ref C) = some (.type "type")
  fn : ∃ (oc : Value) (od : Option Addr) (doc pm : Value) (an : Option Addr) (cdv ct : Value) (osl : Array (Option Value)) (p1 p2 q1 q2 q3 q4 : Pos),
    K.lookup fI = some ⟨oc, od, .func (fnOf "__init__" qual (iA "count" p1 p2) (iB "count" q1 q2 q3 q4) (iS "count" []) .none .none doc pm an cdv ct), osl⟩ ∧ codeIn K cdv qual = true
theorem ecl_count {K : Frag} {mg : Str → Option Value} {nm qual : Str} {B Bm newId initId : String} {bmB bm0 : List Value} {C fI : Addr} (fb : ExcBaseFacts Bm newId initId bm0) (ch : Chain bmB Bm) (sf : StoreFacts B bmB "object.__setattr__" "object") (gC : mg nm = some (.ref C))
    (h : ecB K C fI "count" bmB newId = true) (iC : findIn K (.ref C) "__init__" = some (some (.ref fI))) {oc : Value} {od : Option Addr} {doc pm : Value} {an : Option Addr} {cdv ct : Value} {osl : Array (Option Value)} {p1 p2 q1 q2 q3 q4 : Pos}
    (l : K.lookup fI = some ⟨oc, od, .func (fnOf "__init__" qual (iA "count" p1 p2) (iB "count" q1 q2 q3 q4) (iS "count" []) .none .none doc pm an cdv ct), osl⟩) (c : codeIn K cdv qual = true) : Ecl_count K mg nm qual B Bm newId initId bmB bm0 C fI := by
  unfold ecB at h
  simp only [Bool.and_eq_true, decide_eq_true_eq] at h
  obtain ⟨h1, h2, h3, h4, h5, h6, h7, h8, h9, h10, h11, h12, _⟩ := h
  exact ⟨fb, ch, sf, gC, h1, h2, h3, h4, h5, h6, h7, h8, iC, h9, h10, h11, h12, ⟨oc, od, doc, pm, an, cdv, ct, osl, p1, p2, q1, q2, q3, q4, l, c⟩⟩
/-- an error just made: at e, its dict at d, the field in it -/
structure Made_count (h h' : Heap) (e C d : Addr) (v : Value) : Prop where
  keep : ∀ b o, h.get? b = some o → h'.get? b = some o
  new : h.objs.size ≤ e
  obj : ∃ t1 : Addr, h'.get? e = some { cls := .ref C, dict := some d, data := .fields #[.ref t1, .none, .none, .none, .bool false, .none] }
  dbig : h.objs.size ≤ d
  dne : d ≠ e
  ns : h'.Ns1 d (fun y => if y = "count" then some v else none)
section
variable {prog : Program} {w : World} {A : Around} {E : Value → Shared → Prop} {R : Result → Shared → Prop} {s : Shared} {K : Frag} {mg : Str → Option Value} {nm qual : Str} {B Bm newId initId : String} {bmB bm0 : List Value} {C fI : Addr}
theorem init_count (T : Ecl_count K mg nm qual B Bm newId initId bmB bm0 C fI) {x t0 : Addr} {v : Value} {ar : Args} (X : K.In s.heap) (hlim : s.heap.NoLimit) (hx : s.heap.get? x = some (excO C t0)) (hroom : A.depth < recursionLimit)
    (hbind : ∀ doc pm an cdv ct p1 p2 q1 q2 q3 q4 s', BindsTo s' (fnOf "__init__" qual (iA "count" p1 p2) (iB "count" q1 q2 q3 q4) (iS "count" []) .none .none doc pm an cdv ct) ar [("self", .ref x), ("count", v)])
    (hq : ∀ h' tk dx, (∀ b o, b ≠ x → s.heap.get? b = some o → h'.get? b = some o) → h'.get? x = some { cls := .ref C, dict := some dx, data := .fields #[.ref t0, .none, .none, .none, .bool false, .none] } → s.heap.objs.size ≤ dx → dx ≠ x →
      h'.Ns1 dx (fun y => if y = "count" then some v else none) → R (.ok (.ret .none)) { s with heap := h', toks := tk }) :
    codeAny (model prog w) A (.call (.ref fI) ar) R s := by
  obtain ⟨oc, od, doc, pm, an, cdv, ct, osl, p1, p2, q1, q2, q3, q4, ho, hcd⟩ := T.fn
  obtain ⟨cd, hcl, hhd⟩ := any_some T.hdC
  refine Att.call_fn (binds := [("self", .ref x), ("count", v)]) X hlim ho hcd hroom (hbind _ _ _ _ _ _ _ _ _ _ _ _) (by first | rfl | decide | with_unfolding_all rfl) (fun s₁ IC => ?_) rfl rfl rfl
  obtain ⟨h₁, tk₁, rfl⟩ := IC.toInCall.same
  have k := IC.toInCall.keep
  have hn := IC.toInCall.ns
  have X₁ : K.In h₁ := X.keeps k
  show wpAny _ _ (execs _ _) _ _ _
  refine wpAny_execs_cons (plainObj_wpAny_Assign_Attribute ?_)
  refine wpAny_Name (wpAny_loadName_local rfl rfl hn (v := v) (by first | rfl | with_unfolding_all rfl | kernel_rfl) ?_) (by decide)
  refine wpAny_Name (wpAny_loadName_local rfl rfl hn (v := .ref x) (by first | rfl | with_unfolding_all rfl | kernel_rfl) ?_) (by decide)
  refine set_plain X₁ (ox := excO C t0) (od := none) ⟨k _ _ hx, rfl, rfl, trivial⟩ T.sa (osaB T.sf X₁ (k _ _ hx) T.ovr T.tk hcl hhd fun h₃ tk₃ dx k₃ dn dne hx₃ hn₃ => ?_)
  show wpAny _ _ (execs _ _) _ _ _
  exact wpAny_execs_nil (hq h₃ tk₃ dx (fun b o hb e => k₃ b o hb (k b o e)) hx₃ (Nat.le_of_lt (Nat.lt_of_lt_of_le hn.lt dn)) dne hn₃)
theorem made_count (T : Ecl_count K mg nm qual B Bm newId initId bmB bm0 C fI) {v : Value} {rest : List Value} {kw : List (Str × Value)} (X : K.In s.heap) (hlim : s.heap.NoLimit) (hroom : A.depth + 1 < recursionLimit) (how : (rest = [v] ∧ kw = []) ∨ (rest = [] ∧ kw = [(("count" : Str), v)]))
    (hq : ∀ h' tk e d, Made_count s.heap h' e C d v → R (.ok (.ret (.ref e))) { s with heap := h', toks := tk }) :
    codeAny (model prog w) A (.call (.ref C) ⟨rest, kw⟩) R s := by
  obtain ⟨nm', N, q, bs, bm, hd, sn, sub, ab, col, dd, k0, k1, k2, k3, k5, hC, hbm⟩ := excInit_of X T.ini
  obtain ⟨hp, g, dr, tk, os⟩ := s
  have k : ∀ b o, hp.get? b = some o → ((hp.push (kdv_tup rest)).push (excO C hp.objs.size)).get? b = some o := fun b o e => Heap.get?_push_of_some _ (Heap.get?_push_of_some _ e)
  have hget : ((hp.push (kdv_tup rest)).push (excO C hp.objs.size)).get? (hp.objs.size + 1) = some (excO C hp.objs.size) := by heap_get
  have chn : Chain bm Bm := ⟨by rw [hbm]; exact T.ch.cB, by rw [hbm]; exact T.ch.cA, by rw [hbm]; exact T.ch.cN⟩
  have hsz : rest.length ≤ sizeLine := by rcases how with ⟨rfl, _⟩ | ⟨rfl, _⟩ <;> (rw [sizeLine_eq]; simp)
  refine callX T.fb chn hC (looks_findIn X T.iC) (fun self => bind_fn X self T.tC) hsz ?_
  refine init_count (s := ⟨(hp.push (kdv_tup rest)).push (excO C hp.objs.size), g, dr, tk, os⟩) (v := v) T (X.keeps k) (hlim.keeps k) hget (show A.depth + 1 < recursionLimit from hroom) ?_ fun h' tk' dx k' hx dn dne hns => ?_
  · rcases how with ⟨rfl, rfl⟩ | ⟨rfl, rfl⟩
    · exact fun _ _ _ _ _ _ _ _ _ _ _ _ => BindsTo.of_eq (by first | rfl | with_unfolding_all rfl)
    · exact fun _ _ _ _ _ _ _ _ _ _ _ _ => BindsTo.of_eq (by first | rfl | with_unfolding_all rfl)
  have old : ∀ b o, hp.get? b = some o → h'.get? b = some o := fun b o e => k' b o (Nat.ne_of_lt (Nat.lt_succ_of_lt (Heap.lt_size e))) (k b o e)
  have z : hp.objs.size + 1 + 1 ≤ dx := by
    have q := dn
    rw [Heap.size_push, Heap.size_push] at q
    exact q
  exact ⟨rfl, hq h' tk' (hp.objs.size + 1) dx ⟨old, Nat.le_succ _, ⟨_, hx⟩, (show hp.objs.size ≤ dx by omega), dne, hns⟩⟩
end
end Exn
namespace Exn
open PySem PySem.Spec PyProof.Rows L2
theorem relO_count {v : V} {v' : Value} (r : RelV v v') (f : Str) : RelO (List.lookup f [(("count" : Str), v)]) (if f = "count" then some v' else none) := by
  by_cases hw : f = "count"
  · subst hw
    rw [if_pos rfl, show List.lookup ("count" : Str) [(("count" : Str), v)] = some v by simp [List.lookup]]
    exact r
  · have qw : (f == ("count" : Str)) = false := by simpa using hw
    rw [if_neg hw, show List.lookup f [(("count" : Str), v)] = none by simp [List.lookup, qw]]
    trivial
section
variable {X : Cx} {nm qual : Str} {B Bm newId initId : String} {bmB bm0 : List Value} {C fI : Addr}
/-- the making of the error that is raised at once -/
def tMk_count (C : Addr) (ta : TA) : L2.St → Hp → XK → Prop := fun σ H Q => ta σ H fun vs H1 => ∃ v, vs = [v] ∧ ∀ d, H1 d = none → Q (.ref C) (some d) (upd H1 d (.xd [(("count" : Str), v)]))
theorem pmk_count {a : Expr} {ta : TA} {p pos : Pos} {k : Nat} (T : Ecl_count X.K X.mg nm qual B Bm newId initId bmB bm0 C fI) (hr : Room k X.A) (ha : PA X [a] ta) (hg : Gl X nm) (hdb : (nm == ("__debug__" : Str)) = false := by decide)
    (he : starEach (a :: []) X.env = (false, eval a X.env) :: starEach [] X.env := by rfl) (hpl : (backTo pos (starEach [] X.env)).any (·.1) = false := by rfl) :
    PMk X (.Call (.Name nm p) [a] [] pos) (tMk_count C ta) := by
  intro pins s σ H Q I h
  refine wpAny_Call_Name_kw (ld_glob I hg T.gC ?_ hdb)
  refine PySem.W.callWith_K (h₀ := X.base) I.ok.mod.kin T.kC (thn (ha.run pos pins s σ H _ I h) ?_) he hpl
  rintro us s1 ⟨vs, H1, I1, r1, v, rfl, q1⟩
  obtain ⟨v', rfl, rv⟩ := vals1 r1
  refine ⟨I1.kIn, ?_⟩
  have hlim := I1.nolimit
  have hdp := hr.dp
  obtain ⟨hp, g, dr, tk, os⟩ := s1
  refine wpAny_call (made_count T I1.kIn hlim (by omega) (.inl ⟨rfl, rfl⟩) fun h' tk' e d M => ?_)
  show MkP X pins σ Q (.ref e) ⟨h', g, dr, tk', os⟩
  obtain ⟨t1, hoe⟩ := M.obj
  have hns := M.ns
  obtain ⟨G', g1, g2⟩ := restrict h' fun b => decide (b ≠ e)
  have gk : ∀ b, b ≠ e → G'.get? b = h'.get? b := fun b hb => g1 b (decide_eq_true hb)
  have ge : G'.get? e = none := g2 e (by simp)
  have old : ∀ b o, hp.get? b = some o → G'.get? b = some o := fun b o q => (gk b (Nat.ne_of_lt (Nat.lt_of_lt_of_le (Heap.lt_size q) M.new))).trans (M.keep b o q)
  have ob : ObjOk X.prog X.w (upd H1 d (.xd [(("count" : Str), v)])) G' d (.xd [(("count" : Str), v)]) := ⟨_, hns.at (fun o q => (gk d M.dne).trans q), fun f => relO_count rv f⟩
  have J : Inv X pins σ (upd H1 d (.xd [(("count" : Str), v)])) ⟨G', g, dr, tk', os⟩ := I1.laid (t' := tk') old M.dbig ob
  refine ⟨e, _, _, ⟨G', g, dr, tk', os⟩, _, .ref C, some d, rfl, J, fun b o q => ?_, ge, hoe, ⟨rfl, rfl⟩, rfl, rfl, ?_, rfl, I1.bare, raises_own T.exC T.tyC, q1 d (I1.hok.fresh M.dbig)⟩
  · by_cases hb : b = e
    · have q' : G'.get? b = some o := q
      rw [hb, ge] at q'
      cases q'
    · exact (gk b hb).symm.trans q
  · rw [upd_ne (Ne.symm M.dne)]
    exact I1.hok.fresh M.new
/-- the error as a value -/
abbrev tMkV_count (C : Addr) (ta : TA) : TE := tMkVg "count" C ta
theorem mkV_count {pins : List (Addr × Obj)} {s : Shared} {σ : L2.St} {H : Hp} {Q : VK} {v : V} {v' : Value} {rest : List Value} {kw : List (Str × Value)} {k : Nat} (T : Ecl_count X.K X.mg nm qual B Bm newId initId bmB bm0 C fI) (hr : Room k X.A) (I : Inv X pins σ H s) (rv : RelV v v')
    (how : (rest = [v'] ∧ kw = []) ∨ (rest = [] ∧ kw = [(("count" : Str), v')])) (q : ∀ d a, H d = none → H a = none → a ≠ d → Q (.ref a) (upd (upd H d (.xd [(("count" : Str), v)])) a (ExV C d a))) :
    wpAny (model X.prog X.w) X.A (call (.ref C) rest kw) (EP X pins σ Q) X.xe s := by
  have hlim := I.nolimit
  have hdp := hr.dp
  obtain ⟨hp, g, dr, tk, os⟩ := s
  refine wpAny_call (made_count T I.kIn hlim (by omega) how fun h' tk' e d M => ?_)
  obtain ⟨t1, hoe⟩ := M.obj
  obtain ⟨G', g1, g2⟩ := restrict h' fun b => decide (b ≠ e)
  have gk : ∀ b, b ≠ e → G'.get? b = h'.get? b := fun b hb => g1 b (decide_eq_true hb)
  have ge : G'.get? e = none := g2 e (by simp)
  have old : ∀ b o, hp.get? b = some o → G'.get? b = some o := fun b o z => (gk b (Nat.ne_of_lt (Nat.lt_of_lt_of_le (Heap.lt_size z) M.new))).trans (M.keep b o z)
  have J : Inv X pins σ (upd H d (.xd [(("count" : Str), v)])) ⟨G', g, dr, tk', os⟩ := I.laid (t' := tk') old M.dbig ⟨_, M.ns.at (fun o z => (gk d M.dne).trans z), fun f => relO_count rv f⟩
  have nHe : H e = none := I.hok.fresh M.new
  have nHe2 : (upd H d (.xd [(("count" : Str), v)])) e = none := by rw [upd_ne (Ne.symm M.dne)]; exact nHe
  have sub : ∀ b u, G'.get? b = some u → h'.get? b = some u := fun b o z => by
    by_cases hb : b = e
    · rw [hb, ge] at z; cases z
    · exact (gk b hb).symm.trans z
  exact ⟨.ref e, _, J.laidN (t' := tk') sub ge nHe2 (exV_ok hoe), rfl, q d e (I.hok.fresh M.dbig) nHe (Ne.symm M.dne)⟩
theorem pe_mkV_count {a : Expr} {ta : TA} {p pos : Pos} {k : Nat} (T : Ecl_count X.K X.mg nm qual B Bm newId initId bmB bm0 C fI) (hr : Room k X.A) (ha : PA X [a] ta) (hg : Gl X nm) (hdb : (nm == ("__debug__" : Str)) = false := by decide)
    (he : starEach (a :: []) X.env = (false, eval a X.env) :: starEach [] X.env := by rfl) (hpl : (backTo pos (starEach [] X.env)).any (·.1) = false := by rfl) : PE X (.Call (.Name nm p) [a] [] pos) (tMkV_count C ta) := by
  refine ⟨fun pins s σ H Q I h => wpAny_Call_Name_kw (ld_glob I hg T.gC ?_ hdb)⟩
  refine PySem.W.callWith_K (h₀ := X.base) I.ok.mod.kin T.kC (thn (ha.run pos pins s σ H _ I h) ?_) he hpl
  rintro us s1 ⟨vs, H1, I1, r1, v, rfl, q1⟩
  obtain ⟨v', rfl, rv⟩ := vals1 r1
  exact ⟨I1.kIn, mkV_count T hr I1 rv (.inl ⟨rfl, rfl⟩) q1⟩
theorem pe_mkK_count {kws : List Keyword} {tk : TA} {p pos : Pos} {k : Nat} (T : Ecl_count X.K X.mg nm qual B Bm newId initId bmB bm0 C fI) (hr : Room k X.A) (hkw : PK X kws tk) (hg : Gl X nm) (hdb : (nm == ("__debug__" : Str)) = false := by decide)
    (hal : (backToKw pos (keywordEach kws X.env)).all (·.1.isSome) = true := by rfl) (hks : (backToKw pos (keywordEach kws X.env)).filterMap (·.1) = [("count" : Str)] := by rfl)
    (hst : ((backTo pos (starEach [] X.env)).any (·.1) || (backToKw pos (keywordEach kws X.env)).any (·.1.isNone)) = false := by rfl) : PE X (.Call (.Name nm p) [] kws pos) (tMkV_count C tk) := by
  refine ⟨fun pins s σ H Q I h => wpAny_Call_Name_kw (ld_glob I hg T.gC ?_ hdb)⟩
  refine PySem.W.callWith_KW0 (h₀ := X.base) I.ok.mod.kin T.kC hal (thn (hkw.run pos pins s σ H _ I h) ?_) hst
  rintro us s1 ⟨vs, H1, I1, r1, v, rfl, q1⟩
  obtain ⟨v', rfl, rv⟩ := vals1 r1
  refine ⟨I1.kIn, ?_⟩
  rw [hks]
  exact mkV_count T hr I1 rv (.inr ⟨rfl, rfl⟩) q1
end
end Exn

set_option Elab.async false
set_option linter.all false
set_option maxRecDepth 100000
set_option maxHeartbeats 400000
/-! several clauses «except X as n» with one name n -/
namespace L2
open PySem PySem.Spec PyProof.Rows
def Ends.out (D : Ends) (i : Nat) : Ends := { nx := fun τ G => D.nx (τ.set i none) G, rt := D.rt, bk := fun τ G => D.bk (τ.set i none) G, ct := fun τ G => D.ct (τ.set i none) G }
abbrev Clz := List (Value × (Addr → Value → Option Addr → TS))
def wAll (K : PySem.W.Frag) (Wout : WX) (D : Ends) (i : Nat) : Clz → WX
  | [] => Wout
  | (c, ts) :: r => fun cls d τ G => ∃ b, PySem.W.exmOne K cls c = some b ∧ (b = true → ∀ q, G q = none → ts q cls d (D.out i) (τ.set i (some (.ref q))) G) ∧ (b = false → wAll K Wout D i r cls d τ G)
inductive HdAs (X : Cx) (n : Str) : List ExceptHandler → Clz → Prop
  | nil : HdAs X n [] []
  | cons {x : Str} {c : Value} {ts : Addr → Value → Option Addr → TS} {s0 : Stmt} {su : List Stmt} {p1 p2 : Pos} {hds : List ExceptHandler} {l : Clz} (hc : Names X x c)
      (run : ∀ (q : Addr) (oq : Obj) (cls : Value) (d : Option Addr) (pn : List (Addr × Obj)), Zc cls d oq → (∃ vs, oq.data = .fields vs) → PSs (X.suite q ((q, oq) :: pn)) (s0 :: su) (ts q cls d)) (r : HdAs X n hds l) : HdAs X n (.ExceptHandler (some (.Name x p1)) (some n) (s0 :: su) p2 :: hds) ((c, ts) :: l)
section
variable {X : Cx} {body : List Stmt} {hd0 : ExceptHandler} {hds : List ExceptHandler} {l : Clz} {pos : Pos} {tb : WX → TS} {Wout : WX} {i : Nat} {n : Str}
theorem ps_tryAs (hst : X.stack = X.env :: X.outer) (hfr : X.env.frame = some X.env.locals) (hnd : X.N.Nodup) (hin : X.N[i]? = some n) (hkn : X.env.kindOf n = some .local) (out : Takes X Wout)
    (hbd : ∀ (W : WX) (pn : List (Addr × Obj)) (xe : Value → Shared → Prop), Takes (X.tr pn xe) W → PassesOwn (model X.prog X.w) X.A X.env xe → PSs (X.tr pn xe) body (tb W)) (hall : HdAs X n (hd0 :: hds) l) :
    PS X (.Try body (hd0 :: hds) [] [] pos) (fun D τ G => tb (wAll X.K Wout D i l) D τ G) := by
  refine ⟨fun pins s τ G D I h => wpAny_Try_except ?_⟩
  have ok := I.ok
  have frames : X.A.frames = some (X.env :: X.outer) := by rw [ok.frames, hst]
  refine wpAny_mono ((hbd (wAll X.K Wout D i l) (X.pn ++ pins) _ (fun u s' got => ?C) PassesOwn.looking).run [] s τ G D (I.toTry _) h) (fun f s1 hsp => ?_) (fun e s1 he => he)
  case C =>
    obtain ⟨q, B, sI, pins', τ', G', cls, d, rfl, J', nb, up, sky, nq, os, bare, w⟩ := got
    have J : Inv X pins τ' G' sI := J'.ofTry ok
    rw [hst] at sky
    refine Sky.land Zc.steady frames hfr sky fun h3 fl up3 => ?_
    have J3 : Inv X pins τ' G' { s' with heap := h3 } := J.landed nb fl.1 (up.trans up3) os bare
    obtain ⟨oq, vq, eq3, zq, dq⟩ := fl.there
    have apart : q ∉ frs (X.env :: X.outer) := fun hm => by
      obtain ⟨_, o', e', hnf⟩ := fl.2.2.1.mem hm
      rw [eq3] at e'; cases e'; exact hnf _ dq
    have nL : q ≠ X.env.locals := fun z => apart (List.mem_filterMap.mpr ⟨X.env, List.mem_cons_self, by rw [hfr, z]⟩)
    have nF : q ∉ X.fs := fun hm => by obtain ⟨e, he, r⟩ := List.mem_filterMap.mp hm; exact apart (List.mem_filterMap.mpr ⟨e, List.mem_cons_of_mem _ he, r⟩)
    have S3 := J3.suite eq3 dq nq nL nF
    have each : ∀ {hs' : List ExceptHandler} {l' : Clz}, HdAs X n hs' l' → wAll X.K Wout D i l' cls d τ' G' → wpAny (model X.prog X.w) X.A (handleBy (.ref q) X.env hs') (SP X pins D) X.xe { s' with heap := h3 } := by
      intro hs' l' ha
      induction ha with
      | nil =>
        intro w
        obtain ⟨k1, k2, k3, oe, vs, T, oT, tt, e1, e2, e3, e4, e5⟩ := id fl
        refine wpAny_handleBy_nil ?_; unfold PySem.passOn; refine wpAny_bind (wpAny_field e1 e3 e4 ?_)
        rw [if_neg (by simp : ¬ ((Value.ref T == Value.none) = true))]
        have last : wpAny (model X.prog X.w) X.A (setFlight (.ref q) X.env.frame) (fun _ t => wpAny (model X.prog X.w) X.A (throw (.ref q) : Sem Flow) (SP X pins D) X.xe t) X.xe { s' with heap := h3 } := by
          rw [hfr]; refine HandSPX.setFlight_upZ fl fun h4 hh up4 => wpAny_throw (out _ _ ?_)
          exact ⟨q, B, sI, pins, τ', G', cls, d, rfl, J, nb, (up.trans up3).trans up4, .inr (.inr (by rw [hst]; exact hh)), nq, os, bare, w⟩
        first | exact wpAny_bind (wpAny_pure (wpAny_bind last)) | exact wpAny_bind last
      | @cons x c ts s0 su p1 p2 hds2 l2 hc run r ih =>
        intro w
        obtain ⟨b, hm, hyes, hno⟩ := w
        refine wpAny_handleBy_cons (codeAny_handlers_test ?_) (fun z => by cases z)
        have ty : PySem.W.Looks (model X.prog X.w) h3 (typeOf (.ref q)) cls := fun A Q E s k z => wpAny_typeOf_ref (k _ _ eq3) (by rw [zq.1]; exact z)
        have LM := PySem.W.exm_one (M := model X.prog X.w) J3.kIn ty hm
        have name : ∀ {Q : Value → Shared → Prop} {E : Value → Shared → Prop}, Q c { s' with heap := h3 } → wpAny (model X.prog X.w) (X.A.mark (some (.ref q))) (eval (.Name x p1) X.env) Q E { s' with heap := h3 } := fun {Q E} z => by
          rcases hc with ⟨g1, g2, g3 | ⟨g3, g4, g5⟩⟩
          · exact ld_glob (X := X.suite q ((q, oq) :: (X.pn ++ pins))) S3 g1 g3 z g2
          · exact ld_blt (X := X.suite q ((q, oq) :: (X.pn ++ pins))) S3 g1 g3 g4 z g5 g2
        refine name (LM.here ?_)
        cases b with
        | false => exact ih (hno rfl)
        | true =>
          refine codeAny_handlers_suite_as (HandSPX.lands_againZ fl fun h4 fl4 up4 => ?_)
          have J4 : Inv X pins τ' G' { s' with heap := h4 } := J.landed nb fl4.1 ((up.trans up3).trans up4) os bare
          obtain ⟨o4, v4, e4, z4, d4⟩ := fl4.there
          refine store_ok (X := X.suite q ((q, o4) :: (X.pn ++ pins))) (v := .ref q) (J4.suite e4 d4 nq nL nF) hnd hin (.inl hkn) rfl (fun s5 S5 => ?_) (.inr hkn)
          refine wpAny_mono ((run q o4 cls d (X.pn ++ pins) z4 ⟨_, d4⟩).run [] s5 _ G' _ S5 (hyes rfl q nq)) (fun f s6 hsp => ?_) (fun _ _ z => z.elim)
          have fin : ∀ {τ6 : St} {G6 : Hp} {Q : Shared → Prop}, Inv (X.suite q ((q, o4) :: (X.pn ++ pins))) [] τ6 G6 s6 → (∀ s7, Inv X pins (τ6.set i none) G6 s7 → Q s7) → wpAny (model X.prog X.w) X.A (do bindName X.env n .none; unbindBehindTheSuite X.env n p2) (fun _ s7 => Q s7) X.xe s6 :=
            fun {τ6 G6 Q} S6 z => gone_ok (S6.unsuite ok) hnd hin hkn z
          cases f with
          | ret u => obtain ⟨v6, τ6, G6, S6, r6, z6⟩ := hsp; exact fin S6 fun s7 J7 => ⟨_, _, _, J7, r6, z6⟩
          | next => obtain ⟨τ6, G6, S6, z6⟩ := hsp; exact fin S6 fun s7 J7 => ⟨_, _, J7, z6⟩
          | brk => obtain ⟨τ6, G6, S6, z6⟩ := hsp; exact fin S6 fun s7 J7 => ⟨_, _, J7, z6⟩
          | cont => obtain ⟨τ6, G6, S6, z6⟩ := hsp; exact fin S6 fun s7 J7 => ⟨_, _, J7, z6⟩
    exact each hall w
  cases f with
  | ret u => obtain ⟨v, τ6, G6, J6, r6, z6⟩ := hsp; exact ⟨v, τ6, G6, J6.ofTry ok, r6, z6⟩
  | next => obtain ⟨τ6, G6, J6, z6⟩ := hsp; exact wpAny_execs_nil ⟨τ6, G6, J6.ofTry ok, z6⟩
  | brk => obtain ⟨τ6, G6, J6, z6⟩ := hsp; exact ⟨τ6, G6, J6.ofTry ok, z6⟩
  | cont => obtain ⟨τ6, G6, J6, z6⟩ := hsp; exact ⟨τ6, G6, J6.ofTry ok, z6⟩
end
end L2
/-! the error that a suite holds: its fields, its classes -/
namespace Exn
open PySem PySem.Spec PyProof.Rows L2
section
variable {X : Cx} {q : Addr} {oq : Obj} {cls : Value} {d : Option Addr} {pn : List (Addr × Obj)}
theorem got_inst {pins : List (Addr × Obj)} {τ : L2.St} {G : Hp} {s : Shared} {C dd : Addr} {fs : List (Str × V)} (I : Inv (X.suite q ((q, oq) :: pn)) pins τ G s) (hz : Zc cls d oq) (hf : ∃ vs, oq.data = .fields vs) (hc : cls = .ref C) (hd : d = some dd) (ed : G dd = some (.xd fs)) :
    ∃ (od : Obj) (mA : Str → Option Value), PySem.W.InstAt s.heap q oq C (some od) ∧ (∀ n, PySem.W.lookIn n od = some (mA n)) ∧ ∀ f, RelO (fs.lookup f) (mA f) := by
  subst hc; subst hd
  obtain ⟨hq, _⟩ := I.pin (q, oq) (List.mem_append_left _ List.mem_cons_self)
  obtain ⟨vs, hv⟩ := hf
  obtain ⟨mA, hns, hr⟩ := (show ObjOk X.prog X.w G s.heap dd (.xd fs) from I.hok dd _ ed)
  obtain ⟨od, ho, hl⟩ := lookIn_ns hns
  exact ⟨od, mA, ⟨hq, hz.1, by unfold PySem.W.notCls; rw [hv] <;> rfl, by rw [hz.2]; exact ho⟩, hl, hr⟩
def tGot (K : PySem.W.Frag) (f : Str) (q : Addr) (cls : Value) (d : Option Addr) (te : TE) : TE := fun τ G Q => te τ G fun x G1 => x = .ref q ∧ ∃ (C dd : Addr) (fs : List (Str × V)) (v : V), cls = .ref C ∧ d = some dd ∧ G1 dd = some (.xd fs) ∧ fs.lookup f = some v ∧ Xv K C ∧ PySem.W.findIn K (.ref C) f = some none ∧ Q v G1
theorem pe_got {e : Expr} {te : TE} {pos : Pos} {f : Str} (hz : Zc cls d oq) (hf : ∃ vs, oq.data = .fields vs) (he : PE (X.suite q ((q, oq) :: pn)) e te) (hb : attributeBase e f X.env (eval e X.env) = eval e X.env := by rfl) : PE (X.suite q ((q, oq) :: pn)) (.Attribute e f pos) (tGot X.K f q cls d te) := by
  refine ⟨fun pins s τ G Q I h => attr_of hb (thn (he.run pins s τ G _ I h) ?_)⟩
  rintro u s1 ⟨x, G1, I1, rx, rfl, C, dd, fs, v, ec, ed, eg, l, T, hno, z⟩
  obtain rfl : u = Value.ref q := rx
  obtain ⟨od, mA, J, hl, hr⟩ := got_inst I1 hz hf ec ed eg
  obtain ⟨u, hu, ru⟩ := RelO.some_of (v := v) (o := mA f) (by rw [← l]; exact hr f)
  exact HandSPX.exc_get I1.kIn J T.ga T.gg T.exC (PySem.W.findObj_own T.hdC hno rfl (by rw [hl, hu])) (handed_of ru) ⟨v, G1, I1.tok _, ru, z⟩
def rIsGot (K : PySem.W.Frag) (q : Addr) (cls : Value) (d : Option Addr) : List V → Hp → VK → Prop := fun xs G Q => ∃ (C dd : Addr) (fs : List (Str × V)) (c : V) (u : Value) (b : Bool), xs = [.ref q, c] ∧ ClsV c u ∧ cls = .ref C ∧ d = some dd ∧ G dd = some (.xd fs) ∧ Xv K C ∧ PySem.W.kitOne K (.ref C) u = some b ∧ Q (.bl b) G
theorem call_isGot (hz : Zc cls d oq) (hf : ∃ vs, oq.data = .fields vs) : CallR (X.suite q ((q, oq) :: pn)) (.builtin "isinstance") (rIsGot X.K q cls d) := by
  intro pins s τ G xs us Q I r h
  obtain ⟨C, dd, fs, c, u, b, rfl, kc, ec, ed, eg, T, e, z⟩ := h
  obtain ⟨u1, u2, rfl, r1, r2⟩ := vals2 r
  obtain rfl : u1 = Value.ref q := r1
  have e2 := kc.eq r2
  subst e2
  obtain ⟨od, mA, J, _, _⟩ := got_inst I hz hf ec ed eg
  obtain ⟨cd, hcd, _⟩ := PySem.W.any_some T.hdC
  exact PySem.W.kia_one (PySem.W.kitx_exc (by rw [hcd]; rfl) T.ga T.gg T.exC T.ha T.hn T.ht T.hm) I.kIn J e (fun z => nomatch z) fun tk => ⟨.bl b, G, I.tok tk, rfl, z⟩
end
end Exn

set_option Elab.async false
set_option linter.all false
set_option maxRecDepth 100000
set_option maxHeartbeats 400000
/-! a for statement in a generator's body -/
namespace L2
open PySem PySem.Spec PyProof.Rows GenW
section
variable {M : Model} {A : Around} {R : GenEnd} {Y : Protocol} {n : Nat} {s₀ : Shared} {c : Code} {fs : List Frame} {s : Shared} {env : Env}
theorem seg_bindw {α β : Type} {m : Sem α} {f : α → Sem β} {K : β → Sem PySem.Fin} {H : Value → Sem PySem.Fin} {gd : Bool → Bool} {lv : List Value → List Value}
    (h : wpAny M (A.over c fs) m (fun a s' => Seg M A R Y n s₀ c ((f a).wrap K H gd lv) fs s') (fun x s' => Seg M A R Y n s₀ c (H x) fs s') s) : Seg M A R Y n s₀ c ((m >>= f).wrap K H gd lv) fs s := by
  rw [Sem.bind_eq_wrap', Sem.wrap_wrap]
  exact seg_wrap (wpAny_mono h (fun a s' h' => h') fun x s' h' => h')
variable {K : Flow → Sem PySem.Fin} {H : Value → Sem PySem.Fin} {gd : Bool → Bool} {lv : List Value → List Value}
theorem seg_For {target iter : Expr} {body orelse : List Stmt} {pos : Pos}
    (h : wpAny M (A.over c fs) (eval iter env) (fun x s1 => wpAny M (A.over c fs) (pyIter x) (fun it s2 => ∀ p, Seg M A R Y n s₀ (.forLoop target it body orelse env) (M.den (.forLoop target it body orelse env))
      (.ret (fun r => ((match r with | .ok f => (.pure f : Sem Flow) | .error e => .raise e).onRaise (cameBack env)).wrap K H gd lv) none (gd false) (lv []) c p [] :: fs) s2)
      (fun x s' => Seg M A R Y n s₀ c (H x) fs s') s1) (fun x s' => Seg M A R Y n s₀ c (H x) fs s') s) (hs : ∀ x, foldedSetIterable iter env x = pure x) :
    Seg M A R Y n s₀ c ((exec (.For target iter body orelse pos) env).wrap K H gd lv) fs s := by
  rw [exec_For]
  refine seg_bindw (wpAny_standAt (seg_bindw (wpAny_mono h (fun x s1 h1 => ?_) fun _ _ h' => h')))
  refine seg_bindw (wpAny_of_eq (hs x) (seg_bindw (wpAny_standAt (seg_bindw (wpAny_holding (wpAny_mono h1 (fun it s2 h2 => ?_) fun _ _ h' => h'))))))
  exact seg_call h2
end
section
variable {prog : Program} {w : World} {A : Around} {R : GenEnd} {Y : Protocol} {n : Nat} {s₀ : Shared} {fs : List Frame} {s : Shared} {env : Env}
/-- an exception that leaves the loop's code -/
abbrev EE (prog : Program) (w : World) (A : Around) (R : GenEnd) (Y : Protocol) (n : Nat) (s₀ : Shared) (c : Code) (env : Env) (fs : List Frame) (x : Value) (s' : Shared) : Prop :=
  Seg (model prog w) A R Y n s₀ c ((do noteFrame x env; theTreesLotGoes x : Sem Unit).wrap (fun _ => .raise x) .raise id id) fs s'
theorem seg_forLoop {target : Expr} {it : Value} {body : List Stmt}
    (h : wpAny (model prog w) (A.over (.forLoop target it body [] env) fs) (pyNext it) (fun r s1 => match r with
      | none => Seg (model prog w) A R Y n s₀ (.forLoop target it body [] env) (.pure (.again (.block [] env))) fs s1
      | some v => wpAny (model prog w) (A.over (.forLoop target it body [] env) fs) (letOwnedTupleGo target it v) (fun _ s2 => wpAny (model prog w) (A.over (.forLoop target it body [] env) fs) (assign target env v) (fun _ s3 =>
          Seg (model prog w) A R Y n s₀ (.forLoop target it body [] env) ((execs body env).wrap (fun f => match f with
            | .next => .pure (.again (.forLoop target it body [] env)) | .cont => .pure (.again (.forLoop target it body [] env)) | .brk => .pure (.done .next) | .ret v => .pure (.done (.ret v)))
            (fun e => (do noteFrame e env; theTreesLotGoes e : Sem Unit).wrap (fun _ => .raise e) .raise id id) id id) fs s3)
          (EE prog w A R Y n s₀ (.forLoop target it body [] env) env fs) s2) (EE prog w A R Y n s₀ (.forLoop target it body [] env) env fs) s1) (EE prog w A R Y n s₀ (.forLoop target it body [] env) env fs) s) :
    Seg (model prog w) A R Y n s₀ (.forLoop target it body [] env) ((model prog w).den (.forLoop target it body [] env)) fs s := by
  show Seg _ A R Y n s₀ _ ((forTurn target it body [] env).onRaise (fun x => do noteFrame x env; theTreesLotGoes x)) fs s
  have ee : ∀ x s', EE prog w A R Y n s₀ (.forLoop target it body [] env) env fs x s' → Seg (model prog w) A R Y n s₀ (.forLoop target it body [] env) ((do noteFrame x env; theTreesLotGoes x : Sem Unit).bind fun _ => (.raise x : Sem PySem.Fin)) fs s' := by
    intro x s' hx
    rw [Sem.bind_eq_wrap]
    exact hx
  rw [Sem.onRaise_eq_wrap]
  unfold forTurn
  refine seg_bindw (wpAny_standAt (seg_bindw (wpAny_onRaise (wpAny_mono h (fun r s1 h1 => ?_) fun x s' hx => wpAny_standAt (ee x s' hx)))))
  cases r with
  | none => exact h1
  | some v =>
    refine seg_bindw (wpAny_mono h1 (fun _ s2 h2 => seg_bindw (wpAny_mono h2 (fun _ s3 h3 => ?_) ee)) ee)
    rw [Sem.bind_eq_wrap', Sem.wrap_wrap]
    rw [Sem.wrap_congr (execs body env) _ _ (K' := fun f => match f with
            | .next => .pure (.again (.forLoop target it body [] env)) | .cont => .pure (.again (.forLoop target it body [] env)) | .brk => .pure (.done .next) | .ret v => .pure (.done (.ret v)))
      (H' := (fun e => (do noteFrame e env; theTreesLotGoes e : Sem Unit).wrap (fun _ => .raise e) .raise id id)) (fun f => by cases f <;> rfl)
      (fun e => by first | exact Sem.bind_eq_wrap _ _ | (show (do noteFrame e env; theTreesLotGoes e : Sem Unit).bind (fun _ => .raise e) = _; rw [Sem.bind_eq_wrap]))]
    exact h3
/-- the loop's end, without an else -/
theorem seg_noElse {c : Code} (h : Seg (model prog w) A R Y n s₀ (.block [] env) (.pure (.done .next)) fs s) : Seg (model prog w) A R Y n s₀ c (.pure (.again (.block [] env))) fs s := by
  refine seg_again rfl ?_
  exact h
end
section
variable {X : Cx} {tg : Expr}
def tGFor (wi : TI) (g : TG) (tb : TGn) : TGn := fun D ys σ H => wi σ H fun J H1 => ∃ W : Nat → Nat → List V → St → Hp → Prop, (∃ m, W 0 m ys σ H1) ∧ ∀ i m ys σ H, W i m ys σ H →
  (J.stop i H ∧ D.nx ys σ H) ∨ (J.go i H ∧ ∃ N : List V → St → Hp → Prop, (∀ ys' σ' H', N ys' σ' H' → ∃ m', m' < m ∧ W (i + 1) m' ys' σ' H') ∧ ∀ x H', J.yld i H x H' → g x σ H' fun σ2 H2 => tb { D with nx := N, ct := N, bk := D.nx } ys σ2 H2)
theorem fp_of {S b : Addr} {o1 o2 : Obj} {ip : List (Addr × Obj)} {H H' : Hp} (f : FpOk X ((S, o1) :: ip) H b) (hn : H' b = none) : FpOk X ((S, o2) :: ip) H' b := by
  refine ⟨hn, f.2.1, f.2.2.1, f.2.2.2.1, f.2.2.2.2.1, fun p hp => ?_⟩
  rcases List.mem_append.mp hp with h | h
  · exact f.2.2.2.2.2 p (List.mem_append_left _ h)
  · rcases List.mem_cons.mp h with h | h
    · rw [h]; exact f.2.2.2.2.2 (S, o1) (List.mem_append_right _ List.mem_cons_self)
    · exact f.2.2.2.2.2 p (List.mem_append_right _ (List.mem_cons_of_mem _ h))
theorem gs_for {iter : Expr} {body : List Stmt} {wi : TI} {g : TG} {tb : TGn} {pos : Pos} (hp : PassesOwn (model X.prog X.w) X.A X.env X.xe) (hc : X.calm = true) (hi : PI X tg iter wi) (hg : PG X tg g) (hb : GSs X body tb)
    (hs : ∀ x, foldedSetIterable iter X.env x = pure x := by intro _; rfl) : GS X (.For tg iter body [] pos) (tGFor wi g tb) := by
  refine ⟨fun A S ip R n ys s₀ c fs K J gd lv s σ H D gc hn k hI ht => ?_⟩
  obtain ⟨acc, cc, r, I⟩ := hI
  refine seg_For ?_ hs
  rw [gc.over]
  refine wpAny_mono (hi.run _ s σ H _ I ht) (fun v s1 h1 => wpAny_mono h1 (fun itv s2 h2 p => ?_) fun x s' hx => k.exc n s₀ x s' hx) fun x s' hx => k.exc n s₀ x s' hx
  obtain ⟨it, fp, tn, Jt, H2, rfl, I2, T, st2, f2, W, ⟨m0, w0⟩, turn⟩ := h2
  have gl := fun (kk : Result → Sem PySem.Fin) => gc_loop (k := kk) (c' := .forLoop tg (.ref it) body [] X.env) (l := lv []) (kp := []) (p := p) gc rfl rfl
  have ee : ∀ (n : Nat) (s₀ : Shared) (x : Value) (s' : Shared), X.xe x s' → EE X.prog X.w A R (GY X S) n s₀ (.forLoop tg (.ref it) body [] X.env) X.env
      (.ret (fun r => ((match r with | .ok f => (.pure f : Sem Flow) | .error e => .raise e).onRaise (cameBack X.env)).wrap K J gd lv) none (gd false) (lv []) c p [] :: fs) x s' := by
    intro n s₀ x s' hx
    refine seg_wrap ?_
    rw [(gl _).over]
    refine wpAny_bind (wpAny_mono (hp x s' hx) (fun _ t hcb => wpAny_theTreesLotGoes ?_) fun y t hcb => ?_)
    · exact seg_leaf (.error x) (seg_cameBack gc k hcb)
    · exact seg_leaf (.error y) (seg_cameBack gc k hcb)
  have loop : ∀ (m n i : Nat) (ys : List V) (s₀ s : Shared) (σ : St) (H : Hp), n + ys.length = sizeLine → W i m ys σ H → GI X S ip ys σ H s → tn i s.heap → (∀ b ∈ fp, H b = none) →
      Seg (model X.prog X.w) A R (GY X S) n s₀ (.forLoop tg (.ref it) body [] X.env) ((model X.prog X.w).den (.forLoop tg (.ref it) body [] X.env))
        (.ret (fun r => ((match r with | .ok f => (.pure f : Sem Flow) | .error e => .raise e).onRaise (cameBack X.env)).wrap K J gd lv) none (gd false) (lv []) c p [] :: fs) s := by
    intro m
    induction m using Nat.strongRecOn with
    | ind m ih =>
      intro n i ys s₀ s σ H hn w hI st fr
      obtain ⟨acc3, c3, r3, I3⟩ := hI
      have stat : ∀ {H' : Hp}, (∀ b ∈ fp, H' b = none) → ∀ b ∈ fp, FpOk X ((S, lstObj acc3 c3) :: ip) H' b := fun hn b hb => fp_of (f2 b hb) (hn b hb)
      refine seg_forLoop ?_
      rw [(gl _).over]
      rcases turn i m ys σ H w with ⟨stop, qn⟩ | ⟨go, N, hN, step⟩
      · refine wpAny_mono (T.done X rfl rfl rfl hc i _ s σ H X.xe I3 (stat fr) st stop) (fun rr t ht => ?_) (ee n s₀)
        obtain ⟨rfl, I4⟩ := ht
        exact seg_noElse (seg_leaf (.ok .next) (k.ok n ys s₀ t .next hn ⟨σ, H, ⟨acc3, c3, r3, I4⟩, qn⟩))
      · refine wpAny_mono (T.item X rfl rfl rfl hc i _ s σ H X.xe I3 (stat fr) st go) (fun rr t ht => ?_) (ee n s₀)
        obtain ⟨u, rfl, h4⟩ := ht
        refine wpAny_mono h4 (fun _ s5 h5 => ?_) (ee n s₀)
        obtain ⟨x, H5, I5, r5, y5, st5, fr5⟩ := h5
        have I5' := I5.pinned (stat fr5) (T.obj _ _ st5)
        refine wpAny_mono (hg.run _ s5 σ H5 x u _ I5' r5 (step x H5 y5)) (fun _ s6 h6 => ?_) (ee n s₀)
        obtain ⟨σ6, H6, I6, q6⟩ := h6
        have gb : GC X S (ip ++ pinsAt fp s5.heap) A (.forLoop tg (.ref it) body [] X.env) (.ret (fun r => ((match r with | .ok f => (.pure f : Sem Flow) | .error e => .raise e).onRaise (cameBack X.env)).wrap K J gd lv) none (gd false) (lv []) c p [] :: fs) id := by
          have g0 := gl (fun r => ((match r with | .ok f => (.pure f : Sem Flow) | .error e => .raise e).onRaise (cameBack X.env)).wrap K J gd lv)
          refine ⟨g0.pn, fun q hq => ?_, g0.apart, g0.over, g0.split, g0.guard, g0.gd⟩
          rcases List.mem_append.mp hq with hq | hq
          · exact g0.ip q hq
          · obtain ⟨hb, _⟩ := of_pinsAt hq
            exact fun z => (stat fr5 q.1 hb).2.2.2.2.2 (S, lstObj acc3 c3) (List.mem_append_right _ List.mem_cons_self) z.symm
        refine hb.run A S (ip ++ pinsAt fp s5.heap) R n ys s₀ _ _ _ _ id id s6 σ6 H6 { D with nx := N, ct := N, bk := D.nx } gb hn ⟨fun n' ys' s₀' s7 f hn' hs7 => ?_, fun n' s₀' x s7 hx => ee n' s₀' x s7 hx⟩ ⟨acc3, c3, r3, I6⟩ q6
        have drop : ∀ {σ7 : St} {H7 : Hp}, GI X S (ip ++ pinsAt fp s5.heap) ys' σ7 H7 s7 → GI X S ip ys' σ7 H7 s7 := fun ⟨acc7, c7, r7, I7⟩ => ⟨acc7, c7, r7, Inv.unpinned (pins := (S, lstObj acc7 c7) :: ip) I7⟩
        have more : ∀ {σ7 : St} {H7 : Hp}, GI X S (ip ++ pinsAt fp s5.heap) ys' σ7 H7 s7 → N ys' σ7 H7 → Seg (model X.prog X.w) A R (GY X S) n' s₀' (.forLoop tg (.ref it) body [] X.env) (.pure (.again (.forLoop tg (.ref it) body [] X.env)))
            (.ret (fun r => ((match r with | .ok f => (.pure f : Sem Flow) | .error e => .raise e).onRaise (cameBack X.env)).wrap K J gd lv) none (gd false) (lv []) c p [] :: fs) s7 := by
          intro σ7 H7 G7 n7
          obtain ⟨m', hm, w7⟩ := hN ys' σ7 H7 n7
          have pin7 : ∀ b o, b ∈ fp → s5.heap.get? b = some o → s7.heap.get? b = some o ∧ H7 b = none := fun b o hb e => by
            obtain ⟨acc7, c7, r7, I7⟩ := G7
            have := I7.pin (b, o) (List.mem_append_right _ (List.mem_cons_of_mem _ (List.mem_append_right _ (mem_pinsAt hb e))))
            exact ⟨this.1, this.2.1⟩
          refine seg_again rfl (ih m' hm n' (i + 1) ys' s₀' s7 σ7 H7 hn' w7 (drop G7) (T.keep _ _ _ st5 fun b hb o e => (pin7 b o hb e).1) fun b hb => ?_)
          obtain ⟨o, e, _⟩ := T.obj _ _ st5 b hb
          exact (pin7 b o hb e).2
        cases f with
        | next => obtain ⟨σ7, H7, G7, n7⟩ := hs7; exact more G7 n7
        | cont => obtain ⟨σ7, H7, G7, n7⟩ := hs7; exact more G7 n7
        | brk => obtain ⟨σ7, H7, G7, q7⟩ := hs7; exact seg_leaf (.ok .next) (k.ok n' ys' s₀' s7 .next hn' ⟨σ7, H7, drop G7, q7⟩)
        | ret v => obtain ⟨v7, σ7, H7, G7, rv7, q7⟩ := hs7; exact seg_leaf (.ok (.ret v)) (k.ok n' ys' s₀' s7 (.ret v) hn' ⟨v7, σ7, H7, drop G7, rv7, q7⟩)
  exact loop m0 n 0 ys s₀ s2 σ H2 hn w0 ⟨acc, cc, r, I2⟩ st2 fun b hb => (f2 b hb).1
end
theorem gfor_it {J : It} {n : Nat} {G : Hp → Prop} {Y : Nat → Hp → V → Hp → Prop} (w : Walk J n G Y) {g : TG} {tb : TGn} {D : GEnds} {ys : List V} {σ : St} {H : Hp} (Pv : Nat → List V → St → Hp → Prop) (h0 : Pv 0 ys σ H) (hG : ∀ i ys σ H, i ≤ n → Pv i ys σ H → G H)
    (hs : ∀ i x ys σ H H', i < n → Pv i ys σ H → Y i H x H' → g x σ H' fun σ2 H2 => tb { D with nx := Pv (i + 1), ct := Pv (i + 1), bk := D.nx } ys σ2 H2) (hd : ∀ ys σ H, Pv n ys σ H → D.nx ys σ H) :
    ∃ W : Nat → Nat → List V → St → Hp → Prop, (∃ m, W 0 m ys σ H) ∧ ∀ i m ys σ H, W i m ys σ H → (J.stop i H ∧ D.nx ys σ H) ∨ (J.go i H ∧ ∃ N : List V → St → Hp → Prop, (∀ ys' σ' H', N ys' σ' H' → ∃ m', m' < m ∧ W (i + 1) m' ys' σ' H') ∧ ∀ x H', J.yld i H x H' → g x σ H' fun σ2 H2 => tb { D with nx := N, ct := N, bk := D.nx } ys σ2 H2) := by
  refine ⟨fun i m ys σ H => m = n - i ∧ i ≤ n ∧ Pv i ys σ H, ⟨n, by simp, Nat.zero_le _, h0⟩, ?_⟩
  rintro i m ys σ H ⟨rfl, hi, p⟩
  rcases Nat.lt_or_ge i n with hlt | hge
  · exact .inr ⟨w.goes i H hlt (hG i ys σ H hi p), Pv (i + 1), fun ys' σ' H' p' => ⟨n - (i + 1), by omega, rfl, hlt, p'⟩, fun x H' y => hs i x ys σ H H' hlt p (w.yields i H x H' hlt (hG i ys σ H hi p) y)⟩
  · obtain rfl : i = n := by omega
    exact .inl ⟨w.stops H (hG i ys σ H hi p), hd ys σ H p⟩
end L2

set_option Elab.async false
set_option linter.all false
set_option maxRecDepth 100000
set_option maxHeartbeats 400000
/-! which values are words -/
namespace Vld
open PySem PySem.Spec PyProof.Rows L2 Own Mth
abbrev cs (z : Str) : List Nat := z.cps.toList
theorem le_line {n : Nat} (h : n ≤ 100000) : n ≤ sizeLine := by rw [sizeLine_eq]; omega
theorem lt_line {n : Nat} (h : n ≤ 100000) : n < sizeLine := by rw [sizeLine_eq]; omega
theorem len_cs (z : Str) : z.length = (cs z).length := by
  show z.cps.size = z.cps.toList.length
  rw [Array.length_toList]
theorem tw_lt {g : Nat → Bool} : ∀ {l : List Nat}, (∃ x ∈ l, g x = false) → (l.takeWhile g).length < l.length
  | [], h => by obtain ⟨x, hx, _⟩ := h; cases hx
  | a :: l, h => by
    cases ha : g a with
    | false => rw [List.takeWhile_cons_of_neg (by rw [ha]; exact Bool.false_ne_true)]; simp
    | true =>
      rw [List.takeWhile_cons_of_pos ha, List.length_cons, List.length_cons]
      obtain ⟨x, hx, hg⟩ := h
      rcases List.mem_cons.mp hx with e | e
      · rw [e, ha] at hg; cases hg
      · have := tw_lt (l := l) ⟨x, e, hg⟩
        omega
theorem tw_at {g : Nat → Bool} : ∀ {l : List Nat} (h : (l.takeWhile g).length < l.length), g (l[(l.takeWhile g).length]'h) = false
  | [], h => by simp at h
  | a :: l, h => by
    cases ha : g a with
    | false => simp only [List.takeWhile_cons_of_neg (show ¬ g a = true by rw [ha]; exact Bool.false_ne_true), List.length_nil, List.getElem_cons_zero]; exact ha
    | true =>
      have e : (a :: l).takeWhile g = a :: l.takeWhile g := List.takeWhile_cons_of_pos ha
      have h' : (l.takeWhile g).length < l.length := by rw [e] at h; simpa using h
      have := tw_at (l := l) h'
      simp only [e, List.length_cons, List.getElem_cons_succ]
      exact this
theorem strip_some {z b : Str} (h : ¬ ∀ c ∈ cs z, c ∈ cs b) : Txt.stripChars z b ≠ (⟨#[]⟩ : Str) := by
  unfold Txt.stripChars
  rw [PySem.W.stripBy_eq]
  unfold PySem.W.stripped
  have hex : ∃ x ∈ cs z, b.cps.contains x = false := by
    rcases Classical.em (∃ x ∈ cs z, b.cps.contains x = false) with q | q
    · exact q
    · exfalso
      refine h fun c hc => ?_
      cases e : b.cps.contains c with
      | true => simpa using e
      | false => exact absurd ⟨c, hc, e⟩ q
  have l1 : ((cs z).takeWhile b.cps.contains).length < (cs z).length := tw_lt hex
  have l2 : (((cs z).drop ((cs z).takeWhile b.cps.contains).length).reverse.takeWhile b.cps.contains).length < (cs z).length - ((cs z).takeWhile b.cps.contains).length := by
    have := tw_lt (g := b.cps.contains) (l := ((cs z).drop ((cs z).takeWhile b.cps.contains).length).reverse) ⟨_, List.mem_reverse.mpr (List.mem_of_getElem? (i := 0) (by rw [List.getElem?_drop, Nat.add_zero]; exact List.getElem?_eq_getElem l1)), tw_at l1⟩
    rwa [List.length_reverse, List.length_drop] at this
  simp only [if_true]
  intro e
  have e2 : (z.cps.extract ((cs z).takeWhile b.cps.contains).length (z.length - (((cs z).drop ((cs z).takeWhile b.cps.contains).length).reverse.takeWhile b.cps.contains).length)).size = 0 := by
    have := congrArg (fun s : Str => s.cps.size) e
    exact this
  rw [Array.size_extract] at e2
  have := len_cs z
  have hz : z.cps.size = (cs z).length := this
  rw [hz] at e2
  rw [this] at e2
  omega
/-- is z a word over the letters b -/
def okS (z b : Str) : Bool := decide (z.length ≤ 400) && (cs z).all fun c => (cs b).contains c
theorem okS_iff {z b : Str} : okS z b = true ↔ z.length ≤ 400 ∧ ∀ c ∈ cs z, c ∈ cs b := by
  unfold okS
  rw [Bool.and_eq_true, decide_eq_true_iff, List.all_eq_true]
  simp
theorem strip_dec (z b : Str) : decide (V.str (Txt.stripChars z b) = V.str "") = (cs z).all fun c => (cs b).contains c := by
  rcases Classical.em (∀ c ∈ cs z, c ∈ cs b) with h | h
  · rw [strip_all h, show ((cs z).all fun c => (cs b).contains c) = true from List.all_eq_true.mpr fun c hc => by simpa using h c hc]
    exact decide_eq_true rfl
  · rw [show ((cs z).all fun c => (cs b).contains c) = false from by
      rw [Bool.eq_false_iff]
      intro e
      exact h fun c hc => by simpa using List.all_eq_true.mp e c hc]
    refine decide_eq_false fun e => strip_some h ?_
    injection e
/-- any value that a caller hands -/
inductive AnyV (K : PySem.W.Frag) (H : Hp) : V → Value → Prop where
  | str (z : Str) (h : z.length ≤ 100000) : AnyV K H (.str z) (.type "str")
  | oth {v : V} {t : Value} (ty : TyX K H v t) (no : PySem.W.kitOne K t (.type "str") = some false) (ns : ∀ z, v ≠ .str z) : AnyV K H v t
def okV (v : V) (b : Str) : Bool := match v with
  | .str z => okS z b
  | _ => false
theorem okV_oth {v : V} {b : Str} (h : ∀ z, v ≠ .str z) : okV v b = false := by
  unfold okV
  split
  · exact absurd rfl (h _)
  · rfl
theorem AnyV.same {K : PySem.W.Frag} {H H' : Hp} {v : V} {t : Value} (h : AnyV K H v t) (hs : ∀ b o, H b = some o → H' b = some o) (st : ∀ {v : V} {t : Value}, TyX K H v t → TyX K H' v t) : AnyV K H' v t := by
  cases h with
  | str z h => exact .str z h
  | oth ty no ns => exact .oth (st ty) no ns
theorem okV_str {v : V} {b : Str} (h : okV v b = true) : ∃ z, v = .str z ∧ z.length ≤ 400 ∧ ∀ c ∈ cs z, c ∈ cs b := by
  unfold okV at h
  split at h
  · exact ⟨_, rfl, okS_iff.mp h⟩
  · cases h
end Vld

set_option Elab.async false
set_option linter.all false
set_option maxRecDepth 100000
set_option maxHeartbeats 400000
/-! calls of defs that show values, of defs with a star -/
namespace Own
open PySem PySem.Spec PyProof.Rows L2
section
variable {X : Cx} {CX : CXT} {k : Nat} {f : Addr} {fd : FuncData} {ps : List Str} {sp : Sp} {E : XK} {x : Str} {p pos : Pos} {e : Expr} {es : List Expr} {t : TA}
theorem pe_callG (F : FnG X.prog X.w X.K X.mg X.base CX k f fd ps sp) (hg0 : X.A.guards = some []) (hr : Room k X.A) (hg : Gl X x) (hm : X.mg x = some (.ref f)) (hk : PySem.W.keepIn X.K (.ref f) = true) (hb : Binds X.K fd ps []) (hx : Passes CX X E) (ha : PA X (e :: es) t)
    (hdb : (x == ("__debug__" : Str)) = false := by decide) (he : starEach (e :: es) X.env = (false, eval e X.env) :: starEach es X.env := by rfl) (hpl : (backTo pos (starEach es X.env)).any (·.1) = false := by rfl) : PE X (.Call (.Name x p) (e :: es) [] pos) (fun σ H Q => t σ H fun vs H1 => sp vs H1 Q E) := by
  refine ⟨fun pins s σ H Q I h => wpAny_Call_Name_kw (ld_glob I hg hm ?_ hdb)⟩
  refine PySem.W.callWith_K (h₀ := X.base) I.ok.mod.kin hk (thn (ha.run pos pins s σ H _ I h) fun us s1 ⟨vs, H1, I1, r, q⟩ => ⟨I1.kIn, ?_⟩) he hpl
  have hl : us.length = ps.length := by rw [← r.length]; exact F.lenG _ _ _ _ q
  refine wpAny_call (codeAny_mono (F.runG X.A X.stack s1 H1 ⟨us, []⟩ us vs Q E hg0 hr I1.env0 (by have := hb s1 us I1.kIn (by rw [List.append_nil]; exact hl); rwa [List.append_nil] at this) r q) fun rr s' hq => ?_)
  match rr, hq with
  | .error er, hq => exact hx pins σ H1 s1 er s' I1 hq
  | .ok (.ret u), hq => exact I1.after hq
  | .ok .next, hq => exact False.elim hq
  | .ok .brk, hq => exact False.elim hq
  | .ok .cont, hq => exact False.elim hq
theorem pe_callFR (F : FnR X.prog X.w X.K X.mg X.base CX k f sp) (hr : Room k X.A) (hg : Gl X x) (hm : X.mg x = some (.ref f)) (hk : PySem.W.keepIn X.K (.ref f) = true) (hx : Passes CX X E) (ha : PA X (e :: es) t)
    (hdb : (x == ("__debug__" : Str)) = false := by decide) (he : starEach (e :: es) X.env = (false, eval e X.env) :: starEach es X.env := by rfl) (hpl : (backTo pos (starEach es X.env)).any (·.1) = false := by rfl) : PE X (.Call (.Name x p) (e :: es) [] pos) (fun σ H Q => t σ H fun vs H1 => sp vs H1 Q E) := by
  refine ⟨fun pins s σ H Q I h => wpAny_Call_Name_kw (ld_glob I hg hm ?_ hdb)⟩
  refine PySem.W.callWith_K (h₀ := X.base) I.ok.mod.kin hk (thn (ha.run pos pins s σ H _ I h) fun us s1 ⟨vs, H1, I1, r, q⟩ => ⟨I1.kIn, ?_⟩) he hpl
  exact wpAny_call (run_fnR F hr hx I1 r q)
end
section
variable {X : Cx}
/-- repr by the room alone -/
theorem call_reprU (hg : X.A.guards = some []) (hun : X.A.units + 200 < cLine) : CallR X (.builtin "repr") (rRepr X.K) := by
  intro pins s σ H xs us Q I rl hh
  obtain ⟨v, d, rfl, hd, hs, hn, hdep, hsz, hq⟩ := hh
  obtain ⟨u, rfl, ru⟩ := vals1 rl
  obtain ⟨as, rd⟩ := Dp.reads I d v u hd ru
  cases hd with
  | non => cases ru; exact PySem.P.repr_of_none ⟨.str _, H, I.tok _, ⟨_, rfl⟩, hq⟩
  | bl b => cases ru; exact PySem.P.repr_of_bool ⟨.str _, H, I.tok _, ⟨_, rfl⟩, hq⟩
  | int i => obtain ⟨t, rfl⟩ := ru; exact PySem.P.repr_of_int (of_decide_eq_true hs) ⟨.str _, H, I.tok _, ⟨_, rfl⟩, hq⟩
  | str x => obtain ⟨t, rfl⟩ := ru; exact PySem.P.repr_of_str ⟨.str _, H, I.tok _, ⟨_, rfl⟩, hq⟩ hsz
  | lst h1 h2 => cases ru; exact repr_of_reads' rd hs (PyData.noDict_hsm hn) hg (by omega) (fun _ _ e => e) (fun h' u tk hk => ⟨.str _, H, I.kept hk, ⟨_, rfl⟩, hq⟩) hsz
  | tup h1 h2 => cases ru; exact repr_of_reads' rd hs (PyData.noDict_hsm hn) hg (by omega) (fun _ _ e => e) (fun h' u tk hk => ⟨.str _, H, I.kept hk, ⟨_, rfl⟩, hq⟩) hsz
def rReprR (K : PySem.W.Frag) : List V → Hp → VK → Prop := fun xs H Q => rRepr K xs H Q ∨ ∃ p, xs = [.ref p] ∧ H p = some (.dK []) ∧ Q (.str "{}") H
theorem kv_nil {vs : List (Key × Value)} (h : KV ([] : List (Key × V)) vs) : vs = [] := by cases h; rfl
theorem pairs_nil {P : Program} {w : World} {es : List DictEntry} (h : Pairs (mixKind P w) es []) : es = [] := by cases h; rfl
theorem call_reprRU (hg : X.A.guards = some []) (hun : X.A.units + 200 < cLine) : CallR X (.builtin "repr") (rReprR X.K) := by
  intro pins s σ H xs us Q I rl hh
  rcases hh with hh | ⟨p, rfl, hp, hq⟩
  · exact call_reprU hg hun pins s σ H xs us Q I rl hh
  · obtain ⟨u, rfl, ru⟩ := vals1 rl
    cases ru
    obtain ⟨_, hne, vs, kv, o, es, ep, ho, hex, hd, _, hps, _⟩ := (show ObjOk X.prog X.w H s.heap p (.dK []) from I.hok p _ hp)
    have e1 := kv_nil kv
    subst e1
    have e2 := pairs_nil hps
    have rd : Reads s.heap (.ref p) (.dict []) (p :: [] ++ []) := .dict ho hex.1 hd (by rw [e2]; exact .nil) (by rw [e2]; exact .nil)
    have hdp : (PyData.dict []).depth ≤ 5 := by decide +kernel
    refine repr_of_reads' rd (by decide +kernel) (fun _ hm => ?_) hg (by omega) (fun _ _ e => e) (fun h' u tk hk => ⟨.str _, H, I.kept hk, ⟨_, rfl⟩, hq⟩) (Vld.le_line (by decide +kernel))
    have : sysModules = p := by simpa using hm
    rw [this] at hne
    simp at hne
theorem call_reprR {k : Nat} (hg : X.A.guards = some []) (hr : Room k X.A) : CallR X (.builtin "repr") (rReprR X.K) := call_reprRU hg (by have := hr.un; omega)
end
theorem op_mulS {X : Cx} : OpR X (binaryOp .Mult) (fun x y H Q => ∃ z k, x = .str z ∧ y = .int k ∧ MulOk z k ∧ Q (.str (Txt.mul z k)) H) := by
  intro pins s σ H x y v u Q I rx ry h
  obtain ⟨z, k, rfl, rfl, hok, q⟩ := h
  obtain ⟨t, rfl⟩ := rx
  obtain ⟨t', rfl⟩ := ry
  exact SB.mul hok fun t' tk => ⟨.str (Txt.mul z k), H, I.tok _, ⟨_, rfl⟩, q⟩
end Own

set_option Elab.async false
set_option linter.all false
set_option maxRecDepth 100000
set_option maxHeartbeats 4000000
/-! what needs no text of a program -/
namespace Gn
open PySem PySem.Spec PyProof.Rows L2 Own Exn Mth Vld
theorem same_new {H : Hp} {p : Addr} {o : HO} (h : H p = none) : Same H (upd H p o) := fun b x e => by
  rw [upd_ne (ne_of_none e h)]
  exact e
theorem same_put {H H1 : Hp} {p : Addr} {o : HO} (s : Same H H1) (h : H p = none) : Same H (upd H1 p o) := fun b x e => by
  rw [upd_ne (ne_of_none e h)]
  exact s b x e
abbrev iV (l : List Nat) : List V := l.map fun j => V.int (j : Nat)
theorem iV_snoc (l : List Nat) (k : Nat) : iV (l ++ [k]) = iV l ++ [V.int (k : Nat)] := List.map_append
theorem iV_len (l : List Nat) : (iV l).length = l.length := List.length_map _
theorem getD_cs {z : Str} {v : Nat} (h : v < z.length) : (cs z)[v]? = some (z.cps.getD v 0) := by
  have h' : v < z.cps.size := h
  show z.cps.toList[v]? = _
  rw [Array.getElem?_toList, Array.getElem?_eq_getElem h', Array.getD, dif_pos h']
  rfl
abbrev sg (c : Nat) : Str := ⟨#[c]⟩
abbrev sV (l : List Nat) : List V := l.map fun c => V.str ⟨#[c]⟩
theorem sV_eq (l : List Nat) : sV l = (l.map sg).map V.str := by rw [List.map_map]; rfl
theorem sV_snoc (l : List Nat) (k : Nat) : sV (l ++ [k]) = sV l ++ [V.str ⟨#[k]⟩] := List.map_append
theorem sV_len (l : List Nat) : (sV l).length = l.length := List.length_map _
theorem join_signs : ∀ l : List Nat, cs (Txt.join "" (l.map sg)) = l := by
  intro l
  have : ∀ l : List Nat, cs (Str.join "" (l.map sg)) = l := by
    intro l
    induction l with
    | nil => rfl
    | cons a l ih =>
      cases l with
      | nil => rfl
      | cons b l =>
        show (sg a ++ "" ++ Str.join "" ((b :: l).map sg)).cps.toList = a :: b :: l
        have e : ∀ x y : Str, (x ++ y).cps.toList = x.cps.toList ++ y.cps.toList := fun x y => Array.toList_append
        rw [e, e]
        show ([a] ++ []) ++ cs (Str.join "" ((b :: l).map sg)) = _
        rw [ih]
        rfl
  show cs (Builtin.Str.glued "" (l.map sg)) = l
  rw [PySem.StrLaws.glued_eq_join]
  exact this l
theorem sum_ones : ∀ l : List Nat, ((l.map sg).map (·.length)).sum = l.length
  | [] => rfl
  | a :: l => by
    rw [List.map_cons, List.map_cons, List.sum_cons, sum_ones l, List.length_cons]
    show 1 + l.length = l.length + 1
    omega
def lowC (c : Nat) : Nat := if c < 97 then c + 32 else c
theorem letters : ∀ c ∈ cs "abcdefghABCDEFGH", Txt.isupper (sg c) = decide (c < 97) ∧ Txt.islower (sg c) = decide (97 ≤ c) ∧ Txt.lower (sg c) = sg (lowC c) := by decide +kernel
def tkS (l : List Nat) : List Nat := (l.filter fun c => decide (c < 97)).map lowC
def puS (l : List Nat) : List Nat := l.filter fun c => decide (97 ≤ c)
def pcS : Nat → List Nat → List Nat
  | _, [] => []
  | n, c :: l => if 97 ≤ c then pcS (n + 1) l else n :: pcS n l
theorem pcS_nil (n : Nat) : pcS n [] = [] := rfl
theorem pcS_cons (n c : Nat) (l : List Nat) : pcS n (c :: l) = if 97 ≤ c then pcS (n + 1) l else n :: pcS n l := rfl
theorem tkS_snoc (l : List Nat) (c : Nat) : tkS (l ++ [c]) = tkS l ++ (if c < 97 then [lowC c] else []) := by
  unfold tkS
  rw [List.filter_append, List.map_append]
  by_cases h : c < 97
  · simp [h]
  · simp [h]
theorem puS_snoc (l : List Nat) (c : Nat) : puS (l ++ [c]) = puS l ++ (if 97 ≤ c then [c] else []) := by
  unfold puS
  rw [List.filter_append]
  by_cases h : 97 ≤ c
  · simp [h]
  · simp [h]
theorem take_snoc {p : Str} {i c : Nat} (hi : i < p.length) (hc : p.cps[i]? = some c) : (cs p).take (i + 1) = (cs p).take i ++ [c] ∧ c ∈ cs p := by
  have h : (cs p)[i]? = some c := by
    show p.cps.toList[i]? = some c
    rw [Array.getElem?_toList]
    exact hc
  exact ⟨by rw [List.take_add_one, h]; rfl, List.mem_of_getElem? h⟩
theorem str_cs {x : Str} {l : List Nat} (h : cs x = l) : x = ⟨l.toArray⟩ := by
  cases x
  subst h
  rfl
theorem all_strs {b : Str} : ∀ xs : List V, (∀ x ∈ xs, okV x b = true) → ∃ zs : List Str, xs = zs.map V.str ∧ ∀ z ∈ zs, okS z b = true
  | [], _ => ⟨[], rfl, fun z hz => by cases hz⟩
  | x :: xs, h => by
    obtain ⟨zs, e, hz⟩ := all_strs xs fun y hy => h y (List.mem_cons_of_mem _ hy)
    have hx := h x (List.mem_cons_self ..)
    obtain ⟨z, rfl, _⟩ := okV_str hx
    refine ⟨z :: zs, by rw [e]; rfl, fun y hy => ?_⟩
    rcases List.mem_cons.mp hy with r | r
    · rw [r]; exact hx
    · exact hz y r
theorem sum_le : ∀ zs : List Str, (∀ z ∈ zs, z.length ≤ 400) → (zs.map (·.length)).sum ≤ 400 * zs.length
  | [], _ => by simp
  | z :: zs, h => by
    have h1 := h z (List.mem_cons_self ..)
    have h2 := sum_le zs fun y hy => h y (List.mem_cons_of_mem _ hy)
    rw [List.map_cons, List.sum_cons, List.length_cons]
    omega
theorem join_len (zs : List Str) : (Txt.join "" zs).length = (zs.map (·.length)).sum := by
  have core : ∀ zs : List Str, (Str.join "" zs).length = (zs.map (·.length)).sum := by
    intro zs
    induction zs with
    | nil => rfl
    | cons z zs ih =>
      cases zs with
      | nil => show z.length = z.length + 0; omega
      | cons y zs =>
        show (z ++ "" ++ Str.join "" (y :: zs)).cps.size = _
        have e : ∀ x y : Str, (x ++ y).cps.size = x.cps.size + y.cps.size := fun x y => Array.size_append
        rw [e, e, List.map_cons, List.sum_cons, ← ih]
        show z.cps.size + 0 + _ = z.cps.size + _
        rfl
  show (Builtin.Str.glued "" zs).length = _
  rw [PySem.StrLaws.glued_eq_join]
  exact core zs
def Pool (H : Hp) (p : Addr) : Prop := ∃ n m : Int, H p = some (.lst [.int n, .int m]) ∧ 0 ≤ n ∧ 0 ≤ m ∧ m < 2147483647
theorem cut_int (ns : List Int) (lo hi : Option Int) : ∃ l : List Int, cutV (ns.map V.int) lo hi = l.map V.int := by
  unfold cutV
  exact ⟨_, by rw [← List.map_drop, ← List.map_take]⟩
def But (p : Addr) (H H' : Hp) : Prop := ∀ b o, b ≠ p → H b = some o → H' b = some o
theorem But.trans {p : Addr} {H H1 H2 : Hp} (x : But p H H1) (y : But p H1 H2) : But p H H2 := fun b o n e => y b o n (x b o n e)
theorem But.refl {p : Addr} {H : Hp} : But p H H := fun _ _ _ e => e
theorem But.put {p : Addr} {H H1 : Hp} {o : HO} (x : But p H H1) : But p H (upd H1 p o) := fun b u n e => by rw [upd_ne n]; exact x b u n e
theorem But.new {p q : Addr} {H H1 : Hp} {o : HO} (x : But p H H1) (h : H q = none) : But p H (upd H1 q o) := fun b u n e => by
  rw [upd_ne (ne_of_none e h)]
  exact x b u n e
theorem But.same {p : Addr} {H H1 H2 : Hp} (s : Same H H1) (hp : H p = none) (x : But p H1 H2) : Same H H2 := fun b o e => x b o (ne_of_none e hp) (s b o e)
theorem cut_take {z : Str} (k : Nat) : cs (cutS z none (some (0 + (k : Nat)))) = (cs z).take k := by
  show (((cs z).drop (HT.sIx z.length 0 none)).take (HT.sIx z.length z.length (some (0 + (k : Nat))) - HT.sIx z.length 0 none)).toArray.toList = _
  rw [HT.sIx_none, show ((0 : Int) + (k : Nat)) = ((k : Nat) : Int) by omega, HT.sIx_nat, List.drop_zero, Nat.sub_zero]
  show (cs z).take (min k z.length) = _
  rw [len_cs, ← List.take_take, List.take_length]
theorem dp_signs {K : PySem.W.Frag} {H : Hp} : ∀ l : List Nat, DpAll K H (sV l) (l.map fun c => PyData.str ⟨#[c]⟩)
  | [] => .nil
  | a :: l => .cons (.str _) (dp_signs l)
theorem item16 {d k : Int} (h0 : 0 ≤ d) (h1 : d < 2 * k) (hk : k ≤ 8) : ∃ c, atI (cs (cutS "aAbBcCdDeEfFgGhH" none (some (2 * k)))) d = some c ∧ c ∈ cs "aAbBcCdDeEfFgGhH" := by
  obtain ⟨n, rfl⟩ : ∃ n : Nat, d = n := ⟨d.toNat, by omega⟩
  obtain ⟨j, hj⟩ : ∃ j : Nat, 2 * k = 0 + (j : Nat) := ⟨(2 * k).toNat, by omega⟩
  rw [hj, cut_take]
  have h16 : (cs "aAbBcCdDeEfFgGhH").length = 16 := by decide +kernel
  have hn : n < (cs "aAbBcCdDeEfFgGhH").length := by omega
  refine ⟨(cs "aAbBcCdDeEfFgGhH")[n], atI_nat ?_, List.getElem_mem hn⟩
  rw [List.getElem?_take_of_lt (by omega)]
  exact List.getElem?_eq_getElem hn
theorem cut_len {z : Str} {k : Int} (h : 0 ≤ k) : (cutS z none (some k)).length ≤ z.length := by
  obtain ⟨j, hj⟩ : ∃ j : Nat, k = 0 + (j : Nat) := ⟨k.toNat, by omega⟩
  rw [hj, len_cs, cut_take, List.length_take, len_cs]
  omega
abbrev abc : List Nat := cs "abcdefghABCDEFGHizI -1\n"
theorem quote2 (x : Str) : reprQuote x = 39 ∨ reprQuote x = 34 := by
  unfold reprQuote
  split
  · exact .inr rfl
  · exact .inl rfl
theorem rc_ok : ∀ q ∈ [39, 34], ∀ c ∈ abc, ∀ d ∈ Builtin.Str.reprChar q c, d < 1114112 := by decide +kernel
theorem fold_ok (q : Nat) (hq : q ∈ [39, 34]) : ∀ (l : List Nat) (acc : Array Nat), (∀ c ∈ l, c ∈ abc) → (∀ d ∈ acc.toList, d < 1114112) → ∀ d ∈ (l.foldl (fun out c => out ++ (Builtin.Str.reprChar q c).toArray) acc).toList, d < 1114112
  | [], acc, _, ha => ha
  | c :: l, acc, hl, ha => by
    rw [List.foldl_cons]
    refine fold_ok q hq l _ (fun x hx => hl x (List.mem_cons_of_mem _ hx)) fun d hd => ?_
    rw [Array.toList_append] at hd
    rcases List.mem_append.mp hd with h | h
    · exact ha d h
    · exact rc_ok q hq c (hl c (List.mem_cons_self ..)) d (by simpa using h)
theorem repr_ok {x : Str} (h : ∀ c ∈ cs x, c ∈ abc) : PyData.strOk (reprText x) = true := by
  have hq : reprQuote x ∈ [39, 34] := by rcases quote2 x with e | e <;> rw [e] <;> simp
  have hq' : reprQuote x < 1114112 := by rcases quote2 x with e | e <;> rw [e] <;> decide
  unfold PyData.strOk reprText
  rw [← Array.foldl_toList, Array.all_push, Bool.and_eq_true]
  refine ⟨?_, decide_eq_true hq'⟩
  rw [← Array.all_toList, List.all_eq_true]
  intro d hd
  have base : ∀ d ∈ (#[reprQuote x] : Array Nat).toList, d < 1114112 := by
    intro d hd
    have : d = reprQuote x := by simpa using hd
    rw [this]
    exact hq'
  exact decide_eq_true (fold_ok _ hq x.cps.toList #[reprQuote x] h base d hd)
theorem abc_lt : ∀ c ∈ abc, c < 1114112 := by decide +kernel
structure Vv (K : PySem.W.Frag) (H : Hp) (v : V) (z : Str) : Prop where
  any : ∃ t, ∀ H', Same H H' → AnyV K H' v t
  cp : ∀ x, v = .str x → ∀ c ∈ cs x, c < 1114112
  rep : ∀ H', Same H H' → ∀ Q : VK, Q (.str z) H' → rReprR K [v] H' Q
  zok : PyData.strOk z = true
theorem Vv.same {K : PySem.W.Frag} {H H' : Hp} {v : V} {z : Str} (h : Vv K H v z) (s : Same H H') : Vv K H' v z := by
  obtain ⟨⟨t, h1⟩, h2, h3, h4⟩ := h
  exact ⟨⟨t, fun H'' s' => h1 H'' (s.trans s')⟩, h2, fun H'' s' => h3 H'' (s.trans s'), h4⟩
theorem vv_str {K : PySem.W.Frag} {H : Hp} {x : Str} (hl : x.length ≤ 1000) (hc : ∀ c ∈ cs x, c ∈ abc) : Vv K H (.str x) (reprText x) := by
  refine ⟨⟨_, fun H' _ => .str x (by omega)⟩, fun y e c h => ?_, fun H' _ Q q => .inl ⟨_, .str x, rfl, .str x, rfl, rfl, (show 0 ≤ 60 by decide), ?_, q⟩, repr_ok hc⟩
  · cases e
    exact abc_lt c (hc c h)
  · have := PySem.StrLaws.reprText_len x fun c h => Nat.lt_of_lt_of_le (abc_lt c (hc c h)) (by decide)
    exact le_line (by show (reprText x).length ≤ 100000; omega)
theorem vv_flat {K : PySem.W.Frag} {H : Hp} {v : V} {t : Value} {d : PyData} (ty : ∀ H', Same H H' → TyX K H' v t) (no : PySem.W.kitOne K t (.type "str") = some false) (ns : ∀ z, v ≠ .str z) (dp : ∀ H', Same H H' → Dp K H' v d) (a1 : d.showable = true) (a2 : d.hasDict = false) (a3 : d.depth ≤ 60) (a4 : d.shown.length ≤ 100000)
    (a5 : PyData.strOk d.shown = true) : Vv K H v d.shown := ⟨⟨t, fun H' s => .oth (ty H' s) no ns⟩, fun x e => absurd e (ns x), fun H' s Q q => .inl ⟨v, d, rfl, dp H' s, a1, a2, a3, le_line a4, q⟩, a5⟩
theorem vv_dict {K : PySem.W.Frag} {H : Hp} {p : Addr} (hp : H p = some (.dK [])) : Vv K H (.ref p) "{}" :=
  ⟨⟨.type "dict", fun H' s => .oth (.base (.dK (s _ _ hp))) (kit_ty (by decide +kernel)) (fun z h => nomatch h)⟩, (fun x e => nomatch e), fun H' s Q q => .inr ⟨p, rfl, s _ _ hp, q⟩, by decide +kernel⟩
theorem vv_lst {K : PySem.W.Frag} {H : Hp} {p : Addr} (hp : H p = some (.lst [.str "a"])) : Vv K H (.ref p) (PyData.shown (.list [.str "a"])) :=
  vv_flat (t := .type "list") (fun H' s => .base (.lst (s _ _ hp))) (kit_ty (by decide +kernel)) (fun z h => nomatch h) (fun H' s => .lst (SqL.of (s _ _ hp)) (.cons (.str _) .nil)) (by decide +kernel) (by decide +kernel) (by decide +kernel) (by decide +kernel) (by decide +kernel)
theorem vv_tup {K : PySem.W.Frag} {H : Hp} {p : Addr} (hp : H p = some (.tup [.str "a"])) : Vv K H (.ref p) (PyData.shown (.tuple [.str "a"])) :=
  vv_flat (t := .type "tuple") (fun H' s => .base (.tup (s _ _ hp))) (kit_ty (by decide +kernel)) (fun z h => nomatch h) (fun H' s => .tup (SqT.of (s _ _ hp)) (.cons (.str _) .nil)) (by decide +kernel) (by decide +kernel) (by decide +kernel) (by decide +kernel) (by decide +kernel)
theorem vv_non {K : PySem.W.Frag} {H : Hp} : Vv K H .non (PyData.shown .none) :=
  vv_flat (t := .type "NoneType") (fun H' s => .base .non) (kit_ty (by decide +kernel)) (fun z h => nomatch h) (fun H' s => .non) (by decide +kernel) (by decide +kernel) (by decide +kernel) (by decide +kernel) (by decide +kernel)
theorem vv_zero {K : PySem.W.Frag} {H : Hp} : Vv K H (.int 0) (PyData.shown (.int 0)) :=
  vv_flat (t := .type "int") (fun H' s => .base (.int 0)) (kit_ty (by decide +kernel)) (fun z h => nomatch h) (fun H' s => .int 0) (by decide +kernel) (by decide +kernel) (by decide +kernel) (by decide +kernel) (by decide +kernel)
theorem vv_true {K : PySem.W.Frag} {H : Hp} : Vv K H (.bl true) (PyData.shown (.bool true)) :=
  vv_flat (t := .type "bool") (fun H' s => .base (.bl true)) (kit_ty (by decide +kernel)) (fun z h => nomatch h) (fun H' s => .bl true) (by decide +kernel) (by decide +kernel) (by decide +kernel) (by decide +kernel) (by decide +kernel)
theorem cut_mem {z : Str} {lo hi : Option Int} {c : Nat} (h : c ∈ cs (cutS z lo hi)) : c ∈ cs z := by
  have h' : c ∈ ((((cs z).drop (HT.sIx z.length 0 lo)).take (HT.sIx z.length z.length hi - HT.sIx z.length 0 lo)).toArray.toList) := h
  rw [List.toList_toArray] at h'
  exact List.mem_of_mem_drop (List.mem_of_mem_take h')
theorem cut_le (z : Str) (lo hi : Option Int) : (cutS z lo hi).length ≤ z.length := by
  rw [len_cs, len_cs z]
  show (((cs z).drop (HT.sIx z.length 0 lo)).take (HT.sIx z.length z.length hi - HT.sIx z.length 0 lo)).toArray.toList.length ≤ _
  rw [List.toList_toArray, List.length_take, List.length_drop]
  omega
theorem cs_app (x y : Str) : cs (x ++ y) = cs x ++ cs y := Array.toList_append
theorem len_app (x y : Str) : (x ++ y).length = x.length + y.length := Array.size_append
theorem lt_of_get {α : Type} {xs : List α} {n i : Nat} (hl : xs.length = n) (hi : i < n) : ∃ r, xs[i]? = some r := ⟨xs[i]'(by omega), List.getElem?_eq_getElem (by omega)⟩
theorem let16 : ∀ c ∈ cs "aAbBcCdDeEfFgGhH", c ∈ abc ∧ c ∈ cs "abcdefghABCDEFGH" := by decide +kernel
theorem let128 : ∀ c ∈ cs "abcdefghABCDEFGH", c < 128 ∧ lo1 c ∈ abc := by decide +kernel
theorem low_ok {z : Str} (hl : z.length ≤ 30) (h : ∀ c ∈ cs z, c ∈ cs "abcdefghABCDEFGH") : (Txt.lower z).length ≤ 90 ∧ ∀ c ∈ cs (Txt.lower z), c ∈ abc := by
  have h128 : ∀ c ∈ z.cps.toList, c < 128 := fun c hc => (let128 c (h c hc)).1
  rw [lower_ascii h128]
  refine ⟨?_, fun c hc => ?_⟩
  · show (z.cps.map lo1).size ≤ 90
    rw [Array.size_map]
    have : z.cps.size ≤ 30 := hl
    omega
  · have hc' : c ∈ (z.cps.map lo1).toList := hc
    rw [Array.toList_map] at hc'
    obtain ⟨b, hb, rfl⟩ := List.mem_map.mp hc'
    exact (let128 b (h b hb)).2
theorem mulOk1 {z : Str} {k : Int} (h1 : z.length = 1) (h2 : 1 ≤ k) (h3 : k ≤ 1000) : MulOk z k := by
  refine ⟨by rw [decide_eq_false (by omega), decide_eq_false (by omega)]; rfl, fun _ _ => ?_, fun _ _ => ?_⟩
  · rw [h1]
    have : (1 : Int) ≤ (2 ^ 63 - 1) / k := by
      rw [Int.le_ediv_iff_mul_le (by omega)]
      omega
    omega
  · rw [h1, Nat.one_mul]
    unfold Builtin.Str.tooLong
    exact decide_eq_false (by have := le_line (n := k.toNat) (by omega); omega)
theorem lk1 {f : Str} {v : V} : List.lookup f [(f, v)] = some v := by simp [List.lookup]
end Gn

set_option Elab.async false
set_option linter.all false
set_option maxRecDepth 100000
set_option maxHeartbeats 4000000
/-! texts as lists of signs -/
namespace Gn
open PySem PySem.Spec PyProof.Rows L2 Own Exn Mth Vld
abbrev mk (l : List Nat) : Str := ⟨l.toArray⟩
theorem cs_mk (l : List Nat) : cs (mk l) = l := List.toList_toArray
theorem mk_cs (z : Str) : mk (cs z) = z := (str_cs rfl).symm
theorem len_mk (l : List Nat) : (mk l).length = l.length := List.size_toArray
theorem app_mk (l m : List Nat) : (mk l) ++ (mk m) = mk (l ++ m) := by
  have h : cs (mk l ++ mk m) = l ++ m := by rw [cs_app, cs_mk, cs_mk]
  exact str_cs h
theorem sg_mk (c : Nat) : (⟨#[c]⟩ : Str) = mk [c] := rfl
theorem app_sg (l : List Nat) (c : Nat) : (mk l) ++ (sg c) = mk (l ++ [c]) := app_mk l [c]
theorem cut_from (l : List Nat) (k : Nat) : cutS (mk l) (some (k : Int)) none = mk (l.drop k) := by
  refine str_cs ?_
  show (((cs (mk l)).drop (HT.sIx (mk l).length 0 (some (k : Int)))).take (HT.sIx (mk l).length (mk l).length none - HT.sIx (mk l).length 0 (some (k : Int)))).toArray.toList = _
  rw [HT.sIx_none, HT.sIx_nat, List.toList_toArray, cs_mk, len_mk]
  rcases Nat.le_total k l.length with h | h
  · rw [Nat.min_eq_left h, List.take_of_length_le (by rw [List.length_drop]; exact Nat.le_refl _)]
  · rw [Nat.min_eq_right h, Nat.sub_self, List.take_zero, List.drop_of_length_le h]
theorem cut_to (l : List Nat) (k : Nat) : cutS (mk l) none (some (k : Int)) = mk (l.take k) := by
  refine str_cs ?_
  have := cut_take (z := mk l) k
  rw [show ((0 : Int) + (k : Nat)) = ((k : Nat) : Int) by omega] at this
  rw [this, cs_mk]
/-- the place of the first c -/
def fst? (c : Nat) : List Nat → Option Nat
  | [] => none
  | x :: l => if x = c then some 0 else (fst? c l).map (· + 1)
theorem fst_none {c : Nat} : ∀ {l : List Nat}, (∀ v, v < l.length → l[v]? ≠ some c) → fst? c l = none
  | [], _ => rfl
  | x :: l, h => by
    have h0 := h 0 (by simp)
    have : x ≠ c := fun e => h0 (by rw [e]; rfl)
    unfold fst?
    rw [if_neg this, fst_none (l := l) fun v hv => by have := h (v + 1) (by simpa using hv); simpa using this]
    rfl
theorem fst_some {c : Nat} : ∀ {l : List Nat} {k : Nat}, l[k]? = some c → (∀ v, v < k → l[v]? ≠ some c) → fst? c l = some k
  | [], k, h, _ => by simp at h
  | x :: l, 0, h, _ => by
    have : x = c := by simpa using h
    unfold fst?
    rw [if_pos this]
  | x :: l, k + 1, h, hn => by
    have h0 := hn 0 (by omega)
    have : x ≠ c := fun e => h0 (by rw [e]; rfl)
    unfold fst?
    rw [if_neg this, fst_some (l := l) (k := k) (by simpa using h) fun v hv => by have := hn (v + 1) (by omega); simpa using this]
    rfl
theorem fst_lt {c : Nat} : ∀ {l : List Nat} {k : Nat}, fst? c l = some k → k < l.length ∧ l[k]? = some c ∧ ∀ v, v < k → l[v]? ≠ some c
  | [], k, h => by simp [fst?] at h
  | x :: l, k, h => by
    unfold fst? at h
    by_cases e : x = c
    · rw [if_pos e] at h
      cases h
      exact ⟨by simp, by rw [e]; rfl, fun v hv => absurd hv (Nat.not_lt_zero _)⟩
    · rw [if_neg e] at h
      cases q : fst? c l with
      | none => rw [q] at h; cases h
      | some j =>
        rw [q] at h
        have h' : j + 1 = k := Option.some.inj h
        subst h'
        obtain ⟨h1, h2, h3⟩ := fst_lt q
        refine ⟨by rw [List.length_cons]; omega, by simpa using h2, fun v hv => ?_⟩
        cases v with
        | zero => simpa using e
        | succ v => have := h3 v (by omega); simpa using this
theorem fst_mem {c : Nat} : ∀ {l : List Nat}, fst? c l = none ↔ c ∉ l
  | [] => by simp [fst?]
  | x :: l => by
    unfold fst?
    by_cases e : x = c
    · rw [if_pos e]; simp [e]
    · rw [if_neg e]
      have := fst_mem (c := c) (l := l)
      simp only [Option.map_eq_none_iff, List.mem_cons, not_or]
      rw [this]
      exact ⟨fun h => ⟨fun q => e q.symm, h⟩, fun h => h.2⟩
def told (o : Option Nat) : Int := match o with
  | some k => (k : Nat)
  | none => -1
theorem find_mk (l : List Nat) (c : Nat) : Txt.find (mk l) ⟨#[c]⟩ = told (fst? c l) := by
  have e : Txt.find (mk l) ⟨#[c]⟩ = Txt.find3 (mk l) ⟨#[c]⟩ 0 := by
    unfold Txt.find Txt.find3
    rw [show fromIndex (mk l).length 0 = 0 from by unfold fromIndex; rw [if_neg (by omega)]; omega]
    rfl
  rw [e]
  have hfi : fromIndex (mk l).length (0 : Int) = 0 := by unfold fromIndex; rw [if_neg (by omega)]; omega
  rcases PySem.StrLaws.find3_spec (mk l) c 0 with ⟨hf, hn⟩ | ⟨k, hf, h1, h2, h3, h4⟩
  · rw [hf, fst_none fun v hv q => ?_]
    · rfl
    · rw [hfi] at hn
      have hv' : v < (mk l).length := by rw [len_mk]; exact hv
      have := getD_cs hv'
      rw [cs_mk, q] at this
      exact hn v (Nat.zero_le _) hv' (Option.some.inj this).symm
  · rw [hf, fst_some (k := k) (by have := getD_cs h2; rw [cs_mk] at this; rw [this, h3]) fun v hv q => ?_]
    · rfl
    · rw [hfi] at h4
      have hv' : v < (mk l).length := by omega
      have := getD_cs hv'
      rw [cs_mk, q] at this
      exact h4 v (Nat.zero_le _) hv (Option.some.inj this).symm
theorem index_mk (l : List Nat) (c : Nat) : Txt.index0 (mk l) ⟨#[c]⟩ = fst? c l := by
  have h := find_mk l c
  unfold Txt.find at h
  unfold Txt.index0
  cases e : Builtin.Str.occurrences (mk l) ⟨#[c]⟩ 0 (mk l).length 1 with
  | nil =>
    rw [e] at h
    cases q : fst? c l with
    | none => rfl
    | some k => rw [q] at h; have h' : (-1 : Int) = (k : Nat) := h; omega
  | cons i r =>
    rw [e] at h
    cases q : fst? c l with
    | none => rw [q] at h; have h' : ((i : Nat) : Int) = -1 := h; omega
    | some k =>
      rw [q] at h
      have h' : ((i : Nat) : Int) = (k : Nat) := h
      have : i = k := by omega
      rw [this]
      rfl
/-- the best result, step by step -/
def bst : List Nat → List Nat → Option (List Nat)
  | [], z => some z
  | c :: p, z => if 97 ≤ c then bst p (z ++ [c]) else match fst? (c + 32) z with
    | none => none
    | some k => bst p (z.drop (k + 1))
theorem bst_nil (z : List Nat) : bst [] z = some z := rfl
theorem bst_put {c : Nat} (h : 97 ≤ c) (p z : List Nat) : bst (c :: p) z = bst p (z ++ [c]) := by
  show (if 97 ≤ c then _ else _) = _
  rw [if_pos h]
theorem bst_take {c k : Nat} {z : List Nat} (h : ¬ 97 ≤ c) (e : fst? (c + 32) z = some k) (p : List Nat) : bst (c :: p) z = bst p (z.drop (k + 1)) := by
  show (if 97 ≤ c then _ else _) = _
  rw [if_neg h, e]
theorem bst_fail {c : Nat} {z : List Nat} (h : ¬ 97 ≤ c) (e : fst? (c + 32) z = none) (p : List Nat) : bst (c :: p) z = none := by
  show (if 97 ≤ c then _ else _) = _
  rw [if_neg h, e]
theorem drop_cons {l : List Nat} {i c : Nat} (h : l[i]? = some c) : l.drop i = c :: l.drop (i + 1) := by
  have hl : i < l.length := by
    rcases Nat.lt_or_ge i l.length with q | q
    · exact q
    · rw [List.getElem?_eq_none q] at h; cases h
  rw [List.drop_eq_getElem_cons hl]
  rw [List.getElem?_eq_getElem hl] at h
  rw [Option.some.inj h]
abbrev lo8 : List Nat := cs "abcdefgh"
abbrev st16 : List Nat := cs "abcdefghABCDEFGH"
theorem mem_lo8 : ∀ c, c ∈ lo8 ↔ 97 ≤ c ∧ c ≤ 104 := by
  intro c
  have e : lo8 = [97, 98, 99, 100, 101, 102, 103, 104] := by decide +kernel
  rw [e]
  simp only [List.mem_cons, List.not_mem_nil, or_false]
  omega
theorem mem_st16 : ∀ c, c ∈ st16 ↔ (97 ≤ c ∧ c ≤ 104) ∨ (65 ≤ c ∧ c ≤ 72) := by
  intro c
  have e : st16 = [97, 98, 99, 100, 101, 102, 103, 104, 65, 66, 67, 68, 69, 70, 71, 72] := by decide +kernel
  rw [e]
  simp only [List.mem_cons, List.not_mem_nil, or_false]
  omega
theorem bst_len : ∀ (p z r : List Nat), bst p z = some r → r.length ≤ z.length + p.length
  | [], z, r, h => by cases h; simp
  | c :: p, z, r, h => by
    by_cases hc : 97 ≤ c
    · rw [bst_put hc] at h
      have := bst_len p _ r h
      simp only [List.length_append, List.length_cons, List.length_nil] at this ⊢
      omega
    · cases e : fst? (c + 32) z with
      | none => rw [bst_fail hc e] at h; cases h
      | some k =>
        rw [bst_take hc e] at h
        have := bst_len p _ r h
        rw [List.length_drop] at this
        rw [List.length_cons]
        omega
theorem bst_mem : ∀ (p z r : List Nat), (∀ c ∈ p, c ∈ st16) → (∀ c ∈ z, c ∈ lo8) → bst p z = some r → ∀ c ∈ r, c ∈ lo8
  | [], z, r, _, hz, h => by cases h; exact hz
  | c :: p, z, r, hp, hz, h => by
    have hc16 := hp c (List.mem_cons_self ..)
    have hp' : ∀ c ∈ p, c ∈ st16 := fun x hx => hp x (List.mem_cons_of_mem _ hx)
    by_cases hc : 97 ≤ c
    · rw [bst_put hc] at h
      refine bst_mem p _ r hp' (fun x hx => ?_) h
      rcases List.mem_append.mp hx with q | q
      · exact hz x q
      · rw [List.mem_singleton.mp q, mem_lo8]
        rw [mem_st16] at hc16
        omega
    · cases e : fst? (c + 32) z with
      | none => rw [bst_fail hc e] at h; cases h
      | some k =>
        rw [bst_take hc e] at h
        exact bst_mem p _ r hp' (fun x hx => hz x (List.mem_of_mem_drop hx)) h
theorem app_tail {l : List Nat} {i c : Nat} (h : l[i]? = some c) : l.take (i + 1) = l.take i ++ [c] := by rw [List.take_add_one, h]; rfl
theorem str_at {p : Str} {i c : Nat} (hc : p.cps[i]? = some c) : (cs p)[i]? = some c := by
  show p.cps.toList[i]? = some c
  rw [Array.getElem?_toList]
  exact hc
end Gn

set_option Elab.async false
set_option linter.all false
set_option maxRecDepth 100000
set_option maxHeartbeats 4000000
/-! results -/
namespace Gn
open PySem PySem.Spec PyProof.Rows L2 Own Exn Mth Vld
/-- how many are lost before each step -/
def cnt : List Nat → List Nat → List Nat
  | [], _ => []
  | c :: p, z => if 97 ≤ c then 0 :: cnt p (z ++ [c]) else match fst? (c + 32) z with
    | none => []
    | some k => k :: cnt p (z.drop (k + 1))
theorem cnt_put {c : Nat} (h : 97 ≤ c) (p z : List Nat) : cnt (c :: p) z = 0 :: cnt p (z ++ [c]) := by
  show (if 97 ≤ c then _ else _) = _
  rw [if_pos h]
theorem cnt_take {c k : Nat} {z : List Nat} (h : ¬ 97 ≤ c) (e : fst? (c + 32) z = some k) (p : List Nat) : cnt (c :: p) z = k :: cnt p (z.drop (k + 1)) := by
  show (if 97 ≤ c then _ else _) = _
  rw [if_neg h, e]
theorem cnt_fail {c : Nat} {z : List Nat} (h : ¬ 97 ≤ c) (e : fst? (c + 32) z = none) (p : List Nat) : cnt (c :: p) z = [] := by
  show (if 97 ≤ c then _ else _) = _
  rw [if_neg h, e]
def oV : Option (List Nat) → V
  | none => .non
  | some r => .str (mk r)
theorem low_up {c : Nat} (h : ¬ 97 ≤ c) : lowC c = c + 32 := by
  unfold lowC
  rw [if_pos (by omega)]
theorem line1 : (1 : Nat) ≤ 5592405 := by decide
theorem iV_app (l m : List Nat) : iV (l ++ m) = iV l ++ iV m := List.map_append
end Gn
namespace Gn
open PySem PySem.Spec PyProof.Rows L2 Own Exn Mth Vld
def tooL : Option (List Nat) → Bool
  | some r => decide (400 < r.length)
  | none => false
end Gn

set_option Elab.async false
set_option linter.all false
set_option maxRecDepth 100000
set_option maxHeartbeats 4000000
/-! data in a heap that grows -/
namespace Gn
open PySem PySem.Spec PyProof.Rows L2 Own Exn Mth Vld
theorem same_tup {K : PySem.W.Frag} {H H' : Hp} {a : Addr} {xs : List V} (e : Same H H') (h : SqT K H a xs) : SqT K H' a xs := by
  rcases h with (h | ⟨o, h⟩) | h
  · exact .inl (.inl (e _ _ h))
  · exact .inl (.inr ⟨o, e _ _ h⟩)
  · exact .inr h
mutual
theorem dp_same {K : PySem.W.Frag} {H H' : Hp} (e : Same H H') : ∀ {v : V} {d : PyData}, Dp K H v d → Dp K H' v d
  | _, _, .non => .non
  | _, _, .bl b => .bl b
  | _, _, .int i => .int i
  | _, _, .str x => .str x
  | _, _, .lst h hs => .lst (e.seq h) (dpAll_same e hs)
  | _, _, .tup h hs => .tup (same_tup e h) (dpAll_same e hs)
theorem dpAll_same {K : PySem.W.Frag} {H H' : Hp} (e : Same H H') : ∀ {vs : List V} {ds : List PyData}, DpAll K H vs ds → DpAll K H' vs ds
  | _, _, .nil => .nil
  | _, _, .cons h hs => .cons (dp_same e h) (dpAll_same e hs)
end
theorem eqv_sh {d : PyData} (h : SeqAt.shaped d = true) : PyData.eqv d d = true := SeqAt.eqv_refl d (SeqAt.canLay_of_shaped h)
theorem strOk_of {z : Str} (h : ∀ c ∈ cs z, c < 1114112) : PyData.strOk z = true := by
  unfold PyData.strOk
  rw [← Array.all_toList, List.all_eq_true]
  intro d hd
  exact decide_eq_true (h d hd)
theorem lo8_lt {c : Nat} (h : c ∈ lo8) : c < 1114112 := by rw [mem_lo8] at h; omega
theorem st16_lt {c : Nat} (h : c ∈ st16) : c < 1114112 := by rw [mem_st16] at h; omega
theorem strOk_mk {l : List Nat} (h : ∀ c ∈ l, c < 1114112) : PyData.strOk (mk l) = true := strOk_of (by rw [cs_mk]; exact h)
theorem erase_map {α β : Type} (f : α → β) : ∀ (l : List α) (j : Nat), (l.map f).eraseIdx j = (l.eraseIdx j).map f
  | [], _ => rfl
  | _ :: _, 0 => rfl
  | x :: l, j + 1 => by
    show f x :: (l.map f).eraseIdx j = f x :: (l.eraseIdx j).map f
    rw [erase_map f l j]
def oD : Option (List Nat) → PyData
  | none => .none
  | some r => .str (mk r)
theorem dp_o {K : PySem.W.Frag} {H : Hp} (r : Option (List Nat)) : Dp K H (oV r) (oD r) := by
  cases r with
  | none => exact .non
  | some l => exact .str _
def limD : PyData := .list [.str "limit", .int 400, .bool true]
def dueD (r : Option (List Nat)) : PyData := if tooL r = true then limD else oD r
theorem oD_sh {r : Option (List Nat)} (h : ∀ l, r = some l → ∀ c ∈ l, c < 1114112) : SeqAt.shaped (oD r) = true := by
  cases r with
  | none => decide +kernel
  | some l =>
    have := strOk_mk (h l rfl)
    unfold oD SeqAt.shaped
    simp [PyData.canLay0, PyData.depth, this]
theorem dueD_sh {r : Option (List Nat)} (h : ∀ l, r = some l → ∀ c ∈ l, c < 1114112) : SeqAt.shaped (dueD r) = true := by
  unfold dueD
  split
  · decide +kernel
  · exact oD_sh h
theorem list2_sh {x : Str} {y : Str} (hx : PyData.strOk x = true) (hy : PyData.strOk y = true) : SeqAt.shaped (.list [.str x, .str y]) = true := by
  unfold SeqAt.shaped
  simp [PyData.canLay0, PyData.canLayAll0, PyData.depth, PyData.depthAll, hx, hy]
end Gn

set_option Elab.async false
set_option linter.all false
set_option maxRecDepth 100000
set_option maxHeartbeats 4000000
/-! texts repeated, in capitals -/
namespace Gn
open PySem PySem.Spec PyProof.Rows L2 Own Exn Mth Vld
theorem map_mk (l : List Nat) (f : Nat → Nat) : (⟨(mk l).cps.map f⟩ : Str) = mk (l.map f) := by
  refine str_cs ?_
  show ((mk l).cps.map f).toList = _
  rw [Array.toList_map]
theorem up_mk {l : List Nat} (h : ∀ c ∈ l, c ∈ lo8) : Txt.upper (mk l) = mk (l.map fun c => c - 32) := by
  rw [upper_ascii (x := mk l) fun c hc => by have := h c hc; rw [mem_lo8] at this; omega, map_mk]
  refine congrArg mk ?_
  refine List.map_congr_left fun c hc => ?_
  have := h c hc
  rw [mem_lo8] at this
  unfold up1
  rw [if_pos (by omega)]
theorem lo_mk {l : List Nat} (h : ∀ c ∈ l, c ∈ st16) : Txt.lower (mk l) = mk (l.map lowC) := by
  rw [lower_ascii (x := mk l) fun c hc => by have := h c hc; rw [mem_st16] at this; omega, map_mk]
  refine congrArg mk ?_
  refine List.map_congr_left fun c hc => ?_
  have := h c hc
  rw [mem_st16] at this
  unfold lo1 lowC
  by_cases q : c < 97
  · rw [if_pos (by omega), if_pos q]
  · rw [if_neg (by omega), if_neg q]
theorem fold_app (n : Nat) (a : Array Nat) : ∀ acc : Array Nat, ((List.replicate n a).foldl (· ++ ·) acc).toList = acc.toList ++ (List.replicate n a.toList).flatten := by
  induction n with
  | zero => intro acc; simp
  | succ n ih =>
    intro acc
    rw [List.replicate_succ, List.foldl_cons, ih, Array.toList_append, List.replicate_succ, List.flatten_cons, List.append_assoc]
theorem mul_mk (l : List Nat) (n : Nat) : Txt.mul (mk l) (n : Int) = mk (List.replicate n l).flatten := by
  unfold Txt.mul
  by_cases h0 : n = 0
  · subst h0
    rw [if_pos (by decide)]
    rfl
  rw [if_neg (by omega)]
  by_cases h1 : ((n : Int) == 1 || (mk l).length == 0) = true
  · rw [if_pos h1]
    rcases Bool.or_eq_true_iff.mp h1 with h | h
    · have : n = 1 := by have := eq_of_beq h; omega
      subst this
      simp
    · have hl : l.length = 0 := by have := eq_of_beq h; rw [len_mk] at this; exact this
      have : l = [] := List.length_eq_zero_iff.mp hl
      subst this
      simp
  · rw [if_neg h1]
    refine str_cs ?_
    show ((List.replicate (n : Int).toNat (mk l).cps).foldl (· ++ ·) #[]).toList = _
    rw [fold_app, Int.toNat_natCast]
    show [] ++ (List.replicate n (cs (mk l))).flatten = _
    rw [cs_mk, List.nil_append]
theorem mul_sg (c n : Nat) : Txt.mul (sg c) (n : Int) = mk (List.replicate n c) := by
  have := mul_mk [c] n
  rw [List.flatten_replicate_singleton] at this
  exact this
theorem mulOk {z : Str} {n : Int} (h0 : 0 ≤ n) (h1 : z.length ≤ 1000) (h2 : n ≤ 1000000000) (h : z.length * n.toNat ≤ 1000000) : MulOk z n := by
  refine ⟨by rw [decide_eq_false (by omega), decide_eq_false (by omega)]; rfl, fun a _ => ?_, fun _ _ => ?_⟩
  · have hz : (z.length : Int) ≤ (2 ^ 63 - 1) / n := by
      rw [Int.le_ediv_iff_mul_le (by omega)]
      have : (z.length : Int) * n ≤ 1000 * 1000000000 := Int.mul_le_mul (by omega) h2 h0 (by decide)
      omega
    omega
  · unfold Builtin.Str.tooLong
    exact decide_eq_false (by rw [show sizeLine = 5592405 * 3 + 1 from by rw [sizeLine_eq]] <;> omega)
theorem mem_rep {c x n : Nat} (h : x ∈ List.replicate n c) : x = c := (List.mem_replicate.mp h).2
theorem okS_mk {l : List Nat} {b : Str} (h1 : l.length ≤ 400) (h2 : ∀ c ∈ l, c ∈ cs b) : okS (mk l) b = true := okS_iff.mpr ⟨by rw [len_mk]; exact h1, by rw [cs_mk]; exact h2⟩
theorem any_ok {K : PySem.W.Frag} {H : Hp} {x b : Str} (h : okS x b = true) : AnyV K H (.str x) (.type "str") := .str x (by have := (okS_iff.mp h).1; omega)
theorem no_ok {x b : Str} {C : Prop} (h : okS x b = true) (e : okV (.str x) b = false) : C := by
  rw [show okV (.str x) b = true from h] at e
  cases e
theorem st16_of_lo8 {c : Nat} (h : c ∈ lo8) : c ∈ st16 := by rw [mem_lo8] at h; rw [mem_st16]; omega
theorem st16_of_up {c : Nat} (h : c ∈ lo8) : c - 32 ∈ st16 := by rw [mem_lo8] at h; rw [mem_st16]; omega
theorem st16_abc : ∀ c ∈ st16, c ∈ abc := by decide +kernel
theorem lo8_abc {c : Nat} (h : c ∈ lo8) : c ∈ abc := st16_abc c (st16_of_lo8 h)
theorem up_sg {c : Nat} (h : c ∈ lo8) : Txt.upper (sg c) = sg (c - 32) := up_mk (l := [c]) fun x hx => by rw [List.mem_singleton.mp hx]; exact h
end Gn

set_option Elab.async false
set_option linter.all false
set_option maxRecDepth 100000
set_option maxHeartbeats 4000000
/-! the core of a program -/
namespace Gn
open PySem PySem.Spec PyProof.Rows L2 Own Exn Mth Vld
/-- the place of the last c -/
def lst? (c : Nat) : List Nat → Option Nat
  | [] => none
  | x :: l => match lst? c l with
    | some j => some (j + 1)
    | none => if x = c then some 0 else none
theorem lst_none {c : Nat} : ∀ {l : List Nat}, (∀ i : Nat, l[i]? ≠ some c) → lst? c l = none
  | [], _ => rfl
  | x :: l, h => by
    have ih := lst_none (c := c) (l := l) fun i => by have := h (i + 1); simpa using this
    have h0 : x ≠ c := fun e => h 0 (by rw [e]; rfl)
    unfold lst?
    rw [ih]
    exact if_neg h0
theorem lst_some {c : Nat} : ∀ {l : List Nat} {k : Nat}, l[k]? = some c → (∀ i : Nat, k < i → l[i]? ≠ some c) → lst? c l = some k
  | [], k, h, _ => by simp at h
  | x :: l, 0, h, hn => by
    have ih := lst_none (c := c) (l := l) fun i => by have := hn (i + 1) (by omega); simpa using this
    have h0 : x = c := by simpa using h
    unfold lst?
    rw [ih]
    exact if_pos h0
  | x :: l, k + 1, h, hn => by
    have ih := lst_some (c := c) (l := l) (k := k) (by simpa using h) fun i hi => by have := hn (i + 1) (by omega); simpa using this
    unfold lst?
    rw [ih]
theorem last_upto (x y : Str) (n : Nat) : (Builtin.Str.lastOccurrence x y 0 n = none ∧ ∀ i, ¬ PySem.StrLaws.At x y n i) ∨ ∃ i, Builtin.Str.lastOccurrence x y 0 n = some i ∧ PySem.StrLaws.At x y n i ∧ ∀ k, i < k → ¬ PySem.StrLaws.At x y n k := by
  rw [PySem.StrLaws.last_eq]
  have key := PySem.StrLaws.last_run x y n (List.range' 0 (n + 1 - 0)) [] none (fun _ h => nomatch h) (fun _ h => nomatch h) (by simpa using List.pairwise_lt_range' (s := 0) (n := n + 1 - 0))
  have mem : ∀ i, PySem.StrLaws.At x y n i → i ∈ [] ++ List.range' 0 (n + 1 - 0) := fun i hi => by have := hi.1; simp [List.mem_range'] <;> omega
  cases hr : (forIn (List.range' 0 (n + 1 - 0)) none (PySem.StrLaws.lastBody x y n)).run with
  | none => rw [hr] at key; exact .inl ⟨rfl, fun i hi => key i (mem i hi) hi⟩
  | some a => rw [hr] at key; exact .inr ⟨a, rfl, key.1, fun k hk hA => key.2 k (mem k hA) hk hA⟩
theorem at_mk (W : List Nat) (c n i : Nat) (hn : n ≤ W.length) : PySem.StrLaws.At (mk W) ⟨#[c]⟩ n i ↔ (W.take n)[i]? = some c := by
  have h1 := PySem.StrLaws.subAt_one (mk W) c i
  have e1 : (⟨#[c]⟩ : Str).length = 1 := rfl
  have e2 : (mk W).cps.toList = W := cs_mk W
  rw [e2, e1, len_mk] at h1
  constructor
  · intro h
    have h2 : i + 1 ≤ n := h.1
    have h3 := h1.mp ⟨by omega, h.2⟩
    rw [List.getElem?_take_of_lt (by omega)]
    exact h3
  · intro h
    have hi : i < n := by
      rcases Nat.lt_or_ge i n with q | q
      · exact q
      · rw [List.getElem?_eq_none (by rw [List.length_take]; omega)] at h; cases h
    rw [List.getElem?_take_of_lt hi] at h
    exact ⟨hi, (h1.mpr h).2⟩
theorem rfind_mk (W : List Nat) (c n : Nat) : Txt.rfindIn (mk W) ⟨#[c]⟩ 0 (n : Int) = told (lst? c (W.take n)) := by
  have hfi : fromIndex (mk W).length (0 : Int) = 0 := by unfold fromIndex; rw [if_neg (by omega)]; omega
  have hti : toIndexW (mk W).length (n : Int) = min n W.length := by unfold toIndexW; rw [if_neg (by omega), len_mk]; omega
  unfold Txt.rfindIn
  rw [hfi, hti]
  have ht : W.take n = W.take (min n W.length) := by
    rcases Nat.le_total n W.length with h | h
    · rw [Nat.min_eq_left h]
    · rw [Nat.min_eq_right h, List.take_of_length_le h, List.take_length]
  rw [ht]
  have hle : min n W.length ≤ W.length := Nat.min_le_right _ _
  generalize min n W.length = m at hle
  rcases last_upto (mk W) ⟨#[c]⟩ m with ⟨h0, hn⟩ | ⟨i, h0, hi, hn⟩
  · rw [h0, lst_none fun i h => hn i ((at_mk W c m i hle).mpr h)]
    rfl
  · rw [h0, lst_some ((at_mk W c m i hle).mp hi) fun k hk h => hn k hk ((at_mk W c m k hle).mpr h)]
    rfl
/-- from the last take on, each take gets the latest put before it that no later take needs -/
def go (R W C : List Nat) : Nat → Nat → Nat
  | 0, _ => 0
  | k + 1, pl => match lst? (R.getD k 0) (W.take (min pl (C.getD k 0))) with
    | none => k + 1
    | some j => go R W C k j
theorem go_le (R W C : List Nat) : ∀ k pl, go R W C k pl ≤ k
  | 0, _ => Nat.le_refl _
  | k + 1, pl => by
    unfold go
    split
    · exact Nat.le_refl _
    · exact Nat.le_trans (go_le R W C k _) (Nat.le_succ _)
theorem go_stop {R W C : List Nat} {k pl : Nat} (h : lst? (R.getD k 0) (W.take (min pl (C.getD k 0))) = none) : go R W C (k + 1) pl = k + 1 := by
  unfold go
  rw [h]
theorem go_step {R W C : List Nat} {k pl j : Nat} (h : lst? (R.getD k 0) (W.take (min pl (C.getD k 0))) = some j) : go R W C (k + 1) pl = go R W C k j := by
  conv => lhs; unfold go
  rw [h]
theorem go_zero (R W C : List Nat) : ∀ k, go R W C k 0 = k
  | 0 => rfl
  | k + 1 => go_stop (by rw [Nat.zero_min, List.take_zero]; rfl)
/-- a put in front -/
theorem go_put (R W : List Nat) (c : Nat) : ∀ (k : Nat) (C : List Nat) (pl : Nat), k ≤ C.length → go R (c :: W) (C.map (· + 1)) k (pl + 1) = (if go R W C k pl = 0 then 0 else if R.getD (go R W C k pl - 1) 0 = c then go R W C k pl - 1 else go R W C k pl)
  | 0, C, pl, _ => rfl
  | k + 1, C, pl, hk => by
    have e1 : (C.map (· + 1)).getD k 0 = C.getD k 0 + 1 := by
      rw [List.getD_eq_getElem?_getD, List.getD_eq_getElem?_getD, List.getElem?_map, List.getElem?_eq_getElem (by omega)]
      rfl
    have e2 : (c :: W).take (min (pl + 1) (C.getD k 0 + 1)) = c :: W.take (min pl (C.getD k 0)) := by
      rw [show min (pl + 1) (C.getD k 0 + 1) = min pl (C.getD k 0) + 1 by omega, List.take_succ_cons]
    cases h : lst? (R.getD k 0) (W.take (min pl (C.getD k 0))) with
    | some j =>
      have h' : lst? (R.getD k 0) ((c :: W).take (min (pl + 1) ((C.map (· + 1)).getD k 0))) = some (j + 1) := by
        rw [e1, e2]
        show (match lst? (R.getD k 0) (W.take (min pl (C.getD k 0))) with | some j => some (j + 1) | none => _) = _
        rw [h]
      rw [go_step h', go_step h]
      exact go_put R W c k C j (by omega)
    | none =>
      rw [go_stop h, if_neg (by omega), Nat.add_sub_cancel]
      have h' : lst? (R.getD k 0) ((c :: W).take (min (pl + 1) ((C.map (· + 1)).getD k 0))) = (if c = R.getD k 0 then some 0 else none) := by
        rw [e1, e2]
        show (match lst? (R.getD k 0) (W.take (min pl (C.getD k 0))) with | some j => some (j + 1) | none => _) = _
        rw [h]
      by_cases q : c = R.getD k 0
      · rw [if_pos q] at h'
        rw [go_step h', go_zero, if_pos q.symm]
      · rw [if_neg q] at h'
        rw [go_stop h', if_neg fun z => q z.symm]
/-- a take in front -/
theorem go_take (R W C : List Nat) (r : Nat) : ∀ (k pl : Nat), go (r :: R) W (0 :: C) (k + 1) pl = go R W C k pl + 1
  | 0, pl => go_stop (by rw [show (0 :: C).getD 0 0 = 0 from rfl, Nat.min_zero, List.take_zero]; rfl)
  | k + 1, pl => by
    have e1 : (r :: R).getD (k + 1) 0 = R.getD k 0 := rfl
    have e2 : (0 :: C).getD (k + 1) 0 = C.getD k 0 := rfl
    cases h : lst? (R.getD k 0) (W.take (min pl (C.getD k 0))) with
    | none =>
      rw [go_stop h]
      exact go_stop (by rw [e1, e2]; exact h)
    | some j =>
      rw [go_step h, go_step (R := r :: R) (C := 0 :: C) (k := k + 1) (j := j) (by rw [e1, e2]; exact h)]
      exact go_take R W C r k j
/-- the takes that old items must serve -/
def pend : List Nat → List Nat
  | [] => []
  | c :: p => if 97 ≤ c then (if (pend p).getLast? = some c then (pend p).dropLast else pend p) else (c + 32) :: pend p
def coreN (p : List Nat) : Nat := go (tkS p) (puS p) (pcS 0 p) (tkS p).length (puS p).length
theorem tkS_put {c : Nat} (h : 97 ≤ c) (p : List Nat) : tkS (c :: p) = tkS p := by
  unfold tkS
  rw [List.filter_cons_of_neg (by simp; omega)]
theorem tkS_take {c : Nat} (h : ¬ 97 ≤ c) (p : List Nat) : tkS (c :: p) = (c + 32) :: tkS p := by
  unfold tkS
  rw [List.filter_cons_of_pos (by simp; omega), List.map_cons, low_up h]
theorem puS_put {c : Nat} (h : 97 ≤ c) (p : List Nat) : puS (c :: p) = c :: puS p := by
  unfold puS
  rw [List.filter_cons_of_pos (by simp; omega)]
theorem puS_take {c : Nat} (h : ¬ 97 ≤ c) (p : List Nat) : puS (c :: p) = puS p := by
  unfold puS
  rw [List.filter_cons_of_neg (by simp; omega)]
theorem pcS_succ : ∀ (p : List Nat) (n : Nat), pcS (n + 1) p = (pcS n p).map (· + 1)
  | [], _ => rfl
  | c :: p, n => by
    rw [pcS_cons, pcS_cons]
    split
    · exact pcS_succ p (n + 1)
    · rw [List.map_cons, pcS_succ p n]
theorem pcS_put {c : Nat} (h : 97 ≤ c) (p : List Nat) : pcS 0 (c :: p) = (pcS 0 p).map (· + 1) := by rw [pcS_cons, if_pos h]; exact pcS_succ p 0
theorem pcS_take {c : Nat} (h : ¬ 97 ≤ c) (p : List Nat) : pcS 0 (c :: p) = 0 :: pcS 0 p := by rw [pcS_cons, if_neg h]
theorem pcS_len : ∀ (p : List Nat) (n : Nat), (pcS n p).length = (tkS p).length
  | [], _ => rfl
  | c :: p, n => by
    rw [pcS_cons]
    split
    · rename_i h; rw [tkS_put h]; exact pcS_len p (n + 1)
    · rename_i h; rw [tkS_take h, List.length_cons, List.length_cons, pcS_len p n]
/-- the core's takes -/
theorem pend_core : ∀ p : List Nat, pend p = (tkS p).take (coreN p) ∧ coreN p ≤ (tkS p).length
  | [] => ⟨rfl, Nat.le_refl _⟩
  | c :: p => by
    obtain ⟨ih, hle⟩ := pend_core p
    have hl : (pend p).length = coreN p := by rw [ih, List.length_take]; omega
    by_cases h : 97 ≤ c
    · have e : pend (c :: p) = if (pend p).getLast? = some c then (pend p).dropLast else pend p := by
        show (if 97 ≤ c then _ else _) = _
        rw [if_pos h]
      have ec : coreN (c :: p) = (if coreN p = 0 then 0 else if (tkS p).getD (coreN p - 1) 0 = c then coreN p - 1 else coreN p) := by
        have := go_put (tkS p) (puS p) c (tkS p).length (pcS 0 p) (puS p).length (by rw [pcS_len]; exact Nat.le_refl _)
        unfold coreN
        rw [tkS_put h, puS_put h, pcS_put h, List.length_cons]
        exact this
      rw [e, ec, tkS_put h]
      by_cases h0 : coreN p = 0
      · rw [if_pos h0]
        have : pend p = [] := List.length_eq_zero_iff.mp (by omega)
        rw [this]
        exact ⟨rfl, Nat.zero_le _⟩
      rw [if_neg h0]
      have hg : (pend p).getLast? = some ((tkS p).getD (coreN p - 1) 0) := by
        rw [List.getLast?_eq_getElem?, hl, ih, List.getElem?_take_of_lt (by omega), List.getElem?_eq_getElem (by omega), List.getD_eq_getElem?_getD, List.getElem?_eq_getElem (by omega)]
        rfl
      by_cases q : (tkS p).getD (coreN p - 1) 0 = c
      · rw [if_pos q, if_pos (by rw [hg, q]), List.dropLast_eq_take, hl, ih, List.take_take, Nat.min_eq_left (by omega)]
        exact ⟨rfl, by omega⟩
      · rw [if_neg q, if_neg (by rw [hg]; intro z; exact q (Option.some.inj z))]
        exact ⟨ih, hle⟩
    · have e : pend (c :: p) = (c + 32) :: pend p := by
        show (if 97 ≤ c then _ else _) = _
        rw [if_neg h]
      have ec : coreN (c :: p) = coreN p + 1 := by
        unfold coreN
        rw [tkS_take h, puS_take h, pcS_take h, List.length_cons]
        exact go_take (tkS p) (puS p) (pcS 0 p) (c + 32) (tkS p).length (puS p).length
      rw [e, ec, tkS_take h, List.take_succ_cons, List.length_cons]
      exact ⟨by rw [ih], by omega⟩
theorem sub_snoc {u z : List Nat} {c : Nat} : List.Sublist u (z ++ [c]) ↔ List.Sublist (if u.getLast? = some c then u.dropLast else u) z := by
  rcases List.eq_nil_or_concat u with e | ⟨u', x, e⟩
  · subst e
    simp
  · subst e
    rw [List.concat_eq_append, List.getLast?_concat, List.dropLast_concat]
    by_cases h : x = c
    · subst h
      rw [if_pos rfl]
      exact ⟨fun s => by
        have := s.reverse
        simp only [List.reverse_append, List.reverse_cons, List.reverse_nil, List.nil_append, List.singleton_append] at this
        have := List.cons_sublist_cons.mp this
        simpa using this.reverse, fun s => s.append (List.Sublist.refl _)⟩
    · rw [if_neg fun q => h (Option.some.inj q)]
      constructor
      · intro s
        have := s.reverse
        simp only [List.reverse_append, List.reverse_cons, List.reverse_nil, List.nil_append, List.singleton_append] at this
        cases this with
        | cons _ s' => simpa using s'.reverse
        | cons_cons => exact absurd rfl h
      · intro s
        exact s.trans (List.sublist_append_left ..)
theorem sub_fst {u z : List Nat} {x k : Nat} (e : fst? x z = some k) : List.Sublist (x :: u) z ↔ List.Sublist u (z.drop (k + 1)) := by
  induction z generalizing k with
  | nil => simp [fst?] at e
  | cons y z ih =>
    unfold fst? at e
    by_cases h : y = x
    · rw [if_pos h] at e
      cases e
      rw [h, List.cons_sublist_cons]
      rfl
    · rw [if_neg h] at e
      cases q : fst? x z with
      | none => rw [q] at e; cases e
      | some j =>
        rw [q] at e
        have e' : j + 1 = k := Option.some.inj e
        subst e'
        rw [List.drop_succ_cons, ← ih q]
        constructor
        · intro s
          cases s with
          | cons _ s' => exact s'
          | cons_cons => exact absurd rfl h
        · intro s
          exact s.cons y
/-- a program succeeds where the core's takes are within -/
theorem bst_iff : ∀ (p z : List Nat), bst p z ≠ none ↔ List.Sublist (pend p) z
  | [], z => by
    constructor
    · intro _; exact List.nil_sublist z
    · intro _ h; cases h
  | c :: p, z => by
    by_cases h : 97 ≤ c
    · have e : pend (c :: p) = if (pend p).getLast? = some c then (pend p).dropLast else pend p := by
        show (if 97 ≤ c then _ else _) = _
        rw [if_pos h]
      rw [bst_put h, bst_iff p, sub_snoc, e]
    · have e : pend (c :: p) = (c + 32) :: pend p := by
        show (if 97 ≤ c then _ else _) = _
        rw [if_neg h]
      rw [e]
      cases q : fst? (c + 32) z with
      | none =>
        rw [bst_fail h q]
        constructor
        · intro z; exact absurd rfl z
        · intro s
          exact absurd (s.subset (List.mem_cons_self ..)) (fst_mem.mp q)
      | some k =>
        rw [bst_take h q, bst_iff p, sub_fst q]
theorem bst_prefix (p : List Nat) {m : Nat} (hm : m ≤ (tkS p).length) : bst p ((tkS p).take m) ≠ none ↔ coreN p ≤ m := by
  obtain ⟨e, hle⟩ := pend_core p
  rw [bst_iff, e]
  constructor
  · intro s
    have := s.length_le
    rw [List.length_take, List.length_take] at this
    omega
  · intro h
    exact (List.take_prefix_take_left h).sublist
end Gn

set_option Elab.async false
set_option linter.all false
set_option maxRecDepth 100000
set_option maxHeartbeats 4000000
/-! programs that commute -/
namespace Gn
open PySem PySem.Spec PyProof.Rows L2 Own Exn Mth Vld
def vlD (p : List Nat) : PyData := .tuple [.str (mk (tkS p)), .str (mk (puS p)), .int (coreN p : Nat)]
/-- do p and q commute -/
def comB (p q : List Nat) : Bool := decide (tkS (p ++ q) = tkS (q ++ p) ∧ puS (p ++ q) = puS (q ++ p) ∧ coreN (p ++ q) = coreN (q ++ p))
theorem tk_mem {p : List Nat} (h : ∀ c ∈ p, c ∈ st16) : ∀ c ∈ tkS p, c ∈ lo8 := by
  intro c hc
  unfold tkS at hc
  obtain ⟨x, hx, rfl⟩ := List.mem_map.mp hc
  obtain ⟨h1, h2⟩ := List.mem_filter.mp hx
  have h3 := h x h1
  rw [mem_st16] at h3
  have h4 : x < 97 := of_decide_eq_true h2
  rw [mem_lo8]
  unfold lowC
  rw [if_pos h4]
  omega
theorem pu_mem {p : List Nat} (h : ∀ c ∈ p, c ∈ st16) : ∀ c ∈ puS p, c ∈ lo8 := by
  intro c hc
  unfold puS at hc
  obtain ⟨h1, h2⟩ := List.mem_filter.mp hc
  have h3 := h c h1
  rw [mem_st16] at h3
  have h4 : 97 ≤ c := of_decide_eq_true h2
  rw [mem_lo8]
  omega
theorem vlD_sh {p : List Nat} (h : ∀ c ∈ p, c ∈ st16) : SeqAt.shaped (vlD p) = true := by
  have h1 := strOk_mk fun c hc => lo8_lt (tk_mem h c hc)
  have h2 := strOk_mk fun c hc => lo8_lt (pu_mem h c hc)
  unfold vlD SeqAt.shaped
  simp [PyData.canLay0, PyData.canLayAll0, PyData.depth, PyData.depthAll, h1, h2]
theorem mk_inj {l m : List Nat} (h : mk l = mk m) : l = m := by rw [← cs_mk l, h, cs_mk]
theorem vlD_eqv (p q : List Nat) : PyData.eqv (vlD p) (vlD q) = decide (tkS p = tkS q ∧ puS p = puS q ∧ coreN p = coreN q) := by
  have e : ∀ l m : List Nat, (mk l == mk m) = decide (l = m) := fun l m => by
    by_cases h : l = m
    · rw [decide_eq_true h, h]; exact beq_self_eq_true _
    · rw [decide_eq_false h]
      exact beq_eq_false_iff_ne.mpr fun z => h (mk_inj z)
  have e2 : (((coreN p : Nat) : Int) == ((coreN q : Nat) : Int)) = decide (coreN p = coreN q) := by
    by_cases h : coreN p = coreN q
    · rw [decide_eq_true h, h]; exact beq_self_eq_true _
    · rw [decide_eq_false h]
      exact beq_eq_false_iff_ne.mpr fun z => h (by omega)
  unfold vlD
  simp only [PyData.eqv, PyData.eqvAll, e, e2, Bool.and_true, Bool.decide_and]
theorem comB_pow (l : List Nat) : comB (List.replicate 2 l).flatten (List.replicate 3 l).flatten = true := by
  have e : (List.replicate 2 l).flatten ++ (List.replicate 3 l).flatten = (List.replicate 3 l).flatten ++ (List.replicate 2 l).flatten := by
    simp [List.replicate]
  unfold comB
  rw [e]
  exact decide_eq_true ⟨rfl, rfl, rfl⟩
theorem com1 : comB (List.replicate 400 97) (List.replicate 200 [97, 65]).flatten = true := by decide +kernel
theorem com2 : comB (List.replicate 400 97) (List.replicate 200 [98, 65]).flatten = false := by decide +kernel
theorem flat_mem {l : List Nat} {n x : Nat} (h : x ∈ (List.replicate n l).flatten) : x ∈ l := by
  obtain ⟨m, hm, hx⟩ := List.mem_flatten.mp h
  rw [(List.mem_replicate.mp hm).2] at hx
  exact hx
theorem flat_len (l : List Nat) (n : Nat) : (List.replicate n l).flatten.length = n * l.length := by simp
theorem b1 {K : PySem.W.Frag} (b : Bool) (H' : Hp) (Q : VK) (q : Q (.str (PyData.shown (.bool b))) H') : rReprR K [.bl b] H' Q := .inl ⟨_, .bool b, rfl, .bl b, by cases b <;> decide +kernel, by cases b <;> decide +kernel, by cases b <;> decide +kernel, le_line (by cases b <;> decide +kernel), q⟩
theorem comB_symm (p q : List Nat) : comB p q = comB q p := by
  unfold comB
  exact decide_eq_decide.mpr ⟨fun ⟨a, b, c⟩ => ⟨a.symm, b.symm, c.symm⟩, fun ⟨a, b, c⟩ => ⟨a.symm, b.symm, c.symm⟩⟩
theorem and_val {c e : Bool} {tb : TE} {σ : L2.St} {H : Hp} {Q : VK} (htb : ∀ Q' : VK, (∀ H', Same H H' → Q' (.bl e) H') → tb σ H Q') (q : ∀ H', Same H H' → Q (.bl (c && e)) H') : ∃ k, V.bl c = V.bl k ∧ (if k = true then tb σ H Q else Q (.bl false) H) := by
  cases c with
  | false => exact ⟨false, rfl, iteF (q H (Same.refl H))⟩
  | true => exact ⟨true, rfl, iteT (htb Q q)⟩
end Gn

set_option Elab.async false
set_option linter.all false
set_option maxRecDepth 100000
set_option maxHeartbeats 4000000
/-! own classes: made where an error may be raised, static methods, class methods -/
namespace Cmx
open PySem PySem.Spec PyProof.Rows L2 ClX
section
variable {X : Cx} {CX : CXT} {k i : Nat} {f C p g : Addr} {fd : FuncData} {ps ks : List Str} {sp : Sp} {E : L2.St → XK} {x m : Str} {mc : Value} {pp pos apos : Pos} {e o : Expr} {es : List Expr} {kws : List Keyword} {ta : TE} {t tk : TA}
theorem run_makeS {pins : List (Addr × Obj)} {σ : L2.St} {H : Hp} {s : Shared} {Q : VK} {us : List Value} {vs : List V} (M : Mk X.K C f) (F : FnOk X.prog X.w X.K X.mg X.base CX k f fd ps sp) (hr : Room (k + 1) X.A) (hb : Binds X.K fd ps [])
    (hx : PassesAt CX X σ (E σ)) (I : Inv X pins σ H s) (r : Vals vs us)
    (h : ∀ x dx, H x = none → H dx = none → dx ≠ x → sp (.ref x :: vs) (upd (upd H dx (.own x)) x (.ins C dx [])) (fun v H2 => v = .non ∧ Q (.ref x) H2) (E σ)) :
    wpAny (model X.prog X.w) X.A (call (.ref C) us) (EP X pins σ Q) X.xe s := by
  have hq := h (s.heap.objs.size + 1) s.heap.objs.size (I.hok.fresh (Nat.le_succ _)) (I.hok.fresh (Nat.le_refl _)) (Nat.ne_of_lt (Nat.lt_succ_self _))
  have I2 := Inv.made (C := C) I
  have r2 : Vals (V.ref (s.heap.objs.size + 1) :: vs) (Value.ref (s.heap.objs.size + 1) :: us) := .cons rfl r
  have hl : (Value.ref (s.heap.objs.size + 1) :: us ++ []).length = ps.length := by
    rw [List.append_nil]
    have e := r2.length
    rw [F.len _ _ _ _ hq] at e
    exact e.symm
  have b := hb _ (Value.ref (s.heap.objs.size + 1) :: us) I2.kIn hl
  rw [List.append_nil] at b
  refine wpAny_call (make_map (f := f) I.kIn M.makes M.init (beq_iff_eq.mp M.fn) (codeAny_mono (F.run _ X.stack _ _ ⟨Value.ref (s.heap.objs.size + 1) :: us, []⟩ (Value.ref (s.heap.objs.size + 1) :: us) _ _ (E σ) (hr.make C us [])
    (I2.env0.make C us []) b r2 hq) fun r s' hq' => ?_))
  cases r with
  | error e => exact hx pins _ _ e s' I2 hq'
  | ok fl =>
    cases fl with
    | ret u =>
      obtain ⟨v, H', I3, rv, ev, q3⟩ := I2.after hq'
      subst ev
      exact ⟨rv, ⟨V.ref (s.heap.objs.size + 1), H', I3, rfl, q3⟩⟩
    | next => exact False.elim hq'
    | brk => exact False.elim hq'
    | cont => exact False.elim hq'
def tMakeS (C : Addr) (sp : Sp) (E : L2.St → XK) (t : TA) : TE := fun σ H Q => t σ H fun vs H1 => ∀ x dx, H1 x = none → H1 dx = none → dx ≠ x → sp (.ref x :: vs) (upd (upd H1 dx (.own x)) x (.ins C dx [])) (fun v H2 => v = .non ∧ Q (.ref x) H2) (E σ)
theorem pe_makeS (M : Mk X.K C f) (F : FnOk X.prog X.w X.K X.mg X.base CX k f fd ps sp) (hr : Room (k + 1) X.A) (hg : Gl X x) (hm : X.mg x = some (.ref C)) (hb : Binds X.K fd ps []) (hx : ∀ σ, PassesAt CX X σ (E σ))
    (ha : PA X (e :: es) t) (hdb : (x == ("__debug__" : Str)) = false := by decide) (he : starEach (e :: es) X.env = (false, eval e X.env) :: starEach es X.env := by rfl) (hpl : (backTo pos (starEach es X.env)).any (·.1) = false := by rfl) :
    PE X (.Call (.Name x pp) (e :: es) [] pos) (tMakeS C sp E t) := by
  refine ⟨fun pins s σ H Q I h => ?_⟩
  refine wpAny_Call_Name_kw (ld_glob I hg hm ?_ hdb)
  refine PySem.W.callWith_K (h₀ := X.base) I.ok.mod.kin M.kp (thn (ha.run pos pins s σ H _ I h) fun us s1 ⟨vs, H1, I1, r, q⟩ => ⟨I1.kIn, ?_⟩) he hpl
  exact run_makeS M F hr hb (hx σ) I1 r q
/-- cls(..), the class in slot i -/
def tMakeL (i : Nat) (C : Addr) (sp : Sp) (E : L2.St → XK) (t : TA) : TE := fun σ H Q => σ[i]? = some (some (.ref C)) ∧ tMakeS C sp E t σ H Q
theorem pe_makeL (M : Mk X.K C f) (F : FnOk X.prog X.w X.K X.mg X.base CX k f fd ps sp) (hr : Room (k + 1) X.A) (hN : X.N[i]? = some x) (hv : Vis X.env.scope x) (hb : Binds X.K fd ps []) (hx : ∀ σ, PassesAt CX X σ (E σ))
    (ha : PA X (e :: es) t) (hdb : (x == ("__debug__" : Str)) = false := by decide) (hcd : (x == ("__classdict__" : Str)) = false := by decide) (he : starEach (e :: es) X.env = (false, eval e X.env) :: starEach es X.env := by rfl) (hpl : (backTo pos (starEach es X.env)).any (·.1) = false := by rfl) :
    PE X (.Call (.Name x pp) (e :: es) [] pos) (tMakeL i C sp E t) := by
  refine ⟨fun pins s σ H Q I h => ?_⟩
  obtain ⟨hs, ht⟩ := h
  refine wpAny_Call_Name_kw (thn ((pe_var (pos := pp) hN hv hdb hcd).run pins s σ H (fun v H1 => v = .ref C ∧ H1 = H) I ⟨.ref C, hs, rfl, rfl⟩) fun u s1 ⟨v, H1, I1, r1, q1⟩ => ?_)
  obtain ⟨rfl, rfl⟩ := q1
  cases r1
  refine PySem.W.callWith_K (h₀ := X.base) I.ok.mod.kin M.kp (thn (ha.run pos pins s1 σ _ _ I1 ht) fun us s2 ⟨vs, H2, I2, r, q⟩ => ⟨I2.kIn, ?_⟩) he hpl
  exact run_makeS M F hr hb (hx σ) I2 r q
/-- o.m(..) where what is raised is wished for at the slots -/
def tMethX (C : Addr) (m : Str) (sp : Sp) (E : L2.St → XK) (ta : TE) (t : TA) : TE := fun σ H Q => ta σ H fun x H1 => ∃ a dx fs, x = .ref a ∧ H1 a = some (.ins C dx fs) ∧ fs.lookup m = none ∧ t σ H1 fun vs H2 => sp (.ref a :: vs) H2 Q (E σ)
theorem pe_methX {pl : Sem Bool} (he : PE X o ta) (c : Cls X.K C) (hm : Meth X.K C m f) (F : FnOk X.prog X.w X.K X.mg X.base CX k f fd ps sp) (hr : Room k X.A) (hb : Binds X.K fd ps []) (hx : ∀ σ, PassesAt CX X σ (E σ)) (ha : PA X (e :: es) t)
    (hst : starEach (e :: es) X.env = (false, eval e X.env) :: starEach es X.env := by rfl) (hpl : (backTo pos (starEach es X.env)).any (·.1) = false := by rfl)
    (ht : eval (.Call (.Attribute o m apos) (e :: es) [] pos) X.env = (do
      let ov ← eval o X.env
      standAt apos.atName
      let (f, first) ← holding [ov] (getMethod ov m pl)
      callWith pos f first (backTo pos (starEach (e :: es) X.env)) (backToKw pos (keywordEach [] X.env))) := by rfl) :
    PE X (.Call (.Attribute o m apos) (e :: es) [] pos) (tMethX C m sp E ta t) := by
  refine ⟨fun pins s σ H Q I h => ?_⟩
  refine PySem.W.methodCall_KW (pl := pl) (thn (he.run pins s σ H _ I h) fun u s1 ⟨x, H1, I1, rx, a, dx, fs, ex, ea, l, q⟩ => ?_) ht
  subst ex
  obtain rfl : u = Value.ref a := rx
  refine getmeth_ok I1 ea c hm l ?_
  refine PySem.W.callWith_K (first := [.ref a]) (h₀ := X.base) I.ok.mod.kin hm.kp (thn (ha.run pos pins s1 σ H1 _ I1 q) fun us s2 ⟨vs, H2, I2, r, q2⟩ => ⟨I2.kIn, ?_⟩) hst hpl
  exact run_fnS (us := .ref a :: us) (vs := .ref a :: vs) F hr hb (hx σ) I2 (.cons rfl r) q2
theorem pe_methX0 {pl : Sem Bool} (he : PE X o ta) (c : Cls X.K C) (hm : Meth X.K C m f) (F : FnOk X.prog X.w X.K X.mg X.base CX k f fd ps sp) (hr : Room k X.A) (hb : Binds X.K fd ps []) (hx : ∀ σ, PassesAt CX X σ (E σ))
    (ht : eval (.Call (.Attribute o m apos) [] [] pos) X.env = (do
      let ov ← eval o X.env
      standAt apos.atName
      let (f, first) ← holding [ov] (getMethod ov m pl)
      callWith pos f first (backTo pos (starEach [] X.env)) (backToKw pos (keywordEach [] X.env))) := by rfl) :
    PE X (.Call (.Attribute o m apos) [] [] pos) (tMethX C m sp E ta tNil) := by
  refine ⟨fun pins s σ H Q I h => ?_⟩
  refine PySem.W.methodCall_KW (pl := pl) (thn (he.run pins s σ H _ I h) fun u s1 ⟨x, H1, I1, rx, a, dx, fs, ex, ea, l, q⟩ => ?_) ht
  subst ex
  obtain rfl : u = Value.ref a := rx
  refine getmeth_ok I1 ea c hm l ?_
  exact PySem.W.callWith_K0 (first := [.ref a]) I1.kIn hm.kp (run_fnS (us := [.ref a]) (vs := [.ref a]) F hr hb (hx σ) I1 (.cons rfl .nil) q)
/-- o.m(k = e, ..), the keywords in the order of the parameters behind the first -/
theorem pe_methXK {pl : Sem Bool} (he : PE X o ta) (c : Cls X.K C) (hm : Meth X.K C m f) (F : FnOk X.prog X.w X.K X.mg X.base CX k f fd ps sp) (hr : Room k X.A)
    (hb : ∀ (s : Shared) (x : Value) (us : List Value), X.K.In s.heap → (x :: us).length = ps.length → BindsTo s fd ⟨[x], ks.zip us⟩ (ps.zip (x :: us))) (hx : ∀ σ, PassesAt CX X σ (E σ)) (hkw : PK X kws tk)
    (hal : (backToKw pos (keywordEach kws X.env)).all (·.1.isSome) = true := by rfl) (hks : (backToKw pos (keywordEach kws X.env)).filterMap (·.1) = ks := by rfl)
    (hpl : ((backTo pos (starEach [] X.env)).any (·.1) || (backToKw pos (keywordEach kws X.env)).any (·.1.isNone)) = false := by rfl)
    (ht : eval (.Call (.Attribute o m apos) [] kws pos) X.env = (do
      let ov ← eval o X.env
      standAt apos.atName
      let (f, first) ← holding [ov] (getMethod ov m pl)
      callWith pos f first (backTo pos (starEach [] X.env)) (backToKw pos (keywordEach kws X.env))) := by rfl) :
    PE X (.Call (.Attribute o m apos) [] kws pos) (tMethX C m sp E ta tk) := by
  refine ⟨fun pins s σ H Q I h => ?_⟩
  refine PySem.W.methodCall_KW (pl := pl) (thn (he.run pins s σ H _ I h) fun u s1 ⟨x, H1, I1, rx, a, dx, fs, ex, ea, l, q⟩ => ?_) ht
  subst ex
  obtain rfl : u = Value.ref a := rx
  refine getmeth_ok I1 ea c hm l ?_
  refine PySem.W.callWith_KW0 (first := [.ref a]) (h₀ := X.base) I.ok.mod.kin hm.kp hal (thn (hkw.run pos pins s1 σ H1 _ I1 q) fun us s2 ⟨vs, H2, I2, rv, q2⟩ => ⟨I2.kIn, ?_⟩) hpl
  have hl : (Value.ref a :: us).length = ps.length := by
    have := (show Vals (V.ref a :: vs) (Value.ref a :: us) from .cons rfl rv).length
    rw [← this]
    exact F.len _ _ _ _ q2
  have b := hb s2 (.ref a) us I2.kIn hl
  rw [hks]
  refine wpAny_call (codeAny_mono (F.run X.A X.stack s2 H2 ⟨[.ref a], ks.zip us⟩ (.ref a :: us) (.ref a :: vs) Q (E σ) hr I2.env0 b (.cons rfl rv) q2) fun r s' hq => ?_)
  cases r with
  | error e => exact hx σ pins H2 s2 e s' I2 hq
  | ok fl =>
    cases fl with
    | ret u => exact I2.after hq
    | next => exact False.elim hq
    | brk => exact False.elim hq
    | cont => exact False.elim hq
/-- C.m is a static method: its record at p, its def at g -/
structure SMet (K : PySem.W.Frag) (C : Addr) (mc : Value) (m : Str) (p g : Addr) : Prop where
  at_ : PySem.W.findCls K (.ref C) mc m = some (.get (.builtin "staticmethod.__get__") (.ref p) .none (.ref C))
  rc : ∃ rest, PySem.W.recIn K p "staticmethod" = some (.ref g :: rest)
  kp : PySem.W.keepIn K (.ref g) = true
def tSMeth (C : Addr) (sp : Sp) (E : L2.St → XK) (ta : TE) (t : TA) : TE := fun σ H Q => ta σ H fun x H1 => x = .ref C ∧ t σ H1 fun vs H2 => sp vs H2 Q (E σ)
theorem pe_smeth {pl : Sem Bool} (he : PE X o ta) (r : CRead X.K C mc) (c : SMet X.K C mc m p g) (F : FnOk X.prog X.w X.K X.mg X.base CX k g fd ps sp) (hr : Room k X.A) (hb : Binds X.K fd ps []) (hx : ∀ σ, PassesAt CX X σ (E σ)) (ha : PA X (e :: es) t)
    (hst : starEach (e :: es) X.env = (false, eval e X.env) :: starEach es X.env := by rfl) (hpl : (backTo pos (starEach es X.env)).any (·.1) = false := by rfl)
    (ht : eval (.Call (.Attribute o m apos) (e :: es) [] pos) X.env = (do
      let ov ← eval o X.env
      standAt apos.atName
      let (f, first) ← holding [ov] (getMethod ov m pl)
      callWith pos f first (backTo pos (starEach (e :: es) X.env)) (backToKw pos (keywordEach [] X.env))) := by rfl) :
    PE X (.Call (.Attribute o m apos) (e :: es) [] pos) (tSMeth C sp E ta t) := by
  refine ⟨fun pins s σ H Q I h => ?_⟩
  refine PySem.W.methodCall_KW (pl := pl) (thn (he.run pins s σ H _ I h) fun u s1 ⟨x, H1, I1, rx, ex, q⟩ => ?_) ht
  subst ex
  obtain rfl : u = Value.ref C := rx
  obtain ⟨rest, hp⟩ := c.rc
  refine PySem.W.method_cls I1.kIn r.ga (PySem.W.cls_bind I1.kIn r.rd c.at_ (wpAny_call (PySem.W.sm_get (s := { s1 with toks := s1.toks + 1 }) I1.kIn hp (PySem.W.handed_on rfl ?_))))
  have I2 := I1.tok (s1.toks + 1)
  refine PySem.W.callWith_K (h₀ := X.base) I.ok.mod.kin c.kp (thn (ha.run pos pins _ σ H1 _ I2 q) fun us s2 ⟨vs, H2, I3, rv, q2⟩ => ⟨I3.kIn, ?_⟩) hst hpl
  exact run_fnS F hr hb (hx σ) I3 rv q2
/-- the call of a bound class method -/
theorem run_cmS {pins : List (Addr × Obj)} {σ : L2.St} {H : Hp} {s : Shared} {q : Addr} {Q : VK} {us : List Value} {vs : List V} (F : FnOk X.prog X.w X.K X.mg X.base CX k g fd ps sp) (hr : Room k X.A) (hb : Binds X.K fd ps []) (hx : PassesAt CX X σ (E σ)) (I : Inv X ((q, PySem.W.methodObj (.ref g) (.ref C)) :: pins) σ H s)
    (r : Vals vs us) (h : sp (.ref C :: vs) H Q (E σ)) : wpAny (model X.prog X.w) X.A (call (.ref q) us) (EP X pins σ Q) X.xe s := by
  have hl : (Value.ref C :: us).length = ps.length := by
    have := (show Vals (V.ref C :: vs) (Value.ref C :: us) from .cons rfl r).length
    rw [← this]
    exact F.len _ _ _ _ h
  have b := hb s (.ref C :: us) I.kIn (by rw [List.append_nil]; exact hl)
  rw [List.append_nil] at b
  have z : wpAny (model X.prog X.w) X.A (call (.ref q) us) (EP X ((q, PySem.W.methodObj (.ref g) (.ref C)) :: pins) σ Q) X.xe s := by
    refine wpAny_call (PySem.W.method_call (pin_at I) (codeAny_mono (F.run X.A X.stack s H ⟨.ref C :: us, []⟩ (.ref C :: us) (.ref C :: vs) Q (E σ) hr I.env0 b (.cons rfl r) h) fun r s' hq => ?_))
    cases r with
    | error e => exact hx _ H s e s' I hq
    | ok fl =>
      cases fl with
      | ret u => exact I.after hq
      | next => exact False.elim hq
      | brk => exact False.elim hq
      | cont => exact False.elim hq
  exact thn z fun _ _ y => unpinE y
def tCMethS (C : Addr) (sp : Sp) (E : L2.St → XK) (ta : TE) (t : TA) : TE := fun σ H Q => ta σ H fun x H1 => x = .ref C ∧ t σ H1 fun vs H2 => sp (.ref C :: vs) H2 Q (E σ)
theorem pe_cmethS {pl : Sem Bool} (he : PE X o ta) (r : CRead X.K C mc) (c : CMet X.K C mc m p g) (F : FnOk X.prog X.w X.K X.mg X.base CX k g fd ps sp) (hr : Room k X.A) (hb : Binds X.K fd ps []) (hx : ∀ σ, PassesAt CX X σ (E σ)) (ha : PA X (e :: es) t)
    (hst : starEach (e :: es) X.env = (false, eval e X.env) :: starEach es X.env := by rfl) (hpl : (backTo pos (starEach es X.env)).any (·.1) = false := by rfl)
    (ht : eval (.Call (.Attribute o m apos) (e :: es) [] pos) X.env = (do
      let ov ← eval o X.env
      standAt apos.atName
      let (f, first) ← holding [ov] (getMethod ov m pl)
      callWith pos f first (backTo pos (starEach (e :: es) X.env)) (backToKw pos (keywordEach [] X.env))) := by rfl) :
    PE X (.Call (.Attribute o m apos) (e :: es) [] pos) (tCMethS C sp E ta t) := by
  refine ⟨fun pins s σ H Q I h => ?_⟩
  refine PySem.W.methodCall_KW (pl := pl) (thn (he.run pins s σ H _ I h) fun u s1 ⟨x, H1, I1, rx, ex, q⟩ => ?_) ht
  subst ex
  obtain rfl : u = Value.ref C := rx
  refine getmethcm_ok I1 r c fun s2 I2 => ?_
  refine callwith_cm I2 (base_none I1 (Nat.le_refl _)) c.fi (thn (ha.run pos _ s2 σ H1 _ I2 q) fun us s3 ⟨vs, H2, I3, rv, q2⟩ => ⟨⟨pin_at I3, I3.kIn⟩, ?_⟩) hst hpl
  exact run_cmS F hr hb (hx σ) I3 rv q2
/-- C.m() -/
theorem pe_cmethS0 {pl : Sem Bool} (he : PE X o ta) (r : CRead X.K C mc) (c : CMet X.K C mc m p g) (F : FnOk X.prog X.w X.K X.mg X.base CX k g fd ps sp) (hr : Room k X.A) (hb : Binds X.K fd ps []) (hx : ∀ σ, PassesAt CX X σ (E σ))
    (ht : eval (.Call (.Attribute o m apos) [] [] pos) X.env = (do
      let ov ← eval o X.env
      standAt apos.atName
      let (f, first) ← holding [ov] (getMethod ov m pl)
      callWith pos f first (backTo pos (starEach [] X.env)) (backToKw pos (keywordEach [] X.env))) := by rfl) :
    PE X (.Call (.Attribute o m apos) [] [] pos) (tCMethS C sp E ta tNil) := by
  refine ⟨fun pins s σ H Q I h => ?_⟩
  refine PySem.W.methodCall_KW (pl := pl) (thn (he.run pins s σ H _ I h) fun u s1 ⟨x, H1, I1, rx, ex, q⟩ => ?_) ht
  subst ex
  obtain rfl : u = Value.ref C := rx
  refine getmethcm_ok I1 r c fun s2 I2 => ?_
  exact PySem.W.callWith_M0 (first := []) ⟨pin_at I2, I2.kIn⟩ c.fi (run_cmS (us := []) F hr hb (hx σ) I2 .nil q)
/-- C.m(k = e, ..), the keywords in the order of the parameters behind the first -/
theorem pe_cmethK {pl : Sem Bool} (he : PE X o ta) (r : CRead X.K C mc) (c : CMet X.K C mc m p g) (F : FnOk X.prog X.w X.K X.mg X.base CX k g fd ps sp) (hr : Room k X.A)
    (hb : ∀ (s : Shared) (us : List Value), X.K.In s.heap → (Value.ref C :: us).length = ps.length → BindsTo s fd ⟨[.ref C], ks.zip us⟩ (ps.zip (.ref C :: us))) (hx : ∀ σ, PassesAt CX X σ (E σ)) (hkw : PK X kws tk)
    (hal : (backToKw pos (keywordEach kws X.env)).all (·.1.isSome) = true := by rfl) (hks : (backToKw pos (keywordEach kws X.env)).filterMap (·.1) = ks := by rfl)
    (hpl : ((backTo pos (starEach [] X.env)).any (·.1) || (backToKw pos (keywordEach kws X.env)).any (·.1.isNone)) = false := by rfl)
    (ht : eval (.Call (.Attribute o m apos) [] kws pos) X.env = (do
      let ov ← eval o X.env
      standAt apos.atName
      let (f, first) ← holding [ov] (getMethod ov m pl)
      callWith pos f first (backTo pos (starEach [] X.env)) (backToKw pos (keywordEach kws X.env))) := by rfl) :
    PE X (.Call (.Attribute o m apos) [] kws pos) (tCMethS C sp E ta tk) := by
  refine ⟨fun pins s σ H Q I h => ?_⟩
  refine PySem.W.methodCall_KW (pl := pl) (thn (he.run pins s σ H _ I h) fun u s1 ⟨x, H1, I1, rx, ex, q⟩ => ?_) ht
  subst ex
  obtain rfl : u = Value.ref C := rx
  refine getmethcm_ok I1 r c fun s2 I2 => ?_
  refine PySem.W.callWith_of hpl (PySem.W.keeps_M c.fi) (evalArgs_kw2_nil hal (thn (hkw.run pos _ s2 σ H1 _ I2 q) fun us s3 ⟨vs, H2, I3, rv, q2⟩ => ⟨⟨pin_at I3, I3.kIn⟩, ?_⟩))
  have hl : (Value.ref C :: us).length = ps.length := by
    have := (show Vals (V.ref C :: vs) (Value.ref C :: us) from .cons rfl rv).length
    rw [← this]
    exact F.len _ _ _ _ q2
  have b := hb s3 us I3.kIn hl
  rw [hks]
  have z : wpAny (model X.prog X.w) X.A (call (.ref s1.heap.objs.size) [] (ks.zip us)) (EP X ((s1.heap.objs.size, PySem.W.methodObj (.ref g) (.ref C)) :: pins) σ Q) X.xe s3 := by
    refine wpAny_call (PySem.W.method_call (pin_at I3) (codeAny_mono (F.run X.A X.stack s3 H2 ⟨[.ref C], ks.zip us⟩ (.ref C :: us) (.ref C :: vs) Q (E σ) hr I3.env0 b (.cons rfl rv) q2) fun r s' hq => ?_))
    cases r with
    | error e => exact hx σ _ H2 s3 e s' I3 hq
    | ok fl =>
      cases fl with
      | ret u => exact I3.after hq
      | next => exact False.elim hq
      | brk => exact False.elim hq
      | cont => exact False.elim hq
  exact thn z fun _ _ y => unpinE y
end
section
open L2
variable {X : Cx} {body : List Stmt} {hd0 : ExceptHandler} {hds : List ExceptHandler} {l : Clz} {pos : Pos} {tb : WX → TS} {Wout : WX} {i : Nat} {n : Str}
def tTryAs (K : PySem.W.Frag) (Wout : WX) (i : Nat) (l : Clz) (tb : WX → TS) : TS := fun D τ G => tb (wAll K Wout D i l) D τ G
theorem ps_tryN (hst : X.stack = X.env :: X.outer) (hfr : X.env.frame = some X.env.locals) (hnd : X.N.Nodup) (hin : X.N[i]? = some n) (hkn : X.env.kindOf n = some .local) (out : Takes X Wout)
    (hbd : ∀ (W : WX) (pn : List (Addr × Obj)) (xe : Value → Shared → Prop), Takes (X.tr pn xe) W → PassesOwn (model X.prog X.w) X.A X.env xe → PSs (X.tr pn xe) body (tb W)) (hall : HdAs X n (hd0 :: hds) l) :
    PS X (.Try body (hd0 :: hds) [] [] pos) (tTryAs X.K Wout i l tb) := ps_tryAs hst hfr hnd hin hkn out hbd hall
end
end Cmx

set_option Elab.async false
set_option linter.all false
set_option maxRecDepth 100000
set_option maxHeartbeats 4000000
/-! effects -/
namespace Gn
open PySem PySem.Spec PyProof.Rows L2 Own Exn Mth Vld
theorem parts_len : ∀ p : List Nat, (tkS p).length + (puS p).length = p.length
  | [] => rfl
  | c :: p => by
    have ih := parts_len p
    by_cases h : 97 ≤ c
    · rw [tkS_put h, puS_put h, List.length_cons, List.length_cons]; omega
    · rw [tkS_take h, puS_take h, List.length_cons, List.length_cons]; omega
theorem empty_iff {l : List Nat} : (V.str (mk l) = V.str "") ↔ l = [] := by
  constructor
  · intro h
    injection h with h
    have := congrArg cs h
    rw [cs_mk] at this
    exact this
  · intro h
    rw [h]
    rfl
/-- what is left behind all takes -/
def aft : List Nat → List Nat → Option (List Nat)
  | [], q => some q
  | _ :: _, [] => none
  | c :: R, x :: q => if x = c then aft R q else aft (c :: R) q
theorem aft_nil (q : List Nat) : aft [] q = some q := by cases q <;> rfl
theorem aft_yes (c : Nat) (R q : List Nat) : aft (c :: R) (c :: q) = aft R q := by
  show (if c = c then _ else _) = _
  rw [if_pos rfl]
theorem aft_no {c x : Nat} (h : x ≠ c) (R q : List Nat) : aft (c :: R) (x :: q) = aft (c :: R) q := by
  show (if x = c then _ else _) = _
  rw [if_neg h]
theorem aft_fst (c : Nat) (R : List Nat) : ∀ z : List Nat, aft (c :: R) z = (match fst? c z with | none => none | some k => aft R (z.drop (k + 1)))
  | [] => rfl
  | x :: z => by
    by_cases h : x = c
    · subst h
      rw [aft_yes]
      have : fst? x (x :: z) = some 0 := by unfold fst?; rw [if_pos rfl]
      rw [this]
      rfl
    · rw [aft_no h, aft_fst c R z]
      have : fst? c (x :: z) = (fst? c z).map (· + 1) := by conv => lhs; unfold fst?; rw [if_neg h]
      rw [this]
      cases fst? c z <;> rfl
theorem fst_app {c k : Nat} {z w : List Nat} (h : fst? c z = some k) : fst? c (z ++ w) = some k := by
  obtain ⟨h1, h2, h3⟩ := fst_lt h
  exact fst_some (by rw [List.getElem?_append_left h1]; exact h2) fun v hv => by rw [List.getElem?_append_left (by omega)]; exact h3 v hv
theorem bst_aft : ∀ (p q r : List Nat), bst p q = some r → aft (tkS p) (q ++ puS p) = some r
  | [], q, r, h => by
    cases h
    show aft [] (q ++ []) = _
    rw [List.append_nil, aft_nil]
  | c :: p, q, r, h => by
    by_cases hc : 97 ≤ c
    · rw [bst_put hc] at h
      have := bst_aft p _ r h
      rw [tkS_put hc, puS_put hc]
      rw [List.append_assoc] at this
      exact this
    · cases e : fst? (c + 32) q with
      | none => rw [bst_fail hc e] at h; cases h
      | some k =>
        rw [bst_take hc e] at h
        have := bst_aft p _ r h
        rw [tkS_take hc, puS_take hc, aft_fst, fst_app e]
        show aft (tkS p) ((q ++ puS p).drop (k + 1)) = _
        rw [List.drop_append_of_le_length (by have := (fst_lt e).1; omega)]
        exact this
/-- just behind ascending places, counted from o -/
def endO (l : List Nat) (o : Nat) : Nat := match l.getLast? with
  | none => 0
  | some x => x + 1 - o
theorem emb_ge : ∀ (q R : List Nat) (o : Nat), ∀ x ∈ emb R q o, o ≤ x
  | q, [], o, x, h => by rw [emb_nil] at h; cases h
  | [], _ :: _, o, x, h => by rw [emb_none'] at h; cases h
  | y :: q, c :: R, o, x, h => by
    by_cases e : y = c
    · subst e
      rw [emb_yes] at h
      rcases List.mem_cons.mp h with g | g
      · omega
      · have := emb_ge q R (o + 1) x g; omega
    · rw [emb_no e] at h
      have := emb_ge q (c :: R) (o + 1) x h
      omega
theorem endO_cons (o : Nat) (l : List Nat) (h : ∀ x ∈ l, o + 1 ≤ x) : endO (o :: l) o = endO l (o + 1) + 1 := by
  unfold endO
  rcases List.eq_nil_or_concat l with e | ⟨l', x, e⟩
  · subst e
    show o + 1 - o = 0 + 1
    omega
  · subst e
    rw [List.concat_eq_append, ← List.cons_append, List.getLast?_concat, List.getLast?_concat]
    have := h x (by simp)
    show x + 1 - o = x + 1 - (o + 1) + 1
    omega
theorem endO_shift {l : List Nat} {o : Nat} (h0 : l ≠ []) (h : ∀ x ∈ l, o + 1 ≤ x) : endO l o = endO l (o + 1) + 1 := by
  unfold endO
  rcases List.eq_nil_or_concat l with e | ⟨l', x, e⟩
  · exact absurd e h0
  · subst e
    rw [List.concat_eq_append, List.getLast?_concat]
    have := h x (by simp)
    show x + 1 - o = x + 1 - (o + 1) + 1
    omega
theorem aft_all (w : List Nat) : ∀ (q R : List Nat) (o : Nat), (emb R q o).length = R.length → aft R (q ++ w) = some (q.drop (endO (emb R q o) o) ++ w)
  | q, [], o, _ => by rw [emb_nil, aft_nil]; rfl
  | [], c :: R, o, h => by rw [emb_none'] at h; cases h
  | x :: q, c :: R, o, h => by
    by_cases e : x = c
    · subst e
      rw [emb_yes] at h ⊢
      rw [endO_cons o _ fun y hy => emb_ge q R (o + 1) y hy, List.drop_succ_cons, List.cons_append, aft_yes]
      exact aft_all w q R (o + 1) (by simpa using h)
    · rw [emb_no e] at h ⊢
      have hne : emb (c :: R) q (o + 1) ≠ [] := fun z => by rw [z] at h; cases h
      rw [endO_shift hne fun y hy => emb_ge q (c :: R) (o + 1) y hy, List.drop_succ_cons, List.cons_append, aft_no e]
      exact aft_all w q (c :: R) (o + 1) h
theorem aft_part (w : List Nat) : ∀ (q R : List Nat) (o : Nat), (emb R q o).length < R.length → aft R (q ++ w) = aft (R.drop (emb R q o).length) w
  | q, [], o, h => by cases h
  | [], c :: R, o, h => by rw [emb_none']; rfl
  | x :: q, c :: R, o, h => by
    by_cases e : x = c
    · subst e
      rw [emb_yes] at h ⊢
      rw [List.cons_append, aft_yes, List.length_cons, List.drop_succ_cons]
      exact aft_part w q R (o + 1) (by simpa using h)
    · rw [emb_no e] at h ⊢
      rw [List.cons_append, aft_no e]
      exact aft_part w q (c :: R) (o + 1) h
theorem aft_some {R q r : List Nat} (h : aft R q = some r) : (emb R q 0).length = R.length ∧ r = q.drop (endO (emb R q 0) 0) := by
  have hle := emb_le q R 0
  rcases Nat.lt_or_ge (emb R q 0).length R.length with g | g
  · have := aft_part [] q R 0 g
    rw [List.append_nil, h] at this
    cases e : R.drop (emb R q 0).length with
    | nil =>
      have := congrArg List.length e
      rw [List.length_drop, List.length_nil] at this
      omega
    | cons c l =>
      rw [e] at this
      cases this
  · have e : (emb R q 0).length = R.length := by omega
    have := aft_all [] q R 0 e
    rw [List.append_nil, List.append_nil, h] at this
    exact ⟨e, Option.some.inj this⟩
theorem emb_sub : ∀ (q R : List Nat) (o : Nat), List.Sublist R q ↔ (emb R q o).length = R.length
  | q, [], o => by rw [emb_nil]; exact ⟨fun _ => rfl, fun _ => List.nil_sublist q⟩
  | [], c :: R, o => by
    rw [emb_none']
    constructor
    · intro h; cases h
    · intro h; cases h
  | x :: q, c :: R, o => by
    by_cases e : x = c
    · subst e
      rw [emb_yes, List.cons_sublist_cons, emb_sub q R (o + 1)]
      simp
    · rw [emb_no e, ← emb_sub q (c :: R) (o + 1)]
      constructor
      · intro s
        cases s with
        | cons _ s' => exact s'
        | cons_cons => exact absurd rfl e
      · intro s
        exact s.cons x
theorem take_sub {R q : List Nat} {k : Nat} (hk : k ≤ R.length) : List.Sublist (R.take k) q ↔ k ≤ (emb R q 0).length := by
  rw [emb_sub q (R.take k) 0, emb_take, List.length_take, List.length_take]
  omega
/-- the effect's result -/
def eres (R W : List Nat) (core : Nat) (q : List Nat) : Option (List Nat) :=
  if (emb R q 0).length < core then none else if (emb R q 0).length = R.length then some (q.drop (endO (emb R q 0) 0) ++ W) else some (W.drop (endO (emb (R.drop (emb R q 0).length) W 0) 0))
theorem eres_bst (p q : List Nat) : eres (tkS p) (puS p) (coreN p) q = bst p q := by
  obtain ⟨e, hle⟩ := pend_core p
  have key := bst_iff p q
  rw [e, take_sub hle] at key
  unfold eres
  cases h : bst p q with
  | none =>
    rw [if_pos]
    rcases Nat.lt_or_ge (emb (tkS p) q 0).length (coreN p) with g | g
    · exact g
    · exact absurd h (key.mpr g)
  | some r =>
    have g : coreN p ≤ (emb (tkS p) q 0).length := key.mp (by rw [h]; exact fun z => nomatch z)
    rw [if_neg (by omega)]
    have ha := bst_aft p q r h
    by_cases hl : (emb (tkS p) q 0).length = (tkS p).length
    · rw [if_pos hl, ← ha]
      exact (aft_all _ q (tkS p) 0 hl).symm
    · rw [if_neg hl]
      have := aft_part (puS p) q (tkS p) 0 (by have := emb_le q (tkS p) 0; omega)
      rw [ha] at this
      rw [(aft_some this.symm).2]
theorem bst_mono : ∀ (p z z' r : List Nat), List.Sublist z z' → bst p z = some r → ∃ r', bst p z' = some r' ∧ List.Sublist r r'
  | [], z, z', r, s, h => by cases h; exact ⟨z', rfl, s⟩
  | c :: p, z, z', r, s, h => by
    by_cases hc : 97 ≤ c
    · rw [bst_put hc] at h ⊢
      exact bst_mono p _ _ r (s.append (List.Sublist.refl _)) h
    · cases e : fst? (c + 32) z with
      | none => rw [bst_fail hc e] at h; cases h
      | some k =>
        rw [bst_take hc e] at h
        have s1 : List.Sublist ((c + 32) :: z.drop (k + 1)) z := (sub_fst e).mpr (List.Sublist.refl _)
        have s2 := s1.trans s
        cases e' : fst? (c + 32) z' with
        | none => exact absurd (s2.subset (List.mem_cons_self ..)) (fst_mem.mp e')
        | some k' =>
          rw [bst_take hc e']
          exact bst_mono p _ _ r ((sub_fst e').mp s2) h
/-- the takes behind the core are within the puts -/
theorem core_fits (p : List Nat) : (emb ((tkS p).drop (coreN p)) (puS p) 0).length = ((tkS p).drop (coreN p)).length := by
  obtain ⟨e, hle⟩ := pend_core p
  have h1 := (bst_prefix p hle).mpr (Nat.le_refl _)
  cases h : bst p ((tkS p).take (coreN p)) with
  | none => exact absurd h h1
  | some r =>
    have ha := bst_aft p _ r h
    have hk : (emb (tkS p) ((tkS p).take (coreN p)) 0).length = coreN p := by
      have a1 := (take_sub (q := (tkS p).take (coreN p)) hle).mp (List.Sublist.refl _)
      have a2 : List.Sublist ((tkS p).take (emb (tkS p) ((tkS p).take (coreN p)) 0).length) ((tkS p).take (coreN p)) := (take_sub (emb_le _ _ _)).mpr (Nat.le_refl _)
      have a3 := a2.length_le
      have a4 := emb_le ((tkS p).take (coreN p)) (tkS p) 0
      rw [List.length_take, List.length_take] at a3
      omega
    by_cases hl : coreN p < (tkS p).length
    · have := aft_part (puS p) _ (tkS p) 0 (by rw [hk]; exact hl)
      rw [ha, hk] at this
      exact (aft_some this.symm).1
    · rw [List.drop_of_length_le (by omega), emb_nil]
end Gn

set_option Elab.async false
set_option linter.all false
set_option maxRecDepth 100000
set_option maxHeartbeats 4000000
/-! queues that stay -/
namespace Gn
open PySem PySem.Spec PyProof.Rows L2 Own Exn Mth Vld
def wn (W : List Nat) (n : Nat) : List Nat := (List.replicate n W).flatten
def sfx (z : List Nat) (n : Nat) : List Nat := z.drop (z.length - n)
def fixB (p q : List Nat) : Bool := decide (bst p q = some q)
def cands (W : List Nat) (n : Nat) : List (List Nat) := (List.range (min n (wn W n).length + 1)).map (sfx (wn W n))
def unch (p : List Nat) (n : Nat) : List (List Nat) := (cands (puS p) n).filter (fixB p)
theorem wn_len (W : List Nat) (n : Nat) : (wn W n).length = n * W.length := by unfold wn; simp
theorem wn_front (W : List Nat) (n : Nat) : wn W (n + 1) = W ++ wn W n := by unfold wn; rw [List.replicate_succ, List.flatten_cons]
theorem wn_back (W : List Nat) : ∀ n : Nat, wn W (n + 1) = wn W n ++ W
  | 0 => by rw [wn_front]; show W ++ [] = [] ++ W; simp
  | n + 1 => by rw [wn_front, wn_back W n, ← List.append_assoc, ← wn_front, wn_back W n]
theorem sfx_of {x q : List Nat} : sfx (x ++ q) q.length = q := by
  unfold sfx
  rw [List.length_append, Nat.add_sub_cancel, List.drop_left]
theorem sfx_len {z : List Nat} {n : Nat} (h : n ≤ z.length) : (sfx z n).length = n := by unfold sfx; rw [List.length_drop]; omega
theorem tail_wn (W : List Nat) (hW : 1 ≤ W.length) : ∀ (n : Nat) (q : List Nat), q.length ≤ n → q = (q ++ W).drop W.length → ∃ x, wn W n = x ++ q
  | n, [], _, _ => ⟨wn W n, (List.append_nil _).symm⟩
  | 0, y :: q, h, _ => by simp at h
  | n + 1, y :: q, h, e => by
    by_cases hl : (y :: q).length ≤ W.length
    · refine ⟨wn W n ++ W.take (W.length - (y :: q).length), ?_⟩
      rw [List.drop_append, List.drop_of_length_le hl, List.nil_append] at e
      rw [wn_back, List.append_assoc]
      refine congrArg (wn W n ++ ·) ?_
      conv => lhs; rw [← List.take_append_drop (W.length - (y :: q).length) W]
      refine congrArg (W.take (W.length - (y :: q).length) ++ ·) e.symm
    · rw [List.drop_append_of_le_length (by omega)] at e
      have hl2 : ((y :: q).drop W.length).length ≤ n := by rw [List.length_drop]; omega
      obtain ⟨x, hx⟩ := tail_wn W hW n ((y :: q).drop W.length) hl2 (by rw [← e])
      refine ⟨x, ?_⟩
      rw [wn_back, hx, List.append_assoc, ← e]
theorem fix_tail {p q : List Nat} (h : bst p q = some q) (hp : p ≠ []) {n : Nat} (hn : q.length ≤ n) : q = sfx (wn (puS p) n) q.length ∧ q.length ≤ (wn (puS p) n).length := by
  have ha := bst_aft p q q h
  obtain ⟨h1, h2⟩ := aft_some ha
  have hx : ∃ x, wn (puS p) n = x ++ q := by
    by_cases hq : q = []
    · subst hq
      exact ⟨wn (puS p) n, (List.append_nil _).symm⟩
    have hq0 : 0 < q.length := by
      cases q with
      | nil => exact absurd rfl hq
      | cons a l => simp
    have hlen := congrArg List.length h2
    rw [List.length_drop, List.length_append] at hlen
    have hm : endO (emb (tkS p) (q ++ puS p) 0) 0 = (puS p).length := by omega
    have hpl := parts_len p
    have hW : 1 ≤ (puS p).length := by
      rcases Nat.lt_or_ge 0 (puS p).length with g | g
      · exact g
      · exfalso
        have hR : 1 ≤ (tkS p).length := by
          cases p with
          | nil => exact absurd rfl hp
          | cons a l => rw [List.length_cons] at hpl; omega
        have hne : emb (tkS p) (q ++ puS p) 0 ≠ [] := fun z => by rw [z] at h1; have := h1; simp at this; omega
        have : endO (emb (tkS p) (q ++ puS p) 0) 0 = endO (emb (tkS p) (q ++ puS p) 0) 0 := rfl
        rcases List.eq_nil_or_concat (emb (tkS p) (q ++ puS p) 0) with e | ⟨l, x, e⟩
        · exact hne e
        · rw [e, List.concat_eq_append] at hm
          unfold endO at hm
          rw [List.getLast?_concat] at hm
          have hm' : x + 1 - 0 = (puS p).length := hm
          omega
    rw [hm] at h2
    exact tail_wn (puS p) hW n q hn h2
  obtain ⟨x, hx⟩ := hx
  rw [hx]
  exact ⟨sfx_of.symm, by rw [List.length_append]; omega⟩
/-- all words of one length -/
def layer (L : List Nat) : Nat → List (List Nat)
  | 0 => [[]]
  | i + 1 => (layer L i).flatMap fun w => L.map fun c => w ++ [c]
def layers (L : List Nat) (k : Nat) : List (List Nat) := (List.range (k + 1)).flatMap (layer L)
theorem layer_mem (L : List Nat) : ∀ (i : Nat) (w : List Nat), w ∈ layer L i ↔ w.length = i ∧ ∀ c ∈ w, c ∈ L
  | 0, w => by
    show w ∈ [[]] ↔ _
    rw [List.mem_singleton]
    constructor
    · rintro rfl; exact ⟨rfl, fun c h => by cases h⟩
    · intro h; exact List.length_eq_zero_iff.mp h.1
  | i + 1, w => by
    show w ∈ (layer L i).flatMap _ ↔ _
    rw [List.mem_flatMap]
    constructor
    · rintro ⟨v, hv, hw⟩
      obtain ⟨c, hc, rfl⟩ := List.mem_map.mp hw
      obtain ⟨h1, h2⟩ := (layer_mem L i v).mp hv
      refine ⟨by rw [List.length_append, h1]; rfl, fun x hx => ?_⟩
      rcases List.mem_append.mp hx with g | g
      · exact h2 x g
      · rw [List.mem_singleton.mp g]; exact hc
    · rintro ⟨h1, h2⟩
      rcases List.eq_nil_or_concat w with e | ⟨v, c, e⟩
      · subst e; simp at h1
      · subst e
        rw [List.concat_eq_append] at h1 h2 ⊢
        refine ⟨v, (layer_mem L i v).mpr ⟨by rw [List.length_append] at h1; simpa using h1, fun x hx => h2 x (List.mem_append_left _ hx)⟩, List.mem_map.mpr ⟨c, h2 c (by simp), rfl⟩⟩
theorem layer_nodup {L : List Nat} (hL : L.Nodup) : ∀ i : Nat, (layer L i).Nodup
  | 0 => by show [[]].Nodup; simp
  | i + 1 => by
    show ((layer L i).flatMap fun w => L.map fun c => w ++ [c]).Nodup
    unfold List.Nodup
    rw [List.pairwise_flatMap]
    refine ⟨fun w _ => ?_, ?_⟩
    · refine List.Pairwise.map _ (fun c d h e => ?_) hL
      have := List.append_cancel_left e
      injection this with h1
      exact h h1
    · refine List.Pairwise.imp (fun {w v} h => ?_) (layer_nodup hL i)
      intro x hx y hy e
      obtain ⟨c, _, rfl⟩ := List.mem_map.mp hx
      obtain ⟨d, _, rfl⟩ := List.mem_map.mp hy
      have := List.append_inj_left' e rfl
      exact h this
theorem filter_one {α : Type} [DecidableEq α] {P : α → Bool} {c : α} : ∀ {l : List α}, l.Nodup → (∀ w ∈ l, P w = true → w = c) → (P c = true → c ∈ l) → l.filter P = if P c = true then [c] else []
  | [], _, _, h3 => by
    rw [if_neg fun h => by cases h3 h]
    rfl
  | w :: l, hn, h2, h3 => by
    have hn' := List.nodup_cons.mp hn
    by_cases e : w = c
    · subst e
      by_cases hP : P w = true
      · rw [List.filter_cons_of_pos hP, if_pos hP, List.filter_eq_nil_iff.mpr fun x hx hx' => ?_]
        have := h2 x (List.mem_cons_of_mem _ hx) hx'
        rw [this] at hx
        exact hn'.1 hx
      · rw [List.filter_cons_of_neg hP, if_neg hP, List.filter_eq_nil_iff.mpr fun x hx hx' => ?_]
        have := h2 x (List.mem_cons_of_mem _ hx) hx'
        rw [this] at hx'
        exact hP hx'
    · have hP : ¬ P w = true := fun h => e (h2 w (List.mem_cons_self ..) h)
      rw [List.filter_cons_of_neg hP]
      exact filter_one hn'.2 (fun x hx => h2 x (List.mem_cons_of_mem _ hx)) fun h => by
        rcases List.mem_cons.mp (h3 h) with g | g
        · exact absurd g.symm e
        · exact g
theorem filter_flat {α β : Type} (P : β → Bool) (f : α → List β) : ∀ l : List α, (l.flatMap f).filter P = l.flatMap fun a => (f a).filter P
  | [] => rfl
  | a :: l => by rw [List.flatMap_cons, List.filter_append, filter_flat P f l, List.flatMap_cons]
theorem filter_map1 {α : Type} (P : List Nat → Bool) (f : α → List Nat) : ∀ l : List α, (l.map f).filter P = l.flatMap fun a => if P (f a) = true then [f a] else []
  | [] => rfl
  | a :: l => by
    rw [List.map_cons, List.flatMap_cons, ← filter_map1 P f l]
    by_cases h : P (f a) = true
    · rw [List.filter_cons_of_pos h, if_pos h]; rfl
    · rw [List.filter_cons_of_neg h, if_neg h]; rfl
theorem flat_range {β : Type} (g : Nat → List β) {m n : Nat} (h : m ≤ n) (hg : ∀ i, m ≤ i → i < n → g i = []) : (List.range n).flatMap g = (List.range m).flatMap g := by
  have e0 := List.range'_append_1 (s := 0) (m := m) (n := n - m)
  rw [Nat.zero_add, show m + (n - m) = n by omega] at e0
  have h2 : (List.range' m (n - m)).flatMap g = [] := List.flatMap_eq_nil_iff.mpr fun i hi => by
    rw [List.mem_range'_1] at hi
    exact hg i (by omega) (by omega)
  rw [List.range_eq_range', List.range_eq_range', ← e0, List.flatMap_append, h2, List.append_nil]
theorem flat_congr {β : Type} {f g : Nat → List β} : ∀ l : List Nat, (∀ i ∈ l, f i = g i) → l.flatMap f = l.flatMap g
  | [], _ => rfl
  | a :: l, h => by rw [List.flatMap_cons, List.flatMap_cons, h a (List.mem_cons_self ..), flat_congr l fun i hi => h i (List.mem_cons_of_mem _ hi)]
theorem fixB_iff {p q : List Nat} : fixB p q = true ↔ bst p q = some q := by unfold fixB; rw [decide_eq_true_iff]
theorem due_unch {p L : List Nat} (hp : p ≠ []) (hL : L.Nodup) (hc : ∀ c ∈ puS p, c ∈ L) {s k : Nat} (hs : s ≤ k) : ((layers L k).filter fun w => decide (w.length ≤ s) && fixB p w) = unch p s := by
  unfold layers unch cands
  rw [filter_flat, filter_map1]
  have hW : ∀ i ≤ (wn (puS p) s).length, ∀ c ∈ sfx (wn (puS p) s) i, c ∈ L := fun i _ c h => by
    have h1 := List.mem_of_mem_drop h
    obtain ⟨m, hm, hx⟩ := List.mem_flatten.mp h1
    rw [(List.mem_replicate.mp hm).2] at hx
    exact hc c hx
  have empty : ∀ i, min s (wn (puS p) s).length + 1 ≤ i → i < k + 1 → ((layer L i).filter fun w => decide (w.length ≤ s) && fixB p w) = [] := by
    intro i h1 _
    refine List.filter_eq_nil_iff.mpr fun w hw hP => ?_
    obtain ⟨e1, _⟩ := (layer_mem L i w).mp hw
    obtain ⟨g1, g2⟩ := Bool.and_eq_true_iff.mp hP
    have g1' : w.length ≤ s := of_decide_eq_true g1
    have := (fix_tail (fixB_iff.mp g2) hp g1').2
    omega
  rw [flat_range _ (show min s (wn (puS p) s).length + 1 ≤ k + 1 by omega) empty]
  refine flat_congr _ fun i hi => ?_
  rw [List.mem_range] at hi
  have h1 : i ≤ s := by omega
  have h2 : i ≤ (wn (puS p) s).length := by omega
  have e : ((layer L i).filter fun w => decide (w.length ≤ s) && fixB p w) = (layer L i).filter (fixB p) := by
    refine List.filter_congr fun w hw => ?_
    obtain ⟨e1, _⟩ := (layer_mem L i w).mp hw
    rw [decide_eq_true (show w.length ≤ s by omega)]
    rfl
  rw [e]
  refine filter_one (layer_nodup hL i) (fun w hw hP => ?_) (fun hP => ?_)
  · obtain ⟨e1, _⟩ := (layer_mem L i w).mp hw
    have := (fix_tail (fixB_iff.mp hP) hp (n := s) (by omega)).1
    rw [e1] at this
    exact this
  · exact (layer_mem L i _).mpr ⟨sfx_len h2, hW i h2⟩
/-- one more repetition changes nothing -/
theorem unch_more (p : List Nat) : ((List.range (min 40 (wn (puS p) 41).length + 1)).map (sfx (wn (puS p) 41))).filter (fixB p) = unch p 40 := by
  unfold unch cands
  have hm : min 40 (wn (puS p) 41).length = min 40 (wn (puS p) 40).length := by
    rw [wn_len, wn_len]
    rcases Nat.eq_zero_or_pos (puS p).length with h | h
    · rw [h]
    · have h1 : 41 * 1 ≤ 41 * (puS p).length := Nat.mul_le_mul_left 41 h
      have h2 : 40 * 1 ≤ 40 * (puS p).length := Nat.mul_le_mul_left 40 h
      omega
  rw [hm]
  congr 1
  refine List.map_congr_left fun i hi => ?_
  rw [List.mem_range] at hi
  have h2 : i ≤ (wn (puS p) 40).length := by omega
  show sfx (wn (puS p) (40 + 1)) i = _
  rw [wn_front]
  unfold sfx
  rw [List.length_append, show (puS p).length + (wn (puS p) 40).length - i = (puS p).length + ((wn (puS p) 40).length - i) by omega, ← List.drop_drop, List.drop_left]
abbrev strV (ls : List (List Nat)) : List V := ls.map fun l => V.str (mk l)
theorem strV_snoc (ls : List (List Nat)) (l : List Nat) : strV (ls ++ [l]) = strV ls ++ [V.str (mk l)] := List.map_append
theorem strV_app (ls ms : List (List Nat)) : strV (ls ++ ms) = strV ls ++ strV ms := List.map_append
theorem strV_len (ls : List (List Nat)) : (strV ls).length = ls.length := List.length_map _
theorem strV_at {ls : List (List Nat)} {i : Nat} {x : V} (h : (strV ls)[i]? = some x) : ∃ l, ls[i]? = some l ∧ x = .str (mk l) := by
  rw [List.getElem?_map] at h
  cases e : ls[i]? with
  | none => rw [e] at h; cases h
  | some l => rw [e] at h; cases h; exact ⟨l, rfl, rfl⟩
def strD (ls : List (List Nat)) : PyData := .list (ls.map fun l => .str (mk l))
theorem strD_all {K : PySem.W.Frag} {H : Hp} : ∀ ls : List (List Nat), DpAll K H (strV ls) (ls.map fun l => PyData.str (mk l))
  | [] => .nil
  | l :: ls => .cons (.str _) (strD_all ls)
theorem strD_dp {K : PySem.W.Frag} {H : Hp} {o : Addr} {ls : List (List Nat)} (h : H o = some (.lst (strV ls))) : Dp K H (.ref o) (strD ls) := .lst (SqL.of h) (strD_all ls)
theorem strD_sh {ls : List (List Nat)} (h : ∀ l ∈ ls, ∀ c ∈ l, c < 1114112) : SeqAt.shaped (strD ls) = true := by
  have h1 : ∀ ls : List (List Nat), (∀ l ∈ ls, ∀ c ∈ l, c < 1114112) → PyData.canLayAll0 (ls.map fun l => PyData.str (mk l)) = true := by
    intro ls
    induction ls with
    | nil => intro _; rfl
    | cons l ls ih =>
      intro h
      show (PyData.canLay0 (.str (mk l)) && PyData.canLayAll0 (ls.map fun l => PyData.str (mk l))) = true
      rw [ih fun m hm => h m (List.mem_cons_of_mem _ hm), Bool.and_true]
      exact strOk_mk (h l (List.mem_cons_self ..))
  have h2 : ∀ ls : List (List Nat), PyData.depthAll (ls.map fun l => PyData.str (mk l)) ≤ 1 := by
    intro ls
    induction ls with
    | nil => decide +kernel
    | cons l ls ih =>
      have : PyData.depthAll (PyData.str (mk l) :: ls.map fun l => PyData.str (mk l)) = max (PyData.depth (.str (mk l))) (PyData.depthAll (ls.map fun l => PyData.str (mk l))) := by simp [PyData.depthAll]
      rw [List.map_cons, this]
      have : PyData.depth (.str (mk l)) ≤ 1 := by simp [PyData.depth]
      omega
  unfold SeqAt.shaped strD
  rw [Bool.and_eq_true]
  refine ⟨h1 ls h, decide_eq_true ?_⟩
  have : PyData.depth (.list (ls.map fun l => PyData.str (mk l))) ≤ PyData.depthAll (ls.map fun l => PyData.str (mk l)) + 1 := by simp [PyData.depth]
  have := h2 ls
  omega
theorem mk_iff {r : Option (List Nat)} {q : List Nat} : oV r = V.str (mk q) ↔ r = some q := by
  cases r with
  | none => exact ⟨(fun h => nomatch h), (fun h => nomatch h)⟩
  | some l =>
    constructor
    · intro h
      injection h with h
      rw [mk_inj h]
    · intro h
      cases h
      rfl
theorem layer_len (L : List Nat) : ∀ i : Nat, (layer L i).length = L.length ^ i
  | 0 => rfl
  | i + 1 => by
    show ((layer L i).flatMap fun w => L.map fun c => w ++ [c]).length = _
    rw [List.length_flatMap, Nat.pow_succ, ← layer_len L i]
    generalize layer L i = ls
    induction ls with
    | nil => simp
    | cons a l ih => rw [List.map_cons, List.sum_cons, ih, List.length_map, List.length_cons, Nat.succ_mul]; omega
theorem layers_succ (L : List Nat) (k : Nat) : layers L (k + 1) = layers L k ++ layer L (k + 1) := by
  unfold layers
  rw [List.range_succ, List.flatMap_append]
  simp
end Gn

set_option Elab.async false
set_option linter.all false
set_option maxRecDepth 100000
set_option maxHeartbeats 4000000
/-! own == of instances with a dict, against any value whose class is known -/
namespace Ows
open PySem PySem.Spec PyProof.Rows L2 ClX
section
variable {X : Cx} {CX : CXT} {k : Nat} {C g : Addr} {fd : FuncData} {ps : List Str} {sp : Sp} {E : XK}
def rOwnD (K : PySem.W.Frag) (C : Addr) (sp : Sp) (E : XK) : R2 := fun x y H Q => ∃ (a dx : Addr) (fs : List (Str × V)) (t : Value), x = .ref a ∧ H a = some (.ins C dx fs) ∧ TyX K H y t ∧ PySem.W.notFirst K C t = true ∧ sp [x, y] H Q E
theorem op_ownD {op : CmpOp} (hop : ∀ a b, compareOp op a b = richCompare op a b) (hs : PySem.W.findIn X.K (.ref C) (cmpInfo op).2.1 = some (some (.ref g))) (hf : PySem.W.isFn X.K (.ref g) = true) (F : FnR X.prog X.w X.K X.mg X.base CX k g sp)
    (hr : Room k X.A) (hx : Passes CX X E) : OpR X (compareOp op) (rOwnD X.K C sp E) := by
  intro pins s σ H x y v u Q I rx ry h
  obtain ⟨a, dx, fs, t, rfl, ha, hy, hn, q⟩ := h
  cases (show v = Value.ref a from rx)
  obtain ⟨mA, O, _⟩ := ins_get I.hok ha
  obtain ⟨od, J, _⟩ := O.look
  obtain ⟨Pp, Z, pz, _⟩ := kit_of I ry hy
  obtain ⟨m, hF⟩ := I.fr
  rw [hop]
  refine PySem.W.cmp_K (op := op) (tb := t) hr.units0 hF I.ok.mod.kin J (Z.ty _ _ I.kIn pz) hn hs hf ?_
  refine wpAny_mono (wpAny_call (SlX.run_at (us := [.ref a, u]) (ws := [.ref a, y]) F hr I.env0 hx I (.cons rfl (.cons ry .nil)) q)) (fun w s' z => ?_) fun _ _ x => x
  obtain ⟨z', H', I', rz, qz⟩ := z
  exact SlX.cmpback rz ⟨z', H', I', rz, qz⟩
end
end Ows

set_option Elab.async false
set_option linter.all false
set_option maxRecDepth 100000
set_option maxHeartbeats 4000000
/-! three values decide -/
namespace Gn
open PySem PySem.Spec PyProof.Rows L2 Own Exn Mth Vld
def effEq (p q : List Nat) : Prop := tkS p = tkS q ∧ puS p = puS q ∧ coreN p = coreN q
instance (p q : List Nat) : Decidable (effEq p q) := by unfold effEq; infer_instance
theorem eff_same {p q : List Nat} (h : effEq p q) (z : List Nat) : bst p z = bst q z := by
  rw [← eres_bst, ← eres_bst, h.1, h.2.1, h.2.2]
theorem bst_own {p r : List Nat} (h : bst p (tkS p) = some r) : r = (tkS p).drop (endO (emb (tkS p) (tkS p) 0) 0) ++ puS p := by
  have h1 := bst_aft p _ r h
  rw [aft_all (puS p) (tkS p) (tkS p) 0 ((emb_sub _ _ 0).mp (List.Sublist.refl _))] at h1
  injection h1 with h1
  exact h1.symm
theorem own_ok (p : List Nat) : bst p (tkS p) ≠ none := by
  have := (bst_prefix p (Nat.le_refl (tkS p).length)).mpr (pend_core p).2
  rw [List.take_length] at this
  exact this
theorem sep_core {p q : List Nat} (hR : tkS p = tkS q) (h : coreN p < coreN q) : bst p ((tkS p).take (coreN p)) ≠ bst q ((tkS p).take (coreN p)) := by
  have h1 := (bst_prefix p (pend_core p).2).mpr (Nat.le_refl _)
  have h2 : ¬ bst q ((tkS p).take (coreN p)) ≠ none := by
    rw [hR]
    intro h3
    have := (bst_prefix q (m := coreN p) (by have := (pend_core p).2; rw [hR] at this; exact this)).mp h3
    omega
  intro e
  rw [e] at h1
  exact h2 h1
theorem sep_puts {p q : List Nat} (hR : tkS p = tkS q) (h : puS p ≠ puS q) : bst p (tkS p) ≠ bst q (tkS p) := by
  intro e
  cases hp : bst p (tkS p) with
  | none => exact own_ok p hp
  | some r =>
    have h1 := bst_own hp
    rw [hp] at e
    rw [hR] at e
    have h2 := bst_own e.symm
    rw [h1, hR] at h2
    exact h (List.append_cancel_left h2)
theorem sep_takes {p q : List Nat} (c : Nat) (hR : tkS p ≠ tkS q) (hl : (tkS p).length ≤ (tkS q).length) (h1 : c ∉ tkS q) (h2 : c ∉ puS q) : bst p (tkS p ++ [c]) ≠ bst q (tkS p ++ [c]) := by
  intro e
  have hs : List.Sublist (pend p) (tkS p ++ [c]) := by
    rw [(pend_core p).1]
    exact (List.take_sublist _ _).trans (List.sublist_append_left _ _)
  cases hp : bst p (tkS p ++ [c]) with
  | none => exact (bst_iff p _).mpr hs hp
  | some r =>
    have a1 := bst_aft p _ r hp
    rw [List.append_assoc, aft_all ([c] ++ puS p) (tkS p) (tkS p) 0 ((emb_sub _ _ 0).mp (List.Sublist.refl _))] at a1
    injection a1 with a1
    have hc : c ∈ r := by rw [← a1]; simp
    rw [hp] at e
    have a2 := bst_aft q _ r e.symm
    have hn : ¬ List.Sublist (tkS q) (tkS p ++ [c]) := by
      intro hsub
      rw [sub_snoc] at hsub
      have hg : ¬ (tkS q).getLast? = some c := fun hg => h1 (List.mem_of_getLast? hg)
      rw [if_neg hg] at hsub
      exact hR (hsub.eq_of_length_le hl).symm
    have hlt : (emb (tkS q) (tkS p ++ [c]) 0).length < (tkS q).length := by
      have := (emb_sub (tkS p ++ [c]) (tkS q) 0)
      have hle : (emb (tkS q) (tkS p ++ [c]) 0).length ≤ (tkS q).length := emb_le _ _ _
      by_cases e1 : (emb (tkS q) (tkS p ++ [c]) 0).length = (tkS q).length
      · exact absurd (this.mpr e1) hn
      · omega
    rw [aft_part (puS q) _ _ 0 hlt] at a2
    obtain ⟨_, er⟩ := aft_some a2
    rw [er] at hc
    exact h2 (List.mem_of_mem_drop hc)
theorem three {p q L : List Nat} (c : Nat) (hc : c ∈ L) (hp : ∀ x ∈ tkS p, x ∈ L) (hq : ∀ x ∈ tkS q, x ∈ L) (p1 : c ∉ tkS p) (p2 : c ∉ puS p) (q1 : c ∉ tkS q) (q2 : c ∉ puS q)
    (h : ∀ z : List Nat, z.length ≤ 1 + min (tkS p).length (tkS q).length → (∀ x ∈ z, x ∈ L) → bst p z = bst q z) : effEq p q := by
  have hR : tkS p = tkS q := by
    by_cases e : tkS p = tkS q
    · exact e
    exfalso
    by_cases hl : (tkS p).length ≤ (tkS q).length
    · refine sep_takes c e hl q1 q2 (h _ ?_ fun x hx => ?_)
      · rw [List.length_append]
        show _ + 1 ≤ _
        omega
      · rcases List.mem_append.mp hx with g | g
        · exact hp x g
        · rw [List.mem_singleton.mp g]; exact hc
    · refine sep_takes c (fun g => e g.symm) (by omega) p1 p2 (h _ ?_ fun x hx => ?_).symm
      · rw [List.length_append]
        show _ + 1 ≤ _
        omega
      · rcases List.mem_append.mp hx with g | g
        · exact hq x g
        · rw [List.mem_singleton.mp g]; exact hc
  have lR : (tkS p).length = (tkS q).length := by rw [hR]
  refine ⟨hR, ?_, ?_⟩
  · by_cases e : puS p = puS q
    · exact e
    exact absurd (h _ (by omega) hp) (sep_puts hR e)
  · rcases Nat.lt_trichotomy (coreN p) (coreN q) with g | g | g
    · exact absurd (h _ (by rw [List.length_take]; omega) fun x hx => hp x (List.mem_of_mem_take hx)) (sep_core hR g)
    · exact g
    · exact absurd (h _ (by rw [List.length_take]; omega) fun x hx => hq x (List.mem_of_mem_take hx)).symm (sep_core hR.symm g)
def apart (p q w : List Nat) : Bool := !decide (bst p w = bst q w)
theorem due_three {p q L : List Nat} (c : Nat) (hc : c ∈ L) (hp : ∀ x ∈ tkS p, x ∈ L) (hq : ∀ x ∈ tkS q, x ∈ L) (p1 : c ∉ tkS p) (p2 : c ∉ puS p) (q1 : c ∉ tkS q) (q2 : c ∉ puS q) {s k : Nat} (hs : s = 1 + min (tkS p).length (tkS q).length) (hk : s ≤ k) :
    (((layers L k).filter fun w => decide (w.length ≤ s)).filter (apart p q) = []) ↔ effEq p q := by
  rw [List.filter_eq_nil_iff]
  constructor
  · intro h
    refine three c hc hp hq p1 p2 q1 q2 fun z hz hx => ?_
    have hm : z ∈ (layers L k).filter fun w => decide (w.length ≤ s) := by
      refine List.mem_filter.mpr ⟨?_, decide_eq_true (by omega)⟩
      unfold layers
      exact List.mem_flatMap.mpr ⟨z.length, List.mem_range.mpr (by omega), (layer_mem L _ z).mpr ⟨rfl, hx⟩⟩
    have := h z hm
    unfold apart at this
    by_cases e : bst p z = bst q z
    · exact e
    · rw [decide_eq_false e] at this
      exact absurd rfl this
  · intro h z _
    unfold apart
    rw [decide_eq_true (eff_same h z)]
    exact Bool.false_ne_true
end Gn

set_option Elab.async false
set_option linter.all false
set_option maxRecDepth 100000
set_option maxHeartbeats 4000000
/-! text[::-1]; own == -/
namespace Gn
open PySem PySem.Spec PyProof.Rows L2 Own Exn Mth Vld
section
variable {X : Cx}
theorem rev_pick (l : List Nat) : ((Builtin.Str.strSliceIndices none none (-1) (mk l).length).filterMap ((mk l).cps[·]?)).toArray = l.reverse.toArray := by
  rw [picked_rev, PySem.W.krv_range, List.filterMap_reverse]
  show ((List.range (mk l).cps.size).filterMap ((mk l).cps[·]?)).reverse.toArray = _
  rw [PySem.W.krv_all]
def tRevS (te : TE) : TE := fun σ H Q => te σ H fun x H1 => ∃ l : List Nat, x = .str (mk l) ∧ l.length ≤ sizeLine ∧ Q (.str (mk l.reverse)) H1
theorem pe_revS {e : Expr} {te : TE} {k : Nat} {p1 p2 p3 pos : Pos} (he : PE X e te) : PE X (.Subscript e (.Slice none none (some (.UnaryOp .USub (.Constant (.int 1) k p1) p2)) p3) pos) (tRevS te) := by
  refine ⟨fun pins s σ H Q I h => Subscript_ (thn (he.run pins s σ H _ I h) fun v s1 ⟨x, H1, I1, r1, q1⟩ => ?_)⟩
  obtain ⟨l, ex, hl, q⟩ := q1
  subst ex
  obtain ⟨t, rfl⟩ := r1
  have hst : PO X (some (.UnaryOp .USub (.Constant (.int 1) k p1) p2)) (tPart (tUn (rU fun i => .int (-i)) (tC (.int 1)))) := po_some (pe_un un_neg pe_int)
  refine wpAny_Slice (thn (po_none.run pins s1 σ H1 (fun o H2 => o = none ∧ H2 = H1) I1 ⟨rfl, rfl⟩) fun vl s2 ⟨l2, H2, I2, pl, el, e2⟩ => ?_)
  subst el e2
  refine thn (po_none.run pins s2 σ H2 (fun o H3 => o = none ∧ H3 = H2) I2 ⟨rfl, rfl⟩) fun vu s3 ⟨u, H3, I3, pu, eu, e3⟩ => ?_
  subst eu e3
  refine thn (hst.run pins s3 σ H3 (fun o H4 => o = some (-1) ∧ H4 = H3) I3 ⟨1, rfl, -1, rfl, rfl, rfl⟩) fun vs s4 ⟨o, H4, I4, ps, eo, e4⟩ => ?_
  subst eo e4
  have I5 : Inv X pins σ H4 { s4 with heap := s4.heap.push { cls := .type "slice", data := .fields #[vl, vu, vs] } } := I4.kept (t' := s4.toks) fun b ob q => Heap.get?_push_of_some _ q
  obtain ⟨a1, rfl, g1⟩ := IsPart.raw pl
  obtain ⟨a2, rfl, g2⟩ := IsPart.raw pu
  obtain ⟨a3, rfl, g3⟩ := IsPart.raw ps
  cases a1 with
  | some y => cases g1
  | none =>
  cases a2 with
  | some y => cases g2
  | none =>
  cases a3 with
  | none => cases g3
  | some y =>
  obtain ⟨i, tk⟩ := y
  have hi : i = -1 := by injection g3
  subst hi
  refine tail_any (ops := [.str (mk l) t, .ref s4.heap.objs.size]) (typeIs_str _ _ _) (F.slot_str_getitem.lookup) ?_ (by with_unfolding_all rfl)
  refine wpAny_getItem_str_slice (l := none) (u := none) (st := some (-1, tk)) ⟨_, Heap.get?_push_size _ rfl, rfl, rfl⟩ rfl ?_
  show Made.post (Made.str ⟨((Builtin.Str.strSliceIndices none none (-1) (mk l).length).filterMap ((mk l).cps[·]?)).toArray⟩) (EP X pins σ Q) _
  rw [rev_pick]
  exact ⟨(by rw [show (⟨l.reverse.toArray⟩ : Str).length = (mk l.reverse).length from rfl, len_mk, List.length_reverse]; exact hl), .str (mk l.reverse), H4, I5.tok _, ⟨_, rfl⟩, q⟩
end
end Gn

set_option Elab.async false
set_option linter.all false
set_option maxRecDepth 100000
set_option maxHeartbeats 4000000
/-! own != by way of object.__ne__ -/
namespace Nws
open PySem PySem.Spec PySem.W PyProof.Rows
section
variable {prog : Program} {w : World} {A : Around} {E : Value → Shared → Prop} {s : Shared} {K : Frag} {x C f L : Addr} {ox : Obj} {od : Option Obj} {h₀ : Heap} {m : Str → Option Value} {b tb : Value}
theorem ifBound_B {M : Model} {name : Str} {id : String} {args : List Value} {Q : Option Value → Shared → Prop} (X : K.In s.heap) (I : InstAt s.heap x ox C od) (hs : findIn K (.ref C) name = some (some (.builtin id)))
    (hb : ∀ self, bindSpecial (.builtin id) self = pure (.builtin id, [self])) (h : wpAny M A (call (.builtin id) (.ref x :: args)) (fun v => Q (some v)) E s) : wpAny M A (callSpecialIfBound? (.ref x) name args) Q E s := by
  unfold callSpecialIfBound? bindSpecialIfBound?
  refine wpAny_holding (wpAny_bind (wpAny_bind (wpAny_bind (I.type.here ((looks_findIn X hs).here ?_)))))
  refine wpAny_bind (wpAny_askSetting (wpAny_ite ?_))
  have fin : wpAny M A (call (.builtin id) ([.ref x] ++ args) >>= fun v => pure (some v)) Q E s := wpAny_bind (wpAny_mono h (fun v s' h' => wpAny_pure h') fun _ _ h' => h')
  split
  · exact wpAny_bind ((Looks.of_pure (hb _)).here (wpAny_pure (by exact fin)))
  · exact wpAny_tryCatch (wpAny_bind ((Looks.of_pure (hb _)).here (wpAny_pure (by exact fin))))
open Builtin in
theorem ne_entry {Q : Value → Shared → Prop} (hu : A.in1.units < cLine) (X : K.In s.heap) (I : InstAt s.heap x ox C od) (hm : mroIn K C (.type "object") = some true) (he : findIn K (.ref C) "__eq__" = some (some (.ref f))) (hf : isFn K (.ref f) = true)
    (h : wpAny (model prog w) A.in1 (call (.ref f) [.ref x, b]) (fun v s' => ∃ c, v = .bool c ∧ Q (.bool (!c)) s') E s) : wpAny (model prog w) A (call (.builtin "object.__ne__") [.ref x, b]) Q E s := by
  refine wpAny_call (codeAny_call_builtin PySem.F.slot_tuple_iterator_ne.plain PySem.F.cmpEntry_ne (check_slot (i := "object.__ne__") (owner := "object") (n := "__ne__") (by decide +kernel) (by decide +kernel) (I.type.andThen (looks_mroIn X hm)) (PySem.F.cmpArgs_ne _ _) ?_))
  unfold Builtin.«object.__ne__»
  refine wpAny_bind (m := slotArgs "__ne__" 1 _) (wpAny_pure ?_)
  refine wpAny_bind (m := cRoomFor _ _) (wpAny_cRoomFor hu ?_)
  refine wpAny_bind (m := callSpecialIfBound? (.ref x) (Str.ofString "__eq__") _) (ifBound_K X I he hf (wpAny_mono h (fun r s' hq => ?_) fun _ _ y => y))
  obtain ⟨c, rfl, hq⟩ := hq
  exact wpAny_bind (m := truthy (.bool c)) (wpAny_truthy_bool (wpAny_pure hq))
theorem cmp_ne {Q : Value → Shared → Prop} (hu : A.units < cLine) (hu1 : A.in1.units < cLine) (F : Fr h₀ L s.heap m) (X₀ : K.In h₀) (I : InstAt s.heap x ox C od) (hb : Looks (model prog w) s.heap (typeOf b) tb) (hn : notFirst K C tb = true)
    (hs : findIn K (.ref C) "__ne__" = some (some (.builtin "object.__ne__"))) (hm : mroIn K C (.type "object") = some true) (he : findIn K (.ref C) "__eq__" = some (some (.ref f))) (hf : isFn K (.ref f) = true)
    (h : wpAny (model prog w) A.in1 (call (.ref f) [.ref x, b]) (fun v s' => ∃ c, v = .bool c ∧ Q (.bool (!c)) s') E s) : wpAny (model prog w) A (richCompare .NotEq (.ref x) b) Q E s := by
  have X := X₀.keeps F.keep
  have one : wpAny (model prog w) A (tryCompare (.ref x) "__ne__" b) (fun r s' => ∃ v, r = some v ∧ Q v s') E s := by
    unfold tryCompare
    refine wpAny_bind (ifBound_B X I hs PySem.F.slot_tuple_iterator_ne.bind (ne_entry hu1 X I hm he hf (wpAny_mono h (fun v s' hv => ?_) fun _ _ e => e)))
    obtain ⟨c, rfl, hq⟩ := hv
    exact ⟨c, rfl, wpAny_pure ⟨_, rfl, hq⟩⟩
  unfold richCompare
  simp only [oneThing_ref]
  refine wpAny_holding (wpAny_bind (wpAny_cRoomFor hu ?_))
  refine wpAny_bind (I.type.here (wpAny_bind (hb.here ?_)))
  rw [PySem.cmpInfo_NotEq]
  split
  · rename_i q
    have e : subIn K tb (.ref C) = some false := by
      rcases Bool.or_eq_true_iff.mp hn with e | e
      · rw [beq_iff_eq.mp e] at q; simp at q
      · exact beq_iff_eq.mp e
    refine wpAny_bind ((looks_subIn X e).here ?_)
    simp only [Bool.false_eq_true, if_false]
    refine wpAny_bind (wpAny_mono one (fun r s' z => ?_) fun _ _ e => e)
    obtain ⟨v, rfl, hq⟩ := z
    exact wpAny_pure hq
  · refine wpAny_bind (wpAny_pure ?_)
    simp only [Bool.false_eq_true, if_false]
    refine wpAny_bind (wpAny_mono one (fun r s' z => ?_) fun _ _ e => e)
    obtain ⟨v, rfl, hq⟩ := z
    exact wpAny_pure hq
end
end Nws
namespace Ows
open PySem PySem.Spec PyProof.Rows L2 ClX
section
variable {X : Cx} {CX : CXT} {k : Nat} {C g : Addr} {sp : Sp} {E : XK}
def rNeOwn (K : PySem.W.Frag) (C : Addr) (sp : Sp) (E : XK) : R2 := fun x y H Q => ∃ (a dx : Addr) (fs : List (Str × V)) (t : Value), x = .ref a ∧ H a = some (.ins C dx fs) ∧ TyX K H y t ∧ PySem.W.notFirst K C t = true ∧ sp [x, y] H (fun z H' => ∃ b, z = .bl b ∧ Q (.bl (!b)) H') E
theorem op_neOwn (hs : PySem.W.findIn X.K (.ref C) "__ne__" = some (some (.builtin "object.__ne__"))) (hm : PySem.W.mroIn X.K C (.type "object") = some true) (he : PySem.W.findIn X.K (.ref C) "__eq__" = some (some (.ref g))) (hf : PySem.W.isFn X.K (.ref g) = true) (F : FnR X.prog X.w X.K X.mg X.base CX k g sp)
    (hr : Room (k + 1) X.A) (hx : Passes CX X E) : OpR X (compareOp .NotEq) (rNeOwn X.K C sp E) := by
  intro pins s σ H x y v u Q I rx ry h
  obtain ⟨a, dx, fs, t, rfl, ha, hy, hn, q⟩ := h
  cases (show v = Value.ref a from rx)
  obtain ⟨mA, O, _⟩ := ins_get I.hok ha
  obtain ⟨od, J, _⟩ := O.look
  obtain ⟨Pp, Z, pz, _⟩ := kit_of I ry hy
  obtain ⟨m, hF⟩ := I.fr
  show wpAny _ _ (richCompare .NotEq _ _) _ _ _
  have hr1 : Room k X.A.in1 := hr.in1
  refine Nws.cmp_ne (tb := t) hr.units0 hr1.units0 hF I.ok.mod.kin J (Z.ty _ _ I.kIn pz) hn hs hm he hf ?_
  refine wpAny_mono (wpAny_call (SlX.run_at (us := [.ref a, u]) (ws := [.ref a, y]) F hr1 I.env0.in1 hx I (.cons rfl (.cons ry .nil)) q)) (fun w s' z => ?_) fun _ _ x => x
  obtain ⟨z', H', I', rz, b, eb, qz⟩ := z
  subst eb
  cases (show w = Value.bool b from rz)
  exact ⟨b, rfl, .bl (!b), H', I', rfl, qz⟩
end
end Ows

set_option Elab.async false
set_option linter.all false
set_option maxRecDepth 100000
set_option maxHeartbeats 4000000
/-! enumerate of a tuple -/
namespace PySem
open AutoSeq1 (wpAny_loadPart')
theorem meets_enumerate_newT (l : Addr) (items : Array Value) (n : Nat) (dct : Option Addr) (sl : Array (Option Value)) :
    Meets (Builtin.«enumerate.__new__» ⟨[.type "enumerate", .ref l], []⟩) (fun _ R s => s.heap.get? l = some { cls := .type "tuple", dict := dct, data := .seq items n, slots := sl } ∧
      R (.ok (.ret (.ref (s.heap.push { cls := .type "tuple_iterator", data := .fields #[.ref l, .int 0 0] }).objs.size)))
        { s with heap := (s.heap.push { cls := .type "tuple_iterator", data := .fields #[.ref l, .int 0 0] }).push { cls := .type "enumerate", data := .fields #[.none, .bool false, .ref s.heap.objs.size, rawInt 0, .none, .none] } }) :=
  .of_wp fun prog w A R s h => by
    obtain ⟨hp, g, d, tk, os⟩ := s; obtain ⟨hl, h⟩ := h
    have hsub := sub_enumerate
    have hL : Heap.IsTuple (Shared.heap ⟨hp, g, d, tk, os⟩) l items := ⟨_, hl, rfl, n, rfl⟩
    wp_walk using wpAny_loadPart' hl
    refine wpAny_stack_any fun st => wpAny_pure ?_
    split
    · rename_i c _ _ _ _ _
      cases (c == Value.type "enumerate")
      · wp_walk using wpAny_loadPart' hl, wpAny_pyIter_tuple hL
        exact ⟨_, rfl, h⟩
      · wp_walk using wpAny_loadPart' hl, wpAny_pyIter_tuple hL
        exact ⟨_, rfl, h⟩
    · wp_walk using wpAny_loadPart' hl, wpAny_pyIter_tuple hL
      exact ⟨_, rfl, h⟩
theorem call_enumerate_tuple {prog : Program} {w : World} {A : Around} {E : Value → Shared → Prop} {s : Shared} {l : Addr} {items : Array Value} {Q : Value → Shared → Prop} (hL : s.heap.IsTuple l items)
    (h : ∀ h', IsEnum h' (s.heap.objs.size + 1) s.heap.objs.size 0 .none → h'.IsTupleIter s.heap.objs.size l 0 → h'.objs.size = s.heap.objs.size + 2 →
      (∀ b o, s.heap.get? b = some o → h'.get? b = some o) → Q (.ref (s.heap.objs.size + 1)) { s with heap := h' }) :
    wpAny (model prog w) A (call (.type "enumerate") [.ref l]) Q E s := by
  obtain ⟨⟨c, dct, dt, sl⟩, hl, hc, n, hd⟩ := hL
  replace hc : c = .type "tuple" := hc
  replace hd : dt = .seq items n := hd
  subst hc hd
  refine callType_new F.called_enumerate (by decide) (F.typeCall_enumerate_1 _) (F.newCall_enumerate_1 _) (fun obj => F.args_object_init_2 obj _) F.entry_enumerate_new
    (meets_enumerate_newT l items n dct sl) ⟨hl, ?_⟩
  have hz : (s.heap.push { cls := .type "tuple_iterator", data := .fields #[.ref l, .int 0 0] }).objs.size = s.heap.objs.size + 1 := Heap.size_push ..
  show _ ∧ _
  rw [hz]
  have he : IsEnum ((s.heap.push { cls := .type "tuple_iterator", data := .fields #[.ref l, .int 0 0] }).push
      { cls := .type "enumerate", data := .fields #[.none, .bool false, .ref s.heap.objs.size, rawInt 0, .none, .none] }) (s.heap.objs.size + 1) s.heap.objs.size 0 .none := by
    have := Heap.get?_push_size (s.heap.push { cls := .type "tuple_iterator", data := .fields #[.ref l, .int 0 0] })
      (o := { cls := .type "enumerate", data := .fields #[.none, .bool false, .ref s.heap.objs.size, rawInt 0, .none, .none] }) rfl
    rw [hz] at this; exact this
  refine ⟨⟨_, he, rfl⟩, h _ he ⟨_, Heap.get?_push_of_some _ (Heap.get?_push_size _ rfl), rfl, rfl⟩ (by rw [Heap.size_push, hz]) fun b o x => Heap.get?_push_of_some _ (Heap.get?_push_of_some _ x)⟩
end PySem
namespace L2
open PySem PySem.Spec PyProof.Rows
/-- the tuple at a, each item in a new pair -/
def IteT (K : PySem.W.Frag) (a : Addr) : It :=
  ⟨fun i H => ∃ (xs : List V) (x : V), SqT K H a xs ∧ xs[i]? = some x, fun i H v H' => ∃ T x, v = .ref T ∧ H T = none ∧ H' = upd H T (.tup [.int (i : Nat), x]) ∧ ∀ xs, SqT K H a xs → xs[i]? = some x, fun i H => ∃ xs : List V, SqT K H a xs ∧ xs.length = i⟩
/-- a text, each sign in a new pair -/
def IteS (z : Str) : It :=
  ⟨fun i _ => i < z.cps.size, fun i H v H' => ∃ T c, v = .ref T ∧ H T = none ∧ H' = upd H T (.tup [.int (i : Nat), .str ⟨#[c]⟩]) ∧ z.cps[i]? = some c, fun i _ => z.cps.size = i⟩
theorem turn_enumT {P : Program} {w : World} {K : PySem.W.Frag} {elts : List Expr} {kk : Nat} {tpos : Pos} (a e it : Addr) :
    Turn P w K (.Tuple elts kk tpos) (IteT K a) [e, it] e (fun i h => (∃ old, IsEnum h e it ((i : Nat) : Int) old) ∧ h.IsTupleIter it a i ∧ e ≠ it) where
  mem := by simp
  obj := fun i h st b hb => by
    obtain ⟨⟨old, he⟩, ⟨o, ho, hc, hd⟩, _⟩ := st
    have e' : b = e ∨ b = it := by simpa using hb
    rcases e' with z | z
    · rw [z]; exact ⟨_, he, fun v q => nomatch q⟩
    · rw [z]; exact ⟨o, ho, fun v q => by rw [hd] at q; cases q⟩
  keep := fun i h h' st k => let ⟨⟨old, he⟩, hi, hne⟩ := st; ⟨⟨old, k e (by simp) _ he⟩, hi.at fun o q => k it (by simp) o q, hne⟩
  item := by
    intro X hP hw hK hc i pins s σ H E I hf st hg
    subst hP hw hK
    obtain ⟨⟨old, he⟩, hit, hne⟩ := st
    obtain ⟨xs, x, hq, hx⟩ := hg
    obtain ⟨its, rv, p, hz⟩ := I.tuple hq
    obtain ⟨u, hu, ru⟩ := rv.get hx
    have hel : e < s.heap.objs.size := Heap.lt_size he
    have hil : it < s.heap.objs.size := by obtain ⟨_, q, _⟩ := hit; exact Heap.lt_size q
    have hai : a ≠ it := fun z => by
      obtain ⟨o1, q1, c1, _⟩ := p
      obtain ⟨o2, q2, c2, _⟩ := hit
      rw [z, q2] at q1
      cases q1
      rw [c2] at c1
      revert c1
      decide
    have hae : e ≠ a := fun z => by
      obtain ⟨o1, q1, c1, _⟩ := p
      have he' := he
      unfold IsEnum at he'
      rw [z, q1] at he'
      cases he'
      have c2 : Value.type "enumerate" = Value.type "tuple" := c1
      revert c2
      decide
    refine wpAny_pyNext_enum_itemD (Draws.tuple (A := X.A.in1) (I.ok.hd hc) it a hai its.toArray) he ⟨hit, p⟩ (by rw [List.size_toArray]; exact (List.getElem?_eq_some_iff.mp hu).1) hne (by simp; exact ⟨hne, hae⟩) fun x2 h' tk hx2 ho hst' hT hsz hk => ?_
    have hx3 : x2 = u := by
      have h1 : its[i]? = some x2 := by simpa using hx2
      rw [hu] at h1
      cases h1
      rfl
    subst hx3
    refine ⟨_, rfl, wpAny_letOwnedTupleGo_enum (s := { s with heap := h', toks := tk + 1 }) ho fun h'' he' sb => ?_⟩
    have hT2 : h''.get? s.heap.objs.size = some { cls := .type "tuple", data := .seq #[.int i tk, x2] } := (sb.2 _ (Nat.ne_of_gt hel)).trans hT
    have new : ObjOk X.prog X.w (upd H s.heap.objs.size (.tup [.int (i : Nat), x])) h'' s.heap.objs.size (.tup [.int (i : Nat), x]) :=
      ⟨by show 2 ≤ sizeLine; decide, [.int i tk, x2], .cons ⟨_, rfl⟩ (.cons ru .nil), ⟨_, hT2, rfl, _, rfl⟩⟩
    have I1 : Inv X pins σ (upd H s.heap.objs.size (.tup [.int (i : Nat), x])) { s with heap := h'', toks := tk + 1 } :=
      I.turnedNew (ch := [e, it]) (fun b ob hb q => (sb.2 b (fun z => hb (by simp [z]))).trans (hk b ob (fun z => hb (by simp [z])) (fun z => hb (by simp [z])) q)) hf (Nat.le_refl _) new
    refine ⟨.ref s.heap.objs.size, _, I1, rfl, ⟨_, x, rfl, I.hok.fresh (Nat.le_refl _), rfl, fun ys hy => by rw [I.tuple_inj hy hq]; exact hx⟩, ⟨⟨x2, ?_⟩, hst'.1.at fun o q => (sb.2 it (Ne.symm hne)).trans q, hne⟩, fun b hb => ?_⟩
    · have e1 : ((i + 1 : Nat) : Int) = (i : Int) + 1 := by omega
      rw [e1]; exact he'
    · have hb' : b < s.heap.objs.size := by
        have e' : b = e ∨ b = it := by simpa using hb
        rcases e' with z | z
        · rw [z]; exact hel
        · rw [z]; exact hil
      rw [upd_ne (Nat.ne_of_lt hb')]
      exact (hf b hb).1
  done := by
    intro X hP hw hK hc i pins s σ H E I hf st hg
    subst hP hw hK
    obtain ⟨⟨old, he⟩, hit, hne⟩ := st
    obtain ⟨xs, hq, hx⟩ := hg
    obtain ⟨its, rv, p, hz⟩ := I.tuple hq
    obtain ⟨f0, f1, f2, f3, f4, f5⟩ := hf it (by simp)
    have hl := rv.length
    have hai : a ≠ it := fun z => by
      obtain ⟨o1, q1, c1, _⟩ := p
      obtain ⟨o2, q2, c2, _⟩ := hit
      rw [z, q2] at q1
      cases q1
      rw [c2] at c1
      revert c1
      decide
    have hn : its.toArray.size = i := by rw [List.size_toArray]; omega
    refine wpAny_pyNext_enum_endD (Draws.tuple (A := X.A.in1) (I.ok.hd hc) it a hai its.toArray) he ⟨by rw [hn]; exact hit, p⟩ fun h' eb => ⟨rfl, I.turned (t' := s.toks) (fun b o hb q => eb b o hb q) f0 f1 f3 f4 f5⟩
  self := fun A i s Q E st h => let ⟨⟨_, he⟩, _⟩ := st; wpAny_pyIter_enum he h
def iEnumT (K : PySem.W.Frag) (ta : TA) : TI := fun σ H R => ta σ H fun vs H1 => ∃ a xs, vs = [.ref a] ∧ SqT K H1 a xs ∧ R (IteT K a) H1
theorem pi_enumT {X : Cx} {e : Expr} {ta : TA} {p pos tpos : Pos} {elts : List Expr} {kk : Nat} (hg : Gl X "enumerate") (hm : X.mg "enumerate" = none) (ha : PA X [e] ta) (hs : starEach [e] X.env = [(false, eval e X.env)] := by rfl) :
    PI X (.Tuple elts kk tpos) (.Call (.Name "enumerate" p) [e] [] pos) (iEnumT X.K ta) := by
  refine ⟨fun pins s σ H R I h => ?_⟩
  refine Call_ (ld_blt I hg hm boot_enumerate (PyProof.Rows.callWith_type1 (thn (ha.run pos pins s σ H _ I h) fun us s1 ⟨vs, H1, I1, r1, q1⟩ => ?_) hs rfl))
  obtain ⟨a, xs, ex, hq, q⟩ := q1
  subst ex
  cases r1 with
  | cons r rr =>
    cases rr
    cases r
    obtain ⟨its, rv, p', hz⟩ := I1.tuple hq
    refine call_enumerate_tuple p' fun h' he hit hsz hk => wpAny_pyIter_enum he ?_
    have I2 : Inv X pins σ H1 { s1 with heap := h' } := I1.kept (t' := s1.toks) hk
    refine ⟨s1.heap.objs.size + 1, [s1.heap.objs.size + 1, s1.heap.objs.size], _, _, H1, rfl, I2, turn_enumT a (s1.heap.objs.size + 1) s1.heap.objs.size, ⟨⟨.none, he⟩, hit, Nat.succ_ne_self _⟩, fun b hb => ?_, q⟩
    have e' : b = s1.heap.objs.size + 1 ∨ b = s1.heap.objs.size := by simpa using hb
    have hle : s1.heap.objs.size ≤ b := by
      rcases e' with z | z
      · rw [z]; exact Nat.le_add_right _ _
      · rw [z]; exact Nat.le_refl _
    exact I1.fpOk hle (I1.hok.fresh hle)
theorem walk_enumT {K : PySem.W.Frag} {a : Addr} {xs : List V} : Walk (IteT K a) xs.length (fun H => SqT K H a xs) (YPair (fun i => some (.int (i : Nat))) (fun i => xs[i]?)) := by
  refine ⟨fun i _ hi q => ⟨xs, xs[i], q, by simp [hi]⟩, fun _ q => ⟨xs, q, rfl⟩, fun i H v H' _ q y => ?_⟩
  obtain ⟨T, x, h1, h2, h3, h4⟩ := y
  exact ⟨T, .int (i : Nat), x, h1, h2, h3, rfl, h4 xs q⟩
theorem turn_enumS {P : Program} {w : World} {K : PySem.W.Frag} {elts : List Expr} {kk : Nat} {tpos : Pos} (z : Str) (t : Tok) (e it : Addr) :
    Turn P w K (.Tuple elts kk tpos) (IteS z) [e, it] e (fun i h => (∃ old, IsEnum h e it ((i : Nat) : Int) old) ∧ h.IsStrIter it (strIterType z) z t i ∧ e ≠ it) where
  mem := by simp
  obj := fun i h st b hb => by
    obtain ⟨⟨old, he⟩, ⟨o, ho, hc, hd⟩, _⟩ := st
    have e' : b = e ∨ b = it := by simpa using hb
    rcases e' with y | y
    · rw [y]; exact ⟨_, he, fun v q => nomatch q⟩
    · rw [y]; exact ⟨o, ho, fun v q => by rw [hd] at q; cases q⟩
  keep := fun i h h' st k => by
    obtain ⟨⟨old, he⟩, ⟨o, ho, r⟩, hne⟩ := st
    exact ⟨⟨old, k e (by simp) _ he⟩, ⟨o, k it (by simp) _ ho, r⟩, hne⟩
  item := by
    intro X hP hw hK hc i pins s σ H E I hf st hg
    subst hP hw hK
    obtain ⟨⟨old, he⟩, hit, hne⟩ := st
    have hel : e < s.heap.objs.size := Heap.lt_size he
    have hil : it < s.heap.objs.size := by obtain ⟨_, q, _⟩ := hit; exact Heap.lt_size q
    refine wpAny_pyNext_enum_itemD (Draws.text (A := X.A.in1) (I.ok.hd hc) it z t) he hit hg hne (by simp; exact hne) fun x2 h' tk hx2 ho hst' hT hsz hk => ?_
    obtain ⟨c, u, hcu, rfl⟩ := hx2
    refine ⟨_, rfl, wpAny_letOwnedTupleGo_enum (s := { s with heap := h', toks := tk + 1 }) ho fun h'' he' sb => ?_⟩
    have hT2 : h''.get? s.heap.objs.size = some { cls := .type "tuple", data := .seq #[.int i tk, .str ⟨#[c]⟩ u] } := (sb.2 _ (Nat.ne_of_gt hel)).trans hT
    have new : ObjOk X.prog X.w (upd H s.heap.objs.size (.tup [.int (i : Nat), .str ⟨#[c]⟩])) h'' s.heap.objs.size (.tup [.int (i : Nat), .str ⟨#[c]⟩]) :=
      ⟨by show 2 ≤ sizeLine; decide, [.int i tk, .str ⟨#[c]⟩ u], .cons ⟨_, rfl⟩ (.cons ⟨_, rfl⟩ .nil), ⟨_, hT2, rfl, _, rfl⟩⟩
    have I1 : Inv X pins σ (upd H s.heap.objs.size (.tup [.int (i : Nat), .str ⟨#[c]⟩])) { s with heap := h'', toks := tk + 1 } :=
      I.turnedNew (ch := [e, it]) (fun b ob hb q => (sb.2 b (fun z => hb (by simp [z]))).trans (hk b ob (fun z => hb (by simp [z])) (fun z => hb (by simp [z])) q)) hf (Nat.le_refl _) new
    refine ⟨.ref s.heap.objs.size, _, I1, rfl, ⟨_, c, rfl, I.hok.fresh (Nat.le_refl _), rfl, hcu⟩, ⟨⟨.str ⟨#[c]⟩ u, ?_⟩, ?_, hne⟩, fun b hb => ?_⟩
    · have e1 : ((i + 1 : Nat) : Int) = (i : Int) + 1 := by omega
      rw [e1]; exact he'
    · obtain ⟨o, q, r⟩ := hst'
      exact ⟨o, (sb.2 it (Ne.symm hne)).trans q, r⟩
    · have hb' : b < s.heap.objs.size := by
        have e' : b = e ∨ b = it := by simpa using hb
        rcases e' with y | y
        · rw [y]; exact hel
        · rw [y]; exact hil
      rw [upd_ne (Nat.ne_of_lt hb')]
      exact (hf b hb).1
  done := by
    intro X hP hw hK hc i pins s σ H E I hf st hg
    subst hP hw hK
    obtain ⟨⟨old, he⟩, hit, hne⟩ := st
    obtain ⟨f0, f1, f2, f3, f4, f5⟩ := hf it (by simp)
    have hn : z.cps.size = i := hg
    refine wpAny_pyNext_enum_endD (Draws.text (A := X.A.in1) (I.ok.hd hc) it z t) he (by rw [hn]; exact hit) fun h' eb => ⟨rfl, I.turned (t' := s.toks) (fun b o hb q => eb b o hb q) f0 f1 f3 f4 f5⟩
  self := fun A i s Q E st h => let ⟨⟨_, he⟩, _⟩ := st; wpAny_pyIter_enum he h
def iEnumS (ta : TA) : TI := fun σ H R => ta σ H fun vs H1 => ∃ z, vs = [.str z] ∧ R (IteS z) H1
theorem pi_enumS {X : Cx} {e : Expr} {ta : TA} {p pos tpos : Pos} {elts : List Expr} {kk : Nat} (hg : Gl X "enumerate") (hm : X.mg "enumerate" = none) (ha : PA X [e] ta) (hs : starEach [e] X.env = [(false, eval e X.env)] := by rfl) :
    PI X (.Tuple elts kk tpos) (.Call (.Name "enumerate" p) [e] [] pos) (iEnumS ta) := by
  refine ⟨fun pins s σ H R I h => ?_⟩
  refine Call_ (ld_blt I hg hm boot_enumerate (PyProof.Rows.callWith_type1 (thn (ha.run pos pins s σ H _ I h) fun us s1 ⟨vs, H1, I1, r1, q1⟩ => ?_) hs rfl))
  obtain ⟨z, ex, q⟩ := q1
  subst ex
  cases r1 with
  | cons r rr =>
    cases rr
    obtain ⟨t, rfl⟩ := r
    refine call_enumerate_str fun h' he hit hsz hk => wpAny_pyIter_enum he ?_
    have I2 : Inv X pins σ H1 { s1 with heap := h' } := I1.kept (t' := s1.toks) hk
    refine ⟨s1.heap.objs.size + 1, [s1.heap.objs.size + 1, s1.heap.objs.size], _, _, H1, rfl, I2, turn_enumS z t (s1.heap.objs.size + 1) s1.heap.objs.size, ⟨⟨.none, he⟩, hit, Nat.succ_ne_self _⟩, fun b hb => ?_, q⟩
    have e' : b = s1.heap.objs.size + 1 ∨ b = s1.heap.objs.size := by simpa using hb
    have hle : s1.heap.objs.size ≤ b := by
      rcases e' with y | y
      · rw [y]; exact Nat.le_add_right _ _
      · rw [y]; exact Nat.le_refl _
    exact I1.fpOk hle (I1.hok.fresh hle)
theorem walk_enumS {z : Str} : Walk (IteS z) z.cps.size (fun _ => True) (fun i H v H' => ∃ T c, v = .ref T ∧ H T = none ∧ H' = upd H T (.tup [.int (i : Nat), .str ⟨#[c]⟩]) ∧ z.cps[i]? = some c) :=
  ⟨fun i _ hi _ => hi, fun _ _ => rfl, fun i H v H' _ _ y => y⟩
end L2

set_option Elab.async false
set_option linter.all false
set_option maxRecDepth 100000
set_option maxHeartbeats 4000000
/-! composition: the core of joined programs -/
namespace Gn
open PySem PySem.Spec PyProof.Rows L2 Own Exn Mth Vld
theorem lst_spec (c : Nat) : ∀ l : List Nat, (lst? c l = none ∧ c ∉ l) ∨ ∃ a b, lst? c l = some a.length ∧ l = a ++ c :: b ∧ c ∉ b
  | [] => .inl ⟨rfl, fun h => nomatch h⟩
  | x :: l => by
    rcases lst_spec c l with ⟨e, h⟩ | ⟨a, b, e, h, h'⟩
    · by_cases hx : x = c
      · refine .inr ⟨[], l, ?_, by rw [hx]; rfl, h⟩
        show (match lst? c l with | some j => some (j + 1) | none => if x = c then some 0 else none) = _
        rw [e]
        show (if x = c then some 0 else none) = _
        rw [if_pos hx]
        rfl
      · refine .inl ⟨?_, fun hm => ?_⟩
        · show (match lst? c l with | some j => some (j + 1) | none => if x = c then some 0 else none) = _
          rw [e]
          show (if x = c then some 0 else none) = _
          rw [if_neg hx]
        · rcases List.mem_cons.mp hm with g | g
          · exact hx g.symm
          · exact h g
    · refine .inr ⟨x :: a, b, ?_, by rw [h]; rfl, h'⟩
      show (match lst? c l with | some j => some (j + 1) | none => if x = c then some 0 else none) = _
      rw [e]
      rfl
def unsG (U W : List Nat) : Nat → Nat → Nat
  | 0, _ => 0
  | k + 1, pl => match lst? (U.getD k 0) (W.take pl) with
    | none => k + 1
    | some j => unsG U W k j
def uns (U W : List Nat) : Nat := unsG U W U.length W.length
theorem unsG_stop {U W : List Nat} {k pl : Nat} (h : lst? (U.getD k 0) (W.take pl) = none) : unsG U W (k + 1) pl = k + 1 := by
  show (match lst? (U.getD k 0) (W.take pl) with | none => k + 1 | some j => unsG U W k j) = _
  rw [h]
theorem unsG_step {U W : List Nat} {k pl j : Nat} (h : lst? (U.getD k 0) (W.take pl) = some j) : unsG U W (k + 1) pl = unsG U W k j := by
  show (match lst? (U.getD k 0) (W.take pl) with | none => k + 1 | some j => unsG U W k j) = _
  rw [h]
theorem unsG_le (U W : List Nat) : ∀ k pl, unsG U W k pl ≤ k
  | 0, _ => Nat.le_refl _
  | k + 1, pl => by
    cases e : lst? (U.getD k 0) (W.take pl) with
    | none => rw [unsG_stop e]; exact Nat.le_refl _
    | some j => rw [unsG_step e]; exact Nat.le_succ_of_le (unsG_le U W k j)
theorem skip_sub {X : List Nat} {u : Nat} : ∀ (Y z : List Nat), u ∉ Y → (List.Sublist (X ++ [u]) (z ++ Y) ↔ List.Sublist (X ++ [u]) z)
  | [], z, _ => by rw [List.append_nil]
  | c :: Y, z, h => by
    rw [show z ++ c :: Y = (z ++ [c]) ++ Y by simp, skip_sub Y (z ++ [c]) (fun g => h (List.mem_cons_of_mem _ g)), sub_snoc, if_neg]
    intro g
    have e : u = c := by simpa using g
    exact h (by rw [e]; exact List.mem_cons_self ..)
theorem last_sub {X z : List Nat} {u : Nat} : List.Sublist (X ++ [u]) (z ++ [u]) ↔ List.Sublist X z := by
  rw [sub_snoc, if_pos (by simp)]
  simp
theorem uns_sub (U W z : List Nat) : ∀ k pl : Nat, k ≤ U.length → (List.Sublist (U.take k) (z ++ W.take pl) ↔ List.Sublist (U.take (unsG U W k pl)) z)
  | 0, pl, _ => by
    rw [show unsG U W 0 pl = 0 from rfl]
    exact ⟨fun _ => List.nil_sublist _, fun _ => List.nil_sublist _⟩
  | k + 1, pl, hk => by
    have hk1 : k < U.length := by omega
    have e1 : U.take (k + 1) = U.take k ++ [U.getD k 0] := by
      rw [List.take_add_one, List.getElem?_eq_getElem hk1, List.getD_eq_getElem?_getD, List.getElem?_eq_getElem hk1]
      rfl
    rcases lst_spec (U.getD k 0) (W.take pl) with ⟨e, h⟩ | ⟨a, b, e, h, h'⟩
    · rw [unsG_stop e, e1, skip_sub _ _ h]
    · rw [unsG_step e, e1, h, show z ++ (a ++ U.getD k 0 :: b) = ((z ++ a) ++ [U.getD k 0]) ++ b by simp, skip_sub _ _ h', last_sub]
      have hl : a.length ≤ pl := by
        have := congrArg List.length h
        rw [List.length_take, List.length_append] at this
        omega
      have ha : a = W.take a.length := by
        have := congrArg (List.take a.length) h
        rw [List.take_take, List.take_left' rfl, Nat.min_eq_left hl] at this
        exact this.symm
      have ih := uns_sub U W z k a.length (by omega)
      rw [← ha] at ih
      exact ih
theorem uns_iff (U W z : List Nat) : List.Sublist U (z ++ W) ↔ List.Sublist (U.take (uns U W)) z := by
  have := uns_sub U W z U.length W.length (Nat.le_refl _)
  rw [List.take_length, List.take_length] at this
  exact this
theorem uns_le (U W : List Nat) : uns U W ≤ U.length := unsG_le U W _ _
theorem bst_app : ∀ (p q z : List Nat), bst (p ++ q) z = (bst p z).bind (bst q)
  | [], q, z => rfl
  | c :: p, q, z => by
    show bst (c :: (p ++ q)) z = _
    by_cases h : 97 ≤ c
    · rw [bst_put h, bst_put h]
      exact bst_app p q _
    · cases e : fst? (c + 32) z with
      | none => rw [bst_fail h e, bst_fail h e]; rfl
      | some k => rw [bst_take h e, bst_take h e]; exact bst_app p q _
theorem aft_sub : ∀ (R u y : List Nat), List.Sublist (R ++ u) y ↔ ∃ r, aft R y = some r ∧ List.Sublist u r
  | [], u, y => by
    rw [aft_nil]
    exact ⟨fun h => ⟨y, rfl, h⟩, fun ⟨r, e, h⟩ => by cases e; exact h⟩
  | c :: R, u, y => by
    rw [aft_fst]
    cases e : fst? c y with
    | none =>
      refine ⟨fun h => ?_, fun ⟨r, e, _⟩ => nomatch e⟩
      have : c ∈ y := h.subset (List.mem_cons_self ..)
      exact absurd this (fst_mem.mp e)
    | some k =>
      show List.Sublist (c :: (R ++ u)) y ↔ _
      rw [sub_fst e]
      exact aft_sub R u _
theorem app_ok (p q z : List Nat) : bst (p ++ q) z ≠ none ↔ List.Sublist ((tkS p).take (coreN p)) z ∧ List.Sublist (tkS p ++ (tkS q).take (coreN q)) (z ++ puS p) := by
  rw [bst_app]
  have hp := bst_iff p z
  rw [(pend_core p).1] at hp
  rw [aft_sub]
  cases e : bst p z with
  | none =>
    constructor
    · intro h; exact absurd rfl h
    · intro h; exact absurd e (hp.mpr h.1)
  | some r =>
    have hq := bst_iff q r
    rw [(pend_core q).1] at hq
    have ha := bst_aft p z r e
    show bst q r ≠ none ↔ _
    rw [hq]
    constructor
    · intro h; exact ⟨hp.mp (by rw [e]; exact fun z => nomatch z), r, ha, h⟩
    · rintro ⟨_, r', e', h'⟩
      rw [ha] at e'
      cases e'
      exact h'
theorem tkS_app (p q : List Nat) : tkS (p ++ q) = tkS p ++ tkS q := by unfold tkS; rw [List.filter_append, List.map_append]
theorem puS_app (p q : List Nat) : puS (p ++ q) = puS p ++ puS q := by unfold puS; rw [List.filter_append]
theorem pre_eq {R : List Nat} {m n : Nat} (hm : m ≤ R.length) (hn : n ≤ R.length) (h : ∀ z, List.Sublist (R.take m) z ↔ List.Sublist (R.take n) z) : m = n := by
  have h1 := ((h (R.take n)).mpr (List.Sublist.refl _)).length_le
  have h2 := ((h (R.take m)).mp (List.Sublist.refl _)).length_le
  rw [List.length_take, List.length_take] at h1 h2
  omega
theorem pre_max {R z : List Nat} (m n : Nat) : (List.Sublist (R.take m) z ∧ List.Sublist (R.take n) z) ↔ List.Sublist (R.take (max m n)) z := by
  have mono : ∀ {a b : Nat}, a ≤ b → List.Sublist (R.take b) z → List.Sublist (R.take a) z := fun {a b} h s => by
    have e : R.take a = (R.take b).take a := by rw [List.take_take, Nat.min_eq_left h]
    rw [e]
    exact (List.take_sublist _ _).trans s
  constructor
  · rintro ⟨h1, h2⟩
    rcases Nat.le_total m n with h | h
    · rw [Nat.max_eq_right h]; exact h2
    · rw [Nat.max_eq_left h]; exact h1
  · intro h
    exact ⟨mono (Nat.le_max_left ..) h, mono (Nat.le_max_right ..) h⟩
def jcore (R W : List Nat) (k : Nat) (R' : List Nat) (k' : Nat) : Nat := max k (uns (R ++ R'.take k') W)
theorem core_app (p q : List Nat) : coreN (p ++ q) = jcore (tkS p) (puS p) (coreN p) (tkS q) (coreN q) := by
  obtain ⟨e, hle⟩ := pend_core (p ++ q)
  have hk := (pend_core p).2
  have hk' := (pend_core q).2
  have hu := uns_le (tkS p ++ (tkS q).take (coreN q)) (puS p)
  rw [List.length_append, List.length_take] at hu
  rw [tkS_app] at e hle
  have hj : jcore (tkS p) (puS p) (coreN p) (tkS q) (coreN q) ≤ (tkS p ++ tkS q).length := by
    unfold jcore
    rw [List.length_append]
    exact Nat.max_le.mpr ⟨by omega, by omega⟩
  refine pre_eq hle hj fun z => ?_
  rw [← e, ← bst_iff, app_ok, uns_iff]
  unfold jcore
  rw [← pre_max]
  have e1 : (tkS p).take (coreN p) = (tkS p ++ tkS q).take (coreN p) := by rw [List.take_append_of_le_length hk]
  have e2 : (tkS p ++ (tkS q).take (coreN q)).take (uns (tkS p ++ (tkS q).take (coreN q)) (puS p)) = (tkS p ++ tkS q).take (uns (tkS p ++ (tkS q).take (coreN q)) (puS p)) := by
    rw [List.take_append, List.take_append, List.take_take]
    congr 2
    omega
  rw [e1, e2]
end Gn

set_option Elab.async false
set_option linter.all false
set_option maxRecDepth 100000
set_option maxHeartbeats 4000000
/-! methods by a positional promise, errors at places -/
namespace Cmx
open PySem PySem.Spec PyProof.Rows L2 ClX
section
variable {X : Cx} {CX : CXT} {k : Nat} {f C : Addr} {sp : Sp} {E : L2.St → XK} {m : Str} {pos apos : Pos} {e o : Expr} {es : List Expr} {ta : TE} {t : TA}
theorem run_fnRS {pins : List (Addr × Obj)} {σ : L2.St} {H : Hp} {s : Shared} {Q : VK} {us : List Value} {vs : List V} (F : FnR X.prog X.w X.K X.mg X.base CX k f sp) (hr : Room k X.A) (hx : PassesAt CX X σ (E σ))
    (I : Inv X pins σ H s) (r : Vals vs us) (h : sp vs H Q (E σ)) : wpAny (model X.prog X.w) X.A (call (.ref f) us) (EP X pins σ Q) X.xe s := by
  refine wpAny_call (codeAny_mono (F X.A X.stack s H us vs Q (E σ) hr I.env0 r h) fun r s' hq => ?_)
  cases r with
  | error e => exact hx pins H s e s' I hq
  | ok fl =>
    cases fl with
    | ret u => exact I.after hq
    | next => exact False.elim hq
    | brk => exact False.elim hq
    | cont => exact False.elim hq
theorem pe_methRS {pl : Sem Bool} (he : PE X o ta) (c : Cls X.K C) (hm : Meth X.K C m f) (F : FnR X.prog X.w X.K X.mg X.base CX k f sp) (hr : Room k X.A) (hx : ∀ σ, PassesAt CX X σ (E σ)) (ha : PA X (e :: es) t)
    (hst : starEach (e :: es) X.env = (false, eval e X.env) :: starEach es X.env := by rfl) (hpl : (backTo pos (starEach es X.env)).any (·.1) = false := by rfl)
    (ht : eval (.Call (.Attribute o m apos) (e :: es) [] pos) X.env = (do
      let ov ← eval o X.env
      standAt apos.atName
      let (f, first) ← holding [ov] (getMethod ov m pl)
      callWith pos f first (backTo pos (starEach (e :: es) X.env)) (backToKw pos (keywordEach [] X.env))) := by rfl) :
    PE X (.Call (.Attribute o m apos) (e :: es) [] pos) (tMethX C m sp E ta t) := by
  refine ⟨fun pins s σ H Q I h => ?_⟩
  refine PySem.W.methodCall_KW (pl := pl) (thn (he.run pins s σ H _ I h) fun u s1 ⟨x, H1, I1, rx, a, dx, fs, ex, ea, l, q⟩ => ?_) ht
  subst ex
  obtain rfl : u = Value.ref a := rx
  refine getmeth_ok I1 ea c hm l ?_
  refine PySem.W.callWith_K (first := [.ref a]) (h₀ := X.base) I.ok.mod.kin hm.kp (thn (ha.run pos pins s1 σ H1 _ I1 q) fun us s2 ⟨vs, H2, I2, r, q2⟩ => ⟨I2.kIn, ?_⟩) hst hpl
  exact run_fnRS (us := .ref a :: us) (vs := .ref a :: vs) F hr (hx σ) I2 (.cons rfl r) q2
theorem pe_methRS0 {pl : Sem Bool} (he : PE X o ta) (c : Cls X.K C) (hm : Meth X.K C m f) (F : FnR X.prog X.w X.K X.mg X.base CX k f sp) (hr : Room k X.A) (hx : ∀ σ, PassesAt CX X σ (E σ))
    (ht : eval (.Call (.Attribute o m apos) [] [] pos) X.env = (do
      let ov ← eval o X.env
      standAt apos.atName
      let (f, first) ← holding [ov] (getMethod ov m pl)
      callWith pos f first (backTo pos (starEach [] X.env)) (backToKw pos (keywordEach [] X.env))) := by rfl) :
    PE X (.Call (.Attribute o m apos) [] [] pos) (tMethX C m sp E ta tNil) := by
  refine ⟨fun pins s σ H Q I h => ?_⟩
  refine PySem.W.methodCall_KW (pl := pl) (thn (he.run pins s σ H _ I h) fun u s1 ⟨x, H1, I1, rx, a, dx, fs, ex, ea, l, q⟩ => ?_) ht
  subst ex
  obtain rfl : u = Value.ref a := rx
  refine getmeth_ok I1 ea c hm l ?_
  exact PySem.W.callWith_K0 (first := [.ref a]) I1.kIn hm.kp (run_fnRS (us := [.ref a]) (vs := [.ref a]) F hr (hx σ) I1 (.cons rfl .nil) q)
end
end Cmx

set_option Elab.async false
set_option linter.all false
set_option maxRecDepth 100000
set_option maxHeartbeats 4000000
/-! readings with names of their own -/
namespace Cmx
open PySem PySem.Spec PyProof.Rows L2 ClX
section
variable {X : Cx}
def rLenQ (K : PySem.W.Frag) : List V → Hp → VK → Prop := fun xs H Q => ∃ p ys, xs = [.ref p] ∧ (SqL K H p ys ∨ SqT K H p ys) ∧ Q (.int ys.length) H
theorem call_lenQ : CallR X (.builtin "len") (rLenQ X.K) := call_len_seq
def rLenT : List V → Hp → VK → Prop := fun xs H Q => ∃ z, xs = [.str z] ∧ z.length ≤ sizeLine ∧ Q (.int z.length) H
theorem call_lenT : CallR X (.builtin "len") rLenT := call_len_str
end
end Cmx

set_option Elab.async false
set_option linter.all false
set_option maxRecDepth 100000
set_option maxHeartbeats 4000000
/-! except (A, B): a suite that raises out of the try, «from None» -/
namespace Tvx
open PySem PySem.Spec PyProof.Rows L2 L2H
theorem fly_on {B h h' : Heap} {l : List Env} {e : Addr} {Z : Obj → Prop} (x : HandSPX.FlyingZ B l e Z h) (more : ∀ b o, h.get? b = some o → h'.get? b = some o) : HandSPX.FlyingZ B l e Z h' := by
  obtain ⟨i1, i2, i3, oe, vs, T, oT, ts, j1, j2, j3, j4, j5, j6, j7, j8, j9⟩ := x
  exact ⟨fun b o z => more b o (i1 b o z), i2, i3.of_keeps (fun b o z _ => ⟨o, more b o z, rfl⟩), oe, vs, T, oT, ts, more _ _ j1, j2, j3, j4, j5, j6, more _ _ j7, j8, j9⟩
section
variable {X : Cx}
/-- the test of a clause: it asks whether the error's class is one of cs -/
def Tst (X : Cx) (tt : Expr) (cs : List Value) : Prop := ∀ (q : Addr) (pn : List (Addr × Obj)) (τ : L2.St) (G : Hp) (s : Shared) (cls : Value) (b : Bool) (Q : Bool → Shared → Prop) (E : Value → Shared → Prop), Inv (X.suite q pn) [] τ G s → PySem.W.Looks (model X.prog X.w) s.heap (typeOf (.ref q)) cls →
  PySem.W.exmAny X.K cls cs = some b → (∀ h', (∀ a o, s.heap.get? a = some o → h'.get? a = some o) → Q b { s with heap := h' }) → wpAny (model X.prog X.w) (X.A.mark (some (.ref q))) (eval tt X.env) (fun c s1 => wpAny (model X.prog X.w) (X.A.mark (some (.ref q))) (excMatches (.ref q) c) Q E s1) E s
theorem name_at {x : Str} {c : Value} {np : Pos} {q : Addr} {pn : List (Addr × Obj)} {τ : L2.St} {G : Hp} {s : Shared} {Q : Value → Shared → Prop} {E : Value → Shared → Prop} (hc : Names X x c) (I : Inv (X.suite q pn) [] τ G s) (z : Q c s) :
    wpAny (model X.prog X.w) (X.A.mark (some (.ref q))) (eval (.Name x np) X.env) Q E s := by
  rcases hc with ⟨g1, g2, g3 | ⟨g3, g4, g5⟩⟩
  · exact ld_glob (X := X.suite q pn) I g1 g3 z g2
  · exact ld_blt (X := X.suite q pn) I g1 g3 g4 z g5 g2
theorem tst_two {x1 x2 : Str} {c1 c2 : Value} {p1 p2 tpos : Pos} {kk : Nat} (n1 : Names X x1 c1) (n2 : Names X x2 c2) : Tst X (.Tuple [.Name x1 p1, .Name x2 p2] kk tpos) [c1, c2] := by
  intro q pn τ G s cls b Q E I ty hb z
  refine wpAny_Tuple (wpAny_items_cons (name_at n1 I (wpAny_items_cons (name_at n2 I (wpAny_items_nil ⟨by size_fits, ?_⟩)))))
  have more : ∀ a o, s.heap.get? a = some o → (s.heap.push { cls := .type "tuple", data := .seq [c1, c2].toArray }).get? a = some o := fun _ _ y => Heap.get?_push_of_some _ y
  exact (PySem.W.exm_tup2 (I.kIn.keeps more) (ty.keeps more) (Heap.get?_push_size s.heap rfl) hb).here (z _ more)
def wTst (K : PySem.W.Frag) (Wout : WX) (D : Ends) (cs : List Value) (ts : Addr → Value → Option Addr → TS) : WX := fun cls d τ G => ∃ b, PySem.W.exmAny K cls cs = some b ∧ (b = true → ∀ q, G q = none → ts q cls d D τ G) ∧ (b = false → Wout cls d τ G)
def tTryT (K : PySem.W.Frag) (Wout : WX) (cs : List Value) (ts : Addr → Value → Option Addr → TS) (tb : WX → TS) : TS := fun D τ G => tb (wTst K Wout D cs ts) D τ G
variable {tt : Expr} {cs : List Value} {body su : List Stmt} {s0 : Stmt} {pos pos' : Pos} {tb : WX → TS} {ts : Addr → Value → Option Addr → TS} {Wout : WX}
theorem ps_tryT (hst : X.stack = X.env :: X.outer) (hfr : X.env.frame = some X.env.locals) (ht : Tst X tt cs) (leave : ∀ hd : Option Value, PassesOwnAt (model X.prog X.w) (X.A.mark hd) X.A X.env X.xe) (out : L2.Takes X Wout)
    (hbd : ∀ (W : WX) (pn : List (Addr × Obj)) (xe : Value → Shared → Prop), L2N.Takes (X.tr pn xe) W → PassesOwn (model X.prog X.w) X.A X.env xe → PSs (X.tr pn xe) body (tb W))
    (hsu : ∀ (q : Addr) (oq : Obj) (cls : Value) (d : Option Addr) (pn : List (Addr × Obj)), L2N.Zn cls d oq → (∃ vs, oq.data = .fields vs) → L2.Takes (suiteX X q ((q, oq) :: pn)) Wout → HotC (suiteX X q ((q, oq) :: pn)) → PSs (suiteX X q ((q, oq) :: pn)) (s0 :: su) (ts q cls d)) :
    PS X (.Try body [.ExceptHandler (some tt) none (s0 :: su) pos'] [] [] pos) (tTryT X.K Wout cs ts tb) := by
  refine ⟨fun pins s τ G D I h => wpAny_Try_except ?_⟩
  have ok := I.ok
  have frames : X.A.frames = some (X.env :: X.outer) := by rw [ok.frames, hst]
  refine wpAny_mono ((hbd (wTst X.K Wout D cs ts) (X.pn ++ pins) _ (fun u s' got => ?C) PassesOwn.looking).run [] s τ G D (I.toTry _) h) (fun f s1 hsp => ?_) (fun e s1 he => he)
  case C =>
    obtain ⟨q, B, sI, pins', τ', G', cls, d, rfl, J', nb, up, sky, nq, os, bare, w⟩ := got
    obtain ⟨b, hb, yes, no⟩ := w
    have J : Inv X pins τ' G' sI := J'.ofTry ok
    rw [hst] at sky
    refine L2N.Sky.land L2N.Zn.steady frames hfr sky fun h3 fl up3 => ?_
    have J3 : Inv X pins τ' G' { s' with heap := h3 } := J.landed nb fl.1 (up.trans up3) os bare
    obtain ⟨oq, vq, eq3, zq, dq⟩ := fl.there
    have apart : q ∉ frs (X.env :: X.outer) := fun hm => by
      obtain ⟨_, o', e', hnf⟩ := fl.2.2.1.mem hm
      rw [eq3] at e'; cases e'; exact hnf _ dq
    have nL : q ≠ X.env.locals := fun z => apart (List.mem_filterMap.mpr ⟨X.env, List.mem_cons_self, by rw [hfr, z]⟩)
    have nF : q ∉ X.fs := fun hm => by obtain ⟨e, he, r⟩ := List.mem_filterMap.mp hm; exact apart (List.mem_filterMap.mpr ⟨e, List.mem_cons_of_mem _ he, r⟩)
    have S3 := J3.suite eq3 dq nq nL nF
    have ty : PySem.W.Looks (model X.prog X.w) h3 (typeOf (.ref q)) cls := fun A Q E s k z => wpAny_typeOf_ref (k _ _ eq3) (by rw [zq.1]; exact z)
    refine wpAny_handleBy_cons (codeAny_handlers_test (ht q _ τ' G' { s' with heap := h3 } cls b _ _ S3 ty hb fun h4 more => ?_)) (fun z => by cases z)
    have fl4 := fly_on fl more
    have up4 : sI.heap.UpToSlots h4 := (up.trans up3).trans (Heap.UpToSlots.of_keeps more)
    cases b with
    | false =>
      obtain ⟨k1, k2, k3, oe, vs, T, oT, tt', e1, e2, e3, e4, e5⟩ := id fl4
      show wpAny _ X.A (handleBy (.ref q) X.env []) _ _ _
      refine wpAny_handleBy_nil ?_; unfold PySem.passOn; refine wpAny_bind (wpAny_field e1 e3 e4 ?_)
      rw [if_neg (by simp : ¬ ((Value.ref T == Value.none) = true))]
      have last : wpAny (model X.prog X.w) X.A (setFlight (.ref q) X.env.frame) (fun _ t => wpAny (model X.prog X.w) X.A (throw (.ref q) : Sem Flow) (SP X pins D) X.xe t) X.xe { s' with heap := h4 } := by
        rw [hfr]; refine HandSPX.setFlight_upZ fl4 fun h5 hh up5 => wpAny_throw (out _ _ ?_)
        have hh' : HandSPX.HeldZ B (X.env :: X.outer) q (Zc cls d) X.env.locals h5 := ⟨hh.1, hh.2.1, hh.2.2.1, tracedZ_imp (fun o z => z.zc) hh.2.2.2⟩
        exact ⟨q, B, sI, pins, τ', G', cls, d, rfl, J, nb, up4.trans up5, .inr (.inr (by rw [hst]; exact hh')), nq, os, bare, no rfl⟩
      first | exact wpAny_bind (wpAny_pure (wpAny_bind last)) | exact wpAny_bind last
    | true =>
      refine codeAny_handlers_suite (HandSPX.lands_againZ fl4 fun h5 fl5 up5 => ?_)
      have J5 : Inv X pins τ' G' { s' with heap := h5 } := J.landed nb fl5.1 (up4.trans up5) os bare
      obtain ⟨o5, v5, e5, z5, d5⟩ := fl5.there
      have S5 := J5.suite e5 d5 nq nL nF
      have tkS : L2.Takes (suiteX X q ((q, o5) :: (X.pn ++ pins))) Wout := fun u2 s2 got2 => by
        obtain ⟨a2, B2, sI2, pn2, τ2, G2, cls2, d2, f2, I2, g2, i2, j2, l2, m2, n2, w2⟩ := got2
        exact out u2 s2 ⟨a2, B2, sI2, pins, τ2, G2, cls2, d2, f2, unsuiteX I2 ok, g2, i2, j2, l2, m2, n2, w2⟩
      have hot : HotC (suiteX X q ((q, o5) :: (X.pn ++ pins))) := ⟨(q, o5), ⟨rfl, v5, d5, z5.2.2 v5 d5⟩, List.mem_cons_self⟩
      refine wpAny_mono ((hsu q o5 cls d (X.pn ++ pins) z5 ⟨_, d5⟩ tkS hot).run [] _ _ G' _ (suiteX_of S5) (yes rfl q nq)) (fun f s6 hsp => ?_) (fun e6 s6 z => leave (some (.ref q)) e6 s6 z)
      cases f with
      | ret u => obtain ⟨v6, τ6, G6, S6, r6, z6⟩ := hsp; exact ⟨_, _, _, unsuiteX S6 ok, r6, z6⟩
      | next => obtain ⟨τ6, G6, S6, z6⟩ := hsp; exact ⟨_, _, unsuiteX S6 ok, z6⟩
      | brk => obtain ⟨τ6, G6, S6, z6⟩ := hsp; exact ⟨_, _, unsuiteX S6 ok, z6⟩
      | cont => obtain ⟨τ6, G6, S6, z6⟩ := hsp; exact ⟨_, _, unsuiteX S6 ok, z6⟩
  cases f with
  | ret u => obtain ⟨v, τ6, G6, J6, r6, z6⟩ := hsp; exact ⟨v, τ6, G6, J6.ofTry ok, r6, z6⟩
  | next => obtain ⟨τ6, G6, J6, z6⟩ := hsp; exact wpAny_execs_nil ⟨τ6, G6, J6.ofTry ok, z6⟩
  | brk => obtain ⟨τ6, G6, J6, z6⟩ := hsp; exact ⟨τ6, G6, J6.ofTry ok, z6⟩
  | cont => obtain ⟨τ6, G6, J6, z6⟩ := hsp; exact ⟨τ6, G6, J6.ofTry ok, z6⟩
end
/-- what is let out with no context is let out -/
theorem weak {P : Program} {w : World} {K : PySem.W.Frag} {mg : Str → Option Value} {base : Heap} {k : Nat} {f : Addr} {fd : FuncData} {ps : List Str} {sp : Sp} (F : FnOk P w K mg base (L2N.CX P w) k f fd ps sp) : FnOk P w K mg base (L2.CX P w) k f fd ps sp := by
  refine ⟨F.len, fun A outer s H args us vs Q E hr e0 hb r hsp => codeAny_mono (F.run A outer s H args us vs Q E hr e0 hb r hsp) fun res s' hq => ?_⟩
  cases res with
  | ok fl => cases fl <;> exact hq
  | error e =>
    obtain ⟨a, B, H', cls, d, i1, i2, i3⟩ := hq
    exact ⟨a, B, H', cls, d, i1, flyingZ_imp (fun o z => z.zc) i2, i3⟩
section
variable {P : Program} {w : World} {K : PySem.W.Frag} {mg : Str → Option Value} {base : Heap}
/-- a def whose errors have no context -/
theorem okN {x qual : Str} {st : Stmt} {f : Addr} {fd : FuncData} {N ps : List Str} {k : Nat} {sp : Sp} (F : Fun K x qual st f fd) (S : FnScope N ps (defScope st)) (len : ∀ vs H Q E, sp vs H Q E → vs.length = ps.length)
    (hbody : ∀ (cdv : Value) (A : Around) (outer : List Env) (s : Shared) (H : Hp) (vs : List V) (Q : VK) (E : XK), Room k (A.deeper (envOfC qual (defScope st) s.heap.objs.size f cdv)) → sp vs H Q E →
      ∃ t, PSs (cxOf (L2N.CX P w) P w K mg base N qual (defScope st) f cdv A outer s H E) (defBody st) t ∧ t { nx := fun _ H' => Q .non H', rt := Q } (L2.start N vs) H) : FnOk P w K mg base (L2N.CX P w) (k + 1) f fd ps sp := by
  obtain ⟨oc, od, kV, doc, pm, an, cdv, ct, osl, rfl, lk, hcd⟩ := F.ex
  exact fn_of lk hcd S len fun A outer s H vs Q E => hbody cdv A outer s H vs Q E
end
end Tvx

set_option Elab.async false
set_option linter.all false
set_option maxRecDepth 100000
set_option maxHeartbeats 4000000
/-! errors made where one is handled, or with no context; len and repr of own classes -/
namespace Tvx
open PySem PySem.Spec PyProof.Rows L2 L2H Exn
section
variable {X : Cx} {nm qual : Str} {B Bm newId initId : String} {bmB bm0 : List Value} {C fI : Addr}
theorem pmk5_value {a : Expr} {ta : TA} {p pos : Pos} (T : Ecl_value X.K X.mg nm qual B Bm newId initId bmB bm0 C fI) (hdp : X.A.depth + 1 < recursionLimit) (ha : PA X [a] ta) (hg : Gl X nm) (hdb : (nm == ("__debug__" : Str)) = false := by decide)
    (he : starEach (a :: []) X.env = (false, eval a X.env) :: starEach [] X.env := by rfl) (hpl : (backTo pos (starEach [] X.env)).any (·.1) = false := by rfl) : PMk5 X (.Call (.Name nm p) [a] [] pos) (tMk_value C ta) := by
  intro pins s σ H Q I h
  refine wpAny_Call_Name_kw (ld_glob I hg T.gC ?_ hdb)
  refine PySem.W.callWith_K (h₀ := X.base) I.ok.mod.kin T.kC (thn (ha.run pos pins s σ H _ I h) ?_) he hpl
  rintro us s1 ⟨vs, H1, I1, r1, v, rfl, q1⟩
  obtain ⟨v', rfl, rv⟩ := vals1 r1
  refine ⟨I1.kIn, ?_⟩
  have hlim := I1.nolimit
  obtain ⟨hp, g, dr, tk, os⟩ := s1
  refine wpAny_call (made_value T I1.kIn hlim hdp (.inl ⟨rfl, rfl⟩) fun h' tk' e d M => ?_)
  show L2N.MkP X pins σ Q (.ref e) ⟨h', g, dr, tk', os⟩ ∧ Six (.ref e) ⟨h', g, dr, tk', os⟩
  obtain ⟨t1, hoe⟩ := M.obj
  have hns := M.ns
  obtain ⟨G', g1, g2⟩ := restrict h' fun b => decide (b ≠ e)
  have gk : ∀ b, b ≠ e → G'.get? b = h'.get? b := fun b hb => g1 b (decide_eq_true hb)
  have ge : G'.get? e = none := g2 e (by simp)
  have old : ∀ b o, hp.get? b = some o → G'.get? b = some o := fun b o q => (gk b (Nat.ne_of_lt (Nat.lt_of_lt_of_le (Heap.lt_size q) M.new))).trans (M.keep b o q)
  have ob : ObjOk X.prog X.w (upd H1 d (.xd [(("value" : Str), v)])) G' d (.xd [(("value" : Str), v)]) := ⟨_, hns.at (fun o q => (gk d M.dne).trans q), fun f => relO_value rv f⟩
  have J : Inv X pins σ (upd H1 d (.xd [(("value" : Str), v)])) ⟨G', g, dr, tk', os⟩ := I1.laid (t' := tk') old M.dbig ob
  refine ⟨⟨e, _, _, ⟨G', g, dr, tk', os⟩, _, .ref C, some d, rfl, J, fun b o q => ?_, ge, hoe, ⟨rfl, rfl, fun vs hv => by cases hv; rfl⟩, rfl, rfl, ?_, rfl, I1.bare, raises_own T.exC T.tyC, q1 d (I1.hok.fresh M.dbig)⟩, fun a2 oe2 vs2 ea hg2 hd2 => ?_⟩
  · by_cases hb : b = e
    · have q' : G'.get? b = some o := q
      rw [hb, ge] at q'
      cases q'
    · exact (gk b hb).symm.trans q
  · rw [upd_ne (Ne.symm M.dne)]
    exact I1.hok.fresh M.new
  · cases ea
    have hg3 : h'.get? e = some oe2 := hg2
    rw [hoe] at hg3
    cases hg3
    cases hd2
    show (4 : Nat) < 6
    decide
theorem pmk5_index {a : Expr} {ta : TA} {p pos : Pos} (T : Ecl_index X.K X.mg nm qual B Bm newId initId bmB bm0 C fI) (hdp : X.A.depth + 1 < recursionLimit) (ha : PA X [a] ta) (hg : Gl X nm) (hdb : (nm == ("__debug__" : Str)) = false := by decide)
    (he : starEach (a :: []) X.env = (false, eval a X.env) :: starEach [] X.env := by rfl) (hpl : (backTo pos (starEach [] X.env)).any (·.1) = false := by rfl) : PMk5 X (.Call (.Name nm p) [a] [] pos) (tMk_index C ta) := by
  intro pins s σ H Q I h
  refine wpAny_Call_Name_kw (ld_glob I hg T.gC ?_ hdb)
  refine PySem.W.callWith_K (h₀ := X.base) I.ok.mod.kin T.kC (thn (ha.run pos pins s σ H _ I h) ?_) he hpl
  rintro us s1 ⟨vs, H1, I1, r1, v, rfl, q1⟩
  obtain ⟨v', rfl, rv⟩ := vals1 r1
  refine ⟨I1.kIn, ?_⟩
  have hlim := I1.nolimit
  obtain ⟨hp, g, dr, tk, os⟩ := s1
  refine wpAny_call (made_index T I1.kIn hlim hdp (.inl ⟨rfl, rfl⟩) fun h' tk' e d M => ?_)
  show L2N.MkP X pins σ Q (.ref e) ⟨h', g, dr, tk', os⟩ ∧ Six (.ref e) ⟨h', g, dr, tk', os⟩
  obtain ⟨t1, hoe⟩ := M.obj
  have hns := M.ns
  obtain ⟨G', g1, g2⟩ := restrict h' fun b => decide (b ≠ e)
  have gk : ∀ b, b ≠ e → G'.get? b = h'.get? b := fun b hb => g1 b (decide_eq_true hb)
  have ge : G'.get? e = none := g2 e (by simp)
  have old : ∀ b o, hp.get? b = some o → G'.get? b = some o := fun b o q => (gk b (Nat.ne_of_lt (Nat.lt_of_lt_of_le (Heap.lt_size q) M.new))).trans (M.keep b o q)
  have ob : ObjOk X.prog X.w (upd H1 d (.xd [(("index" : Str), v)])) G' d (.xd [(("index" : Str), v)]) := ⟨_, hns.at (fun o q => (gk d M.dne).trans q), fun f => relO_index rv f⟩
  have J : Inv X pins σ (upd H1 d (.xd [(("index" : Str), v)])) ⟨G', g, dr, tk', os⟩ := I1.laid (t' := tk') old M.dbig ob
  refine ⟨⟨e, _, _, ⟨G', g, dr, tk', os⟩, _, .ref C, some d, rfl, J, fun b o q => ?_, ge, hoe, ⟨rfl, rfl, fun vs hv => by cases hv; rfl⟩, rfl, rfl, ?_, rfl, I1.bare, raises_own T.exC T.tyC, q1 d (I1.hok.fresh M.dbig)⟩, fun a2 oe2 vs2 ea hg2 hd2 => ?_⟩
  · by_cases hb : b = e
    · have q' : G'.get? b = some o := q
      rw [hb, ge] at q'
      cases q'
    · exact (gk b hb).symm.trans q
  · rw [upd_ne (Ne.symm M.dne)]
    exact I1.hok.fresh M.new
  · cases ea
    have hg3 : h'.get? e = some oe2 := hg2
    rw [hoe] at hg3
    cases hg3
    cases hd2
    show (4 : Nat) < 6
    decide
theorem pmk5_name {a : Expr} {ta : TA} {p pos : Pos} (T : Ecl_name X.K X.mg nm qual B Bm newId initId bmB bm0 C fI) (hdp : X.A.depth + 1 < recursionLimit) (ha : PA X [a] ta) (hg : Gl X nm) (hdb : (nm == ("__debug__" : Str)) = false := by decide)
    (he : starEach (a :: []) X.env = (false, eval a X.env) :: starEach [] X.env := by rfl) (hpl : (backTo pos (starEach [] X.env)).any (·.1) = false := by rfl) : PMk5 X (.Call (.Name nm p) [a] [] pos) (tMk_name C ta) := by
  intro pins s σ H Q I h
  refine wpAny_Call_Name_kw (ld_glob I hg T.gC ?_ hdb)
  refine PySem.W.callWith_K (h₀ := X.base) I.ok.mod.kin T.kC (thn (ha.run pos pins s σ H _ I h) ?_) he hpl
  rintro us s1 ⟨vs, H1, I1, r1, v, rfl, q1⟩
  obtain ⟨v', rfl, rv⟩ := vals1 r1
  refine ⟨I1.kIn, ?_⟩
  have hlim := I1.nolimit
  obtain ⟨hp, g, dr, tk, os⟩ := s1
  refine wpAny_call (made_name T I1.kIn hlim hdp (.inl ⟨rfl, rfl⟩) fun h' tk' e d M => ?_)
  show L2N.MkP X pins σ Q (.ref e) ⟨h', g, dr, tk', os⟩ ∧ Six (.ref e) ⟨h', g, dr, tk', os⟩
  obtain ⟨t1, hoe⟩ := M.obj
  have hns := M.ns
  obtain ⟨G', g1, g2⟩ := restrict h' fun b => decide (b ≠ e)
  have gk : ∀ b, b ≠ e → G'.get? b = h'.get? b := fun b hb => g1 b (decide_eq_true hb)
  have ge : G'.get? e = none := g2 e (by simp)
  have old : ∀ b o, hp.get? b = some o → G'.get? b = some o := fun b o q => (gk b (Nat.ne_of_lt (Nat.lt_of_lt_of_le (Heap.lt_size q) M.new))).trans (M.keep b o q)
  have ob : ObjOk X.prog X.w (upd H1 d (.xd [(("name" : Str), v)])) G' d (.xd [(("name" : Str), v)]) := ⟨_, hns.at (fun o q => (gk d M.dne).trans q), fun f => relO_name rv f⟩
  have J : Inv X pins σ (upd H1 d (.xd [(("name" : Str), v)])) ⟨G', g, dr, tk', os⟩ := I1.laid (t' := tk') old M.dbig ob
  refine ⟨⟨e, _, _, ⟨G', g, dr, tk', os⟩, _, .ref C, some d, rfl, J, fun b o q => ?_, ge, hoe, ⟨rfl, rfl, fun vs hv => by cases hv; rfl⟩, rfl, rfl, ?_, rfl, I1.bare, raises_own T.exC T.tyC, q1 d (I1.hok.fresh M.dbig)⟩, fun a2 oe2 vs2 ea hg2 hd2 => ?_⟩
  · by_cases hb : b = e
    · have q' : G'.get? b = some o := q
      rw [hb, ge] at q'
      cases q'
    · exact (gk b hb).symm.trans q
  · rw [upd_ne (Ne.symm M.dne)]
    exact I1.hok.fresh M.new
  · cases ea
    have hg3 : h'.get? e = some oe2 := hg2
    rw [hoe] at hg3
    cases hg3
    cases hd2
    show (4 : Nat) < 6
    decide
theorem pmk5_item {a : Expr} {ta : TA} {p pos : Pos} (T : Ecl_item X.K X.mg nm qual B Bm newId initId bmB bm0 C fI) (hdp : X.A.depth + 1 < recursionLimit) (ha : PA X [a] ta) (hg : Gl X nm) (hdb : (nm == ("__debug__" : Str)) = false := by decide)
    (he : starEach (a :: []) X.env = (false, eval a X.env) :: starEach [] X.env := by rfl) (hpl : (backTo pos (starEach [] X.env)).any (·.1) = false := by rfl) : PMk5 X (.Call (.Name nm p) [a] [] pos) (tMk_item C ta) := by
  intro pins s σ H Q I h
  refine wpAny_Call_Name_kw (ld_glob I hg T.gC ?_ hdb)
  refine PySem.W.callWith_K (h₀ := X.base) I.ok.mod.kin T.kC (thn (ha.run pos pins s σ H _ I h) ?_) he hpl
  rintro us s1 ⟨vs, H1, I1, r1, v, rfl, q1⟩
  obtain ⟨v', rfl, rv⟩ := vals1 r1
  refine ⟨I1.kIn, ?_⟩
  have hlim := I1.nolimit
  obtain ⟨hp, g, dr, tk, os⟩ := s1
  refine wpAny_call (made_item T I1.kIn hlim hdp (.inl ⟨rfl, rfl⟩) fun h' tk' e d M => ?_)
  show L2N.MkP X pins σ Q (.ref e) ⟨h', g, dr, tk', os⟩ ∧ Six (.ref e) ⟨h', g, dr, tk', os⟩
  obtain ⟨t1, hoe⟩ := M.obj
  have hns := M.ns
  obtain ⟨G', g1, g2⟩ := restrict h' fun b => decide (b ≠ e)
  have gk : ∀ b, b ≠ e → G'.get? b = h'.get? b := fun b hb => g1 b (decide_eq_true hb)
  have ge : G'.get? e = none := g2 e (by simp)
  have old : ∀ b o, hp.get? b = some o → G'.get? b = some o := fun b o q => (gk b (Nat.ne_of_lt (Nat.lt_of_lt_of_le (Heap.lt_size q) M.new))).trans (M.keep b o q)
  have ob : ObjOk X.prog X.w (upd H1 d (.xd [(("item" : Str), v)])) G' d (.xd [(("item" : Str), v)]) := ⟨_, hns.at (fun o q => (gk d M.dne).trans q), fun f => relO_item rv f⟩
  have J : Inv X pins σ (upd H1 d (.xd [(("item" : Str), v)])) ⟨G', g, dr, tk', os⟩ := I1.laid (t' := tk') old M.dbig ob
  refine ⟨⟨e, _, _, ⟨G', g, dr, tk', os⟩, _, .ref C, some d, rfl, J, fun b o q => ?_, ge, hoe, ⟨rfl, rfl, fun vs hv => by cases hv; rfl⟩, rfl, rfl, ?_, rfl, I1.bare, raises_own T.exC T.tyC, q1 d (I1.hok.fresh M.dbig)⟩, fun a2 oe2 vs2 ea hg2 hd2 => ?_⟩
  · by_cases hb : b = e
    · have q' : G'.get? b = some o := q
      rw [hb, ge] at q'
      cases q'
    · exact (gk b hb).symm.trans q
  · rw [upd_ne (Ne.symm M.dne)]
    exact I1.hok.fresh M.new
  · cases ea
    have hg3 : h'.get? e = some oe2 := hg2
    rw [hoe] at hg3
    cases hg3
    cases hd2
    show (4 : Nat) < 6
    decide
theorem pmk5_limit {a : Expr} {ta : TA} {p pos : Pos} (T : Ecl_limit X.K X.mg nm qual B Bm newId initId bmB bm0 C fI) (hdp : X.A.depth + 1 < recursionLimit) (ha : PA X [a] ta) (hg : Gl X nm) (hdb : (nm == ("__debug__" : Str)) = false := by decide)
    (he : starEach (a :: []) X.env = (false, eval a X.env) :: starEach [] X.env := by rfl) (hpl : (backTo pos (starEach [] X.env)).any (·.1) = false := by rfl) : PMk5 X (.Call (.Name nm p) [a] [] pos) (tMk_limit C ta) := by
  intro pins s σ H Q I h
  refine wpAny_Call_Name_kw (ld_glob I hg T.gC ?_ hdb)
  refine PySem.W.callWith_K (h₀ := X.base) I.ok.mod.kin T.kC (thn (ha.run pos pins s σ H _ I h) ?_) he hpl
  rintro us s1 ⟨vs, H1, I1, r1, v, rfl, q1⟩
  obtain ⟨v', rfl, rv⟩ := vals1 r1
  refine ⟨I1.kIn, ?_⟩
  have hlim := I1.nolimit
  obtain ⟨hp, g, dr, tk, os⟩ := s1
  refine wpAny_call (made_limit T I1.kIn hlim hdp (.inl ⟨rfl, rfl⟩) fun h' tk' e d M => ?_)
  show L2N.MkP X pins σ Q (.ref e) ⟨h', g, dr, tk', os⟩ ∧ Six (.ref e) ⟨h', g, dr, tk', os⟩
  obtain ⟨t1, hoe⟩ := M.obj
  have hns := M.ns
  obtain ⟨G', g1, g2⟩ := restrict h' fun b => decide (b ≠ e)
  have gk : ∀ b, b ≠ e → G'.get? b = h'.get? b := fun b hb => g1 b (decide_eq_true hb)
  have ge : G'.get? e = none := g2 e (by simp)
  have old : ∀ b o, hp.get? b = some o → G'.get? b = some o := fun b o q => (gk b (Nat.ne_of_lt (Nat.lt_of_lt_of_le (Heap.lt_size q) M.new))).trans (M.keep b o q)
  have ob : ObjOk X.prog X.w (upd H1 d (.xd [(("limit" : Str), v)])) G' d (.xd [(("limit" : Str), v)]) := ⟨_, hns.at (fun o q => (gk d M.dne).trans q), fun f => relO_limit rv f⟩
  have J : Inv X pins σ (upd H1 d (.xd [(("limit" : Str), v)])) ⟨G', g, dr, tk', os⟩ := I1.laid (t' := tk') old M.dbig ob
  refine ⟨⟨e, _, _, ⟨G', g, dr, tk', os⟩, _, .ref C, some d, rfl, J, fun b o q => ?_, ge, hoe, ⟨rfl, rfl, fun vs hv => by cases hv; rfl⟩, rfl, rfl, ?_, rfl, I1.bare, raises_own T.exC T.tyC, q1 d (I1.hok.fresh M.dbig)⟩, fun a2 oe2 vs2 ea hg2 hd2 => ?_⟩
  · by_cases hb : b = e
    · have q' : G'.get? b = some o := q
      rw [hb, ge] at q'
      cases q'
    · exact (gk b hb).symm.trans q
  · rw [upd_ne (Ne.symm M.dne)]
    exact I1.hok.fresh M.new
  · cases ea
    have hg3 : h'.get? e = some oe2 := hg2
    rw [hoe] at hg3
    cases hg3
    cases hd2
    show (4 : Nat) < 6
    decide
theorem pmk5_count {a : Expr} {ta : TA} {p pos : Pos} (T : Ecl_count X.K X.mg nm qual B Bm newId initId bmB bm0 C fI) (hdp : X.A.depth + 1 < recursionLimit) (ha : PA X [a] ta) (hg : Gl X nm) (hdb : (nm == ("__debug__" : Str)) = false := by decide)
    (he : starEach (a :: []) X.env = (false, eval a X.env) :: starEach [] X.env := by rfl) (hpl : (backTo pos (starEach [] X.env)).any (·.1) = false := by rfl) : PMk5 X (.Call (.Name nm p) [a] [] pos) (tMk_count C ta) := by
  intro pins s σ H Q I h
  refine wpAny_Call_Name_kw (ld_glob I hg T.gC ?_ hdb)
  refine PySem.W.callWith_K (h₀ := X.base) I.ok.mod.kin T.kC (thn (ha.run pos pins s σ H _ I h) ?_) he hpl
  rintro us s1 ⟨vs, H1, I1, r1, v, rfl, q1⟩
  obtain ⟨v', rfl, rv⟩ := vals1 r1
  refine ⟨I1.kIn, ?_⟩
  have hlim := I1.nolimit
  obtain ⟨hp, g, dr, tk, os⟩ := s1
  refine wpAny_call (made_count T I1.kIn hlim hdp (.inl ⟨rfl, rfl⟩) fun h' tk' e d M => ?_)
  show L2N.MkP X pins σ Q (.ref e) ⟨h', g, dr, tk', os⟩ ∧ Six (.ref e) ⟨h', g, dr, tk', os⟩
  obtain ⟨t1, hoe⟩ := M.obj
  have hns := M.ns
  obtain ⟨G', g1, g2⟩ := restrict h' fun b => decide (b ≠ e)
  have gk : ∀ b, b ≠ e → G'.get? b = h'.get? b := fun b hb => g1 b (decide_eq_true hb)
  have ge : G'.get? e = none := g2 e (by simp)
  have old : ∀ b o, hp.get? b = some o → G'.get? b = some o := fun b o q => (gk b (Nat.ne_of_lt (Nat.lt_of_lt_of_le (Heap.lt_size q) M.new))).trans (M.keep b o q)
  have ob : ObjOk X.prog X.w (upd H1 d (.xd [(("count" : Str), v)])) G' d (.xd [(("count" : Str), v)]) := ⟨_, hns.at (fun o q => (gk d M.dne).trans q), fun f => relO_count rv f⟩
  have J : Inv X pins σ (upd H1 d (.xd [(("count" : Str), v)])) ⟨G', g, dr, tk', os⟩ := I1.laid (t' := tk') old M.dbig ob
  refine ⟨⟨e, _, _, ⟨G', g, dr, tk', os⟩, _, .ref C, some d, rfl, J, fun b o q => ?_, ge, hoe, ⟨rfl, rfl, fun vs hv => by cases hv; rfl⟩, rfl, rfl, ?_, rfl, I1.bare, raises_own T.exC T.tyC, q1 d (I1.hok.fresh M.dbig)⟩, fun a2 oe2 vs2 ea hg2 hd2 => ?_⟩
  · by_cases hb : b = e
    · have q' : G'.get? b = some o := q
      rw [hb, ge] at q'
      cases q'
    · exact (gk b hb).symm.trans q
  · rw [upd_ne (Ne.symm M.dne)]
    exact I1.hok.fresh M.new
  · cases ea
    have hg3 : h'.get? e = some oe2 := hg2
    rw [hoe] at hg3
    cases hg3
    cases hd2
    show (4 : Nat) < 6
    decide
end
end Tvx
namespace Ows
open PySem PySem.Spec PyProof.Rows L2 ClX
section
variable {X : Cx} {CX : CXT} {k : Nat} {C g : Addr} {sp : Sp} {E : XK}
def rLenOwn (C : Addr) (sp : Sp) (E : XK) : List V → Hp → VK → Prop := fun xs H Q => ∃ (a dx : Addr) (fs : List (Str × V)), xs = [.ref a] ∧ H a = some (.ins C dx fs) ∧ sp [.ref a] H (fun z H' => ∃ n : Int, z = .int n ∧ 0 ≤ n ∧ n < 2 ^ 63 ∧ Q (.int n) H') E
theorem call_lenOwn (hs : PySem.W.findIn X.K (.ref C) "__len__" = some (some (.ref g))) (hf : PySem.W.isFn X.K (.ref g) = true) (F : FnR X.prog X.w X.K X.mg X.base CX k g sp) (hr : Room (k + 1) X.A) (hx : Passes CX X E) : CallR X (.builtin "len") (rLenOwn C sp E) := by
  intro pins s σ H xs us Q I r h
  obtain ⟨a, dx, fs, rfl, ha, q⟩ := h
  obtain ⟨u, rfl, rx⟩ := vals1 r
  cases (show u = Value.ref a from rx)
  obtain ⟨mA, O, _⟩ := ins_get I.hok ha
  obtain ⟨od, J, _⟩ := O.look
  obtain ⟨m, hF⟩ := I.fr
  have hr1 : Room k X.A.in1 := hr.in1
  refine PySem.W.len_K hF I.ok.mod.kin J hs hf (wpAny_mono (wpAny_call (SlX.run_at (us := [.ref a]) (ws := [.ref a]) F hr1 I.env0.in1 hx I (.cons rfl .nil) q)) (fun w s' z => ?_) fun _ _ x => x)
  obtain ⟨z', H', I', rz, n, en, h0, h1, qz⟩ := z
  subst en
  obtain ⟨t, rfl⟩ := (show ∃ t, w = Value.int n t from rz)
  exact ⟨⟨h0, h1⟩, .int n, H', I'.tok _, ⟨_, rfl⟩, qz⟩
def rReprOwn (C : Addr) (sp : Sp) (E : XK) : List V → Hp → VK → Prop := fun xs H Q => ∃ (a dx : Addr) (fs : List (Str × V)), xs = [.ref a] ∧ H a = some (.ins C dx fs) ∧ sp [.ref a] H (fun z H' => ∃ y : Str, z = .str y ∧ Q (.str y) H') E
theorem call_reprOwn (hs : PySem.W.findIn X.K (.ref C) "__repr__" = some (some (.ref g))) (hf : PySem.W.isFn X.K (.ref g) = true) (F : FnR X.prog X.w X.K X.mg X.base CX k g sp) (hr : Room (k + 1) X.A) (hx : Passes CX X E) : CallR X (.builtin "repr") (rReprOwn C sp E) := by
  intro pins s σ H xs us Q I r h
  obtain ⟨a, dx, fs, rfl, ha, q⟩ := h
  obtain ⟨u, rfl, rx⟩ := vals1 r
  cases (show u = Value.ref a from rx)
  obtain ⟨mA, O, _⟩ := ins_get I.hok ha
  obtain ⟨od, J, _⟩ := O.look
  obtain ⟨m, hF⟩ := I.fr
  have hr1 : Room k X.A.in1 := hr.in1
  refine PySem.W.repr_K hr1.units0 hF I.ok.mod.kin J hs hf (wpAny_mono (wpAny_call (SlX.run_at (us := [.ref a]) (ws := [.ref a]) F hr1 I.env0.in1 hx I (.cons rfl .nil) q)) (fun w s' z => ?_) fun _ _ x => x)
  obtain ⟨z', H', I', rz, y, ey, qz⟩ := z
  subst ey
  obtain ⟨t, rfl⟩ := (show ∃ t, w = Value.str y t from rz)
  exact ⟨.str y, H', I', ⟨_, rfl⟩, qz⟩
end
end Ows

set_option Elab.async false
set_option linter.all false
set_option maxRecDepth 100000
set_option maxHeartbeats 4000000
/-! a method whose body is super().m(y) -/
namespace Spx
open PySem PySem.Spec PyProof.Rows L2 ClX
/-- its context -/
def cxS (CX : CXT) (P : Program) (w : World) (K : PySem.W.Frag) (mg : Str → Option Value) (base : Heap) (y qual : Str) (scope : Scope) (f : Addr) (cd : Value) (cc : Addr) (A : Around) (outer : List Env) (s : Shared) (H : Hp) (E : XK) : Cx where
  prog := P
  w := w
  K := K
  mg := mg
  base := base
  A := A.deeper (PySem.W.ksEnv qual scope s.heap.objs.size f cd cc)
  N := ["self", y]
  s_0 := s
  H_0 := H
  env := PySem.W.ksEnv qual scope s.heap.objs.size f cd cc
  outer := outer
  stack := PySem.W.ksEnv qual scope s.heap.objs.size f cd cc :: outer
  ex := []
  calm := true
  fn := fun _ => false
  pn := []
  xe := fun e s' => wpAny (model P w) (A.deeper (PySem.W.ksEnv qual scope s.heap.objs.size f cd cc)) (leaving (PySem.W.ksEnv qual scope s.heap.objs.size f cd cc) e) (fun _ s'' => CX outer H s E e s'') (fun e' s'' => CX outer H s E e' s'') s'
/-- what its scope says -/
structure ScopeS (y : Str) (scope : Scope) : Prop where
  kind : scope.kind = .function
  co : scope.isCoroutine = false
  gen : scope.isGenerator = false
  ks : scope.names.lookup ("super" : Str) = some .globalImplicit
  kc : scope.names.lookup ("__class__" : Str) = some .free
  k1 : scope.names.lookup ("self" : Str) = some .local
  k2 : scope.names.lookup y = some .local
  ne : (("self" : Str) == y) = false
  nc : ∀ z ∈ scope.names, z.2 ≠ .cell
  fr : ∀ z ∈ scope.names, z.2 = .free → z.1 = "__class__"
theorem inv_super {CX : CXT} {P : Program} {w : World} {K : PySem.W.Frag} {mg : Str → Option Value} {base : Heap} {y qual : Str} {scope : Scope} {f : Addr} {cd : Value} {cc D : Addr} {A : Around} {outer : List Env} {s : Shared} {H : Hp} {E : XK} {h1 : Heap} {t1 : Nat} {a : Addr} {v : V} {u : Value}
    {cl : Value} {cld : Option Addr} {csl : Array (Option Value)} (S : ScopeS y scope) (hd : A.handled = none) (e0 : Env0 P w K mg base A outer s H) (hcell : K.lookup cc = some ⟨cl, cld, .cell (some (.ref D)), csl⟩) (rv : RelV v u)
    (hns : h1.Ns s.heap.objs.size (fun x => ([(("self" : Str), Value.ref a), (y, u)] : List (Str × Value)).reverse.lookup x)) (hk : ∀ b o, s.heap.get? b = some o → h1.get? b = some o) :
    Inv (cxS CX P w K mg base y qual scope f cd cc A outer s H E) [] [some (.ref a), some v] H { s with heap := h1, toks := t1 } := by
  have one : ∀ x c, ([(("__class__" : Str), cc)] : List (Str × Addr)).lookup x = some c → x = "__class__" ∧ c = cc := fun x c h => by
    have h := PySem.mem_of_lookup h
    simpa using h
  have kb := e0.mod.kin _ _ hcell
  have kb2 := e0.bs _ _ kb
  refine ⟨⟨e0.mod, S.kind, rfl, rfl, Nat.le_refl _, fun x z c h1 h2 => ?_, fun x hx => ?_, fun x c h => ?_, fun _ => hd, Around.frames_deeper e0.frames, .inr ⟨rfl, rfl⟩, fun b z => absurd z List.not_mem_nil, e0.bs, e0.bsz, fun b _ _ => List.not_mem_nil, fun b z => absurd z List.not_mem_nil, e0.funs, e0.frf⟩,
    rfl, e0.bare, Un.kept hk, ⟨_, hns, fun i x z h1 h2 h3 => ?_⟩, fun x c h => ?_, e0.hok.fresh (Nat.le_refl _), fun x c h => ?_, fun p hp => absurd hp List.not_mem_nil, e0.hok.kept hk, rfl⟩
  · rw [(one x c h1).1, (one z c h2).1]
  · have hx : scope.names.lookup x = some .cell ∨ scope.names.lookup x = some .free := hx
    rcases hx with g | g
    · exact absurd rfl (S.nc _ (PySem.mem_of_lookup g))
    · have := S.fr _ (PySem.mem_of_lookup g) rfl
      refine ⟨cc, ?_⟩
      have e : x = "__class__" := this
      rw [e]
      rfl
  · exact absurd h Bool.false_ne_true
  · match i, h1, h2 with
    | 0, h1, h2 =>
      cases h1
      cases h2
      refine ⟨.ref a, rfl, .inl ⟨S.k1, ?_⟩⟩
      show List.lookup ("self" : Str) [(y, u), (("self" : Str), Value.ref a)] = _
      rw [List.lookup_cons, S.ne]
      simp
    | 1, h1, h2 =>
      cases h1
      cases h2
      refine ⟨u, rv, .inl ⟨S.k2, ?_⟩⟩
      show List.lookup y [(y, u), (("self" : Str), Value.ref a)] = _
      simp
    | i + 2, h1, h2 => simp at h2
  · rw [(one x c h).2]
    exact ⟨_, _, hk _ _ kb2.1, rfl⟩
  · rw [(one x c h).2]
    exact kb2.2
section
variable {X : Cx} {CX : CXT} {k : Nat} {C g : Addr} {fd : FuncData} {ps : List Str} {sp : Sp} {E : XK}
theorem run_bound {pins : List (Addr × Obj)} {σ : L2.St} {H : Hp} {s : Shared} {q a : Addr} {Q : VK} {us : List Value} {vs : List V} (F : FnOk X.prog X.w X.K X.mg X.base CX k g fd ps sp) (hr : Room k X.A) (hb : Binds X.K fd ps []) (hx : PassesAt CX X σ E) (I : Inv X ((q, PySem.W.methodObj (.ref g) (.ref a)) :: pins) σ H s)
    (r : Vals vs us) (h : sp (.ref a :: vs) H Q E) : wpAny (model X.prog X.w) X.A (call (.ref q) us) (EP X pins σ Q) X.xe s := by
  have hl : (Value.ref a :: us).length = ps.length := by
    have := (show Vals (V.ref a :: vs) (Value.ref a :: us) from .cons rfl r).length
    rw [← this]
    exact F.len _ _ _ _ h
  have b := hb s (.ref a :: us) I.kIn (by rw [List.append_nil]; exact hl)
  rw [List.append_nil] at b
  have z : wpAny (model X.prog X.w) X.A (call (.ref q) us) (EP X ((q, PySem.W.methodObj (.ref g) (.ref a)) :: pins) σ Q) X.xe s := by
    refine wpAny_call (PySem.W.method_call (pin_at I) (codeAny_mono (F.run X.A X.stack s H ⟨.ref a :: us, []⟩ (.ref a :: us) (.ref a :: vs) Q E hr I.env0 b (.cons rfl r) h) fun r s' hq => ?_))
    cases r with
    | error e => exact hx _ H s e s' I hq
    | ok fl =>
      cases fl with
      | ret u => exact I.after hq
      | next => exact False.elim hq
      | brk => exact False.elim hq
      | cont => exact False.elim hq
  exact thn z fun _ _ y => unpinE y
end
def PFile (P : Program) : Prop := ((P.main.file : Str) == ("/claim/cut.py" : Str)) = true ∧ (P.main.scope.names.lookup ("super" : Str)).isSome = false
structure Sup (K : PySem.W.Frag) (mg : Str → Option Value) (x qual m : Str) (st : Stmt) (f : Addr) (fd : FuncData) (C D g : Addr) : Prop where
  ex : ∃ (oc : Value) (od : Option Addr) (dV kV doc pm : Value) (an : Option Addr) (ct : Value) (osl : Array (Option Value)) (cc cda : Addr) (ccl : Value) (cdd : Option Addr) (vs : Array Value) (ccs : Array (Option Value)) (tf : Tok) (cl : Value) (cld : Option Addr) (csl : Array (Option Value)),
    fd = PySem.W.ksFn x qual (defArgs st) (defBody st) (defScope st) dV kV doc pm an (.ref cda) ct cc ∧ K.lookup f = some ⟨oc, od, .func fd, osl⟩ ∧ PySem.W.codeIn K (.ref cda) qual = true ∧ K.lookup cda = some ⟨ccl, cdd, .fields vs, ccs⟩ ∧ vs[2]? = some (.str "/claim/cut.py" tf) ∧
    K.lookup cc = some ⟨cl, cld, .cell (some (.ref D)), csl⟩
  isD : ∃ cd, PySem.W.clsIn K D = some cd
  sub : PySem.W.mroIn K C (.ref D) = some true
  sup : mg "super" = none
  op : PySem.W.nsIn K cStatics "thirdparty.any" = some none
  at_ : PySem.W.ks_superIn K C D m = some (some (.ref g))
  ty : PySem.W.typeIn K (.ref g) = some (.type "function")
  fi : PySem.W.fnIn K g = true
section
variable {P : Program} {w : World} {K : PySem.W.Frag} {mg : Str → Option Value} {base : Heap} {CX : CXT} {k : Nat} {x qual m y : Str} {st : Stmt} {f C D g : Addr} {fd fd2 : FuncData} {ps2 : List Str} {sp2 : Sp} {p0 p1 ap py cp ep : Pos} {ar : Arg}
/-- the promise of the def above, with None at the end -/
def spS (C : Addr) (sp2 : Sp) : Sp := fun vs H Q E => ∃ (a dx : Addr) (fs : List (Str × V)) (v : V), vs = [.ref a, v] ∧ H a = some (.ins C dx fs) ∧ sp2 [.ref a, v] H (fun _ H' => Q .non H') E
theorem fn_super {pl : Addr → Value → Addr → Sem Bool} (hP : PFile P) (Z : Sup K mg x qual m st f fd C D g) (S : ScopeS y (defScope st)) (hbd : defBody st = [.Expr (.Call (.Attribute (.Call (.Name "super" p0) [] [] p1) m ap) [.Name y py] [] cp) ep]) (har : ((defArgs st).posonlyargs ++ (defArgs st).args).head? = some ar) (hself : ar.arg = "self") (hat : (m == ("__class__" : Str)) = false)
    (hyd : (y == ("__debug__" : Str)) = false) (hyc : (y == ("__classdict__" : Str)) = false) (F2 : FnOk P w K mg base CX k g fd2 ps2 sp2) (hb2 : Binds K fd2 ps2 [])
    (hi : ∀ (L : Addr) (cd : Value) (cc : Addr), interactive (PySem.W.ksEnv qual (defScope st) L f cd cc) = false)
    (hsw : ∀ (L : Addr) (cd : Value) (cc : Addr), swapsWith (.Call (.Attribute (.Call (.Name "super" p0) [] [] p1) m ap) [.Name y py] [] cp) none ep.line (PySem.W.ksEnv qual (defScope st) L f cd cc) = pure false)
    (hev : ∀ (L : Addr) (cd : Value) (cc : Addr), eval (.Call (.Attribute (.Call (.Name "super" p0) [] [] p1) m ap) [.Name y py] [] cp) (PySem.W.ksEnv qual (defScope st) L f cd cc) = (do
      let ov ← attributeBase (.Call (.Name "super" p0) [] [] p1) m (PySem.W.ksEnv qual (defScope st) L f cd cc) (eval (.Call (.Name "super" p0) [] [] p1) (PySem.W.ksEnv qual (defScope st) L f cd cc))
      standAt ap.atName
      let (fn, first) ← holding [ov] (getMethod ov m (pl L cd cc))
      callWith cp fn first (backTo cp (starEach [.Name y py] (PySem.W.ksEnv qual (defScope st) L f cd cc))) []))
    (hx : ∀ (cd : Value) (cc : Addr) (A : Around) (outer : List Env) (s : Shared) (H : Hp) (E : XK) (σ : L2.St), PassesAt CX (cxS CX P w K mg base y qual (defScope st) f cd cc A outer s H E) σ E) :
    FnOk P w K mg base CX (k + 1) f fd ["self", y] (spS C sp2) := by
  refine ⟨fun vs H Q E h => by obtain ⟨a, dx, fs, v, rfl, _⟩ := h; rfl, fun A outer s H args us vs Q E hr e0 hb r hsp => ?_⟩
  obtain ⟨a, dx, fs, v, rfl, ha, hsp2⟩ := hsp
  obtain ⟨ua, u, rfl, ra, rv⟩ := vals2 r
  obtain rfl : ua = Value.ref a := ra
  obtain ⟨oc, od, dV, kV, doc, pm, an, ct, osl, cc, cda, ccl, cdd, vs2, ccs, tf, cl, cld, csl, rfl, lk, hcd, hcode, hvs, hcell⟩ := Z.ex
  obtain ⟨cdD, hD⟩ := Z.isD
  have KX : K.In s.heap := e0.mod.kin.keeps fun b o e => (e0.bs b o e).1
  have lim : s.heap.NoLimit := e0.mod.nolimit.keeps fun b o e => (e0.bs b o e).1
  refine PySem.ks_codeAny_call_defAt (binds := [(("self" : Str), Value.ref a), (y, u)]) hr.depth (KX _ _ lk) rfl lim (PySem.W.codeRec_of KX hcd) rfl hb S.nc (fun z hz => ?_) (fun h1 hns hk1 => ?_) S.co S.gen S.kind
  · rcases List.mem_cons.mp hz with rfl | hz
    · exact S.k1
    · rw [List.mem_singleton.mp hz]
      exact S.k2
  have I : Inv (cxS CX P w K mg base y qual (defScope st) f (.ref cda) cc A outer s H E) [] [some (.ref a), some v] H { s with heap := h1, toks := s.toks + 2 } := inv_super S hr.hd e0 hcell rv hns hk1
  have X1 : K.In h1 := KX.keeps hk1
  obtain ⟨mA, O, _⟩ := ins_get I.hok ha
  obtain ⟨odx, J, _⟩ := O.look
  obtain ⟨oD, hD1, hD2⟩ : ∃ oD, h1.get? D = some oD ∧ oD.data = .cls cdD := by
    unfold PySem.W.clsIn at hD
    split at hD
    · rename_i c d cd' sl ho
      cases hD
      exact ⟨_, X1 _ _ ho, rfl⟩
    · cases hD
  rw [hbd]
  show PySem.wpAt (model P w) (A.deeper (PySem.W.ksEnv qual (defScope st) s.heap.objs.size f (.ref cda) cc)) (.func _ (PySem.W.ksEnv qual (defScope st) s.heap.objs.size f (.ref cda) cc)) (execs _ (PySem.W.ksEnv qual (defScope st) s.heap.objs.size f (.ref cda) cc)) _ (cxS CX P w K mg base y qual (defScope st) f (.ref cda) cc A outer s H E).xe { s with heap := h1, toks := s.toks + 2 }
  have hsub : PySem.W.Looks (model P w) h1 (isSubtype (.ref C) (.ref D)) true := PySem.W.looks_mroIn X1 Z.sub
  obtain ⟨mb, b1, b2⟩ := I.mod.blt
  refine PySem.ks_wpAt_execs_cons (PySem.ks_wpAt_Expr_any (PySem.ks_wpAt_MethodCall (pl := pl _ _ _) (PySem.ks_wpAt_super_base S.ks S.kc hat rfl (X1 _ _ lk) rfl har rfl (X1 _ _ hcode) rfl hvs hP.1 hP.2 ?_) (hev _ _ _)) (hi _ _ _) (hsw _ _ _))
  refine PySem.W.ks_loadName_global S.kind S.ks (Calls.loadGlobal_builtin (by exact I.mod.glob.keeps I.bk) Z.sup (by exact b1.keeps I.bk) ((b2 _ (by decide)).trans (by decide +kernel)) ⟨rfl, ?_⟩)
  refine wpAny_loadName_free S.kind S.kc rfl ⟨_, X1 _ _ hcell, rfl⟩ ?_
  rw [hself]
  refine wpAny_loadName_local S.kind S.k1 hns (v := .ref a) (by show List.lookup ("self" : Str) [(y, u), (("self" : Str), Value.ref a)] = _; rw [List.lookup_cons, S.ne]; simp) ?_
  refine PySem.ks_wpAny_isType_cls hD1 hD2 ⟨rfl, ?_⟩
  refine PySem.ks_wpAny_call_super hD1 hD2 J.at_ J.cls (fun c e => ?_) hsub (fun h' e k2 => ?_)
  · have := J.no
    unfold PySem.W.notCls at this
    rw [e] at this
    exact Bool.noConfusion this
  have I2 : Inv (cxS CX P w K mg base y qual (defScope st) f (.ref cda) cc A outer s H E) [(h1.objs.size, PySem.W.ks_superObj D a C)] [some (.ref a), some v] H { s with heap := h', toks := s.toks + 2 } := pin_new (s := { s with heap := h1, toks := s.toks + 2 }) I k2 (Nat.le_refl _) e (fun v z => nomatch z)
  have X2 : K.In h' := X1.keeps k2
  have hat2 := Z.at_
  obtain ⟨cdC, hcC⟩ : ∃ cd, PySem.W.clsIn K C = some cd := by
    cases q : PySem.W.clsIn K C with
    | none => unfold PySem.W.ks_superIn at hat2; rw [q] at hat2; cases hat2
    | some cd => exact ⟨cd, rfl⟩
  unfold PySem.W.ks_superIn at hat2
  rw [hcC, Option.bind_some] at hat2
  obtain ⟨og, hog, hogc⟩ : ∃ og, h'.get? g = some og ∧ og.cls = .type "function" := by
    have ht' : (K.lookup g).map (·.cls) = some (.type "function") := Z.ty
    cases z : K.lookup g with
    | none => rw [z] at ht'; cases ht'
    | some og => rw [z] at ht'; exact ⟨og, X2 _ _ z, Option.some.inj ht'⟩
  refine PySem.ks_wpAny_getMethod_super e (PySem.W.looks_opaque X2 Z.op) (l₀ := cdC.mro) (fun A Q E s k q => wpAny_bind ((PySem.W.looks_clsIn X2 hcC) A _ E s k (wpAny_pure q))) rfl X2 hat2 hog hogc (PySem.W.ks_ne X1 J hcC) hat ?_
  have I3 : Inv (cxS CX P w K mg base y qual (defScope st) f (.ref cda) cc A outer s H E) [(h'.objs.size, PySem.W.methodObj (.ref g) (.ref a)), (h1.objs.size, PySem.W.ks_superObj D a C)] [some (.ref a), some v] H { s with heap := h'.push (PySem.W.methodObj (.ref g) (.ref a)), toks := s.toks + 2 + 1 } := met_new (s := { s with heap := h', toks := s.toks + 2 }) I2
  have hp := (pa_cons (pe_var (X := cxS CX P w K mg base y qual (defScope st) f (.ref cda) cc A outer s H E) (i := 1) (pos := py) rfl (Or.inl S.k2) hyd hyc) pa_nil)
  refine wpAny_mono (Q := EP (cxS CX P w K mg base y qual (defScope st) f (.ref cda) cc A outer s H E) [(h1.objs.size, PySem.W.ks_superObj D a C)] [some (.ref a), some v] (fun _ H' => Q .non H')) (callwith_cm I3 (base_none I2 (Nat.le_refl _)) Z.fi (thn (hp.run cp _ _ _ H (fun vs H' => vs = [v] ∧ H' = H) I3 ⟨v, rfl, rfl, rfl⟩) fun us2 s3 ⟨vs3, H3, J3, r3, q3⟩ => ?_) rfl rfl) (fun u2 s4 z => ?_) (fun e s4 z => z)
  · obtain ⟨rfl, rfl⟩ := q3
    exact ⟨⟨pin_at J3, J3.kIn⟩, run_bound F2 (hr.deeper _) hb2 (hx _ _ _ _ _ _ _ _) J3 r3 hsp2⟩
  · obtain ⟨v4, H4, J4, r4, q4⟩ := z
    refine PySem.wpAt_of_wpAny (wpAny_execs_nil ?_)
    exact ⟨.non, H4, J4.os, J4.bare, J4.base, J4.hok, rfl, q4⟩
end
end Spx

set_option Elab.async false
set_option linter.all false
set_option maxRecDepth 100000
set_option maxHeartbeats 4000000
/-! defaults of any def; C(k = v) -/
namespace Spx
open PySem PySem.Spec PyProof.Rows L2
section
variable {K : PySem.W.Frag} {fd : FuncData} {ps ks : List Str} {T : Addr} {o : Obj} {its : List Value} {m : Nat}
theorem binds_of (lT : K.lookup T = some o) (oT : o.data = .seq its.toArray m) (n j : Nat) (hn : n + (its.length - j) = ps.length)
    (h : ∀ us : List Value, us.length = n → ∃ k, bindArgs fd ⟨us, []⟩ = seqItems? (.ref T) >>= k ∧ k (some its.toArray) = pure (ps.zip (us ++ its.drop j))) : Binds K fd ps (its.drop j) := by
  intro s us X hl
  have l2 : us.length = n := by
    rw [List.length_append, List.length_drop] at hl
    omega
  obtain ⟨k, e1, e2⟩ := h us l2
  refine BindsTo.of_looks fun M => ?_
  rw [e1]
  exact looks_items X lT oT (.of_pure e2)
theorem kbinds_of (lT : K.lookup T = some o) (oT : o.data = .seq its.toArray m) (h : ∀ (x : Value) (us : List Value), (x :: us).length = ps.length → ∃ k, bindArgs fd ⟨[x], ks.zip us⟩ = seqItems? (.ref T) >>= k ∧ k (some its.toArray) = pure (ps.zip (x :: us))) :
    ∀ (s : Shared) (x : Value) (us : List Value), K.In s.heap → (x :: us).length = ps.length → BindsTo s fd ⟨[x], ks.zip us⟩ (ps.zip (x :: us)) := by
  intro s x us X hl
  obtain ⟨k, e1, e2⟩ := h x us hl
  refine BindsTo.of_looks fun M => ?_
  rw [e1]
  exact looks_items X lT oT (.of_pure e2)
end
theorem dp_of {k : Nat} {A : Around} (hr : Room k A) : A.depth + 1 < recursionLimit := by have := hr.dp; omega
end Spx
namespace Cmx
open PySem PySem.Spec PyProof.Rows L2 ClX
section
variable {X : Cx} {CX : CXT} {k : Nat} {f C : Addr} {fd : FuncData} {ps ks : List Str} {sp : Sp} {E : L2.St → XK} {x : Str} {pp pos : Pos} {kws : List Keyword} {tk : TA}
/-- C(k = e, ..), the keywords in the order of the parameters behind the first -/
theorem pe_makeSK (M : Mk X.K C f) (F : FnOk X.prog X.w X.K X.mg X.base CX k f fd ps sp) (hr : Room (k + 1) X.A) (hg : Gl X x) (hm : X.mg x = some (.ref C))
    (hb : ∀ (s : Shared) (y : Value) (us : List Value), X.K.In s.heap → (y :: us).length = ps.length → BindsTo s fd ⟨[y], ks.zip us⟩ (ps.zip (y :: us))) (hx : ∀ σ, PassesAt CX X σ (E σ)) (hkw : PK X kws tk)
    (hal : (backToKw pos (keywordEach kws X.env)).all (·.1.isSome) = true := by rfl) (hks : (backToKw pos (keywordEach kws X.env)).filterMap (·.1) = ks := by rfl)
    (hpl : ((backTo pos (starEach [] X.env)).any (·.1) || (backToKw pos (keywordEach kws X.env)).any (·.1.isNone)) = false := by rfl) (hdb : (x == ("__debug__" : Str)) = false := by decide) :
    PE X (.Call (.Name x pp) [] kws pos) (tMakeS C sp E tk) := by
  refine ⟨fun pins s σ H Q I h => ?_⟩
  refine wpAny_Call_Name_kw (ld_glob I hg hm ?_ hdb)
  refine PySem.W.callWith_KW0 (first := []) (h₀ := X.base) I.ok.mod.kin M.kp hal (thn (hkw.run pos pins s σ H _ I h) fun us s1 ⟨vs, H1, I1, r, q⟩ => ⟨I1.kIn, ?_⟩) hpl
  rw [hks]
  have hq := q (s1.heap.objs.size + 1) s1.heap.objs.size (I1.hok.fresh (Nat.le_succ _)) (I1.hok.fresh (Nat.le_refl _)) (Nat.ne_of_lt (Nat.lt_succ_self _))
  have I2 := Inv.made (C := C) I1
  have r2 : Vals (V.ref (s1.heap.objs.size + 1) :: vs) (Value.ref (s1.heap.objs.size + 1) :: us) := .cons rfl r
  have hl : (Value.ref (s1.heap.objs.size + 1) :: us).length = ps.length := by
    have e := r2.length
    rw [F.len _ _ _ _ hq] at e
    exact e.symm
  refine wpAny_call (make_map (f := f) I1.kIn M.makes M.init (beq_iff_eq.mp M.fn) (codeAny_mono (F.run _ X.stack _ _ ⟨[Value.ref (s1.heap.objs.size + 1)], ks.zip us⟩ (Value.ref (s1.heap.objs.size + 1) :: us) _ _ (E σ) (hr.make C [] (ks.zip us))
    (I2.env0.make C [] (ks.zip us)) (hb _ _ us I2.kIn hl) r2 hq) fun r s' hq' => ?_))
  cases r with
  | error e => exact hx σ pins _ _ e s' I2 hq'
  | ok fl =>
    cases fl with
    | ret u =>
      obtain ⟨v, H', I3, rv, ev, q3⟩ := I2.after hq'
      subst ev
      exact ⟨rv, ⟨V.ref (s1.heap.objs.size + 1), H', I3, rfl, q3⟩⟩
    | next => exact False.elim hq'
    | brk => exact False.elim hq'
    | cont => exact False.elim hq'
end
end Cmx

set_option Elab.async false
set_option linter.all false
set_option maxRecDepth 100000
set_option maxHeartbeats 4000000
/-! queues: their mathematics -/
namespace Gn
open PySem PySem.Spec PyProof.Rows L2 Own Exn Mth Vld
theorem starts_mk (z : List Nat) (c : Nat) : Txt.startswith (mk z) ⟨#[c]⟩ = decide (z.head? = some c) := by
  unfold Txt.startswith Builtin.Str.subAt
  cases z with
  | nil => rfl
  | cons x z =>
    have e2 : ((mk (x :: z)).cps.extract 0 (0 + (⟨#[c]⟩ : Str).length)) = #[x] := by
      show (List.toArray (x :: z)).extract 0 1 = #[x]
      simp
    rw [e2]
    have e3 : (#[x] == (⟨#[c]⟩ : Str).cps) = decide (x = c) := by
      show (#[x] == #[c]) = _
      by_cases h : x = c
      · subst h; simp
      · simp [h]
    rw [e3, show (decide (0 + (⟨#[c]⟩ : Str).length ≤ (mk (x :: z)).length)) = true from decide_eq_true (by rw [len_mk]; show 0 + 1 ≤ (x :: z).length; rw [List.length_cons]; omega), Bool.true_and]
    simp
/-- one step without losses -/
def stepQ (z : List Nat) (c : Nat) : Option (List Nat) := if 97 ≤ c then (if 400 ≤ z.length then none else some (z ++ [c])) else if z.head? = some (c + 32) then some z.tail else none
/-- one step with losses -/
def stepL (z : List Nat) (c : Nat) : Option (List Nat) := if 97 ≤ c then (if 400 ≤ z.length then none else some (z ++ [c])) else match fst? (c + 32) z with
  | none => none
  | some k => some (z.drop (k + 1))
/-- all steps, or the place of the first that can't be done -/
def qrun (st : List Nat → Nat → Option (List Nat)) : List Nat → List Nat → Nat → Sum Nat (List Nat)
  | [], z, _ => .inr z
  | c :: p, z, i => match st z c with
    | none => .inl i
    | some z' => qrun st p z' (i + 1)
theorem qrun_nil (st : List Nat → Nat → Option (List Nat)) (z : List Nat) (i : Nat) : qrun st [] z i = .inr z := rfl
theorem qrun_no {st : List Nat → Nat → Option (List Nat)} {c : Nat} {z : List Nat} (h : st z c = none) (p : List Nat) (i : Nat) : qrun st (c :: p) z i = .inl i := by
  show (match st z c with | none => Sum.inl i | some z' => qrun st p z' (i + 1)) = _
  rw [h]
theorem qrun_yes {st : List Nat → Nat → Option (List Nat)} {c : Nat} {z z' : List Nat} (h : st z c = some z') (p : List Nat) (i : Nat) : qrun st (c :: p) z i = qrun st p z' (i + 1) := by
  show (match st z c with | none => Sum.inl i | some z' => qrun st p z' (i + 1)) = _
  rw [h]
abbrev qf (z : List Nat) : List (Str × V) := [(("content" : Str), V.str (mk z))]
theorem put_q (v u : V) : putF "content" v [(("content" : Str), u)] = [(("content" : Str), v)] := by
  show (if ("content" : Str) = "content" then [(("content" : Str), v)] else _) = _
  rw [if_pos rfl]
theorem lk_q (z : List Nat) : (qf z).lookup ("content" : Str) = some (.str (mk z)) := lk1
theorem lk_no {z : List Nat} {m : Str} (h : ¬ m = "content") : (qf z).lookup m = none := by
  have : (m == ("content" : Str)) = false := beq_false_of_ne h
  simp [List.lookup, this]
/-- a word of one item -/
def okI (v : V) : Bool := match v with
  | .str z => okS z "abcdefgh" && (z.length == 1)
  | _ => false
theorem okI_iff {v : V} : okI v = true ↔ ∃ c, v = .str (mk [c]) ∧ c ∈ lo8 := by
  constructor
  · intro h
    unfold okI at h
    split at h
    · rename_i z
      rw [Bool.and_eq_true, okS_iff, beq_iff_eq] at h
      obtain ⟨⟨_, h2⟩, h3⟩ := h
      rw [len_cs] at h3
      obtain ⟨c, hc⟩ : ∃ c, cs z = [c] := List.length_eq_one_iff.mp h3
      exact ⟨c, by rw [← hc, mk_cs], h2 c (by rw [hc]; simp)⟩
    · cases h
  · rintro ⟨c, rfl, hc⟩
    show (okS (mk [c]) "abcdefgh" && _) = true
    rw [okS_mk (by simp) (by simpa using hc), Bool.true_and]
    rfl
theorem okI_okV {v : V} (h : okI v = true) : okV v "abcdefgh" = true := by
  obtain ⟨c, rfl, hc⟩ := okI_iff.mp h
  exact okS_mk (by simp) (by simpa using hc)
end Gn

set_option Elab.async false
set_option linter.all false
set_option maxRecDepth 100000
set_option maxHeartbeats 4000000
/-! except X: without a name, its reading named; promises for instances of a class -/
namespace Tvx
open PySem PySem.Spec PyProof.Rows L2
section
variable {X : Cx} {x : Str} {c : Value} {body suite : List Stmt} {b0 : Stmt} {np pos pos' : Pos} {tb : WX → TS} {ts : Addr → Value → Option Addr → TS} {Wout : WX}
def tTryO (K : PySem.W.Frag) (c : Value) (ts : Addr → Value → Option Addr → TS) (Wout : WX) (tb : WX → TS) : TS := fun D σ H => tb (wOnly K c ts Wout D) D σ H
theorem ps_tryO (i1 : X.stack = X.env :: X.outer) (i2 : X.env.frame = some X.env.locals) (i3 : Names X x c) (i4 : Takes X Wout) (i5 : ∀ (W : WX) (pn : List (Addr × Obj)) (xe : Value → Shared → Prop), Takes (X.tr pn xe) W → PassesOwn (model X.prog X.w) X.A X.env xe → PSs (X.tr pn xe) body (tb W))
    (i6 : ∀ (q : Addr) (oq : Obj) (cls : Value) (d : Option Addr) (pn : List (Addr × Obj)), Zc cls d oq → (∃ vs, oq.data = .fields vs) → PSs (X.suite q ((q, oq) :: pn)) (b0 :: suite) (ts q cls d)) : PS X (.Try body [.ExceptHandler (some (.Name x np)) none (b0 :: suite) pos'] [] [] pos) (tTryO X.K c ts Wout tb) := ps_try_only i1 i2 i3 i4 i5 i6
end
end Tvx
namespace Spx
open PySem PySem.Spec PyProof.Rows L2
/-- .. of an instance of the class at C -/
def spIn (C : Addr) (sp : Sp) : Sp := fun vs H Q E => (∃ (x dx : Addr) (fs : List (Str × V)) (v : V), vs = [.ref x, v] ∧ H x = some (.ins C dx fs)) ∧ sp vs H Q E
theorem in_of {P : Program} {w : World} {K : PySem.W.Frag} {mg : Str → Option Value} {base : Heap} {CX : CXT} {k : Nat} {f C : Addr} {fd : FuncData} {ps : List Str} {sp : Sp} (F : FnOk P w K mg base CX k f fd ps (spS C sp)) (h : ∀ vs H Q E, sp vs H Q E → sp vs H (fun _ H' => Q .non H') E) : FnOk P w K mg base CX k f fd ps (spIn C sp) :=
  F.imp fun vs H Q E ⟨⟨x, dx, fs, v, e, hx⟩, q⟩ => ⟨x, dx, fs, v, e, hx, e ▸ h vs H Q E q⟩
end Spx

set_option Elab.async false
set_option linter.all false
set_option maxRecDepth 100000
set_option maxHeartbeats 4000000
/-! set(t), t a tuple of ints -/
namespace Sux
open PySem PySem.Spec PyProof.Rows L2
section
variable {X : Cx}
def rSetTup (K : PySem.W.Frag) (w : World) : List V → Hp → VK → Prop := fun xs H Q => ∃ (l : Addr) (ns : List Int), xs = [.ref l] ∧ SqT K H l (ns.map V.int) ∧ ns.length ≤ 1000 ∧ ∀ p c, H p = none → c ≤ ns.length → Q (.ref p) (upd H p (SetO w p (fun j => decide (j ∈ ns)) c))
theorem cr_setTup (hc : X.calm = true) : CallR X (.type "set") (rSetTup X.K X.w) := by
  intro pins s σ H xs us Q I r h
  obtain ⟨l, ns, rfl, hq, hl, q⟩ := h
  obtain ⟨u, rfl, ru⟩ := vals1 r
  cases (show u = Value.ref l from ru)
  obtain ⟨its, rv, pt, hz⟩ := I.tuple hq
  refine call_set_tupI ns (I.ok.hd hc) (show s.heap.IsTuple l its.toArray from pt) (ints_of_vals rv) (by unfold scanBound; omega) fun h' tk c R1 hcn k => ?_
  exact ⟨.ref s.heap.objs.size, upd H s.heap.objs.size (SetO X.w s.heap.objs.size (fun j => decide (j ∈ ns)) c), I.laid (t' := tk) k (Nat.le_refl _) (setO_new R1), rfl, q _ c (I.hok.fresh (Nat.le_refl _)) hcn⟩
end
end Sux

set_option Elab.async false
set_option linter.all false
set_option maxRecDepth 100000
set_option maxHeartbeats 4000000
/-! positions that are lost: the mathematics -/
namespace Gn
open PySem PySem.Spec PyProof.Rows L2 Own Exn Mth Vld
/-- a word without the items at the places in S -/
def wout (S : Int → Bool) : Nat → List Nat → List Nat
  | _, [] => []
  | i, c :: z => if S (i : Nat) = true then wout S (i + 1) z else c :: wout S (i + 1) z
theorem wout_nil (S : Int → Bool) (i : Nat) : wout S i [] = [] := rfl
theorem wout_cons (S : Int → Bool) (i c : Nat) (z : List Nat) : wout S i (c :: z) = if S (i : Nat) = true then wout S (i + 1) z else c :: wout S (i + 1) z := rfl
theorem wout_snoc (S : Int → Bool) : ∀ (z : List Nat) (i c : Nat), wout S i (z ++ [c]) = wout S i z ++ (if S ((i + z.length : Nat) : Int) = true then [] else [c])
  | [], i, c => by
    rw [List.nil_append, wout_cons, wout_nil, wout_nil]
    simp
  | x :: z, i, c => by
    rw [List.cons_append, wout_cons, wout_cons, wout_snoc S z (i + 1) c, List.length_cons, show i + 1 + z.length = i + (z.length + 1) by omega]
    split
    · rfl
    · rw [List.cons_append]
theorem wout_len (S : Int → Bool) : ∀ (z : List Nat) (i : Nat), (wout S i z).length ≤ z.length
  | [], i => Nat.le_refl _
  | x :: z, i => by
    rw [wout_cons, List.length_cons]
    have := wout_len S z (i + 1)
    split
    · omega
    · rw [List.length_cons]; omega
theorem wout_mem {S : Int → Bool} {c : Nat} : ∀ {z : List Nat} {i : Nat}, c ∈ wout S i z → c ∈ z
  | [], i, h => by cases h
  | x :: z, i, h => by
    rw [wout_cons] at h
    split at h
    · exact List.mem_cons_of_mem _ (wout_mem h)
    · rcases List.mem_cons.mp h with e | e
      · rw [e]; exact List.mem_cons_self ..
      · exact List.mem_cons_of_mem _ (wout_mem e)
theorem wout_congr {S S' : Int → Bool} (h : ∀ j, S j = S' j) (z : List Nat) (i : Nat) : wout S i z = wout S' i z := by
  have : S = S' := funext h
  rw [this]
def posI : V → Int
  | .int i => i
  | _ => 0
/-- a position below n that is not yet seen -/
def okPos (n : Nat) (seen : List Int) : V → Bool
  | .int i => decide (0 ≤ i ∧ i ≤ (n : Int) - 1) && !decide (i ∈ seen)
  | _ => false
theorem okPos_int {n : Nat} {seen : List Int} {v : V} (h : okPos n seen v = true) : ∃ i : Int, v = .int i ∧ 0 ≤ i ∧ i ≤ (n : Int) - 1 ∧ i ∉ seen := by
  unfold okPos at h
  split at h
  · rename_i i
    rw [Bool.and_eq_true] at h
    have h1 := of_decide_eq_true h.1
    refine ⟨i, rfl, h1.1, h1.2, fun hm => ?_⟩
    have h2 := h.2
    rw [decide_eq_true hm] at h2
    cases h2
  · cases h
def seenAt (xs : List V) (i : Nat) : List Int := (xs.take i).map posI
theorem seen_snoc {xs : List V} {i : Nat} {v : V} (h : xs[i]? = some v) : seenAt xs (i + 1) = seenAt xs i ++ [posI v] := by
  unfold seenAt
  rw [List.take_add_one, h]
  simp
def goodPos (n : Nat) (xs : List V) : Prop := ∀ i v, xs[i]? = some v → okPos n (seenAt xs i) v = true
theorem good_ints {n : Nat} {xs : List V} (h : goodPos n xs) : xs = (xs.map posI).map V.int := by
  have e : ∀ v ∈ xs, V.int (posI v) = v := fun v hv => by
    obtain ⟨i, hi⟩ := List.mem_iff_getElem?.mp hv
    obtain ⟨k, rfl, _⟩ := okPos_int (h i v hi)
    rfl
  rw [List.map_map]
  have : xs.map (V.int ∘ posI) = xs.map id := List.map_congr_left e
  rw [this, List.map_id]
end Gn

set_option Elab.async false
set_option linter.all false
set_option maxRecDepth 100000
set_option maxHeartbeats 4000000
/-! Hk: two readings of one expression (a method of an object that is of one of two classes); {} != 'text' -/
namespace Gn
open PySem.SeqAt PySem PySem.Spec PyProof.Rows L2 Own Exn Mth Vld
/-- two readings of one expression: either is enough -/
theorem pe_alt {X : Cx} {e : Expr} {t1 t2 : TE} (h1 : PE X e t1) (h2 : PE X e t2) : PE X e (fun σ H Q => t1 σ H Q ∨ t2 σ H Q) :=
  ⟨fun pins s σ H Q I h => h.elim (h1.run pins s σ H Q I) (h2.run pins s σ H Q I)⟩
theorem op_alt {X : Cx} {f : Value → Value → Sem Value} {r1 r2 : R2} (h1 : OpR X f r1) (h2 : OpR X f r2) : OpR X f (fun x y H Q => r1 x y H Q ∨ r2 x y H Q) := by
  intro pins s σ H x y v u Q I rx ry h
  exact h.elim (h1 pins s σ H x y v u Q I rx ry) (h2 pins s σ H x y v u Q I rx ry)
theorem str_dec_dict (b : Str) (u : Tok) (l : Addr) (es : Array DictEntry) (ep : _) (dd : Option Addr) (sl : Array (Option Value)) :
    Meets (Builtin.«str.__ne__» ⟨[.str b u, .ref l], []⟩) (fun _ R s => s.heap.get? l = some { cls := .type "dict", dict := dd, data := .dict es ep, slots := sl } ∧ R (.ok (.ret .notImplemented)) s) :=
  .of_wp fun prog w A R s h => by obtain ⟨hp, g, d, tk, os⟩ := s; obtain ⟨hl, h⟩ := h; wp_walk using wpAny_loadPart' hl, wpAny_load hl; exact ⟨_, rfl, h⟩
/-- {} != 'text' -/
def rNeDS : R2 := fun x y H Q => ∃ (p : Addr) (z : Str), x = .ref p ∧ y = .str z ∧ H p = some (.dK []) ∧ Q (.bl true) H
theorem op_neDS {X : Cx} (hu : X.A.units < cLine) : OpR X (compareOp .NotEq) rNeDS := by
  intro pins s σ H x y v u Q I rx ry h
  obtain ⟨p, z, rfl, rfl, e, q⟩ := h
  obtain rfl : v = Value.ref p := rx
  obtain ⟨t, rfl⟩ := (show ∃ t, u = Value.str z t from ry)
  obtain ⟨_, yp, vs, _, dp⟩ := (show ObjOk X.prog X.w H s.heap p (.dK []) from I.hok p _ e)
  obtain ⟨o, es, ep, ho, hex, hda, _⟩ := id dp
  have hty := dp.typeIs
  show wpAny _ X.A (richCompare .NotEq _ _) _ _ s
  refine rc_ne_decline_or (k := false) (Ta := "dict") (Tb := "str") hty (typeIs_str s z t) (by decide) F.sub_str_dict F.slot_dict_ne F.slot_str_ne_refl (fun Q' hq => ?_) (fun Q' hq => ?_) (fun Q' hq => wpAny_of_eq (rfl : isSame (.ref p) (.str z t) = pure false) hq) (.inr hu) (fin_bl I q rfl)
  · refine wpAny_call_entry F.slot_dict_ne hty F.entry_dict_ne ?_ (F.args_dict_ne_2 _ _)
    show wpAny _ _ (Builtin.Dict.dictSlotArgs "__ne__" ⟨[.ref p, .str z t], []⟩ >>= _) _ _ s
    refine wpAny_bind ?_
    unfold Builtin.Dict.dictSlotArgs
    refine wpAny_bind (wpAny_notOrdered_dict hty ?_)
    show wpAny _ _ (pure (Value.ref p, Value.str z t)) _ _ s
    refine wpAny_pure ?_
    refine wpAny_bind (wpAny_isInstance (T := "str") (typeIs_str s z t) F.sub_str_dict ?_)
    simp only [Bool.not_false, if_true]
    exact wpAny_bind (wpAny_rule (wpAny_pure ⟨_, rfl, hq⟩))
  · obtain ⟨oc, od, odt, osl⟩ := o
    cases (show oc = .type "dict" from hex.1)
    cases (show odt = .dict es ep from hda)
    exact call_meets F.slot_str_ne_refl (typeIs_str s z t) F.entry_str_ne (F.args_str_ne_2 _ _) (str_dec_dict z t p es ep od osl) ⟨ho, hq⟩
end Gn

set_option Elab.async false
set_option linter.all false
set_option maxRecDepth 100000
set_option maxHeartbeats 4000000
/-! Hl: lists of different lengths differ, whatever they hold -/
namespace Gn
open PySem PySem.Spec PyProof.Rows L2 Own Exn Mth Vld
def rNeLen : R2 := fun x y H Q => ∃ (p r : Addr) (xs ys : List V), x = .ref p ∧ y = .ref r ∧ H p = some (.lst xs) ∧ H r = some (.lst ys) ∧ xs.length ≠ ys.length ∧ Q (.bl true) H
theorem op_neLen {X : Cx} (hu : X.A.units < cLine) : OpR X (compareOp .NotEq) rNeLen := by
  intro pins s σ H x y v u Q I rx ry h
  obtain ⟨p, r, xs, ys, rfl, rfl, e1, e2, hl, q⟩ := h
  obtain rfl : v = Value.ref p := rx
  obtain rfl : u = Value.ref r := ry
  obtain ⟨its, rv, p', hz⟩ := I.list (SqL.of e1)
  obtain ⟨its2, rv2, p2, hz2⟩ := I.list (SqL.of e2)
  refine PySem.SeqAt.RcNeAt.lists_lengths p'.isList p2.isList ?_ hu X.prog X.w _ _ (fin_bl I q rfl)
  have h1 := rv.length
  have h2 := rv2.length
  simp
  omega
end Gn

set_option Elab.async false
set_option linter.all false
set_option maxRecDepth 100000
set_option maxHeartbeats 4000000
/-! Hm: own == and != where the right side's class is a subclass of the left's (its own is tried first), and value == object (the value declines) -/
namespace Rws
open PySem PySem.Spec PySem.W PyProof.Rows PySem.SeqAt
section
variable {prog : Program} {w : World} {A : Around} {E : Value → Shared → Prop} {s : Shared} {K : Frag} {x y C D f L : Addr} {ox oy : Obj} {od oe : Option Obj} {h₀ : Heap} {m : Str → Option Value} {b tb : Value}
theorem one_eq {Q : Value → Shared → Prop} (X : K.In s.heap) (I : PySem.W.InstAt s.heap x ox C od) (hs : findIn K (.ref C) "__eq__" = some (some (.ref f))) (hf : isFn K (.ref f) = true)
    (h : wpAny (model prog w) A (call (.ref f) [.ref x, b]) (PySem.W.CmpBack Q) E s) : wpAny (model prog w) A (tryCompare (.ref x) "__eq__" b) (fun r s' => ∃ v, r = some v ∧ Q v s') E s := by
  unfold tryCompare
  refine wpAny_bind (ifBound_K X I hs hf (wpAny_mono h (fun v s' hv => ?_) fun _ _ e => e))
  cases v <;> first | exact hv.elim | exact wpAny_pure ⟨_, rfl, hv⟩
theorem one_ne {Q : Value → Shared → Prop} (hu1 : A.in1.units < cLine) (X : K.In s.heap) (I : PySem.W.InstAt s.heap x ox C od)
    (hs : findIn K (.ref C) "__ne__" = some (some (.builtin "object.__ne__"))) (hm : mroIn K C (.type "object") = some true) (he : findIn K (.ref C) "__eq__" = some (some (.ref f))) (hf : isFn K (.ref f) = true)
    (h : wpAny (model prog w) A.in1 (call (.ref f) [.ref x, b]) (fun v s' => ∃ c, v = .bool c ∧ Q (.bool (!c)) s') E s) : wpAny (model prog w) A (tryCompare (.ref x) "__ne__" b) (fun r s' => ∃ v, r = some v ∧ Q v s') E s := by
  unfold tryCompare
  refine wpAny_bind (Nws.ifBound_B X I hs PySem.F.slot_tuple_iterator_ne.bind (Nws.ne_entry hu1 X I hm he hf (wpAny_mono h (fun v s' hv => ?_) fun _ _ e => e)))
  obtain ⟨c, rfl, hq⟩ := hv
  exact ⟨c, rfl, wpAny_pure ⟨_, rfl, hq⟩⟩
/-- the right side first -/
theorem sub_first {op : CmpOp} {Q : Value → Shared → Prop} (hu : A.units < cLine) (F : Fr h₀ L s.heap m) (X₀ : K.In h₀) (I : PySem.W.InstAt s.heap x ox C od) (J : PySem.W.InstAt s.heap y oy D oe) (hne : D ≠ C) (e : subIn K (.ref D) (.ref C) = some true)
    (one : wpAny (model prog w) A (tryCompare (.ref y) (cmpInfo op).2.2 (.ref x)) (fun r s' => ∃ v, r = some v ∧ Q v s') E s) : wpAny (model prog w) A (richCompare op (.ref x) (.ref y)) Q E s := by
  have X := X₀.keeps F.keep
  unfold richCompare
  simp only [oneThing_ref]
  refine wpAny_holding (wpAny_bind (wpAny_cRoomFor hu ?_))
  refine wpAny_bind (I.type.here (wpAny_bind (J.type.here ?_)))
  have q : (Value.ref C != Value.ref D) = true := by
    simp
    exact fun h => hne h.symm
  rw [if_pos q]
  refine wpAny_bind ((looks_subIn X e).here ?_)
  simp only [if_true]
  refine wpAny_bind (wpAny_mono one (fun r s' z => ?_) fun _ _ e => e)
  obtain ⟨v, rfl, hq⟩ := z
  exact wpAny_bind (wpAny_rule (wpAny_pure hq))
/-- the value declines, then the object's own == -/
theorem refl_eq {T id : String} {Q : Value → Shared → Prop} (hu : A.units < cLine) (F : Fr h₀ L s.heap m) (X₀ : K.In h₀) (I : PySem.W.InstAt s.heap x ox C od) (hb : s.TypeIs b T) (e : subIn K (.ref C) (.type T) = some false) (h1 : Slot T (cmpInfo .Eq).2.1 id)
    (hc : ∀ Q' : Value → Shared → Prop, Q' .notImplemented s → wpAny (model prog w) A (call (.builtin id) [b, .ref x]) Q' E s)
    (one : wpAny (model prog w) A (tryCompare (.ref x) (cmpInfo .Eq).2.2 b) (fun r s' => ∃ v, r = some v ∧ Q v s') E s) : wpAny (model prog w) A (richCompare .Eq b (.ref x)) Q E s := by
  have X := X₀.keeps F.keep
  unfold richCompare
  simp only [hb.oneThing_none]
  refine wpAny_holding (wpAny_bind (wpAny_cRoomFor hu ?_))
  refine wpAny_bind (wpAny_typeOf hb (wpAny_bind (I.type.here ?_)))
  have q : (Value.type T != Value.ref C) = true := by simp
  rw [if_pos q]
  refine wpAny_bind ((looks_subIn X e).here ?_)
  simp only [Bool.false_eq_true, if_false, Bool.not_false, if_true]
  refine wpAny_bind (m := tryCompare b _ (.ref x)) (wpAny_tryCompare_declines hb h1 (hc _ ⟨rfl, ?_⟩))
  refine wpAny_bind (wpAny_mono one (fun r s' z => ?_) fun _ _ e => e)
  obtain ⟨v, rfl, hq⟩ := z
  exact wpAny_pure hq
end
theorem str_dec (b : Str) (u : Tok) (l C dx : Addr) :
    Meets (Builtin.«str.__eq__» ⟨[.str b u, .ref l], []⟩) (fun _ R s => s.heap.get? l = some (PySem.W.instObj C dx) ∧ R (.ok (.ret .notImplemented)) s) :=
  .of_wp fun prog w A R s h => by obtain ⟨hp, g, d, tk, os⟩ := s; obtain ⟨hl, h⟩ := h; wp_walk using wpAny_loadPart' hl, wpAny_load hl; exact ⟨_, rfl, h⟩
theorem int_dec (b : Int) (u : Tok) (l C dx : Addr) :
    Meets (Builtin.«int.__eq__» ⟨[.int b u, .ref l], []⟩) (fun _ R s => s.heap.get? l = some (PySem.W.instObj C dx) ∧ R (.ok (.ret .notImplemented)) s) :=
  .of_wp fun prog w A R s h => by obtain ⟨hp, g, d, tk, os⟩ := s; obtain ⟨hl, h⟩ := h; wp_walk using wpAny_loadPart' hl, wpAny_load hl; exact ⟨_, rfl, h⟩
theorem none_dec (l : Addr) : Gives (Builtin.«NoneType.__eq__» ⟨[.none, .ref l], []⟩) (.val (Value.notImplemented)) :=
  .of_wp fun M A E s Q h => by obtain ⟨hp, g, d, tk, os⟩ := s; wp_walk; exact ⟨_, rfl, h⟩
section
variable {prog : Program} {w : World} {A : Around} {E : Value → Shared → Prop} {s : Shared} {K : Frag} {x l C : Addr} {ox : Obj} {od : Option Obj} {Q : Value → Shared → Prop}
theorem inst_not {T : String} {M : Model} {Q : Bool → Shared → Prop} (X : K.In s.heap) (I : PySem.W.InstAt s.heap x ox C od) (e : subIn K (.ref C) (.type T) = some false) (h : Q false s) : wpAny M A (isInstance (.ref x) (.type T)) Q E s := by
  unfold isInstance
  exact wpAny_bind (I.type.here ((looks_subIn X e).here h))
theorem list_dec (X : K.In s.heap) (I : PySem.W.InstAt s.heap x ox C od) (e : subIn K (.ref C) (.type "list") = some false) (hT : s.TypeIs (.ref l) "list") (hq : Q .notImplemented s) : wpAny (model prog w) A (call (.builtin "list.__eq__") [.ref l, .ref x]) Q E s := by
  refine wpAny_call_entry PySem.F.slot_list_eq hT PySem.F.entry_list_eq ?_ (PySem.F.args_list_eq_2 _ _)
  show wpAny _ _ (slotArgs "__eq__" 1 ⟨[.ref l, .ref x], []⟩ >>= _) _ _ s
  refine wpAny_bind (wpAny_pure ?_)
  refine wpAny_bind (m := isInstance (.ref x) (.type "list")) (inst_not X I e ?_)
  exact wpAny_pure ⟨_, rfl, hq⟩
theorem tup_dec (X : K.In s.heap) (I : PySem.W.InstAt s.heap x ox C od) (e : subIn K (.ref C) (.type "tuple") = some false) (hT : s.TypeIs (.ref l) "tuple") (hq : Q .notImplemented s) : wpAny (model prog w) A (call (.builtin "tuple.__eq__") [.ref l, .ref x]) Q E s := by
  refine wpAny_call_entry PySem.F.slot_tuple_eq hT PySem.F.entry_tuple_eq ?_ (PySem.F.args_tuple_eq_2 _ _)
  show wpAny _ _ (slotArgs "__eq__" 1 ⟨[.ref l, .ref x], []⟩ >>= _) _ _ s
  refine wpAny_bind (wpAny_pure ?_)
  refine wpAny_bind (m := isInstance (.ref x) (.type "tuple")) (inst_not X I e ?_)
  exact wpAny_pure ⟨_, rfl, hq⟩
theorem dict_dec (X : K.In s.heap) (I : PySem.W.InstAt s.heap x ox C od) (e : subIn K (.ref C) (.type "dict") = some false) (hT : s.TypeIs (.ref l) "dict") (hq : Q .notImplemented s) : wpAny (model prog w) A (call (.builtin "dict.__eq__") [.ref l, .ref x]) Q E s := by
  refine wpAny_call_entry PySem.F.slot_dict_eq hT PySem.F.entry_dict_eq ?_ (PySem.F.args_dict_eq_2 _ _)
  show wpAny _ _ (Builtin.Dict.dictSlotArgs "__eq__" ⟨[.ref l, .ref x], []⟩ >>= _) _ _ s
  refine wpAny_bind ?_
  unfold Builtin.Dict.dictSlotArgs
  refine wpAny_bind (wpAny_notOrdered_dict hT ?_)
  show wpAny _ _ (pure (Value.ref l, Value.ref x)) _ _ s
  refine wpAny_pure ?_
  refine wpAny_bind (inst_not X I e ?_)
  simp only [Bool.not_false, if_true]
  exact wpAny_bind (wpAny_rule (wpAny_pure ⟨_, rfl, hq⟩))
end
end Rws
namespace Ows
open PySem PySem.Spec PyProof.Rows L2 ClX
section
variable {X : Cx} {CX : CXT} {k : Nat} {C D g : Addr} {sp : Sp} {E : XK}
/-- left == right, the right side's class a subclass: its own == -/
def rSubEq (C D : Addr) (sp : Sp) (E : XK) : R2 := fun x y H Q => ∃ (a b dx dy : Addr) (fs gs : List (Str × V)), x = .ref a ∧ y = .ref b ∧ H a = some (.ins C dx fs) ∧ H b = some (.ins D dy gs) ∧ sp [y, x] H Q E
theorem op_subEq (hne : D ≠ C) (hsub : PySem.W.subIn X.K (.ref D) (.ref C) = some true) (hs : PySem.W.findIn X.K (.ref D) "__eq__" = some (some (.ref g))) (hf : PySem.W.isFn X.K (.ref g) = true) (F : FnR X.prog X.w X.K X.mg X.base CX k g sp)
    (hr : Room k X.A) (hx : Passes CX X E) : OpR X (compareOp .Eq) (rSubEq C D sp E) := by
  intro pins s σ H x y v u Q I rx ry h
  obtain ⟨a, b, dx, dy, fs, gs, rfl, rfl, ha, hb, q⟩ := h
  cases (show v = Value.ref a from rx)
  cases (show u = Value.ref b from ry)
  obtain ⟨mA, O, _⟩ := ins_get I.hok ha
  obtain ⟨od, J, _⟩ := O.look
  obtain ⟨mB, O2, _⟩ := ins_get I.hok hb
  obtain ⟨oe, J2, _⟩ := O2.look
  obtain ⟨m, hF⟩ := I.fr
  show wpAny _ _ (richCompare .Eq _ _) _ _ _
  refine Rws.sub_first hr.units0 hF I.ok.mod.kin J J2 hne hsub ?_
  rw [PySem.cmpInfo_Eq]
  refine Rws.one_eq (I.ok.mod.kin.keeps hF.keep) J2 hs hf ?_
  refine wpAny_mono (wpAny_call (SlX.run_at (us := [.ref b, .ref a]) (ws := [.ref b, .ref a]) F hr I.env0 hx I (.cons rfl (.cons rfl .nil)) q)) (fun w s' z => ?_) fun _ _ x => x
  obtain ⟨z', H', I', rz, qz⟩ := z
  exact SlX.cmpback rz ⟨z', H', I', rz, qz⟩
def rSubNe (C D : Addr) (sp : Sp) (E : XK) : R2 := fun x y H Q => ∃ (a b dx dy : Addr) (fs gs : List (Str × V)), x = .ref a ∧ y = .ref b ∧ H a = some (.ins C dx fs) ∧ H b = some (.ins D dy gs) ∧ sp [y, x] H (fun z H' => ∃ b, z = .bl b ∧ Q (.bl (!b)) H') E
theorem op_subNe (hne : D ≠ C) (hsub : PySem.W.subIn X.K (.ref D) (.ref C) = some true) (hs : PySem.W.findIn X.K (.ref D) "__ne__" = some (some (.builtin "object.__ne__"))) (hm : PySem.W.mroIn X.K D (.type "object") = some true) (he : PySem.W.findIn X.K (.ref D) "__eq__" = some (some (.ref g))) (hf : PySem.W.isFn X.K (.ref g) = true) (F : FnR X.prog X.w X.K X.mg X.base CX k g sp)
    (hr : Room (k + 1) X.A) (hx : Passes CX X E) : OpR X (compareOp .NotEq) (rSubNe C D sp E) := by
  intro pins s σ H x y v u Q I rx ry h
  obtain ⟨a, b, dx, dy, fs, gs, rfl, rfl, ha, hb, q⟩ := h
  cases (show v = Value.ref a from rx)
  cases (show u = Value.ref b from ry)
  obtain ⟨mA, O, _⟩ := ins_get I.hok ha
  obtain ⟨od, J, _⟩ := O.look
  obtain ⟨mB, O2, _⟩ := ins_get I.hok hb
  obtain ⟨oe, J2, _⟩ := O2.look
  obtain ⟨m, hF⟩ := I.fr
  have hr1 : Room k X.A.in1 := hr.in1
  show wpAny _ _ (richCompare .NotEq _ _) _ _ _
  refine Rws.sub_first hr.units0 hF I.ok.mod.kin J J2 hne hsub ?_
  rw [PySem.cmpInfo_NotEq]
  refine Rws.one_ne hr1.units0 (I.ok.mod.kin.keeps hF.keep) J2 hs hm he hf ?_
  refine wpAny_mono (wpAny_call (SlX.run_at (us := [.ref b, .ref a]) (ws := [.ref b, .ref a]) F hr1 I.env0.in1 hx I (.cons rfl (.cons rfl .nil)) q)) (fun w s' z => ?_) fun _ _ x => x
  obtain ⟨z', H', I', rz, c, eb, qz⟩ := z
  subst eb
  cases (show w = Value.bool c from rz)
  exact ⟨c, rfl, .bl (!c), H', I', rfl, qz⟩
/-- a value that knows nothing of own classes -/
inductive Plain (H : Hp) : V → String → Prop where
  | str (z : Str) : Plain H (.str z) "str"
  | int (i : Int) : Plain H (.int i) "int"
  | non : Plain H .non "NoneType"
  | lst {p : Addr} {xs : List V} (h : H p = some (.lst xs)) : Plain H (.ref p) "list"
  | tup {p : Addr} {xs : List V} (h : H p = some (.tup xs)) : Plain H (.ref p) "tuple"
  | dct {p : Addr} (h : H p = some (.dK [])) : Plain H (.ref p) "dict"
def rReflEq (C : Addr) (sp : Sp) (E : XK) : R2 := fun x y H Q => ∃ (a dx : Addr) (fs : List (Str × V)) (T : String), y = .ref a ∧ H a = some (.ins C dx fs) ∧ Plain H x T ∧ sp [y, x] H Q E
theorem op_reflEq (hsub : ∀ T ∈ ["str", "int", "NoneType", "list", "tuple", "dict"], PySem.W.subIn X.K (.ref C) (.type T) = some false) (hs : PySem.W.findIn X.K (.ref C) "__eq__" = some (some (.ref g))) (hf : PySem.W.isFn X.K (.ref g) = true) (F : FnR X.prog X.w X.K X.mg X.base CX k g sp)
    (hr : Room k X.A) (hx : Passes CX X E) : OpR X (compareOp .Eq) (rReflEq C sp E) := by
  intro pins s σ H x y v u Q I rx ry h
  obtain ⟨a, dx, fs, T, rfl, ha, hp, q⟩ := h
  cases (show u = Value.ref a from ry)
  obtain ⟨mA, O, _⟩ := ins_get I.hok ha
  obtain ⟨od, J, _⟩ := O.look
  obtain ⟨m, hF⟩ := I.fr
  have hobj : s.heap.get? a = some (PySem.W.instObj C dx) := (show ObjOk X.prog X.w H s.heap a (.ins C dx fs) from I.hok a _ ha).2.2.2.1
  have hK := I.ok.mod.kin.keeps hF.keep
  have one : ∀ v, RelV x v → wpAny (model X.prog X.w) X.A (tryCompare (.ref a) (cmpInfo .Eq).2.2 v) (fun r s' => ∃ z, r = some z ∧ EP X pins σ Q z s') X.xe s := by
    intro v rx
    rw [PySem.cmpInfo_Eq]
    refine Rws.one_eq hK J hs hf ?_
    refine wpAny_mono (wpAny_call (SlX.run_at (us := [.ref a, v]) (ws := [.ref a, x]) F hr I.env0 hx I (.cons rfl (.cons rx .nil)) q)) (fun w s' z => ?_) fun _ _ x => x
    obtain ⟨z', H', I', rz, qz⟩ := z
    exact SlX.cmpback rz ⟨z', H', I', rz, qz⟩
  have on := one v rx
  show wpAny _ _ (richCompare .Eq _ _) _ _ _
  cases hp with
  | str z =>
    obtain ⟨t, rfl⟩ := (show ∃ t, v = Value.str z t from rx)
    exact Rws.refl_eq hr.units0 hF I.ok.mod.kin J (typeIs_str s z t) (hsub "str" (by simp)) PySem.F.slot_str_eq (fun Q' hq => call_meets PySem.F.slot_str_eq (typeIs_str s z t) PySem.F.entry_str_eq (PySem.F.args_str_eq_2 _ _) (Rws.str_dec z t a C dx) ⟨hobj, hq⟩) on
  | int i =>
    obtain ⟨t, rfl⟩ := (show ∃ t, v = Value.int i t from rx)
    exact Rws.refl_eq hr.units0 hF I.ok.mod.kin J (typeIs_int s i t) (hsub "int" (by simp)) PySem.F.slot_int_eq (fun Q' hq => call_meets PySem.F.slot_int_eq (typeIs_int s i t) PySem.F.entry_int_eq (PySem.F.args_int_eq_2 _ _) (Rws.int_dec i t a C dx) ⟨hobj, hq⟩) on
  | non =>
    cases (show v = Value.none from rx)
    exact Rws.refl_eq (T := "NoneType") hr.units0 hF I.ok.mod.kin J rfl (hsub "NoneType" (by simp)) PySem.F.slot_NoneType_eq (fun Q' hq => call_gives PySem.F.slot_NoneType_eq rfl PySem.F.entry_NoneType_eq (PySem.F.args_NoneType_eq_2 _ _) (Rws.none_dec a) hq) on
  | @lst p xs h =>
    cases (show v = Value.ref p from rx)
    obtain ⟨_, _, n, _, h1⟩ := (show ObjOk X.prog X.w H s.heap p (.lst xs) from I.hok p _ h)
    have hT : s.TypeIs (.ref p) "list" := ⟨_, h1, rfl⟩
    exact Rws.refl_eq hr.units0 hF I.ok.mod.kin J hT (hsub "list" (by simp)) PySem.F.slot_list_eq (fun Q' hq => Rws.list_dec hK J (hsub "list" (by simp)) hT hq) on
  | @tup p xs h =>
    cases (show v = Value.ref p from rx)
    obtain ⟨_, _, _, o, h1, h2, _⟩ := (show ObjOk X.prog X.w H s.heap p (.tup xs) from I.hok p _ h)
    have hT : s.TypeIs (.ref p) "tuple" := ⟨o, h1, h2⟩
    exact Rws.refl_eq hr.units0 hF I.ok.mod.kin J hT (hsub "tuple" (by simp)) PySem.F.slot_tuple_eq (fun Q' hq => Rws.tup_dec hK J (hsub "tuple" (by simp)) hT hq) on
  | @dct p h =>
    cases (show v = Value.ref p from rx)
    obtain ⟨_, _, vs, _, o, es, ep, h1, h2, _⟩ := (show ObjOk X.prog X.w H s.heap p (.dK []) from I.hok p _ h)
    have hT : s.TypeIs (.ref p) "dict" := ⟨o, h1, h2.1⟩
    exact Rws.refl_eq hr.units0 hF I.ok.mod.kin J hT (hsub "dict" (by simp)) PySem.F.slot_dict_eq (fun Q' hq => Rws.dict_dec hK J (hsub "dict" (by simp)) hT hq) on
end
end Ows

set_option Elab.async false
set_option linter.all false
set_option maxRecDepth 100000
set_option maxHeartbeats 4000000
/-! Hn: object in list, where no item is equal to it (own == of the items, or value == object) -/
namespace Rws
open PySem PySem.Spec PySem.W PyProof.Rows PySem.SeqAt
open AutoSeq1 (wpAny_loadPart')
open MeetsSeq MeetsSeq2 MeetsSeq3 SeqRoads2
section
variable {prog : Program} {w : World} {A : Around} {R : Result → Shared → Prop} {x : Value}
/-- at each turn the list is read anew: N items, the i-th not equal -/
def NotI (prog : Program) (w : World) (A : Around) (E : Value → Shared → Prop) (l : Addr) (x : Value) (N : Nat) (I : Nat → Shared → Prop) : Prop :=
  ∀ i s, I i s → ∃ (items : Array Value) (n : Nat), s.heap.get? l = some { cls := .type "list", data := .seq items n } ∧ items.size = N ∧
    ∀ (h1 : i < items.size), wpAny (model prog w) A.in1 (eqBool items[i] x) (fun r s' => r = false ∧ I (i + 1) s') E s
theorem in_loopF (l : Addr) (N : Nat) (I : Nat → Shared → Prop) (hl : NotI prog w A (fun e s' => R (.error e) s') l x N I)
    (fin : ∀ s, I N s → R (.ok (.ret (.bool false))) s) (k : Nat) :
    ∀ i : Nat, N - i = k → i ≤ N → ∀ s, I i s →
      wpAny (model prog w) A.in1 (Builtin.«list.__contains__.loop» ⟨[.ref l, x, rawInt i], []⟩) (GQ.FinOf prog w A R) (fun e s' => R (.error e) s') s := by
  induction k with
  | zero =>
    intro i hk hi s h
    obtain ⟨items, n, hl1, hs1, _⟩ := hl _ _ h
    have hi' : i = N := by omega
    have hR : R (.ok (.ret (.bool false))) s := fin s (hi' ▸ h)
    obtain ⟨hp, g, d, tk, os⟩ := s
    wp_walk using wpAny_loadPart' hl1
    have hi1 : items[((i : Nat) : Int).toNat]? = none := by simp; omega
    rw [hi1]
    wp_walk using wpAny_loadPart' hl1
    exact hR
  | succ k ih =>
    intro i hk hi s h
    obtain ⟨items, n, hl1, hs1, turn⟩ := hl _ _ h
    have hlt : i < items.size := by omega
    have ht := turn hlt
    obtain ⟨hp, g, d, tk, os⟩ := s
    wp_walk using wpAny_loadPart' hl1
    have hi1 : items[((i : Nat) : Int).toNat]? = some items[i] := by simp [hlt]
    have hc : ((i : Int) + 1) = ((i + 1 : Nat) : Int) := by omega
    rw [hi1]
    refine wpAny_bind (wpAny_mono ht (fun r s2 h2 => ?_) fun _ _ x => x)
    obtain ⟨hr, h2⟩ := h2
    subst hr
    have hrec := ih (i + 1) (by omega) (by omega) s2 h2
    obtain ⟨hp2, g2, d2, tk2, os2⟩ := s2
    wp_walk
    rw [hc]
    exact ⟨plainId_quiet plain_contains_loop _, codeAny_builtin entry_contains_loop (by
      rw [Around.under_plainId plain_contains_loop _]
      exact hrec)⟩
theorem list_inF (l : Addr) (N : Nat) (I : Nat → Shared → Prop) (hl : NotI prog w A (fun e s' => R (.error e) s') l x N I)
    (fin : ∀ s, I N s → R (.ok (.ret (.bool false))) s) {s : Shared} (h : I 0 s) :
    wpAny (model prog w) A.in1 (Builtin.«list.__contains__» ⟨[.ref l, x], []⟩) (GQ.FinOf prog w A R) (fun e s' => R (.error e) s') s := by
  obtain ⟨items, n, hl1, hs1, _⟩ := hl _ _ h
  have hrec := in_loopF (A := A) (R := R) l N I hl fin _ 0 rfl (Nat.zero_le _) s h
  obtain ⟨hp, g, d, tk, os⟩ := s
  wp_walk using wpAny_loadPart' hl1
  exact ⟨plainId_quiet plain_contains_loop _, codeAny_builtin entry_contains_loop (by
    rw [Around.under_plainId plain_contains_loop _]
    exact hrec)⟩
end
section
variable {prog : Program} {w : World} {A : Around} {E : Value → Shared → Prop} {s : Shared} {x : Value}
theorem in_F {l : Addr} {N : Nat} {Q : Value → Shared → Prop} (I : Nat → Shared → Prop) (hl : NotI prog w A E l x N I) (fin : ∀ s, I N s → Q (.bool false) s) (h : I 0 s) : wpAny (model prog w) A (compareOp .In x (.ref l)) Q E s := by
  obtain ⟨items, n, hl1, _⟩ := hl _ _ h
  show wpAny _ A (do return .bool (← contains (.ref l) x)) Q E s
  refine wpAny_bind (wpAny_contains_slot ⟨_, hl1, rfl⟩ PySem.F.slot_list_contains (wpAny_mono (Q := fun v s' => ∃ b, v = .bool b ∧ Q (.bool b) s') (GQ.call_here PySem.F.slot_list_contains ⟨_, hl1, rfl⟩ PySem.F.entry_list_contains (PySem.F.args_list_contains_2 _ _) ?_) (fun v s' hv => ?_) fun _ _ e => e))
  · exact list_inF (R := wants (fun v s' => ∃ b, v = .bool b ∧ Q (.bool b) s') E) l N I hl (fun s' q => ⟨_, rfl, fin s' q⟩) h
  · obtain ⟨b, rfl, hq⟩ := hv
    exact wpAny_truthy_bool (wpAny_pure hq)
/-- == inside a builtin, of a value and an object that differ -/
theorem eqBool_F {y : Value} {a : Addr} {Q : Bool → Shared → Prop} (hne : y ≠ .ref a) (h : wpAny (model prog w) A (richCompare .Eq y (.ref a)) (fun v s' => ∃ r, v = .bool r ∧ Q r s') E s) : wpAny (model prog w) A (eqBool y (.ref a)) Q E s := by
  unfold eqBool
  refine wpAny_holding ?_
  refine wpAny_ite_split (fun hab => absurd (eq_of_beq hab) hne) (fun _ => ?_)
  have fin : wpAny (model prog w) A (richCompare .Eq y (.ref a) >>= fun v => truthOfDropped v) Q E s := by
    refine wpAny_bind (wpAny_mono h (fun v s' hv => ?_) fun _ _ x => x)
    obtain ⟨r, rfl, q⟩ := hv
    exact wpAny_truthy_bool q
  cases y <;> exact fin
end
end Rws
namespace Ows
open PySem PySem.Spec PyProof.Rows L2 ClX
section
variable {X : Cx} {CX : CXT} {k : Nat} {C g : Addr} {sp : Sp} {E : XK}
theorem vals_at : ∀ {xs : List V} {us : List Value}, Vals xs us → ∀ (i : Nat) (h : i < us.length), ∃ x, xs[i]? = some x ∧ RelV x us[i]
  | _, _, .nil, i, h => absurd h (Nat.not_lt_zero _)
  | _, _, .cons r t, 0, h => ⟨_, rfl, r⟩
  | _, _, .cons r t, i + 1, h => vals_at t i (Nat.lt_of_succ_lt_succ h)
theorem refl_any {A : Around} {Pq : Value → Shared → Prop} {pins : List (Addr × Obj)} {σ : L2.St} {H : Hp} {s : Shared} {x : V} {v : Value} {a dx : Addr} {fs : List (Str × V)} {T : String} (hu : A.units < cLine) (I : Inv X pins σ H s)
    (hsub : ∀ T ∈ ["str", "int", "NoneType", "list", "tuple", "dict"], PySem.W.subIn X.K (.ref C) (.type T) = some false) (hs : PySem.W.findIn X.K (.ref C) "__eq__" = some (some (.ref g))) (hf : PySem.W.isFn X.K (.ref g) = true) (ha : H a = some (.ins C dx fs)) (hp : Plain H x T) (rx : RelV x v)
    (run : wpAny (model X.prog X.w) A (call (.ref g) [.ref a, v]) (PySem.W.CmpBack Pq) X.xe s) : wpAny (model X.prog X.w) A (richCompare .Eq v (.ref a)) Pq X.xe s := by
  obtain ⟨mA, O, _⟩ := ins_get I.hok ha
  obtain ⟨od, J, _⟩ := O.look
  obtain ⟨m, hF⟩ := I.fr
  have hobj : s.heap.get? a = some (PySem.W.instObj C dx) := (show ObjOk X.prog X.w H s.heap a (.ins C dx fs) from I.hok a _ ha).2.2.2.1
  have hK := I.ok.mod.kin.keeps hF.keep
  have on : wpAny (model X.prog X.w) A (tryCompare (.ref a) (cmpInfo .Eq).2.2 v) (fun r s' => ∃ z, r = some z ∧ Pq z s') X.xe s := by
    rw [PySem.cmpInfo_Eq]
    exact Rws.one_eq hK J hs hf run
  cases hp with
  | str z =>
    obtain ⟨t, rfl⟩ := (show ∃ t, v = Value.str z t from rx)
    exact Rws.refl_eq hu hF I.ok.mod.kin J (typeIs_str s z t) (hsub "str" (by simp)) PySem.F.slot_str_eq (fun Q' hq => call_meets PySem.F.slot_str_eq (typeIs_str s z t) PySem.F.entry_str_eq (PySem.F.args_str_eq_2 _ _) (Rws.str_dec z t a C dx) ⟨hobj, hq⟩) on
  | int i =>
    obtain ⟨t, rfl⟩ := (show ∃ t, v = Value.int i t from rx)
    exact Rws.refl_eq hu hF I.ok.mod.kin J (typeIs_int s i t) (hsub "int" (by simp)) PySem.F.slot_int_eq (fun Q' hq => call_meets PySem.F.slot_int_eq (typeIs_int s i t) PySem.F.entry_int_eq (PySem.F.args_int_eq_2 _ _) (Rws.int_dec i t a C dx) ⟨hobj, hq⟩) on
  | non =>
    cases (show v = Value.none from rx)
    exact Rws.refl_eq (T := "NoneType") hu hF I.ok.mod.kin J rfl (hsub "NoneType" (by simp)) PySem.F.slot_NoneType_eq (fun Q' hq => call_gives PySem.F.slot_NoneType_eq rfl PySem.F.entry_NoneType_eq (PySem.F.args_NoneType_eq_2 _ _) (Rws.none_dec a) hq) on
  | @lst p xs h =>
    cases (show v = Value.ref p from rx)
    obtain ⟨_, _, n, _, h1⟩ := (show ObjOk X.prog X.w H s.heap p (.lst xs) from I.hok p _ h)
    have hT : s.TypeIs (.ref p) "list" := ⟨_, h1, rfl⟩
    exact Rws.refl_eq hu hF I.ok.mod.kin J hT (hsub "list" (by simp)) PySem.F.slot_list_eq (fun Q' hq => Rws.list_dec hK J (hsub "list" (by simp)) hT hq) on
  | @tup p xs h =>
    cases (show v = Value.ref p from rx)
    obtain ⟨_, _, _, o, h1, h2, _⟩ := (show ObjOk X.prog X.w H s.heap p (.tup xs) from I.hok p _ h)
    have hT : s.TypeIs (.ref p) "tuple" := ⟨o, h1, h2⟩
    exact Rws.refl_eq hu hF I.ok.mod.kin J hT (hsub "tuple" (by simp)) PySem.F.slot_tuple_eq (fun Q' hq => Rws.tup_dec hK J (hsub "tuple" (by simp)) hT hq) on
  | @dct p h =>
    cases (show v = Value.ref p from rx)
    obtain ⟨_, _, vs, _, o, es, ep, h1, h2, _⟩ := (show ObjOk X.prog X.w H s.heap p (.dK []) from I.hok p _ h)
    have hT : s.TypeIs (.ref p) "dict" := ⟨o, h1, h2.1⟩
    exact Rws.refl_eq hu hF I.ok.mod.kin J hT (hsub "dict" (by simp)) PySem.F.slot_dict_eq (fun Q' hq => Rws.dict_dec hK J (hsub "dict" (by simp)) hT hq) on
theorem plain_ne {H : Hp} {x : V} {T : String} {v : Value} {a dx : Addr} {fs : List (Str × V)} (hp : Plain H x T) (rx : RelV x v) (ha : H a = some (.ins C dx fs)) : v ≠ .ref a := by
  intro e
  subst e
  cases hp with
  | str z => obtain ⟨t, h⟩ := (show ∃ t, Value.ref a = Value.str z t from rx); cases h
  | int i => obtain ⟨t, h⟩ := (show ∃ t, Value.ref a = Value.int i t from rx); cases h
  | non => cases (show Value.ref a = Value.none from rx)
  | @lst p xs h => cases (show Value.ref a = Value.ref p from rx); rw [ha] at h; cases h
  | @tup p xs h => cases (show Value.ref a = Value.ref p from rx); rw [ha] at h; cases h
  | @dct p h => cases (show Value.ref a = Value.ref p from rx); rw [ha] at h; cases h
/-- object in list: no item is equal to it, and nothing is changed -/
def rInOwnF (K : PySem.W.Frag) (C : Addr) (sp : Sp) (E : XK) : R2 := fun x y H Q => ∃ (a dx p : Addr) (fs : List (Str × V)) (xs : List V), x = .ref a ∧ y = .ref p ∧ H a = some (.ins C dx fs) ∧ H p = some (.lst xs) ∧ TyX K H x (.ref C) ∧ PySem.W.notFirst K C (.ref C) = true ∧
  (∀ v ∈ xs, (∃ (b dy : Addr) (gs : List (Str × V)), v = .ref b ∧ b ≠ a ∧ H b = some (.ins C dy gs) ∧ sp [v, x] H (fun z H' => z = .bl false ∧ H' = H) E) ∨ (∃ T, Plain H v T ∧ sp [x, v] H (fun z H' => z = .bl false ∧ H' = H) E)) ∧ Q (.bl false) H
theorem op_inOwnF (hsub : ∀ T ∈ ["str", "int", "NoneType", "list", "tuple", "dict"], PySem.W.subIn X.K (.ref C) (.type T) = some false) (hs : PySem.W.findIn X.K (.ref C) "__eq__" = some (some (.ref g))) (hf : PySem.W.isFn X.K (.ref g) = true) (F : FnR X.prog X.w X.K X.mg X.base CX k g sp)
    (hr : Room (k + 1) X.A) (hx : Passes CX X E) : OpR X (compareOp .In) (rInOwnF X.K C sp E) := by
  intro pins s σ H x y v u Q I rx ry h
  obtain ⟨a, dx, p, fs, xs, rfl, rfl, ha, hp, hty, hn, hall, q⟩ := h
  cases (show v = Value.ref a from rx)
  cases (show u = Value.ref p from ry)
  have hr1 : Room k X.A.in1 := hr.in1
  refine Rws.in_F (N := xs.length) (fun _ s' => Inv X pins σ H s') ?_ (fun s' I' => ⟨.bl false, H, I', rfl, q⟩) I
  intro i s' I'
  obtain ⟨_, its, n, r, e⟩ := (show ObjOk X.prog X.w H s'.heap p (.lst xs) from I'.hok p _ hp)
  have hlen := r.length
  refine ⟨its.toArray, n, e, by simp; omega, fun h1 => ?_⟩
  have h1' : i < its.length := by simpa using h1
  obtain ⟨z, hz, rz⟩ := vals_at r i h1'
  have ei : its.toArray[i] = its[i] := by simp
  rw [ei]
  obtain ⟨m, hF⟩ := I'.fr
  rcases hall z (List.mem_of_getElem? hz) with ⟨b, dy, gs, rfl, hba, hb, sb⟩ | ⟨Tn, hpl, sb⟩
  · rw [show its[i] = Value.ref b from rz]
    refine Rws.eqBool_F (fun e => hba (by injection e)) ?_
    obtain ⟨mB, O, _⟩ := ins_get I'.hok hb
    obtain ⟨od, J, _⟩ := O.look
    obtain ⟨Pp, Z, pz, _⟩ := kit_of I' (show RelV (.ref a) (Value.ref a) from rfl) hty
    refine PySem.W.cmp_K (op := .Eq) (tb := .ref C) hr1.units0 hF I'.ok.mod.kin J (Z.ty _ _ I'.kIn pz) hn hs hf ?_
    refine wpAny_mono (wpAny_call (SlX.run_at (us := [.ref b, .ref a]) (ws := [.ref b, .ref a]) F hr1 I'.env0.in1 hx I' (.cons rfl (.cons rfl .nil)) sb)) (fun w s2 z => ?_) fun _ _ x => x
    obtain ⟨z', H', I2, rz', ez, eH⟩ := z
    subst ez
    subst eH
    cases (show w = Value.bool false from rz')
    exact ⟨false, rfl, rfl, I2⟩
  · refine Rws.eqBool_F (plain_ne hpl rz ha) ?_
    refine refl_any hr1.units0 I' hsub hs hf ha hpl rz ?_
    refine wpAny_mono (wpAny_call (SlX.run_at (us := [.ref a, its[i]]) (ws := [.ref a, z]) F hr1 I'.env0.in1 hx I' (.cons rfl (.cons rz .nil)) sb)) (fun w s2 z => ?_) fun _ _ x => x
    obtain ⟨z', H', I2, rz', ez, eH⟩ := z
    subst ez
    subst eH
    cases (show w = Value.bool false from rz')
    exact ⟨false, rfl, rfl, I2⟩
end
end Ows

set_option Elab.async false
set_option linter.all false
set_option maxRecDepth 100000
set_option maxHeartbeats 4000000
/-! Hq: C(k = e, ..) with the keywords from the last parameter to the first -/
namespace Cmx
open PySem PySem.Spec PyProof.Rows L2 ClX
theorem vals_snoc : ∀ {vs ws : List V} {us ts : List Value}, Vals vs us → Vals ws ts → Vals (vs ++ ws) (us ++ ts)
  | _, _, _, _, .nil, h => h
  | _, _, _, _, .cons r t, h => .cons r (vals_snoc t h)
theorem vals_rev : ∀ {vs : List V} {us : List Value}, Vals vs us → Vals vs.reverse us.reverse
  | _, _, .nil => .nil
  | _, _, .cons r t => by
    rw [List.reverse_cons, List.reverse_cons]
    exact vals_snoc (vals_rev t) (.cons r .nil)
def tRev (tk : TA) : TA := fun σ H R => tk σ H fun vs H' => R vs.reverse H'
section
variable {X : Cx} {CX : CXT} {k : Nat} {f C : Addr} {fd : FuncData} {ps ks : List Str} {sp : Sp} {E : L2.St → XK} {x : Str} {pp pos : Pos} {kws : List Keyword} {tk : TA}
/-- C(k = e, ..), the keywords in the order of the parameters, but from the last to the second -/
theorem pe_makeSR (M : Mk X.K C f) (F : FnOk X.prog X.w X.K X.mg X.base CX k f fd ps sp) (hr : Room (k + 1) X.A) (hg : Gl X x) (hm : X.mg x = some (.ref C))
    (hb : ∀ (s : Shared) (y : Value) (us : List Value), X.K.In s.heap → (y :: us).length = ps.length → BindsTo s fd ⟨[y], ks.zip us⟩ (ps.zip (y :: us.reverse))) (hx : ∀ σ, PassesAt CX X σ (E σ)) (hkw : PK X kws tk)
    (hal : (backToKw pos (keywordEach kws X.env)).all (·.1.isSome) = true := by rfl) (hks : (backToKw pos (keywordEach kws X.env)).filterMap (·.1) = ks := by rfl)
    (hpl : ((backTo pos (starEach [] X.env)).any (·.1) || (backToKw pos (keywordEach kws X.env)).any (·.1.isNone)) = false := by rfl) (hdb : (x == ("__debug__" : Str)) = false := by decide) :
    PE X (.Call (.Name x pp) [] kws pos) (tMakeS C sp E (tRev tk)) := by
  refine ⟨fun pins s σ H Q I h => ?_⟩
  refine wpAny_Call_Name_kw (ld_glob I hg hm ?_ hdb)
  refine PySem.W.callWith_KW0 (first := []) (h₀ := X.base) I.ok.mod.kin M.kp hal (thn (hkw.run pos pins s σ H _ I h) fun us s1 ⟨vs, H1, I1, r, q⟩ => ⟨I1.kIn, ?_⟩) hpl
  rw [hks]
  have hq := q (s1.heap.objs.size + 1) s1.heap.objs.size (I1.hok.fresh (Nat.le_succ _)) (I1.hok.fresh (Nat.le_refl _)) (Nat.ne_of_lt (Nat.lt_succ_self _))
  have I2 := Inv.made (C := C) I1
  have r2 : Vals (V.ref (s1.heap.objs.size + 1) :: vs.reverse) (Value.ref (s1.heap.objs.size + 1) :: us.reverse) := .cons rfl (vals_rev r)
  have hl : (Value.ref (s1.heap.objs.size + 1) :: us).length = ps.length := by
    have e := r2.length
    rw [F.len _ _ _ _ hq, List.length_cons, List.length_reverse] at e
    exact e.symm
  refine wpAny_call (make_map (f := f) I1.kIn M.makes M.init (beq_iff_eq.mp M.fn) (codeAny_mono (F.run _ X.stack _ _ ⟨[Value.ref (s1.heap.objs.size + 1)], ks.zip us⟩ (Value.ref (s1.heap.objs.size + 1) :: us.reverse) _ _ (E σ) (hr.make C [] (ks.zip us))
    (I2.env0.make C [] (ks.zip us)) (hb _ _ us I2.kIn hl) r2 hq) fun r s' hq' => ?_))
  cases r with
  | error e => exact hx σ pins _ _ e s' I2 hq'
  | ok fl =>
    cases fl with
    | ret u =>
      obtain ⟨v, H', I3, rv, ev, q3⟩ := I2.after hq'
      subst ev
      exact ⟨rv, ⟨V.ref (s1.heap.objs.size + 1), H', I3, rfl, q3⟩⟩
    | next => exact False.elim hq'
    | brk => exact False.elim hq'
    | cont => exact False.elim hq'
end
end Cmx
namespace Own
open PySem PySem.Spec PyProof.Rows L2
section
variable {X : Cx} {CX : CXT} {k : Nat} {f : Addr} {fd : FuncData} {ps : List Str} {sp : Sp} {E : XK} {x : Str} {p pos : Pos} {e : Expr} {es : List Expr} {t : TA}
/-- f() of a def that shows values -/
theorem pe_callG0 (F : FnG X.prog X.w X.K X.mg X.base CX k f fd ps sp) (hg0 : X.A.guards = some []) (hr : Room k X.A) (hg : Gl X x) (hm : X.mg x = some (.ref f)) (hk : PySem.W.keepIn X.K (.ref f) = true) (hb : Binds X.K fd ps []) (hx : Passes CX X E)
    (hdb : (x == ("__debug__" : Str)) = false := by decide) : PE X (.Call (.Name x p) [] [] pos) (fun σ H Q => sp [] H Q E) := by
  refine ⟨fun pins s σ H Q I h => wpAny_Call_Name_kw (ld_glob I hg hm ?_ hdb)⟩
  refine PySem.W.callWith_K0 I.kIn hk ?_
  have hl : ([] : List Value).length = ps.length := F.lenG _ _ _ _ h
  refine wpAny_call (codeAny_mono (F.runG X.A X.stack s H ⟨[], []⟩ [] [] Q E hg0 hr I.env0 (by have := hb s [] I.kIn (by rw [List.append_nil]; exact hl); rwa [List.append_nil] at this) .nil h) fun rr s' hq => ?_)
  match rr, hq with
  | .error er, hq => exact hx pins σ H s er s' I hq
  | .ok (.ret u), hq => exact I.after hq
  | .ok .next, hq => exact False.elim hq
  | .ok .brk, hq => exact False.elim hq
  | .ok .cont, hq => exact False.elim hq
end
end Own

set_option Elab.async false
set_option linter.all false
set_option maxRecDepth 100000
set_option maxHeartbeats 4000000
/-! Hr: o.m() where the method has defaults -/
namespace Cmx
open PySem PySem.Spec PyProof.Rows L2 ClX
section
variable {X : Cx} {CX : CXT} {k : Nat} {f C : Addr} {fd : FuncData} {ps : List Str} {ds : List Value} {dvs : List V} {sp : Sp} {E : L2.St → XK} {m : Str} {pos apos : Pos} {o : Expr} {ta : TE}
/-- o.m(), the rest from the defaults -/
def tMethD (C : Addr) (m : Str) (sp : Sp) (E : L2.St → XK) (dvs : List V) (ta : TE) : TE := fun σ H Q => ta σ H fun x H1 => ∃ a dx fs, x = .ref a ∧ H1 a = some (.ins C dx fs) ∧ fs.lookup m = none ∧ sp (.ref a :: dvs) H1 Q (E σ)
theorem pe_methXD {pl : Sem Bool} (he : PE X o ta) (c : Cls X.K C) (hm : Meth X.K C m f) (F : FnOk X.prog X.w X.K X.mg X.base CX k f fd ps sp) (hr : Room k X.A) (hb : Binds X.K fd ps ds) (hd : Vals dvs ds) (hx : ∀ σ, PassesAt CX X σ (E σ))
    (ht : eval (.Call (.Attribute o m apos) [] [] pos) X.env = (do
      let ov ← eval o X.env
      standAt apos.atName
      let (f, first) ← holding [ov] (getMethod ov m pl)
      callWith pos f first (backTo pos (starEach [] X.env)) (backToKw pos (keywordEach [] X.env))) := by rfl) :
    PE X (.Call (.Attribute o m apos) [] [] pos) (tMethD C m sp E dvs ta) := by
  refine ⟨fun pins s σ H Q I h => ?_⟩
  refine PySem.W.methodCall_KW (pl := pl) (thn (he.run pins s σ H _ I h) fun u s1 ⟨x, H1, I1, rx, a, dx, fs, ex, ea, l, q⟩ => ?_) ht
  subst ex
  obtain rfl : u = Value.ref a := rx
  refine getmeth_ok I1 ea c hm l ?_
  exact PySem.W.callWith_K0 (first := [.ref a]) I1.kIn hm.kp (run_fnSD (us := [.ref a]) (vs := [.ref a]) F hr hb hd (hx σ) I1 (.cons rfl .nil) q)
end
end Cmx

set_option Elab.async false
set_option linter.all false
set_option maxRecDepth 100000
set_option maxHeartbeats 4000000
/-! Hs: what is lost in all; how long a repr is -/
namespace Gn
open PySem PySem.Spec PyProof.Rows L2 Own Exn Mth Vld
theorem bst_loss : ∀ (p z r : List Nat), bst p z = some r → r.length + (tkS p).length ≤ z.length + (puS p).length
  | [], z, r, h => by cases h; exact Nat.le_refl _
  | c :: p, z, r, h => by
    by_cases h1 : 97 ≤ c
    · rw [bst_put h1] at h
      have := bst_loss p _ r h
      rw [tkS_put h1, puS_put h1, List.length_cons]
      rw [List.length_append, List.length_singleton] at this
      omega
    · cases e : fst? (c + 32) z with
      | none => rw [bst_fail h1 e] at h; cases h
      | some k =>
        rw [bst_take h1 e] at h
        have := bst_loss p _ r h
        obtain ⟨k1, _, _⟩ := fst_lt e
        rw [tkS_take h1, puS_take h1, List.length_cons]
        rw [List.length_drop] at this
        omega
theorem repr_len {z : List Nat} (h : ∀ c ∈ z, c ∈ st16) : (reprText (mk z)).length ≤ 10 * z.length + 2 := by
  have h := PySem.StrLaws.reprText_len (mk z) fun c hc => Nat.lt_of_lt_of_le (show c < 200 by have := h c (by rwa [show (mk z).cps.toList = z from cs_mk z] at hc); rw [mem_st16] at this; omega) (by decide)
  rwa [len_mk z] at h
theorem st_of_lo {z : List Nat} (h : ∀ c ∈ z, c ∈ lo8) : ∀ c ∈ z, c ∈ st16 := fun c hc => by
  have := h c hc
  rw [mem_lo8] at this
  rw [mem_st16]
  omega
theorem shown2 {x : Str} {z : List Nat} (h : ∀ c ∈ z, c ∈ st16) (lz : z.length ≤ 1000) (lx : (reprText x).length ≤ 1000) : (PyData.shown (.list [.str x, .str (mk z)])).length ≤ 100000 := by
  have e := listText_len_le [reprText x, reprText (mk z)]
  have r := repr_len h
  rw [show PyData.shown (.list [.str x, .str (mk z)]) = listText [reprText x, reprText (mk z)] from by simp only [PyData.shown, PyData.shownAll]]
  simp only [List.map_cons, List.map_nil, List.sum_cons, List.sum_nil, List.length_cons, List.length_nil] at e
  omega
end Gn

set_option Elab.async false
set_option linter.all false
set_option maxRecDepth 100000
set_option maxHeartbeats 400000
/-! Ht: several clauses, each with a name of its own or with none -/
namespace L2
open PySem PySem.Spec PyProof.Rows
abbrev Clm := List (Value × Option Nat × (Addr → Value → Option Addr → TS))
def wMix (K : PySem.W.Frag) (Wout : WX) (D : Ends) : Clm → WX
  | [] => Wout
  | (c, none, ts) :: r => fun cls d τ G => ∃ b, PySem.W.exmOne K cls c = some b ∧ (b = true → ∀ q, G q = none → ts q cls d D τ G) ∧ (b = false → wMix K Wout D r cls d τ G)
  | (c, some i, ts) :: r => fun cls d τ G => ∃ b, PySem.W.exmOne K cls c = some b ∧ (b = true → ∀ q, G q = none → ts q cls d (D.out i) (τ.set i (some (.ref q))) G) ∧ (b = false → wMix K Wout D r cls d τ G)
inductive HdMx (X : Cx) : List ExceptHandler → Clm → Prop
  | nil : HdMx X [] []
  | only {x : Str} {c : Value} {ts : Addr → Value → Option Addr → TS} {s0 : Stmt} {su : List Stmt} {p1 p2 : Pos} {hds : List ExceptHandler} {l : Clm} (hc : Names X x c)
      (run : ∀ (q : Addr) (oq : Obj) (cls : Value) (d : Option Addr) (pn : List (Addr × Obj)), Zc cls d oq → (∃ vs, oq.data = .fields vs) → PSs (X.suite q ((q, oq) :: pn)) (s0 :: su) (ts q cls d)) (r : HdMx X hds l) : HdMx X (.ExceptHandler (some (.Name x p1)) none (s0 :: su) p2 :: hds) ((c, none, ts) :: l)
  | as_ {x : Str} {c : Value} {ts : Addr → Value → Option Addr → TS} {s0 : Stmt} {su : List Stmt} {p1 p2 : Pos} {hds : List ExceptHandler} {l : Clm} {i : Nat} {n : Str} (hin : X.N[i]? = some n) (hkn : X.env.kindOf n = some .local) (hc : Names X x c)
      (run : ∀ (q : Addr) (oq : Obj) (cls : Value) (d : Option Addr) (pn : List (Addr × Obj)), Zc cls d oq → (∃ vs, oq.data = .fields vs) → PSs (X.suite q ((q, oq) :: pn)) (s0 :: su) (ts q cls d)) (r : HdMx X hds l) : HdMx X (.ExceptHandler (some (.Name x p1)) (some n) (s0 :: su) p2 :: hds) ((c, some i, ts) :: l)
def tTryM (K : PySem.W.Frag) (Wout : WX) (l : Clm) (tb : WX → TS) : TS := fun D τ G => tb (wMix K Wout D l) D τ G
section
variable {X : Cx} {body : List Stmt} {hd0 : ExceptHandler} {hds : List ExceptHandler} {l : Clm} {pos : Pos} {tb : WX → TS} {Wout : WX}
theorem ps_tryM (hst : X.stack = X.env :: X.outer) (hfr : X.env.frame = some X.env.locals) (hnd : X.N.Nodup) (out : Takes X Wout)
    (hbd : ∀ (W : WX) (pn : List (Addr × Obj)) (xe : Value → Shared → Prop), Takes (X.tr pn xe) W → PassesOwn (model X.prog X.w) X.A X.env xe → PSs (X.tr pn xe) body (tb W)) (hall : HdMx X (hd0 :: hds) l) :
    PS X (.Try body (hd0 :: hds) [] [] pos) (tTryM X.K Wout l tb) := by
  refine ⟨fun pins s τ G D I h => wpAny_Try_except ?_⟩
  have ok := I.ok
  have frames : X.A.frames = some (X.env :: X.outer) := by rw [ok.frames, hst]
  refine wpAny_mono ((hbd (wMix X.K Wout D l) (X.pn ++ pins) _ (fun u s' got => ?C) PassesOwn.looking).run [] s τ G D (I.toTry _) h) (fun f s1 hsp => ?_) (fun e s1 he => he)
  case C =>
    obtain ⟨q, B, sI, pins', τ', G', cls, d, rfl, J', nb, up, sky, nq, os, bare, w⟩ := got
    have J : Inv X pins τ' G' sI := J'.ofTry ok
    rw [hst] at sky
    refine Sky.land Zc.steady frames hfr sky fun h3 fl up3 => ?_
    have J3 : Inv X pins τ' G' { s' with heap := h3 } := J.landed nb fl.1 (up.trans up3) os bare
    obtain ⟨oq, vq, eq3, zq, dq⟩ := fl.there
    have apart : q ∉ frs (X.env :: X.outer) := fun hm => by
      obtain ⟨_, o', e', hnf⟩ := fl.2.2.1.mem hm
      rw [eq3] at e'; cases e'; exact hnf _ dq
    have nL : q ≠ X.env.locals := fun z => apart (List.mem_filterMap.mpr ⟨X.env, List.mem_cons_self, by rw [hfr, z]⟩)
    have nF : q ∉ X.fs := fun hm => by obtain ⟨e, he, r⟩ := List.mem_filterMap.mp hm; exact apart (List.mem_filterMap.mpr ⟨e, List.mem_cons_of_mem _ he, r⟩)
    have S3 := J3.suite eq3 dq nq nL nF
    have each : ∀ {hs' : List ExceptHandler} {l' : Clm}, HdMx X hs' l' → wMix X.K Wout D l' cls d τ' G' → wpAny (model X.prog X.w) X.A (handleBy (.ref q) X.env hs') (SP X pins D) X.xe { s' with heap := h3 } := by
      intro hs' l' ha
      induction ha with
      | nil =>
        intro w
        obtain ⟨k1, k2, k3, oe, vs, T, oT, tt, e1, e2, e3, e4, e5⟩ := id fl
        refine wpAny_handleBy_nil ?_; unfold PySem.passOn; refine wpAny_bind (wpAny_field e1 e3 e4 ?_)
        rw [if_neg (by simp : ¬ ((Value.ref T == Value.none) = true))]
        have last : wpAny (model X.prog X.w) X.A (setFlight (.ref q) X.env.frame) (fun _ t => wpAny (model X.prog X.w) X.A (throw (.ref q) : Sem Flow) (SP X pins D) X.xe t) X.xe { s' with heap := h3 } := by
          rw [hfr]; refine HandSPX.setFlight_upZ fl fun h4 hh up4 => wpAny_throw (out _ _ ?_)
          exact ⟨q, B, sI, pins, τ', G', cls, d, rfl, J, nb, (up.trans up3).trans up4, .inr (.inr (by rw [hst]; exact hh)), nq, os, bare, w⟩
        first | exact wpAny_bind (wpAny_pure (wpAny_bind last)) | exact wpAny_bind last
      | @only x c ts s0 su p1 p2 hds2 l2 hc run r ih =>
        intro w
        obtain ⟨b, hm, hyes, hno⟩ := w
        refine wpAny_handleBy_cons (codeAny_handlers_test ?_) (fun z => by cases z)
        have ty : PySem.W.Looks (model X.prog X.w) h3 (typeOf (.ref q)) cls := fun A Q E s k z => wpAny_typeOf_ref (k _ _ eq3) (by rw [zq.1]; exact z)
        have LM := PySem.W.exm_one (M := model X.prog X.w) J3.kIn ty hm
        have name : ∀ {Q : Value → Shared → Prop} {E : Value → Shared → Prop}, Q c { s' with heap := h3 } → wpAny (model X.prog X.w) (X.A.mark (some (.ref q))) (eval (.Name x p1) X.env) Q E { s' with heap := h3 } := fun {Q E} z => by
          rcases hc with ⟨g1, g2, g3 | ⟨g3, g4, g5⟩⟩
          · exact ld_glob (X := X.suite q ((q, oq) :: (X.pn ++ pins))) S3 g1 g3 z g2
          · exact ld_blt (X := X.suite q ((q, oq) :: (X.pn ++ pins))) S3 g1 g3 g4 z g5 g2
        refine name (LM.here ?_)
        cases b with
        | false => exact ih (hno rfl)
        | true =>
          refine codeAny_handlers_suite (HandSPX.lands_againZ fl fun h4 fl4 up4 => ?_)
          have J4 : Inv X pins τ' G' { s' with heap := h4 } := J.landed nb fl4.1 ((up.trans up3).trans up4) os bare
          obtain ⟨o4, v4, e4, z4, d4⟩ := fl4.there
          refine wpAny_mono ((run q o4 cls d (X.pn ++ pins) z4 ⟨_, d4⟩).run [] _ _ G' _ (J4.suite e4 d4 nq nL nF) (hyes rfl q nq)) (fun f s6 hsp => ?_) (fun _ _ z => z.elim)
          cases f with
          | ret u => obtain ⟨v6, τ6, G6, S6, r6, z6⟩ := hsp; exact ⟨_, _, _, S6.unsuite ok, r6, z6⟩
          | next => obtain ⟨τ6, G6, S6, z6⟩ := hsp; exact ⟨_, _, S6.unsuite ok, z6⟩
          | brk => obtain ⟨τ6, G6, S6, z6⟩ := hsp; exact ⟨_, _, S6.unsuite ok, z6⟩
          | cont => obtain ⟨τ6, G6, S6, z6⟩ := hsp; exact ⟨_, _, S6.unsuite ok, z6⟩
      | @as_ x c ts s0 su p1 p2 hds2 l2 i n hin hkn hc run r ih =>
        intro w
        obtain ⟨b, hm, hyes, hno⟩ := w
        refine wpAny_handleBy_cons (codeAny_handlers_test ?_) (fun z => by cases z)
        have ty : PySem.W.Looks (model X.prog X.w) h3 (typeOf (.ref q)) cls := fun A Q E s k z => wpAny_typeOf_ref (k _ _ eq3) (by rw [zq.1]; exact z)
        have LM := PySem.W.exm_one (M := model X.prog X.w) J3.kIn ty hm
        have name : ∀ {Q : Value → Shared → Prop} {E : Value → Shared → Prop}, Q c { s' with heap := h3 } → wpAny (model X.prog X.w) (X.A.mark (some (.ref q))) (eval (.Name x p1) X.env) Q E { s' with heap := h3 } := fun {Q E} z => by
          rcases hc with ⟨g1, g2, g3 | ⟨g3, g4, g5⟩⟩
          · exact ld_glob (X := X.suite q ((q, oq) :: (X.pn ++ pins))) S3 g1 g3 z g2
          · exact ld_blt (X := X.suite q ((q, oq) :: (X.pn ++ pins))) S3 g1 g3 g4 z g5 g2
        refine name (LM.here ?_)
        cases b with
        | false => exact ih (hno rfl)
        | true =>
          refine codeAny_handlers_suite_as (HandSPX.lands_againZ fl fun h4 fl4 up4 => ?_)
          have J4 : Inv X pins τ' G' { s' with heap := h4 } := J.landed nb fl4.1 ((up.trans up3).trans up4) os bare
          obtain ⟨o4, v4, e4, z4, d4⟩ := fl4.there
          refine store_ok (X := X.suite q ((q, o4) :: (X.pn ++ pins))) (v := .ref q) (J4.suite e4 d4 nq nL nF) hnd hin (.inl hkn) rfl (fun s5 S5 => ?_) (.inr hkn)
          refine wpAny_mono ((run q o4 cls d (X.pn ++ pins) z4 ⟨_, d4⟩).run [] s5 _ G' _ S5 (hyes rfl q nq)) (fun f s6 hsp => ?_) (fun _ _ z => z.elim)
          have fin : ∀ {τ6 : St} {G6 : Hp} {Q : Shared → Prop}, Inv (X.suite q ((q, o4) :: (X.pn ++ pins))) [] τ6 G6 s6 → (∀ s7, Inv X pins (τ6.set i none) G6 s7 → Q s7) → wpAny (model X.prog X.w) X.A (do bindName X.env n .none; unbindBehindTheSuite X.env n p2) (fun _ s7 => Q s7) X.xe s6 :=
            fun {τ6 G6 Q} S6 z => gone_ok (S6.unsuite ok) hnd hin hkn z
          cases f with
          | ret u => obtain ⟨v6, τ6, G6, S6, r6, z6⟩ := hsp; exact fin S6 fun s7 J7 => ⟨_, _, _, J7, r6, z6⟩
          | next => obtain ⟨τ6, G6, S6, z6⟩ := hsp; exact fin S6 fun s7 J7 => ⟨_, _, J7, z6⟩
          | brk => obtain ⟨τ6, G6, S6, z6⟩ := hsp; exact fin S6 fun s7 J7 => ⟨_, _, J7, z6⟩
          | cont => obtain ⟨τ6, G6, S6, z6⟩ := hsp; exact fin S6 fun s7 J7 => ⟨_, _, J7, z6⟩
    exact each hall w
  cases f with
  | ret u => obtain ⟨v, τ6, G6, J6, r6, z6⟩ := hsp; exact ⟨v, τ6, G6, J6.ofTry ok, r6, z6⟩
  | next => obtain ⟨τ6, G6, J6, z6⟩ := hsp; exact wpAny_execs_nil ⟨τ6, G6, J6.ofTry ok, z6⟩
  | brk => obtain ⟨τ6, G6, J6, z6⟩ := hsp; exact ⟨τ6, G6, J6.ofTry ok, z6⟩
  | cont => obtain ⟨τ6, G6, J6, z6⟩ := hsp; exact ⟨τ6, G6, J6.ofTry ok, z6⟩
end
end L2

set_option Elab.async false
set_option linter.all false
set_option maxRecDepth 100000
set_option maxHeartbeats 4000000
/-! Hw: f(..) of a def that shows values, its reading named (inside a comprehension) -/
namespace Own
open PySem PySem.Spec PyProof.Rows L2
section
variable {X : Cx} {CX : CXT} {k : Nat} {f : Addr} {fd : FuncData} {ps : List Str} {sp : Sp} {E : XK} {x : Str} {p pos : Pos} {e : Expr} {es : List Expr} {t : TA}
def tCallG (sp : Sp) (E : XK) (t : TA) : TE := fun σ H Q => t σ H fun vs H1 => sp vs H1 Q E
theorem pe_callGN (F : FnG X.prog X.w X.K X.mg X.base CX k f fd ps sp) (hg0 : X.A.guards = some []) (hr : Room k X.A) (hg : Gl X x) (hm : X.mg x = some (.ref f)) (hk : PySem.W.keepIn X.K (.ref f) = true) (hb : Binds X.K fd ps []) (hx : Passes CX X E) (ha : PA X (e :: es) t)
    (hdb : (x == ("__debug__" : Str)) = false := by decide) (he : starEach (e :: es) X.env = (false, eval e X.env) :: starEach es X.env := by rfl) (hpl : (backTo pos (starEach es X.env)).any (·.1) = false := by rfl) : PE X (.Call (.Name x p) (e :: es) [] pos) (tCallG sp E t) := pe_callG F hg0 hr hg hm hk hb hx ha hdb he hpl
end
end Own

set_option Elab.async false
set_option linter.all false
set_option maxRecDepth 100000
set_option maxHeartbeats 4000000
/-! set(l), l a list of ints: membership alone -/
namespace Six
open PySem PySem.Spec PyProof.Rows L2
/-- a set of ints by membership -/
def SetI (P : Program) (w : World) (a : Addr) (S : Int → Bool) (n : Nat) : HO := .ext fun h => h.SetOf (intKind P w) a S n
section
variable {X : Cx}
theorem setI_new {w : World} {P : Program} {H : Hp} {h : Heap} {a : Addr} {S : Int → Bool} {n : Nat} (R : h.SetOf (intKind P w) a S n) : ObjOk P w H h a (SetI P w a S n) := by
  have ⟨o, _, _, _, ho, _⟩ := R
  refine ⟨R, ⟨o, ho⟩, fun h1 h2 p k => ?_⟩
  obtain ⟨o', es, ep, t, ho', r⟩ := p
  exact ⟨o', es, ep, t, k o' ho', r⟩
theorem met_mem (ns : List Int) (j : Int) : (firstMet (fun i => ns.getD i 0) ns.length).any (· == j) = decide (j ∈ ns) := by
  rw [firstMet_any]
  have e : (List.range ns.length).map (fun i => ns.getD i 0) = ns := by
    refine List.ext_getElem (by rw [List.length_map, List.length_range]) fun i h1 h2 => ?_
    rw [List.getElem_map, List.getElem_range, List.getD_eq_getElem?_getD, List.getElem?_eq_getElem h2]
    rfl
  rw [e, Bool.eq_iff_iff, List.any_eq_true, decide_eq_true_iff]
  constructor
  · rintro ⟨x, hx, h⟩
    rw [← eq_of_beq h]
    exact hx
  · exact fun h => ⟨j, h, beq_self_eq_true j⟩
def rSetLst (K : PySem.W.Frag) (P : Program) (w : World) : List V → Hp → VK → Prop := fun xs H Q => ∃ (l : Addr) (ns : List Int), xs = [.ref l] ∧ SqL K H l (ns.map V.int) ∧ ns.length ≤ 1000 ∧ ∀ p c, H p = none → Q (.ref p) (upd H p (SetI P w p (fun j => decide (j ∈ ns)) c))
theorem cr_setLst (hc : X.calm = true) : CallR X (.type "set") (rSetLst X.K X.prog X.w) := by
  intro pins s σ H xs us Q I r h
  obtain ⟨l, ns, rfl, hq, hl, q⟩ := h
  obtain ⟨u, rfl, ru⟩ := vals1 r
  cases (show u = Value.ref l from ru)
  obtain ⟨its, rv, pt, hz⟩ := I.list hq
  have hin := ints_of_vals rv
  have hn : its.toArray.size = ns.length := by
    have := rv.length
    rw [List.length_map] at this
    rw [List.size_toArray, this]
  refine call_set_list (ns := ns) (I.ok.hd hc) pt.isList hin (by rw [hn]; unfold scanBound; omega) fun h' tk R1 k => ?_
  rw [hn] at R1
  have R2 := SetOf_congr R1 (fun j => met_mem ns j) rfl
  exact ⟨.ref s.heap.objs.size, upd H s.heap.objs.size (SetI X.prog X.w s.heap.objs.size (fun j => decide (j ∈ ns)) _), I.laid (t' := tk) (fun b o e => k b o (Heap.lt_size e) e) (Nat.le_refl _) (setI_new R2), rfl, q _ _ (I.hok.fresh (Nat.le_refl _))⟩
def rSiIn (P : Program) (w : World) : V → V → Hp → VK → Prop := fun x y H Q => ∃ (k : Int) (a : Addr) (S : Int → Bool) (n : Nat), x = .int k ∧ y = V.ref a ∧ H a = some (SetI P w a S n) ∧ Q (.bl (S k)) H
def rSiNotIn (P : Program) (w : World) : V → V → Hp → VK → Prop := fun x y H Q => ∃ (k : Int) (a : Addr) (S : Int → Bool) (n : Nat), x = .int k ∧ y = V.ref a ∧ H a = some (SetI P w a S n) ∧ Q (.bl (!S k)) H
theorem or_siIn : OpR X (compareOp .In) (rSiIn X.prog X.w) := by
  intro pins s σ H x y v u Q I rx ry h
  obtain ⟨k, a, S, n, rfl, rfl, ha, q⟩ := h
  obtain ⟨tk, rfl⟩ := rx
  cases ry
  exact wpAny_inSet_of (intKind_is _ _ _ _) rfl (I.hok a _ ha).1 ⟨.bl (S k), H, I.tok _, rfl, q⟩
theorem or_siNotIn : OpR X (compareOp .NotIn) (rSiNotIn X.prog X.w) := by
  intro pins s σ H x y v u Q I rx ry h
  obtain ⟨k, a, S, n, rfl, rfl, ha, q⟩ := h
  obtain ⟨tk, rfl⟩ := rx
  cases ry
  exact wpAny_notInSet_of (intKind_is _ _ _ _) rfl (I.hok a _ ha).1 ⟨.bl (!S k), H, I.tok _, rfl, q⟩
end
end Six

set_option Elab.async false
set_option linter.all false
set_option maxRecDepth 100000
set_option maxHeartbeats 4000000
/-! repr of data with empty dicts in it; lists that are known not to be sys.modules -/
namespace Own
open PySem PySem.Spec PyProof.Rows L2
mutual
inductive De (K : PySem.W.Frag) (H : Hp) : V → PyData → Prop
  | non : De K H .non .none
  | bl (b : Bool) : De K H (.bl b) (.bool b)
  | int (i : Int) : De K H (.int i) (.int i)
  | str (x : Str) : De K H (.str x) (.str x)
  | lst {a : Addr} {xs : List V} {ds : List PyData} : a ≠ sysModules → SqL K H a xs → DeAll K H xs ds → De K H (.ref a) (.list ds)
  | tup {a : Addr} {xs : List V} {ds : List PyData} : SqT K H a xs → DeAll K H xs ds → De K H (.ref a) (.tuple ds)
  | dic {a : Addr} : H a = some (.dK []) → De K H (.ref a) (.dict [])
inductive DeAll (K : PySem.W.Frag) (H : Hp) : List V → List PyData → Prop
  | nil : DeAll K H [] []
  | cons {v : V} {vs : List V} {d : PyData} {ds : List PyData} : De K H v d → DeAll K H vs ds → DeAll K H (v :: vs) (d :: ds)
end
section
variable {X : Cx} {pins : List (Addr × Obj)} {σ : L2.St} {H : Hp} {s : Shared}
mutual
theorem De.reads (I : Inv X pins σ H s) : ∀ (d : PyData) (v : V) (u : Value), De X.K H v d → RelV v u → ∃ as, Reads s.heap u d as ∧ sysModules ∉ as
  | .none, _, _, .non, r => by cases r; exact ⟨_, .none, fun h => nomatch h⟩
  | .bool b, _, _, .bl _, r => by cases r; exact ⟨_, .bool b, fun h => nomatch h⟩
  | .int i, _, _, .int _, r => by obtain ⟨t, rfl⟩ := r; exact ⟨_, .int i t, fun h => nomatch h⟩
  | .str x, _, _, .str _, r => by obtain ⟨t, rfl⟩ := r; exact ⟨_, .str x t, fun h => nomatch h⟩
  | .list ds, _, _, .lst ne hs ha, r => by
    cases r
    obtain ⟨its, rv, ⟨o, n, ho, hc, _, hd⟩, _⟩ := I.list hs
    obtain ⟨as, hr, hn⟩ := De.readsAll I ds _ its ha rv
    refine ⟨_, .list ho hc hd hr, fun h => ?_⟩
    rcases List.mem_cons.mp h with e | e
    · exact ne e.symm
    · exact hn e
  | .tuple ds, _, _, .tup hs ha, r => by
    cases r
    obtain ⟨its, rv, ⟨o, ho, hc, n, hd⟩, _⟩ := I.tuple hs
    obtain ⟨as, hr, hn⟩ := De.readsAll I ds _ its ha rv
    exact ⟨_, .tuple ho hc hd hr, hn⟩
  | .dict [], _, _, .dic (a := p) hp, r => by
    cases r
    obtain ⟨_, hne, vs, kv, o, es, ep, ho, hex, hd, _, hps, _⟩ := (show ObjOk X.prog X.w H s.heap p (.dK []) from I.hok p _ hp)
    have e1 := kv_nil kv
    subst e1
    have e2 := pairs_nil hps
    refine ⟨p :: [] ++ [], .dict ho hex.1 hd (by rw [e2]; exact .nil) (by rw [e2]; exact .nil), fun hm => ?_⟩
    have : sysModules = p := by simpa using hm
    rw [this] at hne
    simp at hne
theorem De.readsAll (I : Inv X pins σ H s) : ∀ (ds : List PyData) (vs : List V) (us : List Value), DeAll X.K H vs ds → Vals vs us → ∃ as, ReadsAll s.heap us ds as ∧ sysModules ∉ as
  | [], _, _, .nil, .nil => ⟨_, .nil, fun h => nomatch h⟩
  | d :: ds, _, _, .cons h1 h2, .cons r1 r2 => by
    obtain ⟨as, q1, n1⟩ := De.reads I d _ _ h1 r1
    obtain ⟨bs, q2, n2⟩ := De.readsAll I ds _ _ h2 r2
    refine ⟨_, .cons q1 q2, fun h => ?_⟩
    rcases List.mem_append.mp h with e | e
    · exact n1 e
    · exact n2 e
end
end
/-- data that may be shown, empty dicts in it -/
def ShowsE (d : PyData) : Prop := d.showable = true ∧ d.depth ≤ 60 ∧ d.shown.length ≤ 100000
instance (d : PyData) : Decidable (ShowsE d) := by unfold ShowsE; infer_instance
def rReprE (K : PySem.W.Frag) : List V → Hp → VK → Prop := fun xs H Q => rReprR K xs H Q ∨ ∃ (p : Addr) (d : PyData), xs = [.ref p] ∧ De K H (.ref p) d ∧ ShowsE d ∧ Q (.str d.shown) H
theorem call_reprEU {X : Cx} (hg : X.A.guards = some []) (hun : X.A.units + 200 < cLine) : CallR X (.builtin "repr") (rReprE X.K) := by
  intro pins s σ H xs us Q I rl hh
  rcases hh with hh | ⟨p, d, rfl, hd, ⟨h1, h2, h3⟩, hq⟩
  · exact call_reprRU hg hun pins s σ H xs us Q I rl hh
  · obtain ⟨u, rfl, ru⟩ := vals1 rl
    obtain ⟨as, rd, hn⟩ := De.reads I d _ u hd ru
    cases ru
    exact repr_of_reads' rd h1 (fun _ => hn) hg (by omega) (fun _ _ e => e) (fun h' u tk hk => ⟨.str _, H, I.kept hk, ⟨_, rfl⟩, hq⟩) (Vld.le_line h3)
theorem call_reprE {X : Cx} {k : Nat} (hg : X.A.guards = some []) (hr : Room k X.A) : CallR X (.builtin "repr") (rReprE X.K) := call_reprEU hg (by have := hr.un; omega)
section
variable {X : Cx}
/-- list + list; the new one is none of the model's own -/
def rCatB : R2 := fun x y H Q => ∃ l b xs zs, x = .ref l ∧ y = .ref b ∧ H l = some (.lst xs) ∧ H b = some (.lst zs) ∧ xs.length + zs.length ≤ sizeLine ∧ ∀ p, H p = none → p ≠ sysModules → Q (.ref p) (upd H p (.lst (xs ++ zs)))
theorem op_catB : OpR X (binaryOp .Add) rCatB := by
  intro pins s σ H x y v u Q I rx ry h
  obtain ⟨l, b, xs, zs, rfl, rfl, hl, hb, hz, q⟩ := h
  have big : s.heap.objs.size ≠ sysModules := Nat.ne_of_gt I.big
  cases rx
  cases ry
  obtain ⟨z1, i1, n1, r1, l1, e1⟩ := I.lstM hl
  obtain ⟨z2, i2, n2, r2, l2, e2⟩ := I.lstM hb
  refine PySem.P.add_list e1 e2 ?_ (by rw [List.size_toArray, List.size_toArray]; omega)
  rw [show i1.toArray ++ i2.toArray = (i1 ++ i2).toArray by simp]
  exact ⟨.ref _, _, I.lnew (t' := s.toks) (r1.append r2) (by rw [List.length_append]; omega), rfl, q _ I.fresh big⟩
/-- [..], none of the model's own -/
def tLstB (t : TA) : TE := fun σ H Q => t σ H fun xs H1 => xs.length ≤ sizeLine ∧ ∀ p, H1 p = none → p ≠ sysModules → Q (.ref p) (upd H1 p (.lst xs))
theorem pe_lstB {es : List Expr} {pos : Pos} {t : TA} (h : PA X es t) : PE X (.List es pos) (tLstB t) := by
  refine ⟨fun pins s σ H Q I hq => ?_⟩
  refine wpAny_List_spliced (thn (h.run pos pins s σ H _ I hq) fun us s1 ⟨xs, H1, I1, r, z, q⟩ => ⟨by rw [← r.length]; exact z, ?_⟩)
  exact ⟨.ref s1.heap.objs.size, upd H1 s1.heap.objs.size (.lst xs), I1.laid (t' := s1.toks) (fun b u e => Heap.get?_push_of_some _ e) (Nat.le_refl _) ⟨z, us, 0, r, Heap.get?_push_size _ rfl⟩, rfl, q _ (I1.hok.fresh (Nat.le_refl _)) (Nat.ne_of_gt I1.big)⟩
end
end Own

set_option Elab.async false
set_option linter.all false
set_option maxRecDepth 100000
set_option maxHeartbeats 4000000
/-! data that is kept where only some places change; its text's size -/
namespace Own
open PySem PySem.Spec PyProof.Rows L2 Gn
/-- kept but for the places in S -/
def Kept (S : Addr → Prop) (H H' : Hp) : Prop := ∀ b o, ¬ S b → H b = some o → H' b = some o
theorem Kept.refl {S : Addr → Prop} {H : Hp} : Kept S H H := fun _ _ _ e => e
theorem Kept.trans {S : Addr → Prop} {H H1 H2 : Hp} (x : Kept S H H1) (y : Kept S H1 H2) : Kept S H H2 := fun b o n e => y b o n (x b o n e)
theorem Kept.same {S : Addr → Prop} {H H' : Hp} (x : Same H H') : Kept S H H' := fun b o _ e => x b o e
theorem Kept.but {S : Addr → Prop} {p : Addr} {H H' : Hp} (hp : S p) (x : But p H H') : Kept S H H' := fun b o n e => x b o (fun h => n (h ▸ hp)) e
theorem Kept.new {S : Addr → Prop} {q : Addr} {H H1 : Hp} {o : HO} (x : Kept S H H1) (h : H q = none) : Kept S H (upd H1 q o) := fun b u n e => by
  rw [upd_ne (ne_of_none e h)]
  exact x b u n e
theorem Kept.put {S : Addr → Prop} {q : Addr} {H H1 : Hp} {o : HO} (x : Kept S H H1) (h : S q) : Kept S H (upd H1 q o) := fun b u n e => by
  rw [upd_ne (fun e' : b = q => n (e' ▸ h))]
  exact x b u n e
theorem Kept.up {S S' : Addr → Prop} {H H' : Hp} (x : Kept S H H') (h : ∀ b, S b → S' b) : Kept S' H H' := fun b o n e => x b o (fun hs => n (h b hs)) e
/-- bounds of a shown value -/
def Bd (k n : Nat) (d : PyData) : Prop := d.showable = true ∧ d.depth ≤ k ∧ d.shown.length ≤ n
instance (k n : Nat) (d : PyData) : Decidable (Bd k n d) := by unfold Bd; infer_instance
theorem Bd.up {k n k' n' : Nat} {d : PyData} (h : Bd k n d) (a : k ≤ k') (b : n ≤ n') : Bd k' n' d := ⟨h.1, Nat.le_trans h.2.1 a, Nat.le_trans h.2.2 b⟩
theorem bd_all {k n : Nat} : ∀ {ds : List PyData}, (∀ d ∈ ds, Bd k n d) → PyData.showableAll ds = true ∧ PyData.depthAll ds ≤ k ∧ ((PyData.shownAll ds).map (·.length)).sum ≤ ds.length * n ∧ (PyData.shownAll ds).length = ds.length
  | [], _ => ⟨rfl, Nat.zero_le _, by simp [PyData.shownAll], rfl⟩
  | d :: ds, h => by
    obtain ⟨h1, h2, h3⟩ := h d (List.mem_cons_self ..)
    obtain ⟨g1, g2, g3, g4⟩ := bd_all (ds := ds) fun x hx => h x (List.mem_cons_of_mem _ hx)
    refine ⟨by simp [PyData.showableAll, h1, g1], Nat.max_le.mpr ⟨h2, g2⟩, ?_, by simp [PyData.shownAll, g4]⟩
    simp only [PyData.shownAll, List.map_cons, List.sum_cons, List.length_cons]
    rw [Nat.add_mul, Nat.one_mul]
    omega
theorem bd_list {k n m : Nat} {ds : List PyData} (h : ∀ d ∈ ds, Bd k n d) (l : ds.length ≤ m) : Bd (k + 1) (3 + m * (n + 2)) (.list ds) := by
  obtain ⟨g1, g2, g3, g4⟩ := bd_all h
  refine ⟨g1, Nat.succ_le_succ g2, ?_⟩
  show (listText (PyData.shownAll ds)).length ≤ _
  have := listText_len_le (PyData.shownAll ds)
  have e : ds.length * (n + 2) ≤ m * (n + 2) := Nat.mul_le_mul_right _ l
  rw [Nat.mul_add] at e
  omega
theorem bd_tup {k n m : Nat} {ds : List PyData} (h : ∀ d ∈ ds, Bd k n d) (l : ds.length ≤ m) : Bd (k + 1) (3 + m * (n + 2)) (.tuple ds) := by
  obtain ⟨g1, g2, g3, g4⟩ := bd_all h
  refine ⟨g1, Nat.succ_le_succ g2, ?_⟩
  show (tupleText (PyData.shownAll ds)).length ≤ _
  have := tupleText_len_le (PyData.shownAll ds)
  have e : ds.length * (n + 2) ≤ m * (n + 2) := Nat.mul_le_mul_right _ l
  rw [Nat.mul_add] at e
  omega
/-- data that stays while only places in S change -/
def DeOk (K : PySem.W.Frag) (S : Addr → Prop) (H : Hp) (k n : Nat) (x : V) : Prop := ∃ d, Bd k n d ∧ ∀ H', Kept S H H' → De K H' x d
def DpOk (K : PySem.W.Frag) (S : Addr → Prop) (H : Hp) (k n : Nat) (x : V) : Prop := ∃ d, Bd k n d ∧ d.hasDict = false ∧ ∀ H', Kept S H H' → Dp K H' x d
section
variable {K : PySem.W.Frag} {S : Addr → Prop} {H : Hp} {k n m : Nat}
theorem DeOk.kept {x : V} {H1 : Hp} (h : DeOk K S H k n x) (s : Kept S H H1) : DeOk K S H1 k n x := let ⟨d, b, g⟩ := h; ⟨d, b, fun H' s' => g H' (s.trans s')⟩
theorem DpOk.kept {x : V} {H1 : Hp} (h : DpOk K S H k n x) (s : Kept S H H1) : DpOk K S H1 k n x := let ⟨d, b, c, g⟩ := h; ⟨d, b, c, fun H' s' => g H' (s.trans s')⟩
theorem DeOk.up {x : V} {k' n' : Nat} (h : DeOk K S H k n x) (a : k ≤ k') (b : n ≤ n') : DeOk K S H k' n' x := let ⟨d, c, g⟩ := h; ⟨d, c.up a b, g⟩
theorem DpOk.up {x : V} {k' n' : Nat} (h : DpOk K S H k n x) (a : k ≤ k') (b : n ≤ n') : DpOk K S H k' n' x := let ⟨d, c, e, g⟩ := h; ⟨d, c.up a b, e, g⟩
theorem deAll : ∀ {xs : List V}, (∀ x ∈ xs, DeOk K S H k n x) → ∃ ds, ds.length = xs.length ∧ (∀ d ∈ ds, Bd k n d) ∧ ∀ H', Kept S H H' → DeAll K H' xs ds
  | [], _ => ⟨[], rfl, (fun d h => nomatch h), fun _ _ => .nil⟩
  | x :: xs, h => by
    obtain ⟨d, b, g⟩ := h x (List.mem_cons_self ..)
    obtain ⟨ds, l, bs, gs⟩ := deAll (xs := xs) fun y hy => h y (List.mem_cons_of_mem _ hy)
    refine ⟨d :: ds, congrArg (· + 1) l, fun y hy => ?_, fun H' s => .cons (g H' s) (gs H' s)⟩
    rcases List.mem_cons.mp hy with rfl | hy
    · exact b
    · exact bs y hy
theorem dpAll : ∀ {xs : List V}, (∀ x ∈ xs, DpOk K S H k n x) → ∃ ds, ds.length = xs.length ∧ (∀ d ∈ ds, Bd k n d) ∧ PyData.hasDictAll ds = false ∧ ∀ H', Kept S H H' → DpAll K H' xs ds
  | [], _ => ⟨[], rfl, (fun d h => nomatch h), rfl, fun _ _ => .nil⟩
  | x :: xs, h => by
    obtain ⟨d, b, c, g⟩ := h x (List.mem_cons_self ..)
    obtain ⟨ds, l, bs, cs, gs⟩ := dpAll (xs := xs) fun y hy => h y (List.mem_cons_of_mem _ hy)
    refine ⟨d :: ds, congrArg (· + 1) l, fun y hy => ?_, by simp [PyData.hasDictAll, c, cs], fun H' s => .cons (g H' s) (gs H' s)⟩
    rcases List.mem_cons.mp hy with rfl | hy
    · exact b
    · exact bs y hy
theorem deok_lst {q : Addr} {xs : List V} (h : H q = some (.lst xs)) (nS : ¬ S q) (ne : q ≠ sysModules) (hx : ∀ x ∈ xs, DeOk K S H k n x) (l : xs.length ≤ m) : DeOk K S H (k + 1) (3 + m * (n + 2)) (.ref q) := by
  obtain ⟨ds, e, b, g⟩ := deAll hx
  exact ⟨.list ds, bd_list b (by omega), fun H' s => .lst ne (SqL.of (s _ _ nS h)) (g H' s)⟩
theorem deok_tup {q : Addr} {xs : List V} (h : H q = some (.tup xs)) (nS : ¬ S q) (hx : ∀ x ∈ xs, DeOk K S H k n x) (l : xs.length ≤ m) : DeOk K S H (k + 1) (3 + m * (n + 2)) (.ref q) := by
  obtain ⟨ds, e, b, g⟩ := deAll hx
  exact ⟨.tuple ds, bd_tup b (by omega), fun H' s => .tup (SqT.of (s _ _ nS h)) (g H' s)⟩
theorem dpok_lst {q : Addr} {xs : List V} (h : H q = some (.lst xs)) (nS : ¬ S q) (hx : ∀ x ∈ xs, DpOk K S H k n x) (l : xs.length ≤ m) : DpOk K S H (k + 1) (3 + m * (n + 2)) (.ref q) := by
  obtain ⟨ds, e, b, c, g⟩ := dpAll hx
  exact ⟨.list ds, bd_list b (by omega), c, fun H' s => .lst (SqL.of (s _ _ nS h)) (g H' s)⟩
theorem dpok_tup {q : Addr} {xs : List V} (h : H q = some (.tup xs)) (nS : ¬ S q) (hx : ∀ x ∈ xs, DpOk K S H k n x) (l : xs.length ≤ m) : DpOk K S H (k + 1) (3 + m * (n + 2)) (.ref q) := by
  obtain ⟨ds, e, b, c, g⟩ := dpAll hx
  exact ⟨.tuple ds, bd_tup b (by omega), c, fun H' s => .tup (SqT.of (s _ _ nS h)) (g H' s)⟩
theorem deok_int {i : Int} (h : Bd k n (.int i)) : DeOk K S H k n (.int i) := ⟨_, h, fun _ _ => .int i⟩
theorem dpok_int {i : Int} (h : Bd k n (.int i)) : DpOk K S H k n (.int i) := ⟨_, h, rfl, fun _ _ => .int i⟩
/-- a value whose text can be made -/
def RpOk (K : PySem.W.Frag) (S : Addr → Prop) (H : Hp) (x : V) : Prop := ((∃ p, x = .ref p) ∧ DeOk K S H 60 100000 x) ∨ DpOk K S H 60 100000 x
theorem RpOk.kept {x : V} {H1 : Hp} (h : RpOk K S H x) (s : Kept S H H1) : RpOk K S H1 x := h.elim (fun h => .inl ⟨h.1, h.2.kept s⟩) fun h => .inr (h.kept s)
theorem RpOk.rep {x : V} (h : RpOk K S H x) : ∃ z, ∀ H', Kept S H H' → ∀ Q : VK, Q (.str z) H' → rReprE K [x] H' Q := by
  rcases h with ⟨⟨p, rfl⟩, d, b, g⟩ | ⟨d, b, c, g⟩
  · exact ⟨d.shown, fun H' s Q q => .inr ⟨p, d, rfl, g H' s, ⟨b.1, b.2.1, b.2.2⟩, q⟩⟩
  · exact ⟨d.shown, fun H' s Q q => .inl (.inl ⟨x, d, rfl, g H' s, b.1, c, b.2.1, Vld.le_line b.2.2, q⟩)⟩
end
end Own

set_option Elab.async false
set_option linter.all false
set_option maxRecDepth 100000
set_option maxHeartbeats 4000000
/-! exchanges: the mathematics (put counts, least and early ones, numbers of takes) -/
namespace Gn
open PySem PySem.Spec PyProof.Rows L2 Own Exn Mth Vld
theorem emb_shift : ∀ (w R : List Nat) (o n : Nat), emb R w (o + n) = (emb R w o).map (· + n)
  | _, [], o, n => by rw [emb_nil, emb_nil]; rfl
  | [], c :: R, o, n => by rw [emb_none', emb_none']; rfl
  | x :: w, c :: R, o, n => by
    by_cases h : x = c
    · subst h
      rw [emb_yes, emb_yes, List.map_cons, show o + n + 1 = o + 1 + n by omega, emb_shift w R (o + 1) n]
    · rw [emb_no h, emb_no h, show o + n + 1 = o + 1 + n by omega, emb_shift w (c :: R) (o + 1) n]
theorem bst_emb : ∀ (p z : List Nat), bst p z ≠ none ↔ (emb (tkS p) (z ++ puS p) 0).length = (tkS p).length ∧ ∀ i e : Nat, (emb (tkS p) (z ++ puS p) 0)[i]? = some e → ∃ c, (pcS 0 p)[i]? = some c ∧ e < z.length + c
  | [], z => by
    refine ⟨fun _ => ⟨by show (emb [] _ 0).length = 0; rw [emb_nil]; rfl, fun i e h => ?_⟩, fun _ h => by cases h⟩
    have h : (emb [] (z ++ puS []) 0)[i]? = some e := h
    rw [emb_nil] at h
    simp at h
  | x :: p, z => by
    by_cases hx : 97 ≤ x
    · rw [bst_put hx, bst_emb p (z ++ [x]), tkS_put hx, puS_put hx, pcS_put hx, List.append_assoc]
      refine and_congr Iff.rfl (forall_congr' fun i => forall_congr' fun e => imp_congr Iff.rfl ?_)
      rw [List.getElem?_map]
      constructor
      · rintro ⟨c, h1, h2⟩
        rw [List.length_append] at h2
        exact ⟨c + 1, by rw [h1]; rfl, by have : [x].length = 1 := rfl; omega⟩
      · rintro ⟨c, h1, h2⟩
        cases h : (pcS 0 p)[i]? with
        | none => rw [h] at h1; cases h1
        | some c' =>
          rw [h] at h1
          have h1 : some (c' + 1) = some c := h1
          injection h1 with h1
          exact ⟨c', rfl, by rw [List.length_append]; have : [x].length = 1 := rfl; omega⟩
    · rw [tkS_take hx, puS_take hx, pcS_take hx]
      cases e : fst? (x + 32) z with
      | none =>
        rw [bst_fail hx e]
        refine ⟨fun h => absurd rfl h, fun ⟨h1, h2⟩ => ?_⟩
        exfalso
        have sk := emb_skip (x + 32) (tkS p) (z ++ puS p) z.length 0 (fun v _ hv => ?_) (by rw [List.length_append]; omega)
        · rw [List.drop_zero, Nat.zero_add] at sk
          cases h : emb ((x + 32) :: tkS p) (z ++ puS p) 0 with
          | nil => rw [h] at h1; cases h1
          | cons e0 es =>
            obtain ⟨c, hc, hlt⟩ := h2 0 e0 (by rw [h]; rfl)
            cases hc
            have := emb_ge ((z ++ puS p).drop z.length) ((x + 32) :: tkS p) z.length e0 (by rw [← sk, h]; exact List.mem_cons_self ..)
            omega
        · rw [List.getElem?_append_left (by omega)]
          intro hh
          exact fst_mem.mp e (List.mem_of_getElem? hh)
      | some k =>
        obtain ⟨k1, k2, k3⟩ := fst_lt e
        rw [bst_take hx e, bst_emb p (z.drop (k + 1))]
        have st := emb_step (p := tkS p) (w := z ++ puS p) (o := 0) (k := k) (c := x + 32) (by rw [List.getElem?_append_left k1]; exact k2) (Nat.zero_le _) (fun v _ hv => by rw [List.getElem?_append_left (by omega)]; exact k3 v hv)
        rw [List.drop_zero] at st
        rw [st, List.drop_append_of_le_length (by omega), show k + 1 = 0 + (k + 1) by omega, emb_shift _ _ 0 (k + 1), Nat.zero_add]
        rw [List.length_cons, List.length_cons, List.length_map]
        refine and_congr ⟨fun h => by rw [h], fun h => by omega⟩ ?_
        constructor
        · intro h i e0 he
          cases i with
          | zero =>
            have he : some k = some e0 := he
            injection he with he
            exact ⟨0, rfl, by omega⟩
          | succ i =>
            have he : ((emb (tkS p) (z.drop (k + 1) ++ puS p) 0).map (· + (k + 1)))[i]? = some e0 := he
            rw [List.getElem?_map] at he
            cases h' : (emb (tkS p) (z.drop (k + 1) ++ puS p) 0)[i]? with
            | none => rw [h'] at he; cases he
            | some e1 =>
              rw [h'] at he
              have he : some (e1 + (k + 1)) = some e0 := he
              injection he with he
              obtain ⟨c, hc, hlt⟩ := h i e1 h'
              rw [List.length_drop] at hlt
              exact ⟨c, hc, by omega⟩
        · intro h i e1 he
          obtain ⟨c, hc, hlt⟩ := h (i + 1) (e1 + (k + 1)) (by show ((emb (tkS p) (z.drop (k + 1) ++ puS p) 0).map (· + (k + 1)))[i]? = _; rw [List.getElem?_map, he]; rfl)
          exact ⟨c, hc, by rw [List.length_drop]; omega⟩
theorem emb_pre (W : List Nat) : ∀ (m : Nat) (R : List Nat) (o : Nat), m ≤ R.length → emb R (R.take m ++ W) o = List.range' o m ++ emb (R.drop m) W (o + m)
  | 0, R, o, _ => by rfl
  | m + 1, [], o, h => absurd h (by simp)
  | m + 1, c :: R, o, h => by
    rw [List.take_succ_cons, List.cons_append, emb_yes, emb_pre W m R (o + 1) (by simpa using h), List.drop_succ_cons, List.range'_succ, List.cons_append, show o + 1 + m = o + (m + 1) by omega]
/-- the takes behind the first m are served by puts that come before them -/
def Fit (R W C : List Nat) (m : Nat) : Prop := (emb (R.drop m) W 0).length = (R.drop m).length ∧ ∀ i e : Nat, (emb (R.drop m) W 0)[i]? = some e → ∃ c, C[m + i]? = some c ∧ e + 1 ≤ c
theorem core_fit (p : List Nat) {m : Nat} (hm : m ≤ (tkS p).length) : coreN p ≤ m ↔ Fit (tkS p) (puS p) (pcS 0 p) m := by
  rw [← bst_prefix p hm, bst_emb, emb_pre _ _ _ _ hm, Nat.zero_add]
  have sh := emb_shift (puS p) ((tkS p).drop m) 0 m
  rw [Nat.zero_add] at sh
  rw [sh]
  have lm : ((tkS p).take m).length = m := by rw [List.length_take]; omega
  rw [lm]
  unfold Fit
  rw [List.length_append, List.length_range', List.length_map, List.length_drop]
  refine and_congr ⟨fun h => by omega, fun h => by omega⟩ ?_
  constructor
  · intro h i e he
    obtain ⟨c, hc, hlt⟩ := h (m + i) (e + m) (by rw [List.getElem?_append_right (by rw [List.length_range']; omega), List.length_range', Nat.add_sub_cancel_left, List.getElem?_map, he]; rfl)
    exact ⟨c, hc, by omega⟩
  · intro h i e he
    by_cases hi : i < m
    · rw [List.getElem?_append_left (by rw [List.length_range']; exact hi), List.getElem?_range' hi] at he
      injection he with he
      have hl : i < (pcS 0 p).length := by rw [pcS_len]; omega
      exact ⟨(pcS 0 p)[i], List.getElem?_eq_getElem hl, by omega⟩
    · rw [List.getElem?_append_right (by rw [List.length_range']; omega), List.length_range', List.getElem?_map] at he
      cases h' : (emb ((tkS p).drop m) (puS p) 0)[i - m]? with
      | none => rw [h'] at he; cases he
      | some e1 =>
        rw [h'] at he
        have he : some (e1 + m) = some e := he
        injection he with he
        obtain ⟨c, hc, hlt⟩ := h (i - m) e1 h'
        rw [show m + (i - m) = i by omega] at hc
        exact ⟨c, hc, by omega⟩
def leastL (R W : List Nat) (k : Nat) : List Nat := List.replicate k 0 ++ (emb (R.drop k) W 0).map (· + 1)
def earlyL (R W : List Nat) (k : Nat) : List Int := match k with
  | 0 => List.replicate R.length ((W.length : Nat) : Int)
  | k + 1 => if (emb (R.drop k) W 0).length = (R.drop k).length then List.replicate k (-1) ++ (emb (R.drop k) W 0).map (fun j => ((j : Nat) : Int)) else List.replicate R.length ((W.length : Nat) : Int)
def earlyN : List Nat → List Int → Nat
  | c :: C, e :: E => (if ((c : Nat) : Int) ≤ e then 1 else 0) + earlyN C E
  | _, _ => 0
theorem earlyN_app : ∀ (A : List Nat) (B : List Int) (C : List Nat) (E : List Int), A.length = B.length → earlyN (A ++ C) (B ++ E) = earlyN A B + earlyN C E
  | [], [], C, E, _ => by simp [earlyN]
  | a :: A, b :: B, C, E, h => by
    show (if ((a : Nat) : Int) ≤ b then 1 else 0) + earlyN (A ++ C) (B ++ E) = (if ((a : Nat) : Int) ≤ b then 1 else 0) + earlyN A B + earlyN C E
    rw [earlyN_app A B C E (by simpa using h)]
    omega
  | [], _ :: _, C, E, h => by simp at h
  | _ :: _, [], C, E, h => by simp at h
theorem earlyN_pos : ∀ (C : List Nat) (E : List Int), 0 < earlyN C E ↔ ∃ (i c : Nat) (e : Int), C[i]? = some c ∧ E[i]? = some e ∧ ((c : Nat) : Int) ≤ e
  | [], E => by simp [earlyN]
  | c :: C, [] => by simp [earlyN]
  | c :: C, e :: E => by
    show 0 < (if ((c : Nat) : Int) ≤ e then 1 else 0) + earlyN C E ↔ _
    constructor
    · intro h
      by_cases hc : ((c : Nat) : Int) ≤ e
      · exact ⟨0, c, e, rfl, rfl, hc⟩
      · rw [if_neg hc, Nat.zero_add, earlyN_pos C E] at h
        obtain ⟨i, c', e', h1, h2, h3⟩ := h
        exact ⟨i + 1, c', e', h1, h2, h3⟩
    · rintro ⟨i, c', e', h1, h2, h3⟩
      cases i with
      | zero =>
        have h1 : some c = some c' := h1
        have h2 : some e = some e' := h2
        injection h1 with h1
        injection h2 with h2
        subst h1 h2
        rw [if_pos h3]
        omega
      | succ i =>
        have := (earlyN_pos C E).mpr ⟨i, c', e', h1, h2, h3⟩
        omega
theorem earlyL_len (R W : List Nat) {k : Nat} (hk : k ≤ R.length) : (earlyL R W k).length = R.length := by
  unfold earlyL
  split
  · exact List.length_replicate
  · rename_i k'
    split
    · rename_i h
      rw [List.length_append, List.length_replicate, List.length_map, h, List.length_drop]
      omega
    · exact List.length_replicate
theorem leastL_len (p : List Nat) : (leastL (tkS p) (puS p) (coreN p)).length = (tkS p).length := by
  unfold leastL
  rw [List.length_append, List.length_replicate, List.length_map, core_fits, List.length_drop]
  have := (pend_core p).2
  omega
theorem pcS_le : ∀ (p : List Nat) (n : Nat), ∀ c ∈ pcS n p, c ≤ n + (puS p).length
  | [], n, c, h => by cases h
  | x :: p, n, c, h => by
    rw [pcS_cons] at h
    by_cases hx : 97 ≤ x
    · rw [if_pos hx] at h
      have := pcS_le p (n + 1) c h
      rw [puS_put hx, List.length_cons]
      omega
    · rw [if_neg hx] at h
      rw [puS_take hx]
      rcases List.mem_cons.mp h with h | h
      · omega
      · exact pcS_le p n c h
/-- when two programs of the same takes and puts have the same core -/
theorem same_core {p p' : List Nat} (hR : tkS p' = tkS p) (hW : puS p' = puS p) (hne : tkS p ≠ []) : coreN p' = coreN p ↔
    (∀ (i l : Nat), (leastL (tkS p) (puS p) (coreN p))[i]? = some l → ∃ c, (pcS 0 p')[i]? = some c ∧ l ≤ c) ∧ 0 < earlyN (pcS 0 p') (earlyL (tkS p) (puS p) (coreN p)) := by
  have hk := (pend_core p).2
  have hC : (pcS 0 p').length = (tkS p).length := by rw [pcS_len, hR]
  have fk : coreN p' ≤ coreN p ↔ Fit (tkS p) (puS p) (pcS 0 p') (coreN p) := by
    have := core_fit p' (m := coreN p) (by rw [hR]; exact hk)
    rwa [hR, hW] at this
  have cf := core_fits p
  have eL : Fit (tkS p) (puS p) (pcS 0 p') (coreN p) ↔ ∀ (i l : Nat), (leastL (tkS p) (puS p) (coreN p))[i]? = some l → ∃ c, (pcS 0 p')[i]? = some c ∧ l ≤ c := by
    unfold Fit leastL
    constructor
    · rintro ⟨_, h⟩ i l hl
      by_cases hi : i < coreN p
      · rw [List.getElem?_append_left (by rw [List.length_replicate]; exact hi), List.getElem?_replicate, if_pos hi] at hl
        injection hl with hl
        exact ⟨(pcS 0 p')[i]'(by omega), List.getElem?_eq_getElem (by omega), by omega⟩
      · rw [List.getElem?_append_right (by rw [List.length_replicate]; omega), List.length_replicate, List.getElem?_map] at hl
        cases h' : (emb ((tkS p).drop (coreN p)) (puS p) 0)[i - coreN p]? with
        | none => rw [h'] at hl; cases hl
        | some e =>
          rw [h'] at hl
          have hl : some (e + 1) = some l := hl
          injection hl with hl
          obtain ⟨c, hc, hle⟩ := h _ _ h'
          rw [show coreN p + (i - coreN p) = i by omega] at hc
          exact ⟨c, hc, by omega⟩
    · intro h
      refine ⟨cf, fun i e he => ?_⟩
      obtain ⟨c, hc, hle⟩ := h (coreN p + i) (e + 1) (by rw [List.getElem?_append_right (by rw [List.length_replicate]; omega), List.length_replicate, Nat.add_sub_cancel_left, List.getElem?_map, he]; rfl)
      exact ⟨c, hc, hle⟩
  have r1 : 0 < (tkS p).length := List.length_pos_iff.mpr hne
  have c0 : ∃ c, (pcS 0 p')[0]? = some c ∧ c ≤ (puS p).length := by
    have h0 : 0 < (pcS 0 p').length := by omega
    refine ⟨(pcS 0 p')[0], List.getElem?_eq_getElem h0, ?_⟩
    have := pcS_le p' 0 _ (List.getElem_mem h0)
    rw [hW] at this
    omega
  have all : 0 < earlyN (pcS 0 p') (List.replicate (tkS p).length (((puS p).length : Nat) : Int)) := by
    obtain ⟨c, hc, hle⟩ := c0
    refine (earlyN_pos _ _).mpr ⟨0, c, _, hc, by rw [List.getElem?_replicate, if_pos r1], by omega⟩
  rw [← eL, ← fk]
  cases hk0 : coreN p with
  | zero =>
    refine ⟨fun h => ⟨by omega, all⟩, fun h => by omega⟩
  | succ k =>
    rw [hk0] at hk
    have f1 : coreN p' ≤ k ↔ Fit (tkS p) (puS p) (pcS 0 p') k := by
      have := core_fit p' (m := k) (by rw [hR]; omega)
      rwa [hR, hW] at this
    have neg : ¬ Fit (tkS p) (puS p) (pcS 0 p') k ↔ 0 < earlyN (pcS 0 p') (earlyL (tkS p) (puS p) (k + 1)) := by
      unfold earlyL Fit
      dsimp only
      by_cases hc : (emb ((tkS p).drop k) (puS p) 0).length = ((tkS p).drop k).length
      · rw [if_pos hc, earlyN_pos]
        constructor
        · intro h
          have h : ¬ ∀ (i e : Nat), (emb ((tkS p).drop k) (puS p) 0)[i]? = some e → ∃ c, (pcS 0 p')[k + i]? = some c ∧ e + 1 ≤ c := fun g => h ⟨hc, g⟩
          obtain ⟨i, h⟩ := Classical.not_forall.mp h
          obtain ⟨e, h⟩ := Classical.not_forall.mp h
          obtain ⟨he, h⟩ := Classical.not_imp.mp h
          have hi := (List.getElem?_eq_some_iff.mp he).1
          rw [hc, List.length_drop] at hi
          have hc' : (pcS 0 p')[k + i]? = some ((pcS 0 p')[k + i]'(by omega)) := List.getElem?_eq_getElem (by omega)
          refine ⟨k + i, _, ((e : Nat) : Int), hc', ?_, ?_⟩
          · rw [List.getElem?_append_right (by rw [List.length_replicate]; omega), List.length_replicate, Nat.add_sub_cancel_left, List.getElem?_map, he]
            rfl
          · have : ¬ (e + 1 ≤ (pcS 0 p')[k + i]'(by omega)) := fun g => h ⟨_, hc', g⟩
            omega
        · rintro ⟨i, c, e, h1, h2, h3⟩ ⟨_, g⟩
          by_cases hi : i < k
          · rw [List.getElem?_append_left (by rw [List.length_replicate]; exact hi), List.getElem?_replicate, if_pos hi] at h2
            injection h2 with h2
            omega
          · rw [List.getElem?_append_right (by rw [List.length_replicate]; omega), List.length_replicate, List.getElem?_map] at h2
            cases h' : (emb ((tkS p).drop k) (puS p) 0)[i - k]? with
            | none => rw [h'] at h2; cases h2
            | some e1 =>
              rw [h'] at h2
              have h2 : some ((e1 : Nat) : Int) = some e := h2
              injection h2 with h2
              obtain ⟨c', hc', hle⟩ := g _ _ h'
              rw [show k + (i - k) = i by omega, h1] at hc'
              injection hc' with hc'
              omega
      · rw [if_neg hc]
        exact ⟨fun _ => all, fun _ h => hc h.1⟩
    rw [← neg, ← f1]
    omega
/-- the number of the take at each index -/
def nums : Nat → List Nat → List (Option Nat)
  | _, [] => []
  | n, c :: p => if 97 ≤ c then none :: nums n p else some n :: nums (n + 1) p
theorem nums_put {c : Nat} (h : 97 ≤ c) (n : Nat) (p : List Nat) : nums n (c :: p) = none :: nums n p := by
  show (if 97 ≤ c then _ else _) = _
  rw [if_pos h]
theorem nums_take {c : Nat} (h : ¬ 97 ≤ c) (n : Nat) (p : List Nat) : nums n (c :: p) = some n :: nums (n + 1) p := by
  show (if 97 ≤ c then _ else _) = _
  rw [if_neg h]
theorem nums_len : ∀ (p : List Nat) (n : Nat), (nums n p).length = p.length
  | [], n => rfl
  | c :: p, n => by
    by_cases h : 97 ≤ c
    · rw [nums_put h, List.length_cons, List.length_cons, nums_len p]
    · rw [nums_take h, List.length_cons, List.length_cons, nums_len p]
theorem nums_app : ∀ (a b : List Nat) (n : Nat), nums n (a ++ b) = nums n a ++ nums (n + (tkS a).length) b
  | [], b, n => rfl
  | c :: a, b, n => by
    by_cases h : 97 ≤ c
    · rw [List.cons_append, nums_put h, nums_put h, nums_app a b n, tkS_put h]
      rfl
    · rw [List.cons_append, nums_take h, nums_take h, nums_app a b (n + 1), tkS_take h, List.length_cons, show n + 1 + (tkS a).length = n + ((tkS a).length + 1) by omega]
      rfl
theorem pcS_app : ∀ (a b : List Nat) (n : Nat), pcS n (a ++ b) = pcS n a ++ pcS (n + (puS a).length) b
  | [], b, n => rfl
  | c :: a, b, n => by
    by_cases h : 97 ≤ c
    · rw [List.cons_append, pcS_cons, if_pos h, pcS_cons, if_pos h, pcS_app a b (n + 1), puS_put h, List.length_cons, show n + 1 + (puS a).length = n + ((puS a).length + 1) by omega]
    · rw [List.cons_append, pcS_cons, if_neg h, pcS_cons, if_neg h, pcS_app a b n, puS_take h]
      rfl
theorem nums_in : ∀ (p : List Nat) (n j m : Nat), (nums n p)[j]? = some (some m) → n ≤ m ∧ m < n + (tkS p).length
  | [], n, j, m, h => by simp [nums] at h
  | c :: p, n, j, m, h => by
    by_cases hc : 97 ≤ c
    · rw [nums_put hc] at h
      rw [tkS_put hc]
      cases j with
      | zero => cases h
      | succ j => exact nums_in p n j m h
    · rw [nums_take hc] at h
      rw [tkS_take hc, List.length_cons]
      cases j with
      | zero => cases h; omega
      | succ j => have := nums_in p (n + 1) j m h; omega
theorem nums_at : ∀ (p : List Nat) (n i c : Nat), (pcS 0 p)[i]? = some c → ∀ j, (nums n p)[j]? = some (some (n + i)) ↔ j = c + i
  | [], n, i, c, h, j => by simp [pcS] at h
  | x :: p, n, i, c, h, j => by
    by_cases hx : 97 ≤ x
    · rw [pcS_put hx, List.getElem?_map] at h
      rw [nums_put hx]
      cases h' : (pcS 0 p)[i]? with
      | none => rw [h'] at h; cases h
      | some c' =>
        rw [h'] at h
        have h : some (c' + 1) = some c := h
        injection h with h
        cases j with
        | zero => exact ⟨(fun g => by cases g), fun g => by omega⟩
        | succ j =>
          show (nums n p)[j]? = _ ↔ _
          rw [nums_at p n i c' h' j]
          omega
    · rw [pcS_take hx] at h
      rw [nums_take hx]
      cases i with
      | zero =>
        cases h
        cases j with
        | zero => exact ⟨fun _ => rfl, fun _ => rfl⟩
        | succ j =>
          refine ⟨fun g => ?_, fun g => by omega⟩
          have := nums_in p (n + 1) j (n + 0) g
          omega
      | succ i =>
        have h : (pcS 0 p)[i]? = some c := h
        cases j with
        | zero =>
          refine ⟨fun g => ?_, fun g => by omega⟩
          have g : some (some n) = some (some (n + (i + 1))) := g
          injection g with g
          injection g with g
          omega
        | succ j =>
          show (nums (n + 1) p)[j]? = _ ↔ _
          rw [show n + (i + 1) = n + 1 + i by omega, nums_at p (n + 1) i c h j]
          omega
def numV (i : Nat) : Option Nat → V
  | some n => if n < i then .int (n : Nat) else .non
  | none => .non
theorem numV_step {p : List Nat} {i c : Nat} (h : (pcS 0 p)[i]? = some c) : ((nums 0 p).map (numV i)).set (c + i) (.int (i : Nat)) = (nums 0 p).map (numV (i + 1)) := by
  refine List.ext_getElem? fun j => ?_
  rw [List.getElem?_set, List.length_map, List.getElem?_map, List.getElem?_map]
  have key := nums_at p 0 i c h
  rw [Nat.zero_add] at key
  by_cases hj : c + i = j
  · subst hj
    have e := (key (c + i)).mpr rfl
    have hl : c + i < (nums 0 p).length := (List.getElem?_eq_some_iff.mp e).1
    rw [if_pos rfl, if_pos hl, e]
    show some (V.int (i : Nat)) = some (numV (i + 1) (some i))
    show _ = some (if i < i + 1 then V.int (i : Nat) else V.non)
    rw [if_pos (by omega)]
  · rw [if_neg hj]
    cases e : (nums 0 p)[j]? with
    | none => rfl
    | some o =>
      cases o with
      | none => rfl
      | some n =>
        have : n ≠ i := fun q => hj ((key j).mp (q ▸ e)).symm
        show some (if n < i then V.int (n : Nat) else V.non) = some (if n < i + 1 then V.int (n : Nat) else V.non)
        by_cases hn : n < i
        · rw [if_pos hn, if_pos (by omega)]
        · rw [if_neg hn, if_neg (by omega)]
def numO : Option Nat → V
  | some n => .int (n : Nat)
  | none => .non
theorem numV_all (p : List Nat) : (nums 0 p).map (numV (tkS p).length) = (nums 0 p).map numO := by
  refine List.map_congr_left fun o ho => ?_
  cases o with
  | none => rfl
  | some n =>
    obtain ⟨j, hj⟩ := List.mem_iff_getElem?.mp ho
    have := nums_in p 0 j n hj
    show (if n < (tkS p).length then _ else _) = _
    rw [if_pos (by omega)]
    rfl
theorem numV_zero (p : List Nat) : (nums 0 p).map (numV 0) = List.replicate p.length V.non := by
  refine List.eq_replicate_iff.mpr ⟨by rw [List.length_map, nums_len], fun v hv => ?_⟩
  obtain ⟨o, _, rfl⟩ := List.mem_map.mp hv
  cases o with
  | none => rfl
  | some n =>
    show (if n < 0 then V.int (n : Nat) else V.non) = V.non
    exact if_neg (Nat.not_lt_zero _)
end Gn

set_option Elab.async false
set_option linter.all false
set_option maxRecDepth 100000
set_option maxHeartbeats 4000000
/-! exchanges: where they keep the core -/
namespace Gn
open PySem PySem.Spec PyProof.Rows L2 Own Exn Mth Vld
def allowsN (p : List Nat) (j : Nat) : Bool := match (nums 0 p)[j]?, (nums 0 p)[j + 1]? with
  | some none, some (some r) => decide ((leastL (tkS p) (puS p) (coreN p)).getD r 0 < (pcS 0 p).getD r 0)
  | some (some l), some none => decide (1 < earlyN (pcS 0 p) (earlyL (tkS p) (puS p) (coreN p))) || decide ((((pcS 0 p).getD l 0 : Nat) : Int) ≠ (earlyL (tkS p) (puS p) (coreN p)).getD l 0)
  | _, _ => false
def swapN (p : List Nat) (j : Nat) : List Nat := p.take j ++ ((p.drop j).take 2).reverse ++ p.drop (j + 2)
def mixN (p : List Nat) (j : Nat) : Bool := decide (97 ≤ p.getD j 0) != decide (97 ≤ p.getD (j + 1) 0)
theorem cut2 {p : List Nat} {j : Nat} (h : j + 1 < p.length) : ∃ a x y b, p = a ++ x :: y :: b ∧ a.length = j := by
  refine ⟨p.take j, p[j], p[j + 1], p.drop (j + 2), ?_, by rw [List.length_take]; omega⟩
  rw [← List.drop_eq_getElem_cons h, ← List.drop_eq_getElem_cons (by omega), List.take_append_drop]
theorem mid {α : Type} (A B : List α) (u : α) : (A ++ u :: B)[A.length]? = some u := by rw [List.getElem?_append_right (Nat.le_refl _), Nat.sub_self]; rfl
theorem mid1 {α : Type} (A B : List α) (u v : α) : (A ++ u :: v :: B)[A.length + 1]? = some v := by rw [List.getElem?_append_right (by omega), Nat.add_sub_cancel_left]; rfl
theorem mid_ne {α : Type} (A B : List α) (u v : α) {i : Nat} (h : i ≠ A.length) : (A ++ u :: B)[i]? = (A ++ v :: B)[i]? := by
  rcases Nat.lt_or_gt_of_ne h with q | q
  · rw [List.getElem?_append_left q, List.getElem?_append_left q]
  · rw [List.getElem?_append_right (by omega), List.getElem?_append_right (by omega)]
    obtain ⟨n, hn⟩ : ∃ n, i - A.length = n + 1 := ⟨i - A.length - 1, by omega⟩
    rw [hn]
    rfl
theorem getD_of {α : Type} {l : List α} {i : Nat} {x d : α} (h : l[i]? = some x) : l.getD i d = x := by rw [List.getD_eq_getElem?_getD, h]; rfl
theorem swap_mid (a b : List Nat) (x y : Nat) : swapN (a ++ x :: y :: b) a.length = a ++ y :: x :: b := by
  unfold swapN
  rw [List.take_left' rfl, List.drop_left' rfl, show a ++ x :: y :: b = (a ++ [x, y]) ++ b by simp, List.drop_left' (by simp)]
  simp
theorem allows_keeps {p : List Nat} {j : Nat} (h : j + 1 < p.length) : allowsN p j = (mixN p j && decide (coreN (swapN p j) = coreN p)) := by
  obtain ⟨a, x, y, b, rfl, rfl⟩ := cut2 h
  rw [swap_mid]
  have m1 : mixN (a ++ x :: y :: b) a.length = (decide (97 ≤ x) != decide (97 ≤ y)) := by
    unfold mixN
    rw [getD_of (mid a (y :: b) x), getD_of (mid1 a b x y)]
  rw [m1]
  have na : (nums 0 a).length = a.length := nums_len a 0
  have n0 : ∀ {o o' : Option Nat} {l : List (Option Nat)}, nums (0 + (tkS a).length) (x :: y :: b) = o :: o' :: l → (nums 0 (a ++ x :: y :: b))[a.length]? = some o ∧ (nums 0 (a ++ x :: y :: b))[a.length + 1]? = some o' := fun e => by
    rw [nums_app, e, ← na]
    exact ⟨mid _ _ _, mid1 _ _ _ _⟩
  by_cases hx : 97 ≤ x
  · by_cases hy : 97 ≤ y
    · obtain ⟨e1, e2⟩ := n0 (by rw [nums_put hx, nums_put hy])
      unfold allowsN
      rw [e1, e2, decide_eq_true hx, decide_eq_true hy]
      rfl
    · obtain ⟨e1, e2⟩ := n0 (by rw [nums_put hx, nums_take hy])
      unfold allowsN
      rw [e1, e2, decide_eq_true hx, decide_eq_false hy]
      dsimp only
      rw [show (true != false) = true from rfl, Bool.true_and, decide_eq_decide, Nat.zero_add]
      have hR : tkS (a ++ y :: x :: b) = tkS (a ++ x :: y :: b) := by rw [tkS_app, tkS_app, tkS_take hy, tkS_put hx, tkS_put hx, tkS_take hy]
      have hW : puS (a ++ y :: x :: b) = puS (a ++ x :: y :: b) := by rw [puS_app, puS_app, puS_take hy, puS_put hx, puS_put hx, puS_take hy]
      have hne : tkS (a ++ x :: y :: b) ≠ [] := by rw [tkS_app, tkS_put hx, tkS_take hy]; simp
      have eC : pcS 0 (a ++ x :: y :: b) = pcS 0 a ++ (0 + (puS a).length + 1) :: pcS (0 + (puS a).length + 1) b := by rw [pcS_app, pcS_cons, if_pos hx, pcS_cons, if_neg hy]
      have eC' : pcS 0 (a ++ y :: x :: b) = pcS 0 a ++ (0 + (puS a).length) :: pcS (0 + (puS a).length + 1) b := by rw [pcS_app, pcS_cons, if_neg hy, pcS_cons, if_pos hx]
      have ln : (pcS 0 a).length = (tkS a).length := pcS_len a 0
      obtain ⟨h1, h2⟩ := (same_core (p := a ++ x :: y :: b) rfl rfl hne).mp rfl
      rw [same_core hR hW hne]
      have gC : (pcS 0 (a ++ x :: y :: b))[(tkS a).length]? = some (0 + (puS a).length + 1) := by rw [eC, ← ln]; exact mid _ _ _
      have gC' : (pcS 0 (a ++ y :: x :: b))[(tkS a).length]? = some (0 + (puS a).length) := by rw [eC', ← ln]; exact mid _ _ _
      have gne : ∀ i, i ≠ (tkS a).length → (pcS 0 (a ++ y :: x :: b))[i]? = (pcS 0 (a ++ x :: y :: b))[i]? := fun i hi => by rw [eC, eC']; exact mid_ne _ _ _ _ (by rw [ln]; exact hi)
      have nR : (tkS a).length < (leastL (tkS (a ++ x :: y :: b)) (puS (a ++ x :: y :: b)) (coreN (a ++ x :: y :: b))).length := by
        rw [leastL_len, tkS_app, tkS_put hx, tkS_take hy, List.length_append, List.length_cons]
        omega
      have gL := List.getElem?_eq_getElem nR
      rw [getD_of gL, getD_of gC]
      constructor
      · intro hlt
        refine ⟨fun i l hl => ?_, ?_⟩
        · by_cases hi : i = (tkS a).length
          · subst hi
            rw [gL] at hl
            injection hl with hl
            exact ⟨_, gC', by omega⟩
          · rw [gne i hi]
            exact h1 i l hl
        · rw [earlyN_pos] at h2 ⊢
          obtain ⟨i, c, e, g1, g2, g3⟩ := h2
          by_cases hi : i = (tkS a).length
          · subst hi
            rw [gC] at g1
            injection g1 with g1
            exact ⟨_, _, e, gC', g2, by omega⟩
          · exact ⟨i, c, e, by rw [gne i hi]; exact g1, g2, g3⟩
      · rintro ⟨k1, _⟩
        obtain ⟨c, hc, hle⟩ := k1 _ _ gL
        rw [gC'] at hc
        injection hc with hc
        omega
  · by_cases hy : 97 ≤ y
    · obtain ⟨e1, e2⟩ := n0 (by rw [nums_take hx, nums_put hy])
      unfold allowsN
      rw [e1, e2, decide_eq_false hx, decide_eq_true hy]
      dsimp only
      rw [show (false != true) = true from rfl, Bool.true_and, Nat.zero_add]
      have hR : tkS (a ++ y :: x :: b) = tkS (a ++ x :: y :: b) := by rw [tkS_app, tkS_app, tkS_put hy, tkS_take hx, tkS_take hx, tkS_put hy]
      have hW : puS (a ++ y :: x :: b) = puS (a ++ x :: y :: b) := by rw [puS_app, puS_app, puS_put hy, puS_take hx, puS_take hx, puS_put hy]
      have hne : tkS (a ++ x :: y :: b) ≠ [] := by rw [tkS_app, tkS_take hx]; simp
      have eC : pcS 0 (a ++ x :: y :: b) = pcS 0 a ++ (0 + (puS a).length) :: pcS (0 + (puS a).length + 1) b := by rw [pcS_app, pcS_cons, if_neg hx, pcS_cons, if_pos hy]
      have eC' : pcS 0 (a ++ y :: x :: b) = pcS 0 a ++ (0 + (puS a).length + 1) :: pcS (0 + (puS a).length + 1) b := by rw [pcS_app, pcS_cons, if_pos hy, pcS_cons, if_neg hx]
      have ln : (pcS 0 a).length = (tkS a).length := pcS_len a 0
      obtain ⟨h1, h2⟩ := (same_core (p := a ++ x :: y :: b) rfl rfl hne).mp rfl
      have sc := same_core hR hW hne
      have gC : (pcS 0 (a ++ x :: y :: b))[(tkS a).length]? = some (0 + (puS a).length) := by rw [eC, ← ln]; exact mid _ _ _
      have gC' : (pcS 0 (a ++ y :: x :: b))[(tkS a).length]? = some (0 + (puS a).length + 1) := by rw [eC', ← ln]; exact mid _ _ _
      have gne : ∀ i, i ≠ (tkS a).length → (pcS 0 (a ++ y :: x :: b))[i]? = (pcS 0 (a ++ x :: y :: b))[i]? := fun i hi => by rw [eC, eC']; exact mid_ne _ _ _ _ (by rw [ln]; exact hi)
      have hk := (pend_core (a ++ x :: y :: b)).2
      have lE := earlyL_len (tkS (a ++ x :: y :: b)) (puS (a ++ x :: y :: b)) hk
      have ltk : (tkS (a ++ x :: y :: b)).length = (tkS a).length + ((tkS b).length + 1) := by rw [tkS_app, tkS_take hx, tkS_put hy, List.length_append, List.length_cons]
      generalize earlyL (tkS (a ++ x :: y :: b)) (puS (a ++ x :: y :: b)) (coreN (a ++ x :: y :: b)) = E at h2 sc lE ⊢
      have nE : (tkS a).length < E.length := by omega
      have eE : E = E.take (tkS a).length ++ E[(tkS a).length] :: E.drop ((tkS a).length + 1) := by rw [← List.drop_eq_getElem_cons nE, List.take_append_drop]
      have lt : (E.take (tkS a).length).length = (tkS a).length := by rw [List.length_take]; omega
      have gE := List.getElem?_eq_getElem nE
      rw [getD_of gE, getD_of gC]
      generalize E[(tkS a).length] = e at eE gE
      have cnt : ∀ c : Nat, earlyN (pcS 0 a ++ c :: pcS (0 + (puS a).length + 1) b) E = earlyN (pcS 0 a) (E.take (tkS a).length) + ((if ((c : Nat) : Int) ≤ e then 1 else 0) + earlyN (pcS (0 + (puS a).length + 1) b) (E.drop ((tkS a).length + 1))) := fun c => by
        have := earlyN_app (pcS 0 a) (E.take (tkS a).length) (c :: pcS (0 + (puS a).length + 1) b) (e :: E.drop ((tkS a).length + 1)) (by rw [ln, lt])
        rw [← eE] at this
        exact this
      have least : ∀ (i l : Nat), (leastL (tkS (a ++ x :: y :: b)) (puS (a ++ x :: y :: b)) (coreN (a ++ x :: y :: b)))[i]? = some l → ∃ c, (pcS 0 (a ++ y :: x :: b))[i]? = some c ∧ l ≤ c := fun i l hl => by
        obtain ⟨c, hc, hle⟩ := h1 i l hl
        by_cases hi : i = (tkS a).length
        · subst hi
          rw [gC] at hc
          injection hc with hc
          exact ⟨_, gC', by omega⟩
        · exact ⟨c, by rw [gne i hi]; exact hc, hle⟩
      rw [Bool.eq_iff_iff, Bool.or_eq_true, decide_eq_true_iff, decide_eq_true_iff, decide_eq_true_iff, sc, eC, cnt]
      rw [eC, cnt] at h2
      rw [eC', cnt]
      rw [eC'] at least
      generalize earlyN (pcS 0 a) (E.take (tkS a).length) = u at h2
      generalize earlyN (pcS (0 + (puS a).length + 1) b) (E.drop ((tkS a).length + 1)) = v at h2
      generalize 0 + (puS a).length = m at h2 least ⊢
      constructor
      · intro hh
        refine ⟨least, ?_⟩
        split at h2 <;> split <;> rename_i q1 q2 <;> (try rw [if_pos q1] at hh) <;> (try rw [if_neg q1] at hh) <;> omega
      · rintro ⟨_, hh⟩
        split at h2 <;> split at hh <;> rename_i q1 q2 <;> (try rw [if_pos q1]) <;> (try rw [if_neg q1]) <;> omega
    · obtain ⟨e1, e2⟩ := n0 (by rw [nums_take hx, nums_take hy])
      unfold allowsN
      rw [e1, e2, decide_eq_false hx, decide_eq_false hy]
      rfl
end Gn

set_option Elab.async false
set_option linter.all false
set_option maxRecDepth 100000
set_option maxHeartbeats 4000000
/-! x in list, of data; f(k = v) of a def with one parameter -/
namespace Own
open PySem PySem.Spec PyProof.Rows L2
section
variable {X : Cx}
def rInD (K : PySem.W.Frag) : R2 := fun x y H Q => ∃ d ds, Dp K H x d ∧ Dp K H y (.list ds) ∧ PyData.canLayAll0 ds = true ∧ SeqAt.shaped d = true ∧ Q (.bl (ds.any fun e => PyData.eqv e d)) H
theorem op_inD (hu : X.A.units + 65 < cLine) : OpR X (compareOp .In) (rInD X.K) := by
  intro pins s σ H x y v u Q I rx ry h
  obtain ⟨d, ds, hd, hl, hs, hsh, q⟩ := h
  obtain ⟨as, r1⟩ := Dp.reads I d x v hd rx
  obtain ⟨bs, r2⟩ := Dp.reads I (.list ds) y u hl ry
  have h1 := SeqAt.depth_of_shaped hsh
  have h2 : min (PyData.depthAll ds) d.depth ≤ d.depth := Nat.min_le_right _ _
  exact SeqAt.in_list_reads r2 r1 hs (SeqAt.canLay_of_shaped hsh) (by omega) ⟨.bl _, H, I, rfl, q⟩
theorem u65 {A : Around} {k : Nat} (h : Room k A) : A.units + 65 < cLine := by
  have := h.un
  omega
def kw1 {α : Type} : List α → List α → List α
  | [], [a] => [a]
  | _, _ => []
theorem kw1_rel : ∀ {vs : List V} {us : List Value} {zs : List V} {ws : List Value}, Vals vs us → Vals zs ws → Vals (kw1 vs zs) (kw1 us ws)
  | _, _, _, _, .nil, .nil => .nil
  | _, _, _, _, .nil, .cons a .nil => .cons a .nil
  | _, _, _, _, .nil, .cons _ (.cons _ _) => .nil
  | _, _, _, _, .cons _ _, .nil => .nil
  | _, _, _, _, .cons _ _, .cons _ _ => .nil
theorem kb_one {K : PySem.W.Frag} {fd : FuncData} {p : Str} (h : ∀ (s : Shared) (a : Value), BindsTo s fd ⟨[], [(p, a)]⟩ [(p, a)]) : KBinds K fd [p] [p] kw1 kw1 where
  to := fun s us ws _ hl => by
    match us, ws, hl with
    | [], [a], _ => exact h s a
    | [], [], hl => cases hl
    | [], _ :: _ :: _, hl => cases hl
    | _ :: _, _, hl => cases hl
  rel := kw1_rel
end
end Own
namespace Cmx
open PySem PySem.Spec PyProof.Rows L2
/-- a method that raises nothing, called anywhere -/
theorem passAt0 {X : Cx} (σ : L2.St) : PassesAt CX0 X σ ((fun _ : L2.St => E0) σ) := fun _ _ _ _ _ _ h => h.elim
end Cmx
namespace Gn
open PySem PySem.Spec PyProof.Rows L2 Own
theorem pool_at {p b : Addr} {H : Hp} {o : HO} (h : Pool H p) (n : b ≠ p) : Pool (upd H b o) p := by obtain ⟨i, j, hp, g⟩ := h; exact ⟨i, j, by rw [upd_ne n.symm]; exact hp, g⟩
theorem pool_ne {p b : Addr} {H : Hp} (h : Pool H p) (e : H b = none) : b ≠ p := fun q => by obtain ⟨i, j, hp, _⟩ := h; rw [q, hp] at e; cases e
theorem but_none {p b : Addr} {H H1 : Hp} (s : But p H H1) (n : b ≠ p) (h : H1 b = none) : H b = none := by
  cases e : H b with
  | none => rfl
  | some o => rw [s b o n e] at h; cases h
end Gn

set_option Elab.async false
set_option linter.all false
set_option maxRecDepth 100000
set_option maxHeartbeats 4000000
/-! xs[i] op= e; f(c = .., b = .., a = ..); steps that are taken one after another -/
namespace Own
open PySem PySem.Spec PyProof.Rows L2
section
variable {X : Cx}
def rGetN (K : PySem.W.Frag) : V → V → Hp → VK → Prop := fun x y H Q => ∃ (p : Addr) (xs : List V) (j : Nat) (v : V), x = .ref p ∧ y = .int (j : Nat) ∧ SqL K H p xs ∧ xs[j]? = some v ∧ Q v H
theorem get_listN : PGet X (rGetN X.K) := by
  intro pins s σ H o i ov iv Q I ro ri h
  obtain ⟨p, xs, j, v, rfl, rfl, hq, hv, q⟩ := h
  cases ro
  obtain ⟨t, rfl⟩ := ri
  obtain ⟨its, r, pl, hz⟩ := I.list hq
  obtain ⟨w, ew, rw'⟩ := r.get hv
  have hl := r.length
  have hj := (List.getElem?_eq_some_iff.mp hv).1
  have hn := line63
  exact wpAny_getItem_list (x := w) pl.isList (by omega) (by omega) (by simpa using ew) ⟨v, H, I, rw', q⟩
def rv3 {α : Type} : List α → List α → List α
  | [], [c, b, a] => [a, b, c]
  | _, _ => []
theorem rv3_rel : ∀ {vs : List V} {us : List Value} {zs : List V} {ws : List Value}, Vals vs us → Vals zs ws → Vals (rv3 vs zs) (rv3 us ws)
  | _, _, _, _, .nil, .nil => .nil
  | _, _, _, _, .nil, .cons _ .nil => .nil
  | _, _, _, _, .nil, .cons _ (.cons _ .nil) => .nil
  | _, _, _, _, .nil, .cons c (.cons b (.cons a .nil)) => .cons a (.cons b (.cons c .nil))
  | _, _, _, _, .nil, .cons _ (.cons _ (.cons _ (.cons _ _))) => .nil
  | _, _, _, _, .cons _ _, .nil => .nil
  | _, _, _, _, .cons _ _, .cons _ _ => .nil
theorem kb_rv3 {K : PySem.W.Frag} {fd : FuncData} {p1 p2 p3 : Str} (h : ∀ (s : Shared) (a b c : Value), BindsTo s fd ⟨[], [(p3, c), (p2, b), (p1, a)]⟩ [(p1, a), (p2, b), (p3, c)]) : KBinds K fd [p1, p2, p3] [p3, p2, p1] rv3 rv3 where
  to := fun s us ws _ hl => by
    match us, ws, hl with
    | [], [c, b, a], _ => exact h s a b c
    | [], [], hl => cases hl
    | [], [_], hl => cases hl
    | [], [_, _], hl => cases hl
    | [], _ :: _ :: _ :: _ :: _, hl => cases hl
    | _ :: _, _, hl => cases hl
  rel := rv3_rel
end
end Own
namespace Gn
open PySem PySem.Spec PyProof.Rows L2 Own Exn Mth Vld
theorem set_mid {α : Type} (A B : List α) (u v : α) : (A ++ u :: B).set A.length v = A ++ v :: B := by
  rw [List.set_append_right _ _ (Nat.le_refl _), Nat.sub_self]
  rfl
theorem set_mid1 {α : Type} (A B : List α) (u v v' : α) : (A ++ u :: v :: B).set (A.length + 1) v' = A ++ u :: v' :: B := by
  rw [List.set_append_right _ _ (by omega), Nat.add_sub_cancel_left]
  rfl
/-- an exchange that is allowed keeps the effect -/
theorem swap_eff {p : List Nat} {j : Nat} (h : j + 1 < p.length) (ha : allowsN p j = true) : tkS (swapN p j) = tkS p ∧ puS (swapN p j) = puS p ∧ coreN (swapN p j) = coreN p := by
  rw [allows_keeps h, Bool.and_eq_true] at ha
  obtain ⟨hm, hc⟩ := ha
  refine ⟨?_, ?_, of_decide_eq_true hc⟩
  all_goals
    obtain ⟨a, x, y, b, rfl, rfl⟩ := cut2 h
    have m1 : mixN (a ++ x :: y :: b) a.length = (decide (97 ≤ x) != decide (97 ≤ y)) := by
      unfold mixN
      rw [getD_of (mid a (y :: b) x), getD_of (mid1 a b x y)]
    rw [m1] at hm
    rw [swap_mid]
    by_cases hx : 97 ≤ x
    · by_cases hy : 97 ≤ y
      · rw [decide_eq_true hx, decide_eq_true hy] at hm
        cases hm
      · first
          | rw [tkS_app, tkS_app, tkS_take hy, tkS_put hx, tkS_put hx, tkS_take hy]
          | rw [puS_app, puS_app, puS_take hy, puS_put hx, puS_put hx, puS_take hy]
    · by_cases hy : 97 ≤ y
      · first
          | rw [tkS_app, tkS_app, tkS_put hy, tkS_take hx, tkS_take hx, tkS_put hy]
          | rw [puS_app, puS_app, puS_put hy, puS_take hx, puS_take hx, puS_put hy]
      · rw [decide_eq_false hx, decide_eq_false hy] at hm
        cases hm
theorem earlyN_set {C : List Nat} {E : List Int} {r c c' : Nat} {e : Int} (hC : C[r]? = some c) (hE : E[r]? = some e) :
    earlyN (C.set r c') E + (if ((c : Nat) : Int) ≤ e then 1 else 0) = earlyN C E + (if ((c' : Nat) : Int) ≤ e then 1 else 0) := by
  have key : ∀ (C : List Nat) (E : List Int) (r : Nat), C[r]? = some c → E[r]? = some e → earlyN (C.set r c') E + (if ((c : Nat) : Int) ≤ e then 1 else 0) = earlyN C E + (if ((c' : Nat) : Int) ≤ e then 1 else 0) := by
    intro C
    induction C with
    | nil => intro E r h; simp at h
    | cons x C ih =>
      intro E r h1 h2
      cases E with
      | nil => simp at h2
      | cons y E =>
        cases r with
        | zero =>
          have h1 : some x = some c := h1
          have h2 : some y = some e := h2
          injection h1 with h1
          injection h2 with h2
          subst h1 h2
          show (if ((c' : Nat) : Int) ≤ y then 1 else 0) + earlyN C E + _ = (if ((x : Nat) : Int) ≤ y then 1 else 0) + earlyN C E + _
          omega
        | succ r =>
          have := ih E r h1 h2
          show (if ((x : Nat) : Int) ≤ y then 1 else 0) + earlyN (C.set r c') E + _ = (if ((x : Nat) : Int) ≤ y then 1 else 0) + earlyN C E + _
          omega
  exact key C E r hC hE
/-- what an exchange does to the counts and the numbers -/
theorem swap_back {p : List Nat} {j r : Nat} (h : j + 1 < p.length) (n0 : (nums 0 p)[j]? = some none) (n1 : (nums 0 p)[j + 1]? = some (some r)) :
    ∃ c, (pcS 0 p)[r]? = some (c + 1) ∧ pcS 0 (swapN p j) = (pcS 0 p).set r c ∧ nums 0 (swapN p j) = ((nums 0 p).set j (some r)).set (j + 1) none := by
  obtain ⟨a, x, y, b, rfl, rfl⟩ := cut2 h
  have na : (nums 0 a).length = a.length := nums_len a 0
  have ln : (pcS 0 a).length = (tkS a).length := pcS_len a 0
  rw [nums_app] at n0 n1
  by_cases hx : 97 ≤ x
  · by_cases hy : 97 ≤ y
    · rw [nums_put hx, nums_put hy, ← na, mid1] at n1
      cases n1
    · rw [nums_put hx, nums_take hy, ← na, mid1, Nat.zero_add] at n1
      injection n1 with n1
      injection n1 with n1
      have eC : pcS 0 (a ++ x :: y :: b) = pcS 0 a ++ (0 + (puS a).length + 1) :: pcS (0 + (puS a).length + 1) b := by rw [pcS_app, pcS_cons, if_pos hx, pcS_cons, if_neg hy]
      have eC' : pcS 0 (a ++ y :: x :: b) = pcS 0 a ++ (0 + (puS a).length) :: pcS (0 + (puS a).length + 1) b := by rw [pcS_app, pcS_cons, if_neg hy, pcS_cons, if_pos hx]
      refine ⟨0 + (puS a).length, ?_, ?_, ?_⟩
      · rw [eC, ← n1, ← ln]
        exact mid _ _ _
      · rw [swap_mid, eC, eC', ← n1, ← ln, set_mid]
      · rw [swap_mid, nums_app, nums_app, nums_put hx, nums_take hy, nums_take hy, nums_put hx, ← na, set_mid, set_mid1, Nat.zero_add, n1]
  · rw [nums_take hx, ← na, mid] at n0
    cases n0
theorem swap_forth {p : List Nat} {j l : Nat} (h : j + 1 < p.length) (n0 : (nums 0 p)[j]? = some (some l)) (n1 : (nums 0 p)[j + 1]? = some none) :
    ∃ c, (pcS 0 p)[l]? = some c ∧ pcS 0 (swapN p j) = (pcS 0 p).set l (c + 1) ∧ nums 0 (swapN p j) = ((nums 0 p).set j none).set (j + 1) (some l) := by
  obtain ⟨a, x, y, b, rfl, rfl⟩ := cut2 h
  have na : (nums 0 a).length = a.length := nums_len a 0
  have ln : (pcS 0 a).length = (tkS a).length := pcS_len a 0
  rw [nums_app] at n0 n1
  by_cases hx : 97 ≤ x
  · rw [nums_put hx, ← na, mid] at n0
    cases n0
  · by_cases hy : 97 ≤ y
    · rw [nums_take hx, ← na, mid, Nat.zero_add] at n0
      injection n0 with n0
      injection n0 with n0
      have eC : pcS 0 (a ++ x :: y :: b) = pcS 0 a ++ (0 + (puS a).length) :: pcS (0 + (puS a).length + 1) b := by rw [pcS_app, pcS_cons, if_neg hx, pcS_cons, if_pos hy]
      have eC' : pcS 0 (a ++ y :: x :: b) = pcS 0 a ++ (0 + (puS a).length + 1) :: pcS (0 + (puS a).length + 1) b := by rw [pcS_app, pcS_cons, if_pos hy, pcS_cons, if_neg hx]
      refine ⟨0 + (puS a).length, ?_, ?_, ?_⟩
      · rw [eC, ← n0, ← ln]
        exact mid _ _ _
      · rw [swap_mid, eC, eC', ← n0, ← ln, set_mid]
      · rw [swap_mid, nums_app, nums_app, nums_take hx, nums_put hy, nums_put hy, nums_take hx, ← na, set_mid, set_mid1, Nat.zero_add, n0]
    · rw [nums_take hx, nums_take hy, ← na, mid1] at n1
      cases n1
/-- takes, puts and counts tell the program -/
theorem prog_eq : ∀ (p q : List Nat), tkS p = tkS q → puS p = puS q → pcS 0 p = pcS 0 q → p = q
  | [], [], _, _, _ => rfl
  | [], y :: q, h1, h2, _ => by
    by_cases hy : 97 ≤ y
    · rw [puS_put hy] at h2; cases h2
    · rw [tkS_take hy] at h1; cases h1
  | x :: p, [], h1, h2, _ => by
    by_cases hx : 97 ≤ x
    · rw [puS_put hx] at h2; cases h2
    · rw [tkS_take hx] at h1; cases h1
  | x :: p, y :: q, h1, h2, h3 => by
    by_cases hx : 97 ≤ x
    · by_cases hy : 97 ≤ y
      · rw [puS_put hx, puS_put hy] at h2
        rw [tkS_put hx, tkS_put hy] at h1
        rw [pcS_put hx, pcS_put hy] at h3
        injection h2 with h2 h2'
        have h3 := (List.map_inj_right (fun a b (h : a + 1 = b + 1) => Nat.succ.inj h)).mp h3
        rw [h2, prog_eq p q h1 h2' h3]
      · exfalso
        rw [pcS_put hx, pcS_take hy] at h3
        cases h : pcS 0 p with
        | nil => rw [h] at h3; cases h3
        | cons c C => rw [h] at h3; cases h3
    · by_cases hy : 97 ≤ y
      · exfalso
        rw [pcS_take hx, pcS_put hy] at h3
        cases h : pcS 0 q with
        | nil => rw [h] at h3; cases h3
        | cons c C => rw [h] at h3; cases h3
      · rw [puS_take hx, puS_take hy] at h2
        rw [tkS_take hx, tkS_take hy] at h1
        rw [pcS_take hx, pcS_take hy] at h3
        injection h1 with h1 h1'
        injection h3 with _ h3
        rw [show x = y by omega, prog_eq p q h1' h2 h3]
end Gn

set_option Elab.async false
set_option linter.all false
set_option maxRecDepth 100000
set_option maxHeartbeats 4000000
/-! zip(text, list) -/
namespace PySem
abbrev zsH1 (h : Heap) (x : Str) (t : Tok) : Heap := h.push { cls := .type (strIterType x), data := .fields #[.str x t, .int 0 0] }
abbrev zsH2 (h : Heap) (x : Str) (t : Tok) (l2 : Addr) : Heap := (zsH1 h x t).push { cls := .type "list_iterator", data := .fields #[.ref l2, .int 0 0] }
abbrev zsH3 (h : Heap) (x : Str) (t : Tok) (l2 : Addr) : Heap := (zsH2 h x t l2).push { cls := .type "tuple", data := .seq #[.ref h.objs.size, .ref (zsH1 h x t).objs.size] }
abbrev zsH4 (h : Heap) (x : Str) (t : Tok) (l2 : Addr) : Heap := (zsH3 h x t l2).push { cls := .type "tuple", data := .seq #[.none, .none] }
abbrev zsH5 (h : Heap) (x : Str) (t : Tok) (l2 : Addr) : Heap := (zsH4 h x t l2).push { cls := .type "zip", data := .fields #[.none, .bool false, .bool false, .ref (zsH2 h x t l2).objs.size, .ref (zsH3 h x t l2).objs.size] }
theorem meets_zip_newS (x : Str) (t : Tok) (l2 : Addr) (ys : Array Value) :
    Meets (Builtin.«zip.__new__» ⟨[.type "zip", .str x t, .ref l2], []⟩) (fun _ R s => s.heap.IsList l2 ys ∧
      R (.ok (.ret (.ref (zsH4 s.heap x t l2).objs.size))) { s with heap := zsH5 s.heap x t l2 }) :=
  .of_wp fun prog w A R s h => by
    obtain ⟨hp, g, d, tk, os⟩ := s; obtain ⟨hl2, h⟩ := h
    have hsub := sub_zip
    have hL2 : Heap.IsList (Shared.heap ⟨zsH1 hp x t, g, d, tk, os⟩) l2 ys := Heap.IsList.push hl2 _
    wp_walk using wpAny_pyIter_strU, wpAny_pyIter_list hL2
    exact ⟨_, rfl, h⟩
section
variable {prog : Program} {w : World} {A : Around} {E : Value → Shared → Prop} {s : Shared}
theorem call_zip_str {x : Str} {t : Tok} {l2 : Addr} {ys : Array Value} {Q : Value → Shared → Prop} (hl2 : s.heap.IsList l2 ys)
    (h : ∀ h', IsZip h' (s.heap.objs.size + 4) (s.heap.objs.size + 2) (s.heap.objs.size + 3) .none → IsTupOf2 h' (s.heap.objs.size + 2) (.ref s.heap.objs.size) (.ref (s.heap.objs.size + 1)) →
      IsTupOf2 h' (s.heap.objs.size + 3) .none .none → h'.IsStrIter s.heap.objs.size (strIterType x) x t 0 → h'.IsListIter (s.heap.objs.size + 1) l2 0 → h'.objs.size = s.heap.objs.size + 5 →
      (∀ c o, s.heap.get? c = some o → h'.get? c = some o) → Q (.ref (s.heap.objs.size + 4)) { s with heap := h' }) :
    wpAny (model prog w) A (call (.type "zip") [.str x t, .ref l2]) Q E s := by
  refine callType_new F.called_zip (by decide) (F.typeCall_zip_2 _ _) (F.newCall_zip_2 _ _) (fun obj => F.args_object_init_3 obj _ _) F.entry_zip_new
    (meets_zip_newS x t l2 ys) ⟨hl2, ?_⟩
  have z1 : (zsH1 s.heap x t).objs.size = s.heap.objs.size + 1 := Heap.size_push ..
  have z2 : (zsH2 s.heap x t l2).objs.size = s.heap.objs.size + 2 := by rw [Heap.size_push, z1]
  have z3 : (zsH3 s.heap x t l2).objs.size = s.heap.objs.size + 3 := by rw [Heap.size_push, z2]
  have z4 : (zsH4 s.heap x t l2).objs.size = s.heap.objs.size + 4 := by rw [Heap.size_push, z3]
  have z5 : (zsH5 s.heap x t l2).objs.size = s.heap.objs.size + 5 := by rw [Heap.size_push, z4]
  have g5 : (zsH5 s.heap x t l2).get? (zsH4 s.heap x t l2).objs.size = some _ := Heap.get?_push_size _ rfl
  have g4 : (zsH5 s.heap x t l2).get? (zsH3 s.heap x t l2).objs.size = some _ := Heap.get?_push_of_some _ (Heap.get?_push_size _ rfl)
  have g3 : (zsH5 s.heap x t l2).get? (zsH2 s.heap x t l2).objs.size = some _ := Heap.get?_push_of_some _ (Heap.get?_push_of_some _ (Heap.get?_push_size _ rfl))
  have g2 : (zsH5 s.heap x t l2).get? (zsH1 s.heap x t).objs.size = some _ := Heap.get?_push_of_some _ (Heap.get?_push_of_some _ (Heap.get?_push_of_some _ (Heap.get?_push_size _ rfl)))
  have g1 : (zsH5 s.heap x t l2).get? s.heap.objs.size = some _ := Heap.get?_push_of_some _ (Heap.get?_push_of_some _ (Heap.get?_push_of_some _ (Heap.get?_push_of_some _ (Heap.get?_push_size _ rfl))))
  show _ ∧ _
  rw [z2, z3, z4] at g5
  rw [z1, z2] at g3
  rw [z3] at g4
  rw [z1] at g2
  rw [z4]
  exact ⟨⟨_, g5, rfl⟩, h _ g5 g3 g4 ⟨_, g1, rfl, rfl⟩ ⟨_, g2, rfl, rfl⟩ z5 fun c o x =>
    Heap.get?_push_of_some _ (Heap.get?_push_of_some _ (Heap.get?_push_of_some _ (Heap.get?_push_of_some _ (Heap.get?_push_of_some _ x))))⟩
end
theorem zs_ne (n b k : Nat) (hb : b < n) : ¬ (n + k = b) := by omega
theorem zsep (n b : Addr) (hb : b < n) : ZipSep2 (n + 4) (n + 2) (n + 3) n (n + 1) [n] [n + 1, b] := by
  have h4 : ¬ (n + 4 = b) := zs_ne n b 4 hb
  have h3 : ¬ (n + 3 = b) := zs_ne n b 3 hb
  have h0 : ¬ (n = b) := zs_ne n b 0 hb
  constructor <;> simp [h4, h3, h0]
end PySem
namespace L2
open PySem PySem.Spec PyProof.Rows
/-- a text and the list at b, side by side in new pairs -/
def Itzs (K : PySem.W.Frag) (z : Str) (b : Addr) : It :=
  ⟨fun i H => i < z.cps.size ∧ ∃ (ys : List V) (y : V), SqL K H b ys ∧ ys[i]? = some y,
    fun i H v H' => ∃ T c y, v = .ref T ∧ H T = none ∧ H' = upd H T (.tup [.str ⟨#[c]⟩, y]) ∧ z.cps[i]? = some c ∧ ∀ ys, SqL K H b ys → ys[i]? = some y,
    fun i H => ∃ ys : List V, SqL K H b ys ∧ i ≤ z.cps.size ∧ i ≤ ys.length ∧ (i = z.cps.size ∨ i = ys.length)⟩
theorem turn_zipS {P : Program} {w : World} {K : PySem.W.Frag} {elts : List Expr} {kk : Nat} {tpos : Pos} {zt : Str} {t : Tok} {b z TI TO i1 i2 : Addr} (S : ZipSep2 z TI TO i1 i2 [i1] [i2, b]) (hb2 : b ≠ i2) :
    Turn P w K (.Tuple elts kk tpos) (Itzs K zt b) [z, TI, TO, i1, i2] z (fun i h => IsZip h z TI TO .none ∧ IsTupOf2 h TI (.ref i1) (.ref i2) ∧ (∃ x y, IsTupOf2 h TO x y) ∧ h.IsStrIter i1 (strIterType zt) zt t i ∧ h.IsListIter i2 b i) where
  mem := by simp
  obj := fun i h st c hc => by
    obtain ⟨hz, hTI, ⟨x, y, hTO⟩, ⟨o1, e1, _, d1⟩, ⟨o2, e2, _, d2⟩⟩ := st
    have e' : c = z ∨ c = TI ∨ c = TO ∨ c = i1 ∨ c = i2 := by simpa using hc
    rcases e' with q | q | q | q | q
    · rw [q]; exact ⟨_, hz, fun v q => nomatch q⟩
    · rw [q]; exact ⟨_, hTI, fun v q => nomatch q⟩
    · rw [q]; exact ⟨_, hTO, fun v q => nomatch q⟩
    · rw [q]; exact ⟨o1, e1, fun v q => by rw [d1] at q; cases q⟩
    · rw [q]; exact ⟨o2, e2, fun v q => by rw [d2] at q; cases q⟩
  keep := fun i h h' st k => by
    obtain ⟨hz, hTI, ⟨x, y, hTO⟩, ⟨o1, q1, r1⟩, h2⟩ := st
    exact ⟨k z (by simp) _ hz, k TI (by simp) _ hTI, ⟨x, y, k TO (by simp) _ hTO⟩, ⟨o1, k i1 (by simp) o1 q1, r1⟩, h2.at fun o q => k i2 (by simp) o q⟩
  item := by
    intro X hP hw hK hc i pins s σ H E I hf st hg
    subst hP hw hK
    obtain ⟨hz, hTI, ⟨x0, y0, hTO⟩, h1, h2⟩ := st
    obtain ⟨hiz, ys, y, hqy, hy⟩ := hg
    obtain ⟨its2, rv2, p2, _⟩ := I.list hqy
    obtain ⟨u2, hu2, ru2⟩ := rv2.get hy
    have hzl : z < s.heap.objs.size := Heap.lt_size hz
    refine wpAny_pyNext_zipD2_item S (Draws.text (A := X.A.in1) (I.ok.hd hc) i1 zt t) (Draws.list (A := X.A.in1) (I.ok.hd hc) i2 b hb2 its2.toArray) hz hTI hTO h1 ⟨h2, p2.isList⟩ hiz
      (by rw [List.size_toArray]; exact (List.getElem?_eq_some_iff.mp hu2).1) fun x1 x2 h' tk hx1 hx2 z' TO' h1' h2' hT hsz hk => ?_
    obtain ⟨c, u, hcu, rfl⟩ := hx1
    have hx3 : x2 = u2 := by
      have q1 : its2[i]? = some x2 := by simpa using hx2
      rw [hu2] at q1
      cases q1
      rfl
    subst hx3
    refine ⟨_, rfl, wpAny_letOwnedTupleGo_zip (s := { s with heap := h', toks := tk }) z' fun h'' z'' sb => ?_⟩
    have hT2 : h''.get? s.heap.objs.size = some { cls := .type "tuple", data := .seq #[.str ⟨#[c]⟩ u, x2] } := (sb.2 _ (Nat.ne_of_gt hzl)).trans hT
    have new : ObjOk X.prog X.w (upd H s.heap.objs.size (.tup [.str ⟨#[c]⟩, y])) h'' s.heap.objs.size (.tup [.str ⟨#[c]⟩, y]) :=
      ⟨by show 2 ≤ sizeLine; decide, [.str ⟨#[c]⟩ u, x2], .cons ⟨_, rfl⟩ (.cons ru2 .nil), ⟨_, hT2, rfl, _, rfl⟩⟩
    have I1 : Inv X pins σ (upd H s.heap.objs.size (.tup [.str ⟨#[c]⟩, y])) { s with heap := h'', toks := tk } :=
      I.turnedNew (t' := tk) (ch := [z, TI, TO, i1, i2]) (fun c o hb q => (sb.2 c (fun q' => hb (by simp [q']))).trans (hk c o (fun q' => hb (by simp [q'])) (fun q' => hb (by simp [q'])) (fun q' => hb (by simp [q'])) (fun q' => hb (by simp [q'])) q)) hf (Nat.le_refl _) new
    refine ⟨.ref s.heap.objs.size, _, I1, rfl, ⟨_, c, y, rfl, I.hok.fresh (Nat.le_refl _), rfl, hcu, fun l hl => by rw [I.list_inj hl hqy]; exact hy⟩, ⟨z'', ?_, ⟨.str ⟨#[c]⟩ u, x2, ?_⟩, ?_, ?_⟩, fun c hcm => ?_⟩
    · exact (sb.2 _ S.TIz).trans (hk _ _ S.TIz S.TITO S.TIi1 S.TIi2 hTI)
    · exact (sb.2 _ S.TOz).trans TO'
    · obtain ⟨o, q, r⟩ := h1'
      exact ⟨o, (sb.2 _ (Ne.symm S.zi1)).trans q, r⟩
    · exact h2'.1.at fun o q => (sb.2 _ (Ne.symm S.zi2)).trans q
    · have hlt : c < s.heap.objs.size := by
        have e' : c = z ∨ c = TI ∨ c = TO ∨ c = i1 ∨ c = i2 := by simpa using hcm
        rcases e' with q | q | q | q | q
        · rw [q]; exact hzl
        · rw [q]; exact Heap.lt_size hTI
        · rw [q]; exact Heap.lt_size hTO
        · rw [q]; obtain ⟨_, e1, _⟩ := h1; exact Heap.lt_size e1
        · rw [q]; obtain ⟨_, e2, _⟩ := h2; exact Heap.lt_size e2
      rw [upd_ne (Nat.ne_of_lt hlt)]
      exact (hf c hcm).1
  done := by
    intro X hP hw hK hc i pins s σ H E I hf st hg
    subst hP hw hK
    obtain ⟨hz, hTI, ⟨x0, y0, hTO⟩, h1, h2⟩ := st
    obtain ⟨ys, hqy, hiz, hiy, hend⟩ := hg
    obtain ⟨its2, rv2, p2, _⟩ := I.list hqy
    have l2 := rv2.length
    have hsz : its2.toArray.size = ys.length := by rw [List.size_toArray]; omega
    exact wpAny_pyNext_zipD2_end S (Draws.text (A := X.A.in1) (I.ok.hd hc) i1 zt t) (Draws.list (A := X.A.in1) (I.ok.hd hc) i2 b hb2 its2.toArray) hz hTI hTO h1 ⟨h2, p2.isList⟩ hiz (by omega) (by omega) fun h' tk hk => ⟨rfl, I.turnedL (t' := tk) (ch := [z, TI, TO, i1, i2]) (fun c o hb q =>
      hk c o (fun q' => hb (by simp [q'])) (fun q' => hb (by simp [q'])) (fun q' => hb (by simp [q'])) (fun q' => hb (by simp [q'])) q) hf⟩
  self := fun A i s Q E st h => wpAny_pyIter_zip st.1 h
def iZipS (K : PySem.W.Frag) (ta : TA) : TI := fun σ H R => ta σ H fun vs H1 => ∃ z b ys, vs = [.str z, .ref b] ∧ SqL K H1 b ys ∧ R (Itzs K z b) H1
theorem pi_zipS {X : Cx} {e e2 : Expr} {ta : TA} {p pos tpos : Pos} {elts : List Expr} {kk : Nat} (hg : Gl X "zip") (hm : X.mg "zip" = none) (ha : PA X [e, e2] ta)
    (hs : starEach [e, e2] X.env = (false, eval e X.env) :: starEach [e2] X.env := by rfl) (hpl : (backTo pos (starEach [e2] X.env)).any (·.1) = false := by rfl) :
    PI X (.Tuple elts kk tpos) (.Call (.Name "zip" p) [e, e2] [] pos) (iZipS X.K ta) := by
  refine ⟨fun pins s σ H R I h => ?_⟩
  refine Call_ (ld_blt I hg hm PyProof.Rows.boot_zip (PyProof.Rows.callWith_type1 (thn (ha.run pos pins s σ H _ I h) fun us s1 ⟨vs, H1, I1, r1, q1⟩ => ?_) hs hpl))
  obtain ⟨z, b, ys, ex, hqy, q⟩ := q1
  subst ex
  cases r1 with
  | cons r rr =>
    cases rr with
    | cons r' rr =>
      cases rr
      obtain ⟨t, rfl⟩ := r
      cases r'
      obtain ⟨its2, rv2, p2, _⟩ := I1.list hqy
      have lb : b < s1.heap.objs.size := p2.lt
      refine call_zip_str p2.isList fun h' hz hTI hTO h1 h2 hsz hk => wpAny_pyIter_zip hz ?_
      have I2 : Inv X pins σ H1 { s1 with heap := h' } := I1.kept (t' := s1.toks) hk
      refine ⟨s1.heap.objs.size + 4, [s1.heap.objs.size + 4, s1.heap.objs.size + 2, s1.heap.objs.size + 3, s1.heap.objs.size, s1.heap.objs.size + 1], _, _, H1, rfl, I2, turn_zipS (zsep s1.heap.objs.size b lb) (Nat.ne_of_lt (Nat.lt_succ_of_lt lb)), ⟨hz, hTI, ⟨_, _, hTO⟩, h1, h2⟩, fun c hcm => ?_, q⟩
      have e' : c = s1.heap.objs.size + 4 ∨ c = s1.heap.objs.size + 2 ∨ c = s1.heap.objs.size + 3 ∨ c = s1.heap.objs.size ∨ c = s1.heap.objs.size + 1 := by simpa using hcm
      have hle : s1.heap.objs.size ≤ c := by
        rcases e' with z | z | z | z | z
        · rw [z]; exact Nat.le_add_right _ _
        · rw [z]; exact Nat.le_add_right _ _
        · rw [z]; exact Nat.le_add_right _ _
        · rw [z]; exact Nat.le_refl _
        · rw [z]; exact Nat.le_add_right _ _
      exact I1.fpOk hle (I1.hok.fresh hle)
theorem walk_zipS {K : PySem.W.Frag} {z : Str} {b : Addr} {ys : List V} {n : Nat} (hn : n = min z.cps.size ys.length) :
    Walk (Itzs K z b) n (fun H => SqL K H b ys) (YPair (fun i => (z.cps[i]?).map fun c => .str ⟨#[c]⟩) (fun i => ys[i]?)) := by
  subst hn
  refine ⟨fun i _ hi q => ?_, fun _ q => ⟨ys, q, by omega, by omega, by omega⟩, fun i H v H' _ q y => ?_⟩
  · have h2 : i < ys.length := by omega
    exact ⟨by omega, ys, ys[i], q, by simp [h2]⟩
  · obtain ⟨T, c, x, h1, h2, h3, h4, h5⟩ := y
    exact ⟨T, .str ⟨#[c]⟩, x, h1, h2, h3, by simp [h4], h5 ys q⟩
end L2

set_option Elab.async false
set_option linter.all false
set_option maxRecDepth 100000
set_option maxHeartbeats 4000000
/-! exchanges: the path from one program to another -/
namespace Gn
open PySem PySem.Spec PyProof.Rows L2 Own Exn Mth Vld
/-- one exchange that is allowed -/
def St (p : List Nat) (j : Nat) (p' : List Nat) : Prop := j + 1 < p.length ∧ allowsN p j = true ∧ p' = swapN p j
def Pth : List Nat → List Nat → List Nat → Prop
  | [], p, q => p = q
  | j :: L, p, q => ∃ m, St p j m ∧ Pth L m q
theorem st_symm {p p' : List Nat} {j : Nat} (h : St p j p') : St p' j p := by
  obtain ⟨hj, ha, rfl⟩ := h
  have he := (swap_eff hj ha).2.2
  have hm : mixN p j = true := by rw [allows_keeps hj, Bool.and_eq_true] at ha; exact ha.1
  obtain ⟨a, x, y, b, rfl, rfl⟩ := cut2 hj
  have hm' : mixN (a ++ y :: x :: b) a.length = true := by
    have m1 : mixN (a ++ x :: y :: b) a.length = (decide (97 ≤ x) != decide (97 ≤ y)) := by
      unfold mixN
      rw [getD_of (mid a (y :: b) x), getD_of (mid1 a b x y)]
    have m2 : mixN (a ++ y :: x :: b) a.length = (decide (97 ≤ y) != decide (97 ≤ x)) := by
      unfold mixN
      rw [getD_of (mid a (x :: b) y), getD_of (mid1 a b y x)]
    rw [m1] at hm
    rw [m2]
    revert hm
    cases decide (97 ≤ x) <;> cases decide (97 ≤ y) <;> decide
  rw [swap_mid] at he ⊢
  have hl : a.length + 1 < (a ++ y :: x :: b).length := by rw [List.length_append, List.length_cons, List.length_cons]; omega
  refine ⟨hl, ?_, by rw [swap_mid]⟩
  rw [allows_keeps hl, hm', swap_mid, he, Bool.true_and]
  exact decide_eq_true rfl
theorem pth_app : ∀ (L M : List Nat) {p m q : List Nat}, Pth L p m → Pth M m q → Pth (L ++ M) p q
  | [], M, p, m, q, h, g => by cases h; exact g
  | j :: L, M, p, m, q, h, g => by
    obtain ⟨m1, s, t⟩ := h
    exact ⟨m1, s, pth_app L M t g⟩
theorem pth_rev : ∀ (L : List Nat) {p q : List Nat}, Pth L p q → Pth L.reverse q p
  | [], p, q, h => by cases h; rfl
  | j :: L, p, q, h => by
    obtain ⟨m, s, t⟩ := h
    rw [List.reverse_cons]
    exact pth_app _ _ (pth_rev L t) ⟨p, st_symm s, rfl⟩
theorem len_tp : ∀ p : List Nat, p.length = (tkS p).length + (puS p).length
  | [] => rfl
  | c :: p => by
    by_cases h : 97 ≤ c
    · rw [tkS_put h, puS_put h, List.length_cons, List.length_cons, len_tp p]; omega
    · rw [tkS_take h, puS_take h, List.length_cons, List.length_cons, len_tp p]; omega
theorem pcS_ge : ∀ (p : List Nat) (n : Nat), ∀ c ∈ pcS n p, n ≤ c
  | [], n, c, h => by cases h
  | x :: p, n, c, h => by
    rw [pcS_cons] at h
    by_cases hx : 97 ≤ x
    · rw [if_pos hx] at h
      have := pcS_ge p (n + 1) c h
      omega
    · rw [if_neg hx] at h
      rcases List.mem_cons.mp h with h | h
      · omega
      · exact pcS_ge p n c h
theorem pcS_sorted : ∀ (p : List Nat) (n : Nat), (pcS n p).Pairwise (· ≤ ·)
  | [], n => List.Pairwise.nil
  | x :: p, n => by
    rw [pcS_cons]
    by_cases hx : 97 ≤ x
    · rw [if_pos hx]; exact pcS_sorted p (n + 1)
    · rw [if_neg hx]; exact List.Pairwise.cons (fun c hc => pcS_ge p n c hc) (pcS_sorted p n)
theorem swap_tp {p : List Nat} {j : Nat} (h : j + 1 < p.length) (hm : mixN p j = true) : tkS (swapN p j) = tkS p ∧ puS (swapN p j) = puS p := by
  obtain ⟨a, x, y, b, rfl, rfl⟩ := cut2 h
  have m1 : mixN (a ++ x :: y :: b) a.length = (decide (97 ≤ x) != decide (97 ≤ y)) := by
    unfold mixN
    rw [getD_of (mid a (y :: b) x), getD_of (mid1 a b x y)]
  rw [m1] at hm
  rw [swap_mid]
  by_cases hx : 97 ≤ x
  · by_cases hy : 97 ≤ y
    · rw [decide_eq_true hx, decide_eq_true hy] at hm
      cases hm
    · exact ⟨by rw [tkS_app, tkS_app, tkS_take hy, tkS_put hx, tkS_put hx, tkS_take hy], by rw [puS_app, puS_app, puS_take hy, puS_put hx, puS_put hx, puS_take hy]⟩
  · by_cases hy : 97 ≤ y
    · exact ⟨by rw [tkS_app, tkS_app, tkS_put hy, tkS_take hx, tkS_take hx, tkS_put hy], by rw [puS_app, puS_app, puS_put hy, puS_take hx, puS_take hx, puS_put hy]⟩
    · rw [decide_eq_false hx, decide_eq_false hy] at hm
      cases hm
theorem mix_of {p : List Nat} {j : Nat} {o o' : Option Nat} (h : j + 1 < p.length) (n0 : (nums 0 p)[j]? = some o) (n1 : (nums 0 p)[j + 1]? = some o') (ho : o.isSome ≠ o'.isSome) : mixN p j = true := by
  obtain ⟨a, x, y, b, rfl, rfl⟩ := cut2 h
  have na : (nums 0 a).length = a.length := nums_len a 0
  have m1 : mixN (a ++ x :: y :: b) a.length = (decide (97 ≤ x) != decide (97 ≤ y)) := by
    unfold mixN
    rw [getD_of (mid a (y :: b) x), getD_of (mid1 a b x y)]
  rw [m1]
  rw [nums_app] at n0 n1
  by_cases hx : 97 ≤ x
  · by_cases hy : 97 ≤ y
    · rw [nums_put hx, nums_put hy, ← na] at n0 n1
      rw [mid] at n0
      rw [mid1] at n1
      cases n0; cases n1
      exact absurd rfl ho
    · rw [decide_eq_true hx, decide_eq_false hy]; rfl
  · by_cases hy : 97 ≤ y
    · rw [decide_eq_false hx, decide_eq_true hy]; rfl
    · rw [nums_take hx, nums_take hy, ← na] at n0 n1
      rw [mid] at n0
      rw [mid1] at n1
      cases n0; cases n1
      exact absurd rfl ho
/-- where the m-th take stands -/
theorem take_at {p : List Nat} {j m : Nat} (h : (nums 0 p)[j]? = some (some m)) : ∃ c, (pcS 0 p)[m]? = some c ∧ j = c + m := by
  have hm := (nums_in p 0 j m h).2
  have hl : m < (pcS 0 p).length := by rw [pcS_len]; omega
  refine ⟨(pcS 0 p)[m], List.getElem?_eq_getElem hl, ?_⟩
  refine (nums_at p 0 m _ (List.getElem?_eq_getElem hl) j).mp ?_
  rw [Nat.zero_add]
  exact h
theorem in_split {A B : List Nat} {u m c : Nat} (h : (A ++ u :: B)[m]? = some c) : (m < A.length ∧ c ∈ A) ∨ (m = A.length ∧ c = u) ∨ (A.length < m ∧ c ∈ B) := by
  rcases Nat.lt_trichotomy m A.length with q | q | q
  · rw [List.getElem?_append_left q] at h
    exact .inl ⟨q, List.mem_of_getElem? h⟩
  · rw [q, mid] at h
    injection h with h
    exact .inr (.inl ⟨q, h.symm⟩)
  · rw [List.getElem?_append_right (by omega)] at h
    obtain ⟨n, hn⟩ : ∃ n, m - A.length = n + 1 := ⟨m - A.length - 1, by omega⟩
    rw [hn] at h
    exact .inr (.inr ⟨q, List.mem_of_getElem? h⟩)
/-- these counts have this core -/
def Cr (R W : List Nat) (k : Nat) (C : List Nat) : Prop := ∀ r, tkS r = R → puS r = W → pcS 0 r = C → coreN r = k
section
variable {R W A B r : List Nat} {k v : Nat}
theorem step_down (hR : tkS r = R) (hW : puS r = W) (hc : pcS 0 r = A ++ (v + 1) :: B) (hA : ∀ a ∈ A, a ≤ v) (hB : ∀ b ∈ B, v + 1 ≤ b) (k0 : Cr R W k (A ++ (v + 1) :: B)) (k1 : Cr R W k (A ++ v :: B)) :
    ∃ r', St r (v + A.length) r' ∧ tkS r' = R ∧ puS r' = W ∧ pcS 0 r' = A ++ v :: B := by
  have n1 : (nums 0 r)[v + A.length + 1]? = some (some A.length) := by
    have := (nums_at r 0 A.length (v + 1) (by rw [hc]; exact mid _ _ _) (v + A.length + 1)).mpr (by omega)
    rw [Nat.zero_add] at this
    exact this
  have h : v + A.length + 1 < r.length := by
    have := (List.getElem?_eq_some_iff.mp n1).1
    rw [nums_len] at this
    exact this
  have hl : v + A.length < (nums 0 r).length := by rw [nums_len]; omega
  have n0 : (nums 0 r)[v + A.length]? = some none := by
    have e := List.getElem?_eq_getElem hl
    cases ho : (nums 0 r)[v + A.length] with
    | none => rw [e, ho]
    | some m =>
      rw [ho] at e
      obtain ⟨c, h1, h2⟩ := take_at e
      rw [hc] at h1
      rcases in_split h1 with ⟨q1, q2⟩ | ⟨q1, q2⟩ | ⟨q1, q2⟩
      · have := hA c q2; omega
      · omega
      · have := hB c q2; omega
  have hm : mixN r (v + A.length) = true := mix_of h n0 n1 (by intro h; cases h)
  obtain ⟨t1, t2⟩ := swap_tp h hm
  obtain ⟨c, c1, c2, _⟩ := swap_back h n0 n1
  rw [hc, mid] at c1
  injection c1 with c1
  have ec : c = v := by omega
  subst ec
  rw [hc, set_mid] at c2
  refine ⟨swapN r (c + A.length), ⟨h, ?_, rfl⟩, t1.trans hR, t2.trans hW, c2⟩
  rw [allows_keeps h, hm, k0 r hR hW hc, k1 _ (t1.trans hR) (t2.trans hW) c2, Bool.true_and]
  exact decide_eq_true rfl
theorem step_up (hR : tkS r = R) (hW : puS r = W) (hc : pcS 0 r = A ++ v :: B) (hA : ∀ a ∈ A, a ≤ v) (hB : ∀ b ∈ B, v + 1 ≤ b) (hv : v + 1 ≤ W.length) (k0 : Cr R W k (A ++ v :: B)) (k1 : Cr R W k (A ++ (v + 1) :: B)) :
    ∃ r', St r (v + A.length) r' ∧ tkS r' = R ∧ puS r' = W ∧ pcS 0 r' = A ++ (v + 1) :: B := by
  have n0 : (nums 0 r)[v + A.length]? = some (some A.length) := by
    have := (nums_at r 0 A.length v (by rw [hc]; exact mid _ _ _) (v + A.length)).mpr rfl
    rw [Nat.zero_add] at this
    exact this
  have h : v + A.length + 1 < r.length := by
    have e1 := len_tp r
    have e2 := pcS_len r 0
    rw [hc, List.length_append, List.length_cons] at e2
    rw [hW] at e1
    omega
  have hl : v + A.length + 1 < (nums 0 r).length := by rw [nums_len]; omega
  have n1 : (nums 0 r)[v + A.length + 1]? = some none := by
    have e := List.getElem?_eq_getElem hl
    cases ho : (nums 0 r)[v + A.length + 1] with
    | none => rw [e, ho]
    | some m =>
      rw [ho] at e
      obtain ⟨c, h1, h2⟩ := take_at e
      rw [hc] at h1
      rcases in_split h1 with ⟨q1, q2⟩ | ⟨q1, q2⟩ | ⟨q1, q2⟩
      · have := hA c q2; omega
      · omega
      · have := hB c q2; omega
  have hm : mixN r (v + A.length) = true := mix_of h n0 n1 (by intro h; cases h)
  obtain ⟨t1, t2⟩ := swap_tp h hm
  obtain ⟨c, c1, c2, _⟩ := swap_forth h n0 n1
  rw [hc, mid] at c1
  injection c1 with c1
  subst c1
  rw [hc, set_mid] at c2
  refine ⟨swapN r (v + A.length), ⟨h, ?_, rfl⟩, t1.trans hR, t2.trans hW, c2⟩
  rw [allows_keeps h, hm, k0 r hR hW hc, k1 _ (t1.trans hR) (t2.trans hW) c2, Bool.true_and]
  exact decide_eq_true rfl
end
def dnL (i v d : Nat) : List Nat := (List.range d).map fun t => v + d - t + i - 1
def upL (i v d : Nat) : List Nat := (List.range d).map fun t => v + t + i
theorem dnL_succ (i v d : Nat) : dnL i v (d + 1) = (v + d + i) :: dnL i v d := by
  unfold dnL
  rw [List.range_succ_eq_map, List.map_cons, List.map_map]
  refine congr (congrArg List.cons (by omega)) (List.map_congr_left fun t ht => ?_)
  have := List.mem_range.mp ht
  show v + (d + 1) - (t + 1) + i - 1 = v + d - t + i - 1
  omega
theorem upL_succ (i v d : Nat) : upL i v (d + 1) = upL i v d ++ [v + d + i] := by
  unfold upL
  rw [List.range_succ, List.map_append]
  rfl
section
variable {R W A B : List Nat} {k v : Nat}
theorem down_run (hA : ∀ a ∈ A, a ≤ v) : ∀ (d : Nat) (r : List Nat), tkS r = R → puS r = W → pcS 0 r = A ++ (v + d) :: B → (∀ b ∈ B, v + d ≤ b) → (∀ x, v ≤ x → x ≤ v + d → Cr R W k (A ++ x :: B)) →
    ∃ r', Pth (dnL A.length v d) r r' ∧ tkS r' = R ∧ puS r' = W ∧ pcS 0 r' = A ++ v :: B
  | 0, r, hR, hW, hc, _, _ => ⟨r, rfl, hR, hW, hc⟩
  | d + 1, r, hR, hW, hc, hB, hk => by
    obtain ⟨r1, s, h1, h2, h3⟩ := step_down (v := v + d) hR hW hc (fun a ha => Nat.le_trans (hA a ha) (Nat.le_add_right _ _)) hB (hk _ (by omega) (by omega)) (hk _ (by omega) (by omega))
    obtain ⟨r2, t, g⟩ := down_run hA d r1 h1 h2 h3 (fun b hb => by have := hB b hb; omega) (fun x hx hx' => hk x hx (by omega))
    exact ⟨r2, by rw [dnL_succ]; exact ⟨r1, s, t⟩, g⟩
theorem up_run (hA : ∀ a ∈ A, a ≤ v) : ∀ (d : Nat) (r : List Nat), tkS r = R → puS r = W → pcS 0 r = A ++ v :: B → (∀ b ∈ B, v + d ≤ b) → v + d ≤ W.length → (∀ x, v ≤ x → x ≤ v + d → Cr R W k (A ++ x :: B)) →
    ∃ r', Pth (upL A.length v d) r r' ∧ tkS r' = R ∧ puS r' = W ∧ pcS 0 r' = A ++ (v + d) :: B
  | 0, r, hR, hW, hc, _, _, _ => ⟨r, rfl, hR, hW, hc⟩
  | d + 1, r, hR, hW, hc, hB, hv, hk => by
    obtain ⟨r1, t, h1, h2, h3⟩ := up_run hA d r hR hW hc (fun b hb => by have := hB b hb; omega) (by omega) (fun x hx hx' => hk x hx (by omega))
    obtain ⟨r2, s, g⟩ := step_up (v := v + d) h1 h2 h3 (fun a ha => Nat.le_trans (hA a ha) (Nat.le_add_right _ _)) (fun b hb => by have := hB b hb; omega) (by omega) (hk _ (by omega) (by omega)) (hk _ (by omega) (by omega))
    exact ⟨r2, by rw [upL_succ]; exact pth_app _ _ t ⟨r2, s, rfl⟩, g⟩
end
def dnA : Nat → List Nat → List Nat → List Nat
  | i, c :: C, g :: G => dnL i (min c g) (c - min c g) ++ dnA (i + 1) C G
  | _, _, _ => []
def upA : Nat → List Nat → List Nat → List Nat
  | i, c :: C, g :: G => upA (i + 1) C G ++ upL i (min c g) (g - min c g)
  | _, _, _ => []
def pathN (C G : List Nat) : List Nat := dnA 0 C G ++ upA 0 C G
def distN : List Nat → List Nat → Nat
  | c :: C, g :: G => (c - g) + (g - c) + distN C G
  | _, _ => 0
theorem path_len : ∀ (C G : List Nat) (i : Nat), (dnA i C G).length + (upA i C G).length = distN C G
  | [], G, i => by cases G <;> rfl
  | c :: C, [], i => rfl
  | c :: C, g :: G, i => by
    show (dnL i (min c g) (c - min c g) ++ dnA (i + 1) C G).length + (upA (i + 1) C G ++ upL i (min c g) (g - min c g)).length = (c - g) + (g - c) + distN C G
    have e1 : (dnL i (min c g) (c - min c g)).length = c - min c g := by unfold dnL; rw [List.length_map, List.length_range]
    have e2 : (upL i (min c g) (g - min c g)).length = g - min c g := by unfold upL; rw [List.length_map, List.length_range]
    rw [List.length_append, List.length_append, e1, e2, ← path_len C G (i + 1)]
    omega
def Bt : List Nat → List Nat → List Nat → Prop
  | a :: L, x :: X, b :: U => a ≤ x ∧ x ≤ b ∧ Bt L X U
  | [], [], [] => True
  | _, _, _ => False
def mins (C G : List Nat) : List Nat := List.zipWith min C G
theorem bt_l : ∀ (C G : List Nat), C.length = G.length → Bt (mins C G) C C
  | [], [], _ => trivial
  | c :: C, g :: G, h => ⟨Nat.min_le_left _ _, Nat.le_refl _, bt_l C G (by simpa using h)⟩
  | [], _ :: _, h => by cases h
  | _ :: _, [], h => by cases h
theorem bt_r : ∀ (C G : List Nat), C.length = G.length → Bt (mins C G) G G
  | [], [], _ => trivial
  | c :: C, g :: G, h => ⟨Nat.min_le_right _ _, Nat.le_refl _, bt_r C G (by simpa using h)⟩
  | [], _ :: _, h => by cases h
  | _ :: _, [], h => by cases h
theorem bt_lo : ∀ {L X U : List Nat}, Bt L X U → ∀ (i a : Nat), L[i]? = some a → ∃ x, X[i]? = some x ∧ a ≤ x
  | a :: L, x :: X, b :: U, ⟨h1, _, h3⟩, i, a', h => by
    cases i with
    | zero =>
      have h : some a = some a' := h
      injection h with h
      exact ⟨x, rfl, by omega⟩
    | succ i => exact bt_lo h3 i a' h
  | [], [], [], _, i, a', h => by simp at h
theorem bt_hi : ∀ {L X U : List Nat}, Bt L X U → ∀ (i b : Nat), U[i]? = some b → ∃ x, X[i]? = some x ∧ x ≤ b
  | a :: L, x :: X, b :: U, ⟨_, h2, h3⟩, i, b', h => by
    cases i with
    | zero =>
      have h : some b = some b' := h
      injection h with h
      exact ⟨x, rfl, by omega⟩
    | succ i => exact bt_hi h3 i b' h
  | [], [], [], _, i, a', h => by simp at h
section
variable {R W : List Nat} {k : Nat}
theorem dn_run : ∀ (C G A r : List Nat), C.length = G.length → tkS r = R → puS r = W → pcS 0 r = A ++ C → C.Pairwise (· ≤ ·) → G.Pairwise (· ≤ ·) → (∀ a ∈ A, ∀ c ∈ C, a ≤ c) → (∀ a ∈ A, ∀ g ∈ G, a ≤ g) → (∀ X, Bt (mins C G) X C → Cr R W k (A ++ X)) →
    ∃ r', Pth (dnA A.length C G) r r' ∧ tkS r' = R ∧ puS r' = W ∧ pcS 0 r' = A ++ mins C G
  | [], [], A, r, _, hR, hW, hc, _, _, _, _, _ => ⟨r, rfl, hR, hW, hc⟩
  | [], _ :: _, _, _, h, _, _, _, _, _, _, _, _ => by cases h
  | _ :: _, [], _, _, h, _, _, _, _, _, _, _, _ => by cases h
  | c :: C, g :: G, A, r, hl, hR, hW, hc, sC, sG, aC, aG, hk => by
    have hl' : C.length = G.length := by simpa using hl
    obtain ⟨sc, sC⟩ := List.pairwise_cons.mp sC
    obtain ⟨sg, sG⟩ := List.pairwise_cons.mp sG
    have ec : min c g + (c - min c g) = c := by omega
    have hA : ∀ a ∈ A, a ≤ min c g := fun a ha => by
      have := aC a ha c (List.mem_cons_self ..)
      have := aG a ha g (List.mem_cons_self ..)
      omega
    obtain ⟨r1, t, h1, h2, h3⟩ := down_run (k := k) hA (c - min c g) r hR hW (by rw [ec]; exact hc) (by rw [ec]; exact sc) (fun x hx hx' => hk (x :: C) ⟨hx, by omega, bt_l C G hl'⟩)
    obtain ⟨r2, t2, g1, g2, g3⟩ := dn_run C G (A ++ [min c g]) r1 hl' h1 h2 (by rw [h3]; simp) sC sG
      (fun a ha c' hc' => by
        rcases List.mem_append.mp ha with ha | ha
        · exact aC a ha c' (List.mem_cons_of_mem _ hc')
        · have := sc c' hc'
          have := List.mem_singleton.mp ha
          omega)
      (fun a ha c' hc' => by
        rcases List.mem_append.mp ha with ha | ha
        · exact aG a ha c' (List.mem_cons_of_mem _ hc')
        · have := sg c' hc'
          have := List.mem_singleton.mp ha
          omega)
      (fun X hX => by
        have := hk (min c g :: X) ⟨Nat.le_refl _, Nat.min_le_left _ _, hX⟩
        rw [List.append_assoc]
        exact this)
    refine ⟨r2, ?_, g1, g2, by rw [g3, List.append_assoc]; rfl⟩
    rw [List.length_append] at t2
    exact pth_app _ _ t t2
theorem upA_run : ∀ (C G A r : List Nat), C.length = G.length → tkS r = R → puS r = W → pcS 0 r = A ++ mins C G → C.Pairwise (· ≤ ·) → G.Pairwise (· ≤ ·) → (∀ a ∈ A, ∀ c ∈ C, a ≤ c) → (∀ a ∈ A, ∀ g ∈ G, a ≤ g) → (∀ g ∈ G, g ≤ W.length) → (∀ X, Bt (mins C G) X G → Cr R W k (A ++ X)) →
    ∃ r', Pth (upA A.length C G) r r' ∧ tkS r' = R ∧ puS r' = W ∧ pcS 0 r' = A ++ G
  | [], [], A, r, _, hR, hW, hc, _, _, _, _, _, _ => ⟨r, rfl, hR, hW, hc⟩
  | [], _ :: _, _, _, h, _, _, _, _, _, _, _, _, _ => by cases h
  | _ :: _, [], _, _, h, _, _, _, _, _, _, _, _, _ => by cases h
  | c :: C, g :: G, A, r, hl, hR, hW, hc, sC, sG, aC, aG, wG, hk => by
    have hl' : C.length = G.length := by simpa using hl
    obtain ⟨sc, sC⟩ := List.pairwise_cons.mp sC
    obtain ⟨sg, sG⟩ := List.pairwise_cons.mp sG
    have ec : min c g + (g - min c g) = g := by omega
    have hA : ∀ a ∈ A, a ≤ min c g := fun a ha => by
      have := aC a ha c (List.mem_cons_self ..)
      have := aG a ha g (List.mem_cons_self ..)
      omega
    obtain ⟨r2, t2, g1, g2, g3⟩ := upA_run C G (A ++ [min c g]) r hl' hR hW (by rw [hc, List.append_assoc]; rfl) sC sG
      (fun a ha c' hc' => by
        rcases List.mem_append.mp ha with ha | ha
        · exact aC a ha c' (List.mem_cons_of_mem _ hc')
        · have := sc c' hc'
          have := List.mem_singleton.mp ha
          omega)
      (fun a ha c' hc' => by
        rcases List.mem_append.mp ha with ha | ha
        · exact aG a ha c' (List.mem_cons_of_mem _ hc')
        · have := sg c' hc'
          have := List.mem_singleton.mp ha
          omega)
      (fun g' hg' => wG g' (List.mem_cons_of_mem _ hg'))
      (fun X hX => by
        have := hk (min c g :: X) ⟨Nat.le_refl _, Nat.min_le_right _ _, hX⟩
        rw [List.append_assoc]
        exact this)
    obtain ⟨r1, t, h1, h2, h3⟩ := up_run (k := k) (B := G) hA (g - min c g) r2 g1 g2 (by rw [g3, List.append_assoc]; rfl) (by rw [ec]; exact sg) (by rw [ec]; exact wG g (List.mem_cons_self ..)) (fun x hx hx' => hk (x :: G) ⟨hx, by omega, bt_r C G hl'⟩)
    rw [ec] at h3
    refine ⟨r1, ?_, h1, h2, h3⟩
    rw [List.length_append] at t2
    exact pth_app _ _ t2 t
end
/-- the way from a program to an equivalent one -/
theorem path_run {p q : List Nat} (hR : tkS q = tkS p) (hW : puS q = puS p) (hk : coreN q = coreN p) : Pth (pathN (pcS 0 p) (pcS 0 q)) p q := by
  have hl : (pcS 0 p).length = (pcS 0 q).length := by rw [pcS_len, pcS_len, hR]
  by_cases hne : tkS p = []
  · have e1 : pcS 0 p = [] := List.eq_nil_of_length_eq_zero (by rw [pcS_len, hne]; rfl)
    have e2 : pcS 0 q = [] := List.eq_nil_of_length_eq_zero (by rw [pcS_len, hR, hne]; rfl)
    have e := prog_eq p q hR.symm hW.symm (e1.trans e2.symm)
    rw [e1, e2]
    exact e
  · obtain ⟨l1, y1⟩ := (same_core (p := p) (p' := p) rfl rfl hne).mp rfl
    obtain ⟨l2, y2⟩ := (same_core (p := p) (p' := q) hR hW hne).mp hk
    have lo : ∀ (X U : List Nat), Bt (mins (pcS 0 p) (pcS 0 q)) X U → ∀ (i l : Nat), (leastL (tkS p) (puS p) (coreN p))[i]? = some l → ∃ c, X[i]? = some c ∧ l ≤ c := fun X U hb i l h => by
      obtain ⟨c, hc, h1⟩ := l1 i l h
      obtain ⟨g, hg, h2⟩ := l2 i l h
      obtain ⟨x, hx, h3⟩ := bt_lo hb i (min c g) (by unfold mins; rw [List.getElem?_zipWith, hc, hg])
      exact ⟨x, hx, by omega⟩
    have ea : ∀ (L X U : List Nat), Bt L X U → 0 < earlyN U (earlyL (tkS p) (puS p) (coreN p)) → 0 < earlyN X (earlyL (tkS p) (puS p) (coreN p)) := fun L X U hb h => by
      obtain ⟨i, c, e, h1, h2, h3⟩ := (earlyN_pos _ _).mp h
      obtain ⟨x, hx, h4⟩ := bt_hi hb i c h1
      exact (earlyN_pos _ _).mpr ⟨i, x, e, hx, h2, by omega⟩
    have cr1 : ∀ X, Bt (mins (pcS 0 p) (pcS 0 q)) X (pcS 0 p) → Cr (tkS p) (puS p) (coreN p) ([] ++ X) := fun X hb r h1 h2 h3 => (same_core h1 h2 hne).mpr (by rw [h3, List.nil_append]; exact ⟨lo _ _ hb, ea _ _ _ hb y1⟩)
    have cr2 : ∀ X, Bt (mins (pcS 0 p) (pcS 0 q)) X (pcS 0 q) → Cr (tkS p) (puS p) (coreN p) ([] ++ X) := fun X hb r h1 h2 h3 => (same_core h1 h2 hne).mpr (by rw [h3, List.nil_append]; exact ⟨lo _ _ hb, ea _ _ _ hb y2⟩)
    obtain ⟨r, t, h1, h2, h3⟩ := dn_run (pcS 0 p) (pcS 0 q) [] p hl rfl rfl rfl (pcS_sorted p 0) (pcS_sorted q 0) (fun a ha => by cases ha) (fun a ha => by cases ha) cr1
    obtain ⟨r', t', g1, g2, g3⟩ := upA_run (pcS 0 p) (pcS 0 q) [] r hl h1 h2 h3 (pcS_sorted p 0) (pcS_sorted q 0) (fun a ha => by cases ha) (fun a ha => by cases ha) (fun g hg => by have := pcS_le q 0 g hg; rw [hW] at this; omega) cr2
    have e := prog_eq r' q (g1.trans hR.symm) (g2.trans hW.symm) g3
    rw [e] at t'
    exact pth_app _ _ t t'
end Gn

set_option Elab.async false
set_option linter.all false
set_option maxRecDepth 100000
set_option maxHeartbeats 4000000
/-! programs out of takes, puts and counts; distances -/
namespace Gn
open PySem PySem.Spec PyProof.Rows L2 Own Exn Mth Vld
theorem join_parts (L : List (List Nat)) : Txt.join "" (L.map mk) = mk L.flatten := by
  have e : ∀ x y : Str, (x ++ y).cps.toList = x.cps.toList ++ y.cps.toList := fun x y => Array.toList_append
  have : ∀ L : List (List Nat), cs (Str.join "" (L.map mk)) = L.flatten := by
    intro L
    induction L with
    | nil => rfl
    | cons a L ih =>
      cases L with
      | nil =>
        show cs (mk a) = _
        rw [cs_mk, List.flatten_cons, List.flatten_nil, List.append_nil]
      | cons b L =>
        show (mk a ++ "" ++ Str.join "" ((b :: L).map mk)).cps.toList = (a :: b :: L).flatten
        rw [e, e]
        show (cs (mk a) ++ []) ++ cs (Str.join "" ((b :: L).map mk)) = _
        rw [ih, cs_mk, List.append_nil]
        exact List.flatten_cons.symm
  refine str_cs ?_
  show cs (Builtin.Str.glued "" (L.map mk)) = _
  rw [PySem.StrLaws.glued_eq_join]
  exact this L
theorem sum_parts (L : List (List Nat)) (n : Nat) (h : ∀ x ∈ L, x.length ≤ n) : ((L.map mk).map (·.length)).sum ≤ L.length * n := by
  induction L with
  | nil => exact Nat.zero_le _
  | cons a L ih =>
    have h1 := h a (List.mem_cons_self ..)
    have h2 := ih fun x hx => h x (List.mem_cons_of_mem _ hx)
    rw [List.map_cons, List.map_cons, List.sum_cons, List.length_cons, len_mk, Nat.succ_mul]
    omega
theorem cut_ij (l : List Nat) {i j : Nat} (hi : i ≤ l.length) (hj : j ≤ l.length) : cutS (mk l) (some (i : Int)) (some (j : Int)) = mk ((l.drop i).take (j - i)) := by
  refine str_cs ?_
  show (((cs (mk l)).drop (HT.sIx (mk l).length 0 (some (i : Int)))).take (HT.sIx (mk l).length (mk l).length (some ((j : Nat) : Int)) - HT.sIx (mk l).length 0 (some (i : Int)))).toArray.toList = _
  rw [HT.sIx_nat, HT.sIx_nat, List.toList_toArray, cs_mk, len_mk, Nat.min_eq_left hi, Nat.min_eq_left hj]
/-- the program with these takes, puts and put counts -/
def arrN (W : List Nat) : List Nat → List Nat → Nat → List Nat
  | r :: R, c :: C, d => (W.drop d).take (c - d) ++ (r - 32) :: arrN W R C c
  | _, _, d => W.drop d
theorem arrN_end (W : List Nat) (d : Nat) : arrN W [] [] d = W.drop d := rfl
theorem arrN_len (W : List Nat) : ∀ (R C : List Nat) (d : Nat), (arrN W R C d).length ≤ (R.length + 1) * W.length + R.length
  | [], C, d => by
    show (W.drop d).length ≤ _
    rw [List.length_drop]
    show _ ≤ (0 + 1) * _ + 0
    omega
  | r :: R, [], d => by
    show (W.drop d).length ≤ _
    rw [List.length_drop, Nat.succ_mul]
    omega
  | r :: R, c :: C, d => by
    show ((W.drop d).take (c - d) ++ (r - 32) :: arrN W R C c).length ≤ _
    have := arrN_len W R C c
    rw [List.length_append, List.length_cons, List.length_take, List.length_drop, List.length_cons, Nat.succ_mul]
    omega
theorem arrN_mem (W : List Nat) : ∀ (R C : List Nat) (d x : Nat), x ∈ arrN W R C d → x ∈ W ∨ ∃ r ∈ R, x = r - 32
  | [], C, d, x, h => .inl (List.mem_of_mem_drop h)
  | r :: R, [], d, x, h => .inl (List.mem_of_mem_drop h)
  | r :: R, c :: C, d, x, h => by
    have h : x ∈ (W.drop d).take (c - d) ++ (r - 32) :: arrN W R C c := h
    rcases List.mem_append.mp h with h | h
    · exact .inl (List.mem_of_mem_drop (List.mem_of_mem_take h))
    · rcases List.mem_cons.mp h with h | h
      · exact .inr ⟨r, List.mem_cons_self .., h⟩
      · rcases arrN_mem W R C c x h with h | ⟨r', hr, e⟩
        · exact .inl h
        · exact .inr ⟨r', List.mem_cons_of_mem _ hr, e⟩
theorem leastL_le (R W : List Nat) (k : Nat) : ∀ c ∈ leastL R W k, c ≤ W.length := by
  intro c h
  unfold leastL at h
  rcases List.mem_append.mp h with h | h
  · have := List.eq_of_mem_replicate h
    omega
  · obtain ⟨e, he, rfl⟩ := List.mem_map.mp h
    have := ((emb_asc W (R.drop k) 0).mem he).2
    omega
def absN (c g : Nat) : Int := if ((c : Nat) : Int) - ((g : Nat) : Int) < 0 then -(((c : Nat) : Int) - ((g : Nat) : Int)) else ((c : Nat) : Int) - ((g : Nat) : Int)
def disL (C G : List Nat) : List Int := List.zipWith absN C G
theorem disL_sum : ∀ C G : List Nat, (disL C G).sum = ((distN C G : Nat) : Int)
  | [], G => by cases G <;> rfl
  | c :: C, [] => rfl
  | c :: C, g :: G => by
    show (absN c g :: disL C G).sum = (((c - g) + (g - c) + distN C G : Nat) : Int)
    rw [List.sum_cons, disL_sum C G]
    unfold absN
    split <;> omega
theorem dnA_snoc : ∀ (A B : List Nat) (i c g : Nat), A.length = B.length → dnA i (A ++ [c]) (B ++ [g]) = dnA i A B ++ dnL (i + A.length) (min c g) (c - min c g)
  | [], [], i, c, g, _ => by
    show dnL i _ _ ++ [] = [] ++ dnL (i + 0) _ _
    rw [List.append_nil, List.nil_append]
    rfl
  | a :: A, b :: B, i, c, g, h => by
    show dnL i _ _ ++ dnA (i + 1) (A ++ [c]) (B ++ [g]) = (dnL i _ _ ++ dnA (i + 1) A B) ++ _
    rw [dnA_snoc A B (i + 1) c g (by simpa using h), List.append_assoc, List.length_cons, show i + 1 + A.length = i + (A.length + 1) by omega]
  | [], _ :: _, _, _, _, h => by cases h
  | _ :: _, [], _, _, _, h => by cases h
theorem mins_snoc : ∀ (A B : List Nat) (c g : Nat), A.length = B.length → mins (A ++ [c]) (B ++ [g]) = mins A B ++ [min c g]
  | [], [], c, g, _ => rfl
  | a :: A, b :: B, c, g, h => by
    show min a b :: mins (A ++ [c]) (B ++ [g]) = _
    rw [mins_snoc A B c g (by simpa using h)]
    rfl
  | [], _ :: _, _, _, h => by cases h
  | _ :: _, [], _, _, h => by cases h
theorem mins_len (C G : List Nat) (h : C.length = G.length) : (mins C G).length = C.length := by unfold mins; rw [List.length_zipWith, h, Nat.min_self]
theorem mins_get {C G : List Nat} {i c g : Nat} (hc : C[i]? = some c) (hg : G[i]? = some g) : (mins C G)[i]? = some (min c g) := by unfold mins; rw [List.getElem?_zipWith, hc, hg]
theorem upA_drop {C G : List Nat} {i c g : Nat} (hc : C[i]? = some c) (hg : G[i]? = some g) : upA i (C.drop i) (G.drop i) = upA (i + 1) (C.drop (i + 1)) (G.drop (i + 1)) ++ upL i (min c g) (g - min c g) := by
  obtain ⟨h1, e1⟩ := List.getElem?_eq_some_iff.mp hc
  obtain ⟨h2, e2⟩ := List.getElem?_eq_some_iff.mp hg
  rw [List.drop_eq_getElem_cons h1, List.drop_eq_getElem_cons h2, e1, e2]
  rfl
theorem dist_le : ∀ (C G : List Nat) (n : Nat), (∀ c ∈ C, c ≤ n) → (∀ g ∈ G, g ≤ n) → distN C G ≤ C.length * n
  | [], G, n, _, _ => by cases G <;> exact Nat.zero_le _
  | c :: C, [], n, _, _ => Nat.zero_le _
  | c :: C, g :: G, n, h1, h2 => by
    have := dist_le C G n (fun x hx => h1 x (List.mem_cons_of_mem _ hx)) (fun x hx => h2 x (List.mem_cons_of_mem _ hx))
    have := h1 c (List.mem_cons_self ..)
    have := h2 g (List.mem_cons_self ..)
    show (c - g) + (g - c) + distN C G ≤ _
    rw [List.length_cons, Nat.succ_mul]
    omega
end Gn

set_option Elab.async false
set_option linter.all false
set_option maxRecDepth 100000
set_option maxHeartbeats 4000000
/-! programs of two signs, and programs whose takes are served -/
namespace Gn
open PySem PySem.Spec PyProof.Rows L2 Own Exn Mth Vld
theorem emb_never {y : Nat} : ∀ (W R : List Nat) (o : Nat), y ∉ W → emb (y :: R) W o = []
  | [], R, o, _ => by rw [emb_none']
  | x :: W, R, o, h => by
    rw [emb_no (fun e => h (by rw [e]; exact List.mem_cons_self ..)), emb_never W R (o + 1) fun e => h (List.mem_cons_of_mem _ e)]
theorem core_never {p : List Nat} {s y : Nat} (hR : tkS p = List.replicate s y) (hW : y ∉ puS p) : coreN p = s := by
  have h1 := core_fits p
  have h2 := (pend_core p).2
  rw [hR, List.drop_replicate] at h1
  rw [hR, List.length_replicate] at h2
  cases e : s - coreN p with
  | zero => omega
  | succ n =>
    rw [e, List.replicate_succ, emb_never _ _ _ hW] at h1
    cases h1
theorem tk_rp {x : Nat} (h : 97 ≤ x) : ∀ f, tkS (List.replicate f x) = []
  | 0 => rfl
  | f + 1 => by rw [List.replicate_succ, tkS_put h, tk_rp h f]
theorem pu_rp {x : Nat} (h : 97 ≤ x) : ∀ f, puS (List.replicate f x) = List.replicate f x
  | 0 => rfl
  | f + 1 => by rw [List.replicate_succ, puS_put h, pu_rp h f]
theorem pc_rp {x : Nat} (h : 97 ≤ x) : ∀ f n, pcS n (List.replicate f x) = []
  | 0, n => rfl
  | f + 1, n => by rw [List.replicate_succ, pcS_cons, if_pos h, pc_rp h f]
theorem tk_rt {c : Nat} (h : ¬ 97 ≤ c) : ∀ s, tkS (List.replicate s c) = List.replicate s (c + 32)
  | 0 => rfl
  | s + 1 => by rw [List.replicate_succ, tkS_take h, tk_rt h s]; rfl
theorem pu_rt {c : Nat} (h : ¬ 97 ≤ c) : ∀ s, puS (List.replicate s c) = []
  | 0 => rfl
  | s + 1 => by rw [List.replicate_succ, puS_take h, pu_rt h s]
theorem pc_rt {c : Nat} (h : ¬ 97 ≤ c) : ∀ s n, pcS n (List.replicate s c) = List.replicate s n
  | 0, n => rfl
  | s + 1, n => by rw [List.replicate_succ, pcS_cons, if_neg h, pc_rt h s]; rfl
theorem dist_rep (u v : Nat) : ∀ s, distN (List.replicate s u) (List.replicate s v) = s * ((u - v) + (v - u))
  | 0 => by rw [Nat.zero_mul]; rfl
  | s + 1 => by
    show (u - v) + (v - u) + distN (List.replicate s u) (List.replicate s v) = _
    rw [dist_rep u v s, Nat.succ_mul]
    omega
theorem arr_zero (W : List Nat) (y : Nat) : ∀ s, arrN W (List.replicate s y) (List.replicate s 0) 0 = List.replicate s (y - 32) ++ W
  | 0 => rfl
  | s + 1 => by
    show (W.drop 0).take (0 - 0) ++ (y - 32) :: arrN W (List.replicate s y) (List.replicate s 0) 0 = _
    rw [arr_zero W y s]
    rfl
theorem least_never {R W : List Nat} {s y : Nat} (hR : R = List.replicate s y) : leastL R W s = List.replicate s 0 := by
  unfold leastL
  rw [hR, List.drop_replicate, Nat.sub_self]
  show List.replicate s 0 ++ (emb [] W 0).map (· + 1) = _
  rw [emb_nil]
  show List.replicate s 0 ++ [] = _
  rw [List.append_nil]
theorem filter_eq1 (k : Nat) : ∀ N, (List.range N).filter (fun i => decide (i = k)) = if k < N then [k] else []
  | 0 => by rw [if_neg (by omega)]; rfl
  | N + 1 => by
    rw [List.range_succ, List.filter_append, filter_eq1 k N]
    by_cases h : N = k
    · subst h
      rw [if_neg (by omega), if_pos (by omega)]
      show [] ++ (List.filter _ [N]) = [N]
      rw [List.filter_cons_of_pos (by simp)]
      rfl
    · rw [show List.filter (fun i => decide (i = k)) [N] = [] from List.filter_cons_of_neg (by simp [h]), List.append_nil]
      by_cases h2 : k < N
      · rw [if_pos h2, if_pos (by omega)]
      · rw [if_neg h2, if_neg (by omega)]
def exchL (p : List Nat) : List Nat := (List.range p.length).filter (allowsN p)
theorem exch_two {p : List Nat} {u v m n : Nat} (hp : p = List.replicate m u ++ List.replicate n v) (hm : 1 ≤ m) (hn : 1 ≤ n) (ne : (decide (97 ≤ u) != decide (97 ≤ v)) = true) (hk : ∀ r, tkS r = tkS p → puS r = puS p → coreN r = coreN p) : exchL p = [m - 1] := by
  have lp : p.length = m + n := by rw [hp, List.length_append, List.length_replicate, List.length_replicate]
  have at_ : ∀ i, i < m + n → p.getD i 0 = if i < m then u else v := fun i hi => by
    refine getD_of ?_
    rw [hp]
    by_cases h : i < m
    · rw [List.getElem?_append_left (by rw [List.length_replicate]; exact h), List.getElem?_replicate, if_pos h, if_pos h]
    · rw [List.getElem?_append_right (by rw [List.length_replicate]; omega), List.length_replicate, List.getElem?_replicate, if_pos (by omega), if_neg h]
  have key : ∀ i, i < m + n → allowsN p i = decide (i = m - 1) := fun i hi => by
    by_cases h : i + 1 < p.length
    · have hmix : mixN p i = decide (i = m - 1) := by
        unfold mixN
        rw [at_ i hi, at_ (i + 1) (by omega)]
        by_cases h1 : i < m
        · rw [if_pos h1]
          by_cases h2 : i + 1 < m
          · rw [if_pos h2, decide_eq_false (show ¬ i = m - 1 by omega)]
            cases decide (97 ≤ u) <;> rfl
          · rw [if_neg h2, decide_eq_true (show i = m - 1 by omega)]
            exact ne
        · rw [if_neg h1, if_neg (by omega), decide_eq_false (show ¬ i = m - 1 by omega)]
          cases decide (97 ≤ v) <;> rfl
      rw [allows_keeps h, hmix]
      by_cases h1 : i = m - 1
      · have ht := swap_tp h (hmix.trans (decide_eq_true h1))
        rw [decide_eq_true (hk _ ht.1 ht.2), Bool.and_true]
      · rw [decide_eq_false h1, Bool.false_and]
    · rw [decide_eq_false (show ¬ i = m - 1 by omega)]
      unfold allowsN
      rw [List.getElem?_eq_none (show (nums 0 p).length ≤ i + 1 by rw [nums_len]; omega)]
      cases (nums 0 p)[i]? with
      | none => rfl
      | some o => cases o <;> rfl
  unfold exchL
  rw [lp, List.filter_congr (q := fun i => decide (i = m - 1)) (fun i hi => key i (List.mem_range.mp hi)), filter_eq1, if_pos (by omega)]
theorem emb_rep (x : Nat) {n f : Nat} (h : n ≤ f) : emb (List.replicate n x) (List.replicate f x) 0 = List.range' 0 n := by
  have := emb_pre (List.replicate (f - n) x) n (List.replicate n x) 0 (by rw [List.length_replicate]; exact Nat.le_refl _)
  rw [List.take_of_length_le (by rw [List.length_replicate]; exact Nat.le_refl _), List.replicate_append_replicate, show n + (f - n) = f by omega, List.drop_replicate, Nat.sub_self] at this
  rw [this]
  show List.range' 0 n ++ emb [] _ _ = _
  rw [emb_nil, List.append_nil]
theorem core_served {p : List Nat} {n f x : Nat} (h : n ≤ f) (hR : tkS p = List.replicate n x) (hW : puS p = List.replicate f x) (hC : ∀ i, i < n → ∃ c, (pcS 0 p)[i]? = some c ∧ i + 1 ≤ c) : coreN p = 0 := by
  refine Nat.le_zero.mp ((core_fit p (m := 0) (Nat.zero_le _)).mpr ⟨?_, fun i e he => ?_⟩)
  · rw [List.drop_zero, hR, hW, emb_rep x h, List.length_range', List.length_replicate]
  · rw [List.drop_zero, hR, hW, emb_rep x h] at he
    have hi : i < n := by
      have := (List.getElem?_eq_some_iff.mp he).1
      rwa [List.length_range'] at this
    rw [List.getElem?_range' hi] at he
    injection he with he
    obtain ⟨c, hc, hle⟩ := hC i hi
    exact ⟨c, by rw [Nat.zero_add]; exact hc, by omega⟩
theorem least_served {n f x : Nat} (h : n ≤ f) : leastL (List.replicate n x) (List.replicate f x) 0 = List.range' 1 n := by
  unfold leastL
  rw [List.drop_zero, emb_rep x h]
  show [] ++ (List.range' 0 n).map (· + 1) = _
  rw [List.nil_append]
  refine List.ext_getElem? fun i => ?_
  rw [List.getElem?_map]
  by_cases hi : i < n
  · rw [List.getElem?_range' hi, List.getElem?_range' hi]
    show some (0 + 1 * i + 1) = some (1 + 1 * i)
    exact congrArg some (by omega)
  · rw [List.getElem?_eq_none (by rw [List.length_range']; omega), List.getElem?_eq_none (by rw [List.length_range']; omega)]
    rfl
def dueL (x n k : Nat) : List Nat := (List.replicate n [x, x - 32]).flatten ++ List.replicate k x
theorem due_succ (x n k : Nat) : dueL x (n + 1) k = x :: (x - 32) :: dueL x n k := by unfold dueL; rw [List.replicate_succ, List.flatten_cons]; rfl
theorem arr_served (x f : Nat) : ∀ n d, d + n ≤ f → arrN (List.replicate f x) (List.replicate n x) (List.range' (d + 1) n) d = dueL x n (f - n - d)
  | 0, d, h => by
    show (List.replicate f x).drop d = [] ++ List.replicate (f - 0 - d) x
    rw [List.drop_replicate, List.nil_append, Nat.sub_zero]
  | n + 1, d, h => by
    rw [List.range'_succ, List.replicate_succ, due_succ]
    show ((List.replicate f x).drop d).take (d + 1 - d) ++ (x - 32) :: arrN (List.replicate f x) (List.replicate n x) (List.range' (d + 1 + 1) n) (d + 1) = _
    rw [arr_served x f n (d + 1) (by omega), List.drop_replicate, show d + 1 - d = 1 by omega, List.take_replicate, show min 1 (f - d) = 1 by omega, show f - n - (d + 1) = f - (n + 1) - d by omega]
    rfl
theorem due_tk {x : Nat} (h : 97 ≤ x) (h' : x < 129) : ∀ n k, tkS (dueL x n k) = List.replicate n x
  | 0, k => by show tkS ([] ++ List.replicate k x) = []; rw [List.nil_append, tk_rp h]
  | n + 1, k => by rw [due_succ, tkS_put h, tkS_take (by omega), due_tk h h' n k, show x - 32 + 32 = x by omega]; rfl
theorem due_pu {x : Nat} (h : 97 ≤ x) (h' : x < 129) : ∀ n k, puS (dueL x n k) = List.replicate (n + k) x
  | 0, k => by show puS ([] ++ List.replicate k x) = _; rw [List.nil_append, pu_rp h, Nat.zero_add]
  | n + 1, k => by rw [due_succ, puS_put h, puS_take (by omega), due_pu h h' n k, show n + 1 + k = n + k + 1 by omega, List.replicate_succ]
theorem due_pc {x : Nat} (h : 97 ≤ x) (h' : x < 129) : ∀ n k d, pcS d (dueL x n k) = List.range' (d + 1) n
  | 0, k, d => by show pcS d ([] ++ List.replicate k x) = []; rw [List.nil_append, pc_rp h]
  | n + 1, k, d => by rw [due_succ, pcS_cons, if_pos h, pcS_cons, if_neg (by omega), due_pc h h' n k (d + 1), List.range'_succ]
theorem due_len (x n k : Nat) : (dueL x n k).length = 2 * n + k := by
  induction n with
  | zero => show ([] ++ List.replicate k x).length = _; rw [List.nil_append, List.length_replicate]; omega
  | succ n ih => rw [due_succ, List.length_cons, List.length_cons, ih]; omega
def fallL (f d n : Nat) : List Int := (List.range' (d + 1) n).map fun j => ((f : Nat) : Int) - ((j : Nat) : Int)
theorem fall_sum (f : Nat) : ∀ n d, d + n ≤ f → (fallL f d n).sum = ((distN (List.replicate n f) (List.range' (d + 1) n) : Nat) : Int)
  | 0, d, h => rfl
  | n + 1, d, h => by
    unfold fallL
    rw [List.range'_succ, List.map_cons, List.sum_cons]
    have := fall_sum f n (d + 1) (by omega)
    unfold fallL at this
    rw [this]
    show _ = ((f - (d + 1) + (d + 1 - f) + distN (List.replicate n f) (List.range' (d + 1 + 1) n) : Nat) : Int)
    omega
end Gn

set_option Elab.async false
set_option linter.all false
set_option maxRecDepth 100000
set_option maxHeartbeats 4000000
/-! the search over exchanges by layers -/
namespace Gn
open PySem PySem.Spec PyProof.Rows L2 Own Exn Mth Vld
theorem u1 {A : Around} {k : Nat} (h : Room k A) : A.units + 1 < cLine := by have := h.units; omega
/-- distances -/
theorem dist_comm : ∀ C G : List Nat, distN C G = distN G C
  | [], G => by cases G <;> rfl
  | c :: C, [] => rfl
  | c :: C, g :: G => by
    show (c - g) + (g - c) + distN C G = (g - c) + (c - g) + distN G C
    rw [dist_comm C G]
    omega
theorem dist_zero : ∀ C G : List Nat, C.length = G.length → distN C G = 0 → C = G
  | [], [], _, _ => rfl
  | [], g :: G, h, _ => by cases h
  | c :: C, [], h, _ => by cases h
  | c :: C, g :: G, h, e => by
    have e : (c - g) + (g - c) + distN C G = 0 := e
    rw [dist_zero C G (Nat.succ.inj h) (by omega), show c = g by omega]
theorem dist_self : ∀ C : List Nat, distN C C = 0
  | [] => rfl
  | c :: C => by
    show (c - c) + (c - c) + distN C C = 0
    rw [dist_self C]
    omega
theorem dist_mid (u v : Nat) (h1 : u ≤ v + 1) (h2 : v ≤ u + 1) : ∀ (A B F : List Nat), distN F (A ++ v :: B) ≤ distN F (A ++ u :: B) + 1
  | [], B, [] => Nat.zero_le _
  | [], B, f :: F => by
    show (f - v) + (v - f) + distN F B ≤ (f - u) + (u - f) + distN F B + 1
    omega
  | a :: A, B, [] => Nat.zero_le _
  | a :: A, B, f :: F => by
    have := dist_mid u v h1 h2 A B F
    show (f - a) + (a - f) + distN F (A ++ v :: B) ≤ (f - a) + (a - f) + distN F (A ++ u :: B) + 1
    omega
theorem swap_dist {p : List Nat} {j : Nat} (h : j + 1 < p.length) (hm : mixN p j = true) (F : List Nat) : distN F (pcS 0 (swapN p j)) ≤ distN F (pcS 0 p) + 1 := by
  obtain ⟨a, x, y, b, rfl, rfl⟩ := cut2 h
  have m1 : mixN (a ++ x :: y :: b) a.length = (decide (97 ≤ x) != decide (97 ≤ y)) := by
    unfold mixN
    rw [getD_of (mid a (y :: b) x), getD_of (mid1 a b x y)]
  rw [m1] at hm
  rw [swap_mid]
  by_cases hx : 97 ≤ x
  · by_cases hy : 97 ≤ y
    · rw [decide_eq_true hx, decide_eq_true hy] at hm
      cases hm
    · rw [pcS_app, pcS_app, pcS_cons, if_neg hy, pcS_cons, if_pos hx, pcS_cons, if_pos hx, pcS_cons, if_neg hy]
      exact dist_mid _ _ (by omega) (by omega) _ _ _
  · by_cases hy : 97 ≤ y
    · rw [pcS_app, pcS_app, pcS_cons, if_pos hy, pcS_cons, if_neg hx, pcS_cons, if_neg hx, pcS_cons, if_pos hy]
      exact dist_mid _ _ (by omega) (by omega) _ _ _
    · rw [decide_eq_false hx, decide_eq_false hy] at hm
      cases hm
theorem st_mix {p p' : List Nat} {j : Nat} (s : St p j p') : j + 1 < p.length ∧ mixN p j = true ∧ p' = swapN p j ∧ tkS p' = tkS p ∧ puS p' = puS p ∧ coreN p' = coreN p := by
  obtain ⟨hj, ha, rfl⟩ := s
  obtain ⟨e1, e2, e3⟩ := swap_eff hj ha
  rw [allows_keeps hj, Bool.and_eq_true] at ha
  exact ⟨hj, ha.1, rfl, e1, e2, e3⟩
theorem pth_dist : ∀ (L : List Nat) {p q : List Nat}, Pth L p q → distN (pcS 0 q) (pcS 0 p) ≤ L.length
  | [], p, q, h => by
    cases h
    rw [dist_self]
    exact Nat.zero_le _
  | j :: L, p, q, ⟨m, s, t⟩ => by
    have h1 := pth_dist L t
    obtain ⟨l, hm, e, _⟩ := st_mix (st_symm s)
    have h2 := swap_dist l hm (pcS 0 q)
    rw [← e] at h2
    rw [List.length_cons]
    omega
/-- the layers: programs of one effect, their distances from the first one -/
abbrev dst (f q : List Nat) : Nat := distN (pcS 0 f) (pcS 0 q)
theorem dst_zero {f q : List Nat} (he : effEq f q) (h : dst f q = 0) : q = f :=
  prog_eq q f he.1.symm he.2.1.symm (dist_zero _ _ (by rw [pcS_len, pcS_len, he.1]) h).symm
/-- the neighbours -/
def nbJ (p : List Nat) : List Nat := (List.range (p.length - 1)).filter (mixN p)
def nbL (p : List Nat) : List (List Nat) := (nbJ p).map (swapN p)
theorem nb_mem {p n : List Nat} (h : n ∈ nbL p) : ∃ j, j + 1 < p.length ∧ mixN p j = true ∧ n = swapN p j := by
  obtain ⟨j, hj, rfl⟩ := List.mem_map.mp h
  obtain ⟨h1, h2⟩ := List.mem_filter.mp hj
  exact ⟨j, by have := List.mem_range.mp h1; omega, h2, rfl⟩
theorem mem_nb {p : List Nat} {j : Nat} (h : j + 1 < p.length) (hm : mixN p j = true) : swapN p j ∈ nbL p :=
  List.mem_map.mpr ⟨j, List.mem_filter.mpr ⟨List.mem_range.mpr (by omega), hm⟩, rfl⟩
theorem nb_step {f p n : List Nat} (h : n ∈ nbL p) : tkS n = tkS p ∧ puS n = puS p ∧ dst f n ≤ dst f p + 1 := by
  obtain ⟨j, hj, hm, rfl⟩ := nb_mem h
  exact ⟨(swap_tp hj hm).1, (swap_tp hj hm).2, swap_dist hj hm _⟩
theorem eff_symm {p q : List Nat} (h : effEq p q) : effEq q p := ⟨h.1.symm, h.2.1.symm, h.2.2.symm⟩
theorem layer_back {f q : List Nat} {d : Nat} (he : effEq f q) (h : dst f q = d + 1) : ∃ m, effEq f m ∧ dst f m = d ∧ q ∈ nbL m := by
  have hp := path_run (p := q) (q := f) he.1 he.2.1 he.2.2
  have hl : (pathN (pcS 0 q) (pcS 0 f)).length = d + 1 := by
    unfold pathN
    rw [List.length_append, path_len, dist_comm]
    exact h
  cases e : pathN (pcS 0 q) (pcS 0 f) with
  | nil => rw [e] at hl; cases hl
  | cons j L =>
    rw [e] at hp hl
    obtain ⟨m, s, t⟩ := hp
    have h1 := pth_dist L t
    obtain ⟨l, hm, eq, e1, e2, e3⟩ := st_mix (st_symm s)
    have h2 := swap_dist l hm (pcS 0 f)
    rw [← eq] at h2
    have hl : L.length + 1 = d + 1 := hl
    have h : distN (pcS 0 f) (pcS 0 q) = d + 1 := h
    refine ⟨m, ⟨he.1.trans e1, he.2.1.trans e2, he.2.2.trans e3⟩, ?_, ?_⟩
    · show distN (pcS 0 f) (pcS 0 m) = d
      omega
    · rw [eq]
      exact mem_nb l hm
theorem layer_none {f : List Nat} {d : Nat} (h : ∀ q, effEq f q → dst f q ≠ d) : ∀ (k : Nat) (q : List Nat), effEq f q → dst f q ≠ d + k
  | 0, q, he => h q he
  | k + 1, q, he => fun e => by
    obtain ⟨m, hm, em, _⟩ := layer_back (d := d + k) he e
    exact layer_none h k m hm em
/-- all programs with these takes and puts -/
def allL : List Nat → List Nat → List (List Nat)
  | [], g => [g]
  | x :: w, [] => [(x :: w).map (· - 32)]
  | x :: w, y :: g => (allL w (y :: g)).map ((x - 32) :: ·) ++ (allL (x :: w) g).map (y :: ·)
termination_by w g => w.length + g.length
theorem allL_w (w : List Nat) : allL w [] = [w.map (· - 32)] := by
  cases w with
  | nil => rw [allL]; rfl
  | cons x w => rw [allL]
theorem allL_g (g : List Nat) : allL [] g = [g] := by rw [allL]
theorem allL_c (x y : Nat) (w g : List Nat) : allL (x :: w) (y :: g) = (allL w (y :: g)).map ((x - 32) :: ·) ++ (allL (x :: w) g).map (y :: ·) := by rw [allL]
theorem all_le : ∀ (n : Nat) (w g : List Nat), w.length + g.length = n → (allL w g).length ≤ 2 ^ n
  | n, [], g, _ => by
    rw [allL_g]
    exact Nat.one_le_two_pow
  | n, x :: w, [], _ => by
    rw [allL_w]
    exact Nat.one_le_two_pow
  | 0, x :: w, y :: g, h => by
    rw [List.length_cons] at h
    omega
  | n + 1, x :: w, y :: g, h => by
    rw [List.length_cons, List.length_cons] at h
    have h1 := all_le n w (y :: g) (by rw [List.length_cons]; omega)
    have h2 := all_le n (x :: w) g (by rw [List.length_cons]; omega)
    rw [allL_c, List.length_append, List.length_map, List.length_map, Nat.pow_succ]
    omega
theorem all_pos : ∀ (w g : List Nat), 1 ≤ (allL w g).length
  | [], g => by rw [allL_g]; exact Nat.le_refl _
  | x :: w, [] => by rw [allL_w]; exact Nat.le_refl _
  | x :: w, y :: g => by
    have := all_pos w (y :: g)
    rw [allL_c, List.length_append, List.length_map]
    omega
theorem tk_dn : ∀ {w : List Nat}, (∀ c ∈ w, c ∈ lo8) → tkS (w.map (· - 32)) = w ∧ puS (w.map (· - 32)) = [] ∧ ∀ c ∈ w.map (· - 32), c ∈ st16
  | [], _ => ⟨rfl, rfl, fun _ h => (nomatch h)⟩
  | x :: w, h => by
    obtain ⟨i1, i2, i3⟩ := tk_dn fun c hc => h c (List.mem_cons_of_mem _ hc)
    have hx := (mem_lo8 x).mp (h x (List.mem_cons_self ..))
    have hn : ¬ 97 ≤ x - 32 := by omega
    refine ⟨?_, ?_, ?_⟩
    · rw [List.map_cons, tkS_take hn, i1, show x - 32 + 32 = x by omega]
    · rw [List.map_cons, puS_take hn, i2]
    · intro c hc
      rw [List.map_cons] at hc
      rcases List.mem_cons.mp hc with rfl | hc
      · rw [mem_st16]; omega
      · exact i3 c hc
theorem pu_up : ∀ {g : List Nat}, (∀ c ∈ g, c ∈ lo8) → tkS g = [] ∧ puS g = g
  | [], _ => ⟨rfl, rfl⟩
  | y :: g, h => by
    obtain ⟨i1, i2⟩ := pu_up fun c hc => h c (List.mem_cons_of_mem _ hc)
    have hy := (mem_lo8 y).mp (h y (List.mem_cons_self ..))
    rw [tkS_put hy.1, puS_put hy.1, i1, i2]
    exact ⟨rfl, rfl⟩
theorem lo_st {g : List Nat} (h : ∀ c ∈ g, c ∈ lo8) : ∀ c ∈ g, c ∈ st16 := fun c hc => by
  have := (mem_lo8 c).mp (h c hc)
  rw [mem_st16]; omega
/-- what is in the list -/
theorem all_in : ∀ (w g : List Nat), (∀ c ∈ w, c ∈ lo8) → (∀ c ∈ g, c ∈ lo8) → ∀ p ∈ allL w g, tkS p = w ∧ puS p = g ∧ ∀ c ∈ p, c ∈ st16
  | [], g, hw, hg, p, hp => by
    rw [allL_g] at hp
    rw [List.mem_singleton.mp hp]
    exact ⟨(pu_up hg).1, (pu_up hg).2, lo_st hg⟩
  | x :: w, [], hw, hg, p, hp => by
    rw [allL_w] at hp
    rw [List.mem_singleton.mp hp]
    exact tk_dn hw
  | x :: w, y :: g, hw, hg, p, hp => by
    have hx := (mem_lo8 x).mp (hw x (List.mem_cons_self ..))
    have hy := (mem_lo8 y).mp (hg y (List.mem_cons_self ..))
    have hn : ¬ 97 ≤ x - 32 := by omega
    rw [allL_c] at hp
    rcases List.mem_append.mp hp with hp | hp
    · obtain ⟨r, hr, rfl⟩ := List.mem_map.mp hp
      obtain ⟨i1, i2, i3⟩ := all_in w (y :: g) (fun c hc => hw c (List.mem_cons_of_mem _ hc)) hg r hr
      refine ⟨by rw [tkS_take hn, i1, show x - 32 + 32 = x by omega], by rw [puS_take hn, i2], fun c hc => ?_⟩
      rcases List.mem_cons.mp hc with rfl | hc
      · rw [mem_st16]; omega
      · exact i3 c hc
    · obtain ⟨r, hr, rfl⟩ := List.mem_map.mp hp
      obtain ⟨i1, i2, i3⟩ := all_in (x :: w) g hw (fun c hc => hg c (List.mem_cons_of_mem _ hc)) r hr
      refine ⟨by rw [tkS_put hy.1, i1], by rw [puS_put hy.1, i2], fun c hc => ?_⟩
      rcases List.mem_cons.mp hc with rfl | hc
      · rw [mem_st16]; omega
      · exact i3 c hc
termination_by w g => w.length + g.length
theorem in_all : ∀ (p : List Nat), (∀ c ∈ p, c ∈ st16) → p ∈ allL (tkS p) (puS p)
  | [], _ => by
    show [] ∈ allL [] []
    rw [allL_g]
    exact List.mem_singleton.mpr rfl
  | c :: p, h => by
    have i := in_all p fun x hx => h x (List.mem_cons_of_mem _ hx)
    have hc := (mem_st16 c).mp (h c (List.mem_cons_self ..))
    by_cases hx : 97 ≤ c
    · rw [tkS_put hx, puS_put hx]
      cases e : tkS p with
      | nil =>
        rw [e, allL_g] at i
        rw [allL_g]
        exact List.mem_singleton.mpr (congrArg (c :: ·) (List.mem_singleton.mp i))
      | cons x w =>
        rw [e] at i
        rw [allL_c]
        exact List.mem_append_right _ (List.mem_map.mpr ⟨p, i, rfl⟩)
    · rw [tkS_take hx, puS_take hx]
      have e32 : c + 32 - 32 = c := by omega
      cases e : puS p with
      | nil =>
        rw [e, allL_w] at i
        rw [allL_w, List.map_cons, e32, ← List.mem_singleton.mp i]
        exact List.mem_singleton.mpr rfl
      | cons y g =>
        rw [e] at i
        rw [allL_c, e32]
        exact List.mem_append_left _ (List.mem_map.mpr ⟨p, i, rfl⟩)
theorem eff_st {f q : List Nat} (h1 : tkS q = tkS f) (h2 : puS q = puS f) (hf : ∀ c ∈ f, c ∈ st16) : ∀ c ∈ q, c ∈ st16 := by
  have key : ∀ q : List Nat, (∀ c ∈ tkS q, c ∈ lo8) → (∀ c ∈ puS q, c ∈ lo8) → ∀ c ∈ q, c ∈ st16 := by
    intro q
    induction q with
    | nil => exact fun _ _ _ h => nomatch h
    | cons x q ih =>
      intro t u c hc
      by_cases hx : 97 ≤ x
      · rw [tkS_put hx] at t
        rw [puS_put hx] at u
        rcases List.mem_cons.mp hc with rfl | hc
        · have := (mem_lo8 c).mp (u c (List.mem_cons_self ..))
          rw [mem_st16]; omega
        · exact ih t (fun c hc => u c (List.mem_cons_of_mem _ hc)) c hc
      · rw [tkS_take hx] at t
        rw [puS_take hx] at u
        rcases List.mem_cons.mp hc with rfl | hc
        · have := (mem_lo8 _).mp (t _ (List.mem_cons_self ..))
          rw [mem_st16]; omega
        · exact ih (fun c hc => t c (List.mem_cons_of_mem _ hc)) u c hc
  have back : ∀ q : List Nat, (∀ c ∈ q, c ∈ st16) → (∀ c ∈ tkS q, c ∈ lo8) ∧ ∀ c ∈ puS q, c ∈ lo8 := by
    intro q
    induction q with
    | nil => exact fun _ => ⟨fun _ h => (nomatch h), fun _ h => (nomatch h)⟩
    | cons x q ih =>
      intro h
      obtain ⟨i1, i2⟩ := ih fun c hc => h c (List.mem_cons_of_mem _ hc)
      have hx' := (mem_st16 x).mp (h x (List.mem_cons_self ..))
      by_cases hx : 97 ≤ x
      · rw [tkS_put hx, puS_put hx]
        refine ⟨i1, fun c hc => ?_⟩
        rcases List.mem_cons.mp hc with rfl | hc
        · rw [mem_lo8]; omega
        · exact i2 c hc
      · rw [tkS_take hx, puS_take hx]
        refine ⟨fun c hc => ?_, i2⟩
        rcases List.mem_cons.mp hc with rfl | hc
        · rw [mem_lo8]; omega
        · exact i1 c hc
  obtain ⟨b1, b2⟩ := back f hf
  exact key q (by rw [h1]; exact b1) (by rw [h2]; exact b2)
/-- lists without repetition -/
theorem nodup_le {α : Type} [DecidableEq α] : ∀ (A B : List α), A.Nodup → (∀ x ∈ A, x ∈ B) → A.length ≤ B.length
  | [], B, _, _ => Nat.zero_le _
  | a :: A, B, h, s => by
    have hb : a ∈ B := s a (List.mem_cons_self ..)
    have h' := List.nodup_cons.mp h
    have := nodup_le A (B.erase a) h'.2 fun x hx => (List.mem_erase_of_ne (by rintro rfl; exact h'.1 hx)).mpr (s x (List.mem_cons_of_mem _ hx))
    rw [List.length_erase_of_mem hb] at this
    have hp : 0 < B.length := List.length_pos_of_mem hb
    rw [List.length_cons]
    omega
abbrev tKey (q : List Nat) : L2.Key := .inr (mk q)
theorem tKey_inj {p q : List Nat} (h : tKey p = tKey q) : p = q := mk_inj (Sum.inr.inj h)
abbrev kvT := List (L2.Key × V)
abbrev hasK (E : kvT) (q : List Nat) : Prop := (valV E (tKey q)).isSome = true
/-- found so far, while the layer d is read -/
structure Fnd (f : List Nat) (E : kvT) (d m : Nat) : Prop where
  keys : ∀ k v, valV E k = some v → ∃ q, k = tKey q ∧ effEq f q ∧ dst f q ≤ m ∧ v = .int (dst f q : Nat)
  all : ∀ q, effEq f q → dst f q ≤ d → hasK E q
  nd : (E.map (·.1)).Nodup
theorem Fnd.val {f q : List Nat} {E : kvT} {d m : Nat} (h : Fnd f E d m) (hq : hasK E q) : valV E (tKey q) = some (.int (dst f q : Nat)) ∧ effEq f q ∧ dst f q ≤ m := by
  obtain ⟨v, hv⟩ := Option.isSome_iff_exists.mp hq
  obtain ⟨q', e, he, hd, rfl⟩ := h.keys _ _ hv
  cases tKey_inj e
  exact ⟨hv, he, hd⟩
theorem mem_valV : ∀ (E : kvT) (k : L2.Key), k ∈ E.map (·.1) ↔ (valV E k).isSome = true
  | [], k => ⟨fun h => (nomatch h), fun h => (nomatch h)⟩
  | p :: r, k => by
    rw [List.map_cons, List.mem_cons, mem_valV r k]
    by_cases e : p.1 = k
    · rw [valV_pos e]
      exact ⟨fun _ => rfl, fun _ => .inl e.symm⟩
    · rw [valV_neg e]
      exact ⟨fun h => h.resolve_left fun x => e x.symm, .inr⟩
theorem Fnd.len {f : List Nat} {E : kvT} {d m : Nat} (h : Fnd f E d m) (hf : ∀ c ∈ f, c ∈ st16) : E.length ≤ 2 ^ f.length := by
  have h1 := nodup_le (E.map (·.1)) ((allL (tkS f) (puS f)).map tKey) h.nd fun k hk => by
    obtain ⟨v, hv⟩ := Option.isSome_iff_exists.mp ((mem_valV E k).mp hk)
    obtain ⟨q, rfl, he, _⟩ := h.keys _ _ hv
    have := in_all q (eff_st he.1.symm he.2.1.symm hf)
    rw [← he.1, ← he.2.1] at this
    exact List.mem_map.mpr ⟨q, this, rfl⟩
  rw [List.length_map, List.length_map] at h1
  have h2 := all_le _ (tkS f) (puS f) rfl
  rw [← len_tp] at h2
  omega
theorem Fnd.put {f q : List Nat} {E : kvT} {d : Nat} (h : Fnd f E d (d + 1)) (he : effEq f q) (hd : dst f q ≤ d + 1) (hq : ¬ hasK E q) : dst f q = d + 1 ∧ Fnd f (putK E (tKey q) (.int ((d : Int) + 1))) d (d + 1) ∧ (putK E (tKey q) (.int ((d : Int) + 1))).length = E.length + 1 := by
  have hd' : dst f q = d + 1 := by
    rcases Nat.lt_or_ge d (dst f q) with g | g
    · omega
    · exact absurd (h.all q he g) hq
  have e0 : valV E (tKey q) = none := by
    cases e : valV E (tKey q) with
    | none => rfl
    | some v => exact absurd (by unfold hasK; rw [e]; rfl) hq
  refine ⟨hd', ⟨fun k v hv => ?_, fun r hr hrd => ?_, ?_⟩, by rw [putK_new _ e0, List.length_append]; rfl⟩
  · rw [valV_put] at hv
    by_cases e : k = tKey q
    · rw [if_pos e] at hv
      cases hv
      exact ⟨q, e, he, by omega, by rw [hd']; rfl⟩
    · rw [if_neg e] at hv
      exact h.keys k v hv
  · unfold hasK
    rw [valV_put]
    split
    · rfl
    · exact h.all r hr hrd
  · rw [putK_new _ e0, List.map_append]
    refine List.nodup_append.mpr ⟨h.nd, List.nodup_cons.mpr ⟨fun h => (nomatch h), List.nodup_nil⟩, fun a ha b hb => ?_⟩
    rw [List.map_cons, List.map_nil] at hb
    rw [List.mem_singleton.mp hb]
    intro e
    rw [e, mem_valV, e0] at ha
    cases ha
theorem has_put {E : kvT} {k : L2.Key} {v : V} {r : List Nat} (h : hasK E r) : hasK (putK E k v) r := by
  unfold hasK
  rw [valV_put]
  split
  · rfl
  · exact h
theorem has_put1 {E : kvT} {v : V} {r : List Nat} : hasK (putK E (tKey r) v) r := by
  unfold hasK
  rw [valV_put, if_pos rfl]
  rfl
theorem has_put2 {E : kvT} {v : V} {q r : List Nat} (h : hasK (putK E (tKey q) v) r) (hn : r ≠ q) : hasK E r := by
  unfold hasK at h
  rw [valV_put, if_neg (fun e => hn (tKey_inj e))] at h
  exact h
/-- the state within a layer -/
structure Lay (f : List Nat) (E : kvT) (d m : Nat) (later done : List (List Nat)) : Prop where
  fn : Fnd f E d (d + 1)
  lat : ∀ q, q ∈ later ↔ effEq f q ∧ dst f q = d + 1 ∧ hasK E q
  dn : ∀ p ∈ done, ∀ n ∈ nbL p, effEq f n → hasK E n
  le : E.length = m + later.length
/-- between the layers -/
structure Btw (f : List Nat) (E : kvT) (d : Nat) (last : List (List Nat)) : Prop where
  fn : Fnd f E d d
  las : ∀ q, q ∈ last ↔ effEq f q ∧ dst f q = d
theorem Btw.start {f : List Nat} : Btw f [(tKey f, .int 0)] 0 [f] := by
  have hs : dst f f = 0 := dist_self _
  have hr : effEq f f := ⟨rfl, rfl, rfl⟩
  refine ⟨⟨fun k v hv => ?_, fun q he hd => ?_, ?_⟩, fun q => ?_⟩
  · by_cases e : tKey f = k
    · rw [valV_pos (p := (tKey f, V.int 0)) e] at hv
      cases hv
      exact ⟨f, e.symm, hr, by rw [hs]; exact Nat.le_refl _, by rw [hs]; rfl⟩
    · rw [valV_neg (p := (tKey f, V.int 0)) e] at hv
      cases hv
  · rw [dst_zero he (Nat.le_zero.mp hd)]
    unfold hasK
    rw [valV_pos (p := (tKey f, V.int 0)) rfl]
    rfl
  · exact List.nodup_cons.mpr ⟨fun h => (nomatch h), List.nodup_nil⟩
  · rw [List.mem_singleton]
    exact ⟨fun e => by rw [e]; exact ⟨hr, hs⟩, fun h => dst_zero h.1 h.2⟩
theorem Btw.enter {f : List Nat} {E : kvT} {d : Nat} {last : List (List Nat)} (h : Btw f E d last) : Lay f E d E.length [] [] where
  fn := ⟨fun k v hv => by
    obtain ⟨q, e1, e2, e3, e4⟩ := h.fn.keys k v hv
    exact ⟨q, e1, e2, by omega, e4⟩, h.fn.all, h.fn.nd⟩
  lat := fun q => ⟨fun h => (nomatch h), fun ⟨_, h2, h3⟩ => by
    have := (h.fn.val h3).2.2
    omega⟩
  dn := fun _ h => nomatch h
  le := rfl
theorem Lay.leave {f : List Nat} {E : kvT} {d m : Nat} {last later : List (List Nat)} (hl : ∀ q, q ∈ last ↔ effEq f q ∧ dst f q = d) (h : Lay f E d m later last) : Btw f E (d + 1) later where
  fn := ⟨h.fn.keys, fun q he hd => by
    rcases Nat.lt_or_ge d (dst f q) with g | g
    · obtain ⟨m, hm, em, hn⟩ := layer_back he (show dst f q = d + 1 by omega)
      exact h.dn m ((hl m).mpr ⟨hm, em⟩) q hn he
    · exact h.fn.all q he g, h.fn.nd⟩
  las := fun q => by
    rw [h.lat]
    refine ⟨fun x => ⟨x.1, x.2.1⟩, fun x => ⟨x.1, x.2, ?_⟩⟩
    obtain ⟨m, hm, em, hn⟩ := layer_back x.1 x.2
    exact h.dn m ((hl m).mpr ⟨hm, em⟩) q hn x.1
theorem Lay.step {f p : List Nat} {E : kvT} {d m : Nat} {later done : List (List Nat)} (h : Lay f E d m later done) (hn : ∀ n ∈ nbL p, effEq f n → hasK E n) : Lay f E d m later (done ++ [p]) :=
  ⟨h.fn, h.lat, fun r hr => (List.mem_append.mp hr).elim (h.dn r) fun e => List.mem_singleton.mp e ▸ hn, h.le⟩
/-- a neighbour that is new, or is not -/
theorem Lay.add {f q : List Nat} {E : kvT} {d m : Nat} {later done : List (List Nat)} (h : Lay f E d m later done) (he : effEq f q) (hd : dst f q ≤ d + 1) (hq : ¬ hasK E q) :
    Lay f (putK E (tKey q) (.int ((d : Int) + 1))) d m (later ++ [q]) done ∧ hasK (putK E (tKey q) (.int ((d : Int) + 1))) q := by
  obtain ⟨e1, e2, e3⟩ := h.fn.put he hd hq
  refine ⟨⟨e2, fun r => ?_, fun p hp n hn hen => has_put (h.dn p hp n hn hen), by rw [List.length_append, e3, h.le]; rfl⟩, has_put1⟩
  rw [List.mem_append, h.lat, List.mem_singleton]
  constructor
  · rintro (⟨g1, g2, g3⟩ | rfl)
    · exact ⟨g1, g2, has_put g3⟩
    · exact ⟨he, e1, has_put1⟩
  · rintro ⟨g1, g2, g3⟩
    by_cases e : r = q
    · exact .inr e
    · exact .inl ⟨g1, g2, has_put2 g3 e⟩
theorem Btw.last {f : List Nat} {E : kvT} {d : Nat} (h : Btw f E d []) : ∀ q, valV E (tKey q) = if effEq f q then some (.int (dst f q : Nat)) else none := by
  have hn : ∀ q, effEq f q → dst f q ≠ d := fun q he e => nomatch (h.las q).mpr ⟨he, e⟩
  intro q
  by_cases he : effEq f q
  · rw [if_pos he]
    refine (h.fn.val (h.fn.all q he ?_)).1
    rcases Nat.lt_or_ge d (dst f q) with g | g
    · exact absurd (show dst f q = d + (dst f q - d) by omega) (layer_none hn _ q he)
    · exact g
  · rw [if_neg he]
    cases e : valV E (tKey q) with
    | none => rfl
    | some v =>
      obtain ⟨q', e', hq', _⟩ := h.fn.keys _ _ e
      cases tKey_inj e'
      exact absurd hq' he
theorem Btw.bound {f q : List Nat} {E : kvT} {d : Nat} {last : List (List Nat)} (h : Btw f E d (q :: last)) : d ≤ (tkS f).length * (puS f).length := by
  obtain ⟨he, hd⟩ := (h.las q).mp (List.mem_cons_self ..)
  have := dist_le (pcS 0 f) (pcS 0 q) (puS f).length (fun c hc => by have := pcS_le f 0 c hc; omega) (fun c hc => by have := pcS_le q 0 c hc; rw [← he.2.1] at this; omega)
  rw [pcS_len] at this
  have hd : distN (pcS 0 f) (pcS 0 q) = d := hd
  omega
end Gn

set_option Elab.async false
set_option linter.all false
set_option maxRecDepth 100000
set_option maxHeartbeats 4000000
/-! list != list, item by item equal by an own == -/
namespace Nel
open PySem PySem.SeqAt GQ
open AutoSeq1 (wpAny_loadPart')
open MeetsSeq MeetsSeq2 MeetsSeq3 SeqRoads2
section
variable {prog : Program} {w : World} {A : Around} {R : Result → Shared → Prop}
theorem ne_loopG (l b : Addr) (N : Nat) (I : Nat → Shared → Prop) (hl : ListI prog w A (fun e s' => R (.error e) s') l b N I)
    (fin : ∀ s, I N s → R (.ok (.ret (.bool false))) s) (k : Nat) :
    ∀ i : Nat, N - i = k → i ≤ N → ∀ s, I i s →
      wpAny (model prog w) A.in1 (Builtin.«list.__eq__.loop» ⟨[.ref l, .ref b, rawInt i, rawInt 3], []⟩) (FinOf prog w A R) (fun e s' => R (.error e) s') s := by
  induction k with
  | zero =>
    intro i hk hi s h
    obtain ⟨items, items2, n, n2, hl1, hb1, hs1, hs2, _⟩ := hl _ _ h
    have hi' : i = N := by omega
    have hR : R (.ok (.ret (.bool false))) s := fin s (hi' ▸ h)
    obtain ⟨hp, g, d, tk, os⟩ := s
    wp_walk using wpAny_loadPart' hl1, wpAny_loadPart' hb1
    have hi1 : items[((i : Nat) : Int).toNat]? = none := by simp; omega
    have hi2 : items2[((i : Nat) : Int).toNat]? = none := by simp; omega
    rw [hi1, hi2]
    wp_walk using wpAny_loadPart' hl1, wpAny_loadPart' hb1
    show R (.ok (.ret (.bool (items.size != items2.size)))) _
    rw [hs1, hs2]
    simpa using hR
  | succ k ih =>
    intro i hk hi s h
    obtain ⟨items, items2, n, n2, hl1, hb1, hs1, hs2, turn⟩ := hl _ _ h
    have hlt : i < items.size := by omega
    have hlt2 : i < items2.size := by omega
    have ht := turn hlt hlt2
    obtain ⟨hp, g, d, tk, os⟩ := s
    wp_walk using wpAny_loadPart' hl1, wpAny_loadPart' hb1
    have hi1 : items[((i : Nat) : Int).toNat]? = some items[i] := by simp [hlt]
    have hi2 : items2[((i : Nat) : Int).toNat]? = some items2[i] := by simp [hlt2]
    have hc : ((i : Int) + 1) = ((i + 1 : Nat) : Int) := by omega
    rw [hi1, hi2]
    refine wpAny_bind (wpAny_mono ht (fun r s2 h2 => ?_) fun _ _ x => x)
    obtain ⟨hr, h2⟩ := h2
    subst hr
    have hrec := ih (i + 1) (by omega) (by omega) s2 h2
    obtain ⟨hp2, g2, d2, tk2, os2⟩ := s2
    wp_walk
    rw [hc]
    exact ⟨plainId_quiet plain_eq_loop _, codeAny_builtin entry_eq_loop (by
      rw [Around.under_plainId plain_eq_loop _]
      exact hrec)⟩
theorem list_neG (l b : Addr) (N : Nat) (I : Nat → Shared → Prop) (hl : ListI prog w A (fun e s' => R (.error e) s') l b N I)
    (fin : ∀ s, I N s → R (.ok (.ret (.bool false))) s) {s : Shared} (h : I 0 s) :
    wpAny (model prog w) A.in1 (Builtin.«list.__ne__» ⟨[.ref l, .ref b], []⟩) (FinOf prog w A R) (fun e s' => R (.error e) s') s := by
  obtain ⟨items, items2, n, n2, hl1, hb1, hs1, hs2, _⟩ := hl _ _ h
  have hrec := ne_loopG (A := A) (R := R) l b N I hl fin _ 0 rfl (Nat.zero_le _) s h
  obtain ⟨hp, g, d, tk, os⟩ := s
  have f3 := AutoSeq1.sub_list_list
  have hne : ¬ (items.size != items2.size) = true := by simp [hs1, hs2]
  wp_walk using wpAny_loadPart' hl1, wpAny_loadPart' hb1
  exact ⟨plainId_quiet plain_eq_loop _, codeAny_builtin entry_eq_loop (by
    rw [Around.under_plainId plain_eq_loop _]
    exact hrec)⟩
theorem rc_neG {E : Value → Shared → Prop} {s : Shared} {l b : Addr} {N : Nat} {Q : Value → Shared → Prop} (hu : A.units < cLine) (I : Nat → Shared → Prop) (hl : ListI prog w A E l b N I)
    (fin : ∀ s, I N s → Q (.bool false) s) (h : I 0 s) : wpAny (model prog w) A (richCompare .NotEq (.ref l) (.ref b)) Q E s := by
  obtain ⟨items, items2, n, n2, hl1, hb1, _, _, _⟩ := hl _ _ h
  refine wpAny_richCompare_same_room (op := .NotEq) ⟨_, hl1, rfl⟩ ⟨_, hb1, rfl⟩ F.slot_list_ne (call_here F.slot_list_ne ⟨_, hl1, rfl⟩ F.entry_list_ne (F.args_list_ne_2 _ _) ?_) hu
  exact list_neG (R := wants (fun v s' => v ≠ .notImplemented ∧ Q v s') E) l b N I hl (fun s' q => ⟨(fun x => nomatch x), fin s' q⟩) h
end
end Nel
namespace Nel
open PySem PySem.Spec PyProof.Rows L2
variable {X : Cx} {n : Nat} {D : Eqv}
def rNeG (D : Eqv) : R2 := fun x y H Q => DList D x y H ∧ ∀ H', Ext H H' → Q (.bl false) H'
theorem op_neG (hD : Mon D) (h : EqG X n D) (hr : Room (n + 1) X.A) : OpR X (compareOp .NotEq) (rNeG D) := by
  intro pins s σ H x y v u Q I rx ry hq
  obtain ⟨⟨a, b, xs, ys, rfl, rfl, ha, hb, p⟩, q⟩ := hq
  cases rx
  cases ry
  show wpAny (model X.prog X.w) X.A (richCompare .NotEq (.ref a) (.ref b)) (EP X pins σ Q) X.xe s
  have sb : Sub X (n + 1) X.A := ⟨hr, rfl⟩
  refine rc_neG (N := xs.length) hr.units0 (fun _ s' => LoopI X pins σ H s') (fun i s' q => ?_) (fun s' q' => ?_) ⟨H, I, Ext.rfl'⟩
  · obtain ⟨H1, I1, e1⟩ := id q
    obtain ⟨z, its, k, r, e⟩ := I1.hok a _ (e1 _ _ ha)
    obtain ⟨z2, its2, k2, r2, e2⟩ := I1.hok b _ (e1 _ _ hb)
    refine ⟨its.toArray, its2.toArray, k, k2, e, e2, by rw [List.size_toArray, ← r.length], by rw [List.size_toArray, ← r2.length, ← p.1], fun h1 h2 => ?_⟩
    exact turnG hD h sb p r r2 i h1 h2 s' q
  · obtain ⟨H', I', e⟩ := q'
    exact ⟨.bl false, H', I', rfl, q H' e⟩
/-- two lists of instances of the class at C -/
theorem op_neI {CX : CXT} {C f : Addr} {fd : FuncData} {ps : List Str} {R : Addr → Addr → Hp → Prop} {E : XK} (hR : ∀ a b H H', Ext H H' → R a b H → R a b H') (F : FnOk X.prog X.w X.K X.mg X.base CX n f fd ps (spEq R))
    (hs : PySem.W.findIn X.K (.ref C) "__eq__" = some (some (.ref f))) (hf : PySem.W.isFn X.K (.ref f) = true) (hb : Binds X.K fd ps []) (hx : Passes CX X E) (hr : Room (n + 1) X.A) : OpR X (compareOp .NotEq) (rNeG (DIns C R)) :=
  op_neG (mon_ins hR) (eqG_ins F hs hf hb hx) hr
end Nel

set_option Elab.async false
set_option linter.all false
set_option maxRecDepth 100000
set_option maxHeartbeats 4000000
/-! normal programs: their takes, puts, counts and core; which cores fit -/
namespace Gn
open PySem PySem.Spec PyProof.Rows L2 Own Exn Mth Vld
theorem pc_up : ∀ (g : List Nat) (n : Nat), (∀ c ∈ g, c ∈ lo8) → pcS n g = []
  | [], n, _ => rfl
  | y :: g, n, h => by
    have hy := (mem_lo8 y).mp (h y (List.mem_cons_self ..))
    rw [pcS_cons, if_pos hy.1]
    exact pc_up g (n + 1) fun c hc => h c (List.mem_cons_of_mem _ hc)
theorem asc_pw : ∀ {l : List Nat} {lo hi : Nat}, Asc lo hi l → l.Pairwise (· ≤ ·)
  | [], _, _, _ => .nil
  | x :: l, lo, hi, h => by
    obtain ⟨h1, h2, h3⟩ := h
    exact .cons (fun y hy => by have := (h3.mem hy).1; omega) (asc_pw h3)
theorem arr_parts (W : List Nat) (hW : ∀ c ∈ W, c ∈ lo8) : ∀ (R C : List Nat) (d : Nat), C.length = R.length → (∀ r ∈ R, r ∈ lo8) → C.Pairwise (· ≤ ·) → (∀ c ∈ C, d ≤ c ∧ c ≤ W.length) →
    tkS (arrN W R C d) = R ∧ puS (arrN W R C d) = W.drop d ∧ pcS d (arrN W R C d) = C
  | [], [], d, _, _, _, _ => by
    have hd : ∀ c ∈ W.drop d, c ∈ lo8 := fun c hc => hW c (List.mem_of_mem_drop hc)
    rw [arrN_end]
    exact ⟨(pu_up hd).1, (pu_up hd).2, pc_up _ _ hd⟩
  | [], c :: C, d, h, _, _, _ => by cases h
  | r :: R, [], d, h, _, _, _ => by cases h
  | r :: R, c :: C, d, h, hR, hp, hc => by
    obtain ⟨c1, c2⟩ := hc c (List.mem_cons_self ..)
    have hr := (mem_lo8 r).mp (hR r (List.mem_cons_self ..))
    have hn : ¬ 97 ≤ r - 32 := by omega
    have hp' := List.pairwise_cons.mp hp
    obtain ⟨i1, i2, i3⟩ := arr_parts W hW R C c (Nat.succ.inj h) (fun x hx => hR x (List.mem_cons_of_mem _ hx)) hp'.2 fun x hx => ⟨hp'.1 x hx, (hc x (List.mem_cons_of_mem _ hx)).2⟩
    have hA : ∀ x ∈ (W.drop d).take (c - d), x ∈ lo8 := fun x hx => hW x (List.mem_of_mem_drop (List.mem_of_mem_take hx))
    have lA : ((W.drop d).take (c - d)).length = c - d := by rw [List.length_take, List.length_drop]; omega
    show tkS ((W.drop d).take (c - d) ++ (r - 32) :: arrN W R C c) = r :: R ∧ puS ((W.drop d).take (c - d) ++ (r - 32) :: arrN W R C c) = W.drop d ∧ pcS d ((W.drop d).take (c - d) ++ (r - 32) :: arrN W R C c) = c :: C
    refine ⟨?_, ?_, ?_⟩
    · rw [tkS_app, (pu_up hA).1, tkS_take hn, i1, show r - 32 + 32 = r by omega]
      rfl
    · rw [puS_app, (pu_up hA).2, puS_take hn, i2, show W.drop c = (W.drop d).drop (c - d) by rw [List.drop_drop]; congr 1; omega]
      exact List.take_append_drop _ _
    · rw [pcS_app, pc_up _ _ hA, (pu_up hA).2, lA, pcS_cons, if_neg hn, show d + (c - d) = c by omega, i3]
      rfl
/-- a core that fits -/
def FitK (R W : List Nat) (k : Nat) : Prop := k ≤ R.length ∧ (emb (R.drop k) W 0).length = (R.drop k).length
theorem least_len {R W : List Nat} {k : Nat} (h : FitK R W k) : (leastL R W k).length = R.length := by
  unfold leastL
  rw [List.length_append, List.length_replicate, List.length_map, h.2, List.length_drop]
  have := h.1
  omega
theorem least_pw (R W : List Nat) (k : Nat) : (leastL R W k).Pairwise (· ≤ ·) := by
  unfold leastL
  refine List.pairwise_append.mpr ⟨List.pairwise_replicate.mpr (.inr (Nat.le_refl 0)), ?_, fun x hx y hy => ?_⟩
  · exact (asc_pw (emb_asc W (R.drop k) 0)).map _ fun a b h => by omega
  · rw [List.eq_of_mem_replicate hx]
    exact Nat.zero_le _
theorem norm_eff {R W : List Nat} {k : Nat} (hR : ∀ c ∈ R, c ∈ lo8) (hW : ∀ c ∈ W, c ∈ lo8) (h : FitK R W k) :
    tkS (arrN W R (leastL R W k) 0) = R ∧ puS (arrN W R (leastL R W k) 0) = W ∧ pcS 0 (arrN W R (leastL R W k) 0) = leastL R W k ∧ coreN (arrN W R (leastL R W k) 0) = k := by
  obtain ⟨e1, e2, e3⟩ := arr_parts W hW R (leastL R W k) 0 (least_len h) hR (least_pw R W k) fun c hc => ⟨Nat.zero_le _, leastL_le R W k c hc⟩
  rw [List.drop_zero] at e2
  refine ⟨e1, e2, e3, ?_⟩
  have lR : (List.replicate k 0 : List Nat).length = k := List.length_replicate
  have up : coreN (arrN W R (leastL R W k) 0) ≤ k := (core_fit _ (by rw [e1]; exact h.1)).mpr (by
    rw [e1, e2, e3]
    refine ⟨h.2, fun i e he => ⟨e + 1, ?_, Nat.le_refl _⟩⟩
    unfold leastL
    rw [List.getElem?_append_right (by rw [lR]; omega), lR, Nat.add_sub_cancel_left, List.getElem?_map, he]
    rfl)
  cases k with
  | zero => omega
  | succ k =>
    have hk := h.1
    have lo : ¬ coreN (arrN W R (leastL R W (k + 1)) 0) ≤ k := fun hc => by
      have hf := (core_fit _ (by rw [e1]; omega)).mp hc
      rw [e1, e2, e3] at hf
      have hl := hf.1
      rw [List.length_drop] at hl
      have h0 : 0 < (emb (R.drop k) W 0).length := by rw [hl]; omega
      obtain ⟨c, hc, hle⟩ := hf.2 0 _ (List.getElem?_eq_getElem h0)
      unfold leastL at hc
      rw [List.getElem?_append_left (by rw [lR]; omega), List.getElem?_replicate, if_pos (by omega)] at hc
      injection hc with hc
      omega
    omega
theorem norm_length {R W : List Nat} {k : Nat} (hR : ∀ c ∈ R, c ∈ lo8) (hW : ∀ c ∈ W, c ∈ lo8) (h : FitK R W k) : (arrN W R (leastL R W k) 0).length = R.length + W.length := by
  obtain ⟨e1, e2, _⟩ := norm_eff hR hW h
  rw [len_tp, e1, e2]
theorem norm_st {R W : List Nat} {k : Nat} (hR : ∀ c ∈ R, c ∈ lo8) (hW : ∀ c ∈ W, c ∈ lo8) : ∀ c ∈ arrN W R (leastL R W k) 0, c ∈ st16 := fun c hc => by
  rcases arrN_mem W R _ 0 c hc with h | ⟨r, hr, rfl⟩
  · have := (mem_lo8 c).mp (hW c h)
    rw [mem_st16]; omega
  · have := (mem_lo8 r).mp (hR r hr)
    rw [mem_st16]; omega
theorem arr_split (W : List Nat) (L : List Nat) : ∀ (k : Nat) (R : List Nat), k ≤ R.length → arrN W R (List.replicate k 0 ++ L) 0 = (R.take k).map (· - 32) ++ arrN W (R.drop k) L 0
  | 0, R, _ => rfl
  | k + 1, [], h => by rw [List.length_nil] at h; omega
  | k + 1, r :: R, h => by
    have := arr_split W L k R (Nat.le_of_succ_le_succ h)
    show (W.drop 0).take (0 - 0) ++ (r - 32) :: arrN W R (List.replicate k 0 ++ L) 0 = _
    rw [this]
    rfl
/-- which cores fit -/
theorem uns_fit {R W : List Nat} {k : Nat} (hk : k ≤ R.length) : (emb (R.drop k) W 0).length = (R.drop k).length ↔ uns R W ≤ k := by
  rw [← emb_sub]
  constructor
  · intro h
    have h1 : List.Sublist R (R.take k ++ W) := by
      have := (List.Sublist.refl (R.take k)).append h
      rwa [List.take_append_drop] at this
    have h2 := ((uns_iff R W (R.take k)).mp h1).length_le
    rw [List.length_take, List.length_take] at h2
    have := uns_le R W
    omega
  · intro h
    have h1 := (uns_iff R W (R.take (uns R W))).mpr (List.Sublist.refl _)
    have h2 : List.Sublist (R.take (uns R W) ++ R.drop (uns R W)) (R.take (uns R W) ++ W) := by rw [List.take_append_drop]; exact h1
    have h3 := (List.append_sublist_append_left _).mp h2
    refine List.Sublist.trans ?_ h3
    rw [show k = uns R W + (k - uns R W) by omega, ← List.drop_drop]
    exact List.drop_sublist _ _
theorem fit_uns {R W : List Nat} {k : Nat} : FitK R W k ↔ uns R W ≤ k ∧ k ≤ R.length := ⟨fun h => ⟨(uns_fit h.1).mp h.2, h.1⟩, fun h => ⟨h.2, (uns_fit h.2).mpr h.1⟩⟩
/-- all cores -/
def coresL (R W : List Nat) : List Nat := List.range' (uns R W) (R.length + 1 - uns R W)
theorem filter_range (u : Nat) : ∀ n, (List.range n).filter (fun k => decide (u ≤ k)) = List.range' u (n - u)
  | 0 => by rw [Nat.zero_sub]; rfl
  | n + 1 => by
    rw [List.range_succ, List.filter_append, filter_range u n]
    by_cases h : u ≤ n
    · rw [List.filter_cons_of_pos (p := fun k => decide (u ≤ k)) (decide_eq_true h), List.filter_nil, show n + 1 - u = (n - u) + 1 by omega, List.range'_concat, show u + 1 * (n - u) = n by omega]
    · rw [List.filter_cons_of_neg (p := fun k => decide (u ≤ k)) (by rw [decide_eq_false h]; exact Bool.false_ne_true), List.filter_nil, List.append_nil, show n - u = 0 by omega, show n + 1 - u = 0 by omega]
theorem core_in (p : List Nat) : FitK (tkS p) (puS p) (coreN p) := ⟨(pend_core p).2, ((core_fit p (pend_core p).2).mp (Nat.le_refl _)).1⟩
end Gn

set_option Elab.async false
set_option linter.all false
set_option maxRecDepth 100000
set_option maxHeartbeats 4000000
/-! counting the put counts of programs -/
namespace Gn
open PySem PySem.Spec PyProof.Rows L2 Own Exn Mth Vld
/-- the sum of what f says, from the size down -/
def Wr (f : Nat → Nat) (l z : Nat) : Nat → Nat
  | 0 => 0
  | k + 1 => Wr f l z k + (if l ≤ z - k then f (z - k) else 0)
/-- in how many ways ascending counts can be chosen, none below c or its least one -/
def Wy (z : Nat) : List Nat → Nat → Nat
  | [], c => if c ≤ z then 1 else 0
  | l :: ls, c => Wr (Wy z ls) l z (z + 1 - c)
theorem wy_end (z : Nat) (ls : List Nat) : Wy z ls (z + 1) = 0 := by
  cases ls with
  | nil => exact if_neg (by omega)
  | cons l ls =>
    show Wr (Wy z ls) l z (z + 1 - (z + 1)) = 0
    rw [Nat.sub_self]
    rfl
theorem wy_nil {z c : Nat} (h : c ≤ z) : Wy z [] c = 1 := if_pos h
theorem wy_step {z c : Nat} (l : Nat) (ls : List Nat) (h : c ≤ z) : Wy z (l :: ls) c = Wy z (l :: ls) (c + 1) + (if l ≤ c then Wy z ls c else 0) := by
  show Wr (Wy z ls) l z (z + 1 - c) = Wr (Wy z ls) l z (z + 1 - (c + 1)) + _
  rw [show z + 1 - c = (z - c) + 1 by omega, show z + 1 - (c + 1) = z - c by omega]
  show Wr (Wy z ls) l z (z - c) + (if l ≤ z - (z - c) then Wy z ls (z - (z - c)) else 0) = _
  rw [show z - (z - c) = c by omega]
/-- pointwise -/
def Le2 : List Nat → List Nat → Prop
  | l :: ls, e :: es => l ≤ e ∧ Le2 ls es
  | [], [] => True
  | _, _ => False
theorem wr_mono {f g : Nat → Nat} {l e z : Nat} (hle : l ≤ e) (h : ∀ j, f j ≤ g j) : ∀ k, Wr f e z k ≤ Wr g l z k
  | 0 => Nat.le_refl 0
  | k + 1 => by
    have h1 := wr_mono hle h k (z := z)
    have h2 := h (z - k)
    show Wr f e z k + (if e ≤ z - k then f (z - k) else 0) ≤ Wr g l z k + (if l ≤ z - k then g (z - k) else 0)
    split
    · rw [if_pos (by omega)]
      omega
    · omega
theorem wy_mono {z : Nat} : ∀ {ls es : List Nat}, Le2 ls es → ∀ c, Wy z es c ≤ Wy z ls c
  | [], [], _, c => Nat.le_refl _
  | l :: ls, e :: es, ⟨h1, h2⟩, c => wr_mono h1 (wy_mono h2) _
theorem wr_strict {f g : Nat → Nat} {l e z : Nat} (hle : l ≤ e) (h : ∀ j, f j ≤ g j) (hl : l ≤ z) (hs : e ≤ l → f l < g l) (hs' : ¬ e ≤ l → 0 < g l) : ∀ k, z < k + l → k ≤ z + 1 → Wr f e z k < Wr g l z k
  | 0, h1, _ => by omega
  | k + 1, h1, h2 => by
    show Wr f e z k + (if e ≤ z - k then f (z - k) else 0) < Wr g l z k + (if l ≤ z - k then g (z - k) else 0)
    by_cases hk : z < k + l
    · have i1 := wr_strict hle h hl hs hs' k hk (by omega)
      have i2 := h (z - k)
      split
      · rw [if_pos (by omega)]
        omega
      · omega
    · have e1 : z - k = l := by omega
      have i1 := wr_mono hle h k (z := z)
      rw [e1, if_pos (Nat.le_refl l)]
      split
      · rename_i he
        have := hs he
        omega
      · rename_i he
        have := hs' he
        omega
theorem wr_pos {g : Nat → Nat} {l z : Nat} (hl : l ≤ z) (hs : 0 < g l) : ∀ k, z < k + l → k ≤ z + 1 → 0 < Wr g l z k
  | 0, h1, _ => by omega
  | k + 1, h1, h2 => by
    show 0 < Wr g l z k + (if l ≤ z - k then g (z - k) else 0)
    by_cases hk : z < k + l
    · have := wr_pos hl hs k hk (by omega)
      omega
    · rw [show z - k = l by omega, if_pos (Nat.le_refl l)]
      omega
/-- ascending, none above z, none below c -/
def Up (z : Nat) : Nat → List Nat → Prop
  | c, [] => c ≤ z
  | c, l :: ls => c ≤ l ∧ Up z l ls
theorem Up.le {z : Nat} : ∀ {ls : List Nat} {c : Nat}, Up z c ls → c ≤ z
  | [], _, h => h
  | l :: ls, c, ⟨h1, h2⟩ => Nat.le_trans h1 (Up.le h2)
theorem wy_pos {z : Nat} : ∀ {ls : List Nat} {c : Nat}, Up z c ls → 0 < Wy z ls c
  | [], c, h => by rw [wy_nil h]; decide
  | l :: ls, c, ⟨h1, h2⟩ => wr_pos h2.le (wy_pos h2) _ (by have := h2.le; omega) (by omega)
/-- some count is below that of the other list -/
def Some2 : List Nat → List Nat → Prop
  | l :: ls, e :: es => l < e ∨ Some2 ls es
  | _, _ => False
theorem wy_strict {z : Nat} : ∀ {ls es : List Nat} {c : Nat}, Le2 ls es → Up z c ls → Some2 ls es → Wy z es c < Wy z ls c
  | [], [], _, _, _, h => h.elim
  | l :: ls, e :: es, c, ⟨h1, h2⟩, ⟨u1, u2⟩, h => wr_strict h1 (wy_mono h2) u2.le (fun he => by
      rcases h with h | h
      · omega
      · exact wy_strict h2 u2 h) (fun _ => wy_pos u2) _ (by have := u2.le; omega) (by omega)
/-- the ways, if a smaller core is or is not kept away -/
def wI (z : Nat) (k : Bool) (ls es : List Nat) (c : Nat) : Int := if k = true then (Wy z ls c : Nat) else ((Wy z ls c : Nat) : Int) - ((Wy z es c : Nat) : Int)
theorem wI_end (z : Nat) (k : Bool) (ls es : List Nat) : wI z k ls es (z + 1) = 0 := by
  unfold wI
  rw [wy_end, wy_end]
  split <;> rfl
theorem wI_step {z c : Nat} {k : Bool} {l e : Nat} {ls es : List Nat} (h : c ≤ z) : wI z k (l :: ls) (e :: es) c = wI z k (l :: ls) (e :: es) (c + 1) + (((if l ≤ c then Wy z ls c else 0 : Nat) : Int) - (if k = true then 0 else ((if e ≤ c then Wy z es c else 0 : Nat) : Int))) := by
  unfold wI
  rw [wy_step l ls h, wy_step e es h]
  cases k
  · simp only [Bool.false_eq_true, if_false]
    omega
  · simp only [if_true]
    omega
/-- a count is found -/
theorem wI_found {z c : Nat} {k : Bool} {l e : Nat} {ls es : List Nat} {b left : Int} (hc : c ≤ z) (h1 : b - wI z k (l :: ls) (e :: es) c ≤ left) (h2 : ¬ b - wI z k (l :: ls) (e :: es) (c + 1) ≤ left) :
    l ≤ c ∧ 0 ≤ left - (b - wI z k (l :: ls) (e :: es) c) ∧ left - (b - wI z k (l :: ls) (e :: es) c) < wI z (k || decide (c < e)) ls es c := by
  have hs := wI_step (k := k) (l := l) (e := e) (ls := ls) (es := es) hc
  rw [hs] at h1 ⊢
  generalize wI z k (l :: ls) (e :: es) (c + 1) = y at h1 h2 ⊢
  have h3 : left - (b - (y + (((if l ≤ c then Wy z ls c else 0 : Nat) : Int) - (if k = true then 0 else ((if e ≤ c then Wy z es c else 0 : Nat) : Int))))) < (((if l ≤ c then Wy z ls c else 0 : Nat) : Int) - (if k = true then 0 else ((if e ≤ c then Wy z es c else 0 : Nat) : Int))) := by omega
  have hl : l ≤ c := by
    rcases Nat.lt_or_ge c l with g | g
    · rw [if_neg (show ¬ l ≤ c by omega)] at h1 h3
      exfalso
      have : (0 : Int) ≤ (if k = true then 0 else ((if e ≤ c then Wy z es c else 0 : Nat) : Int)) := by split <;> omega
      omega
    · exact g
  refine ⟨hl, by omega, ?_⟩
  rw [if_pos hl] at h3 ⊢
  unfold wI
  cases k
  · simp only [Bool.false_eq_true, if_false, Bool.false_or, decide_eq_true_eq] at h3 ⊢
    by_cases he : c < e
    · rw [if_neg (show ¬ e ≤ c by omega)] at h3 ⊢
      rw [if_pos he]
      omega
    · rw [if_pos (show e ≤ c by omega)] at h3 ⊢
      rw [if_neg he]
      omega
  · simp only [if_true, Bool.true_or] at h3 ⊢
    omega
theorem wI_more {z c : Nat} {k : Bool} {l e : Nat} {ls es : List Nat} {b left : Int} (hc : c ≤ z) (hb : left < b) (h : b - wI z k (l :: ls) (e :: es) (c + 1) ≤ left) : c + 1 ≤ z := by
  rcases Nat.lt_or_ge c z with g | g
  · exact g
  · rw [show c = z by omega, wI_end] at h
    omega
theorem wI_last {z c : Nat} {k : Bool} {left : Int} (hc : c ≤ z) (h1 : 0 ≤ left) (h2 : left < wI z k [] [] c) : k = true := by
  cases k
  · unfold wI at h2
    simp only [Bool.false_eq_true, if_false] at h2
    omega
  · rfl
/-- below the least count nothing changes -/
theorem wI_flat {z l e : Nat} {k : Bool} {ls es : List Nat} (hle : l ≤ e) (hl : l ≤ z) : ∀ (d c : Nat), c + d = l → wI z k (l :: ls) (e :: es) c = wI z k (l :: ls) (e :: es) l
  | 0, c, h => by rw [show c = l by omega]
  | d + 1, c, h => by
    rw [wI_step (c := c) (by omega), wI_flat hle hl d (c + 1) (by omega), if_neg (show ¬ l ≤ c by omega), if_neg (show ¬ e ≤ c by omega)]
    split <;> omega
theorem wI_anti {z l e : Nat} {k : Bool} {ls es : List Nat} (h : Le2 (l :: ls) (e :: es)) {c : Nat} (hc : c ≤ z) : wI z k (l :: ls) (e :: es) (c + 1) ≤ wI z k (l :: ls) (e :: es) c := by
  rw [wI_step (c := c) hc]
  have := wy_mono (z := z) h.2 c
  have h1 := h.1
  have key : (if k = true then 0 else ((if e ≤ c then Wy z es c else 0 : Nat) : Int)) ≤ ((if l ≤ c then Wy z ls c else 0 : Nat) : Int) := by
    by_cases he : e ≤ c
    · rw [if_pos he, if_pos (show l ≤ c by omega)]
      split <;> omega
    · rw [if_neg he]
      split <;> omega
  omega
theorem wI_anti2 {z l e : Nat} {k : Bool} {ls es : List Nat} (h : Le2 (l :: ls) (e :: es)) : ∀ (d : Nat) {c : Nat}, c + d ≤ z + 1 → wI z k (l :: ls) (e :: es) (c + d) ≤ wI z k (l :: ls) (e :: es) c
  | 0, c, _ => Int.le_refl _
  | d + 1, c, hc => Int.le_trans (wI_anti h (c := c + d) (by omega)) (wI_anti2 h d (by omega))
/-- the least counts come first -/
theorem wI_first {z c0 c l e : Nat} {k : Bool} {ls es : List Nat} (hL : Le2 (l :: ls) (e :: es)) (hU : Up z c0 (l :: ls)) (hS : k = true ∨ Some2 (l :: ls) (e :: es)) (hc : c ≤ z) (h0 : c0 ≤ c)
    (h1 : wI z k (l :: ls) (e :: es) c0 - wI z k (l :: ls) (e :: es) c ≤ 0) (hlc : l ≤ c) : c = l ∧ wI z k (l :: ls) (e :: es) c0 - wI z k (l :: ls) (e :: es) c = 0 ∧ ((k || decide (c < e)) = true ∨ Some2 ls es) := by
  obtain ⟨u1, u2⟩ := hU
  have hl := u2.le
  have f0 := wI_flat (k := k) (ls := ls) (es := es) hL.1 hl (l - c0) c0 (by omega)
  have cl : c = l := by
    rcases Nat.lt_or_ge l c with g | g
    · exfalso
      have a1 := wI_anti2 (z := z) (k := k) hL (c - (l + 1)) (c := l + 1) (by omega)
      rw [show l + 1 + (c - (l + 1)) = c by omega] at a1
      have st := wI_step (z := z) (k := k) (l := l) (e := e) (ls := ls) (es := es) hl
      rw [if_pos (Nat.le_refl l)] at st
      have p1 := wy_pos u2
      have : (0 : Int) < ((Wy z ls l : Nat) : Int) - (if k = true then 0 else ((if e ≤ l then Wy z es l else 0 : Nat) : Int)) := by
        rcases hS with hk | hS
        · rw [if_pos hk]
          omega
        · split
          · omega
          · split
            · rename_i he
              rcases hS with hS | hS
              · omega
              · have := wy_strict hL.2 u2 hS
                omega
            · omega
      omega
    · omega
  subst cl
  refine ⟨rfl, by omega, ?_⟩
  rcases hS with hk | hS
  · exact .inl (by rw [hk]; rfl)
  · rcases hS with hS | hS
    · exact .inl (by rw [decide_eq_true hS, Bool.or_true])
    · exact .inr hS
/-- the bounds of a smaller core -/
def early1 (R W : List Nat) (k : Nat) : List Nat := (earlyL R W k).map fun e => (e + 1).toNat
theorem early_ge (R W : List Nat) (k : Nat) : ∀ e ∈ earlyL R W k, (-1 : Int) ≤ e := by
  intro e h
  unfold earlyL at h
  split at h
  · rw [List.eq_of_mem_replicate h]
    omega
  · split at h
    · rcases List.mem_append.mp h with h | h
      · rw [List.eq_of_mem_replicate h]
        omega
      · obtain ⟨j, _, rfl⟩ := List.mem_map.mp h
        omega
    · rw [List.eq_of_mem_replicate h]
      omega
theorem early1_eq {R W : List Nat} {k : Nat} : early1 R W k = if k ≠ 0 ∧ (emb (R.drop (k - 1)) W 0).length = (R.drop (k - 1)).length then leastL R W (k - 1) else List.replicate R.length (W.length + 1) := by
  unfold early1 earlyL
  cases k with
  | zero =>
    rw [if_neg (fun h => h.1 rfl)]
    dsimp only
    rw [List.map_replicate]
    congr 1
  | succ k =>
    dsimp only
    rw [Nat.add_sub_cancel]
    by_cases h : (emb (R.drop k) W 0).length = (R.drop k).length
    · rw [if_pos h, if_pos ⟨Nat.succ_ne_zero k, h⟩]
      unfold leastL
      rw [List.map_append, List.map_replicate, List.map_map]
      congr 1
    · rw [if_neg h, if_neg (fun g => h g.2), List.map_replicate]
      congr 1
theorem early1_len {R W : List Nat} {k : Nat} (hk : k ≤ R.length) : (early1 R W k).length = R.length := by
  unfold early1
  rw [List.length_map, earlyL_len R W hk]
theorem le2_of : ∀ {ls es : List Nat}, ls.length = es.length → (∀ (i l e : Nat), ls[i]? = some l → es[i]? = some e → l ≤ e) → Le2 ls es
  | [], [], _, _ => trivial
  | [], e :: es, h, _ => by cases h
  | l :: ls, [], h, _ => by cases h
  | l :: ls, e :: es, h, g => ⟨g 0 l e rfl rfl, le2_of (Nat.succ.inj h) fun i l' e' h1 h2 => g (i + 1) l' e' h1 h2⟩
theorem Le2.get : ∀ {ls es : List Nat}, Le2 ls es → ∀ (i l : Nat), ls[i]? = some l → ∃ e, es[i]? = some e ∧ l ≤ e
  | l :: ls, e :: es, ⟨h1, h2⟩, 0, l', h => by
    cases h
    exact ⟨e, rfl, h1⟩
  | l :: ls, e :: es, ⟨h1, h2⟩, i + 1, l', h => Le2.get h2 i l' h
theorem le2_drop : ∀ {ls es : List Nat} (i : Nat), Le2 ls es → Le2 (ls.drop i) (es.drop i)
  | ls, es, 0, h => h
  | [], [], i + 1, h => trivial
  | l :: ls, e :: es, i + 1, h => le2_drop i h.2
theorem least_early {R W : List Nat} {k : Nat} (hR : ∀ c ∈ R, c ∈ lo8) (hW : ∀ c ∈ W, c ∈ lo8) (h : FitK R W k) : Le2 (leastL R W k) (early1 R W k) := by
  refine le2_of (by rw [least_len h, early1_len h.1]) fun i l e hl he => ?_
  rw [early1_eq] at he
  split at he
  · rename_i g
    obtain ⟨g0, g1⟩ := g
    have hF : FitK R W (k - 1) := ⟨by have := h.1; omega, g1⟩
    obtain ⟨e1, e2, e3, e4⟩ := norm_eff hR hW hF
    have f := (core_fit (arrN W R (leastL R W (k - 1)) 0) (m := k) (by rw [e1]; exact h.1)).mp (by rw [e4]; omega)
    rw [e1, e2, e3] at f
    rcases Nat.lt_or_ge i k with q | q
    · unfold leastL at hl
      rw [List.getElem?_append_left (by rw [List.length_replicate]; exact q), List.getElem?_replicate, if_pos q] at hl
      injection hl with hl
      omega
    · unfold leastL at hl
      rw [List.getElem?_append_right (by rw [List.length_replicate]; exact q), List.length_replicate, List.getElem?_map] at hl
      cases hx : (emb (R.drop k) W 0)[i - k]? with
      | none => rw [hx] at hl; cases hl
      | some x =>
        rw [hx] at hl
        injection hl with hl
        have hl : x + 1 = l := hl
        obtain ⟨c, hc, hle⟩ := f.2 (i - k) x hx
        rw [show k + (i - k) = i by omega, he] at hc
        injection hc with hc
        omega
  · rw [List.getElem?_replicate] at he
    split at he
    · injection he with he
      have := leastL_le R W k l (List.mem_of_getElem? hl)
      omega
    · cases he
theorem some2_of : ∀ {ls es : List Nat} (i l e : Nat), ls[i]? = some l → es[i]? = some e → l < e → Some2 ls es
  | [], es, i, l, e, h, _, _ => by simp at h
  | l' :: ls, [], i, l, e, _, h, _ => by simp at h
  | l' :: ls, e' :: es, 0, l, e, h1, h2, h3 => by
    cases h1
    cases h2
    exact .inl h3
  | l' :: ls, e' :: es, i + 1, l, e, h1, h2, h3 => .inr (some2_of i l e h1 h2 h3)
theorem up_of {z : Nat} : ∀ {ls : List Nat} {c : Nat}, ls.Pairwise (· ≤ ·) → (∀ l ∈ ls, c ≤ l ∧ l ≤ z) → c ≤ z → Up z c ls
  | [], c, _, _, h => h
  | l :: ls, c, hp, h, hc => by
    have hp' := List.pairwise_cons.mp hp
    have hl := h l (List.mem_cons_self ..)
    exact ⟨hl.1, up_of hp'.2 (fun x hx => ⟨hp'.1 x hx, (h x (List.mem_cons_of_mem _ hx)).2⟩) hl.2⟩
/-- a program with other counts has the effect -/
theorem counts_eff {R W C : List Nat} {k : Nat} (hR : ∀ c ∈ R, c ∈ lo8) (hW : ∀ c ∈ W, c ∈ lo8) (h : FitK R W k) (hl : C.length = R.length) (hp : C.Pairwise (· ≤ ·)) (hz : ∀ c ∈ C, c ≤ W.length) (hL : Le2 (leastL R W k) C)
    (hk : k = 0 ∨ ∃ (i c e : Nat), C[i]? = some c ∧ (early1 R W k)[i]? = some e ∧ c < e) :
    tkS (arrN W R C 0) = R ∧ puS (arrN W R C 0) = W ∧ pcS 0 (arrN W R C 0) = C ∧ coreN (arrN W R C 0) = k := by
  obtain ⟨e1, e2, e3⟩ := arr_parts W hW R C 0 hl hR hp fun c hc => ⟨Nat.zero_le _, hz c hc⟩
  rw [List.drop_zero] at e2
  refine ⟨e1, e2, e3, ?_⟩
  obtain ⟨n1, n2, n3, n4⟩ := norm_eff hR hW h
  by_cases hne : R = []
  · have h5 := (pend_core (arrN W R C 0)).2
    rw [e1] at h5
    have h6 := h.1
    have h7 : R.length = 0 := by rw [hne]; rfl
    omega
  · have sc := same_core (p := arrN W R (leastL R W k) 0) (p' := arrN W R C 0) (by rw [e1, n1]) (by rw [e2, n2]) (by rw [n1]; exact hne)
    rw [n1, n2, n4, e3] at sc
    refine sc.mpr ⟨fun i l hi => ?_, (earlyN_pos _ _).mpr ?_⟩
    · obtain ⟨c, hc, hle⟩ := hL.get i l hi
      exact ⟨c, hc, hle⟩
    · rcases hk with rfl | ⟨i, c, e, h1, h2, h3⟩
      · cases hC : C with
        | nil =>
          rw [hC, List.length_nil] at hl
          exact absurd (List.eq_nil_of_length_eq_zero hl.symm) hne
        | cons c C' =>
          have hc := hz c (by rw [hC]; exact List.mem_cons_self ..)
          refine ⟨0, c, ((W.length : Nat) : Int), rfl, ?_, by omega⟩
          show (List.replicate R.length ((W.length : Nat) : Int))[0]? = _
          rw [List.getElem?_replicate, if_pos (List.length_pos_iff.mpr hne)]
      · unfold early1 at h2
        rw [List.getElem?_map] at h2
        cases hx : (earlyL R W k)[i]? with
        | none => rw [hx] at h2; cases h2
        | some x =>
          rw [hx] at h2
          injection h2 with h2
          have h2 : (x + 1).toNat = e := h2
          exact ⟨i, c, x, h1, hx, by omega⟩
/-- the normal program has an early take, if there is a smaller core -/
theorem norm_some {R W : List Nat} {k : Nat} (hR : ∀ c ∈ R, c ∈ lo8) (hW : ∀ c ∈ W, c ∈ lo8) (h : FitK R W k) (hk : k ≠ 0) : Some2 (leastL R W k) (early1 R W k) := by
  obtain ⟨n1, n2, n3, n4⟩ := norm_eff hR hW h
  have hne : R ≠ [] := fun e => by
    have := h.1
    rw [e, List.length_nil] at this
    omega
  have sc := (same_core (p := arrN W R (leastL R W k) 0) (p' := arrN W R (leastL R W k) 0) rfl rfl (by rw [n1]; exact hne)).mp rfl
  rw [n1, n2, n4, n3] at sc
  obtain ⟨i, c, e, h1, h2, h3⟩ := (earlyN_pos _ _).mp sc.2
  refine some2_of i c (e + 1).toNat h1 ?_ (by omega)
  unfold early1
  rw [List.getElem?_map, h2]
  rfl
theorem least_up (R W : List Nat) (k : Nat) : Up W.length 0 (leastL R W k) := up_of (least_pw R W k) (fun l hl => ⟨Nat.zero_le _, leastL_le R W k l hl⟩) (Nat.zero_le _)
theorem dist_sums : ∀ {L C : List Nat}, Le2 L C → distN C L + L.sum = C.sum
  | [], [], _ => rfl
  | l :: L, c :: C, ⟨h1, h2⟩ => by
    have := dist_sums h2
    show (c - l) + (l - c) + distN C L + (l :: L).sum = (c :: C).sum
    rw [List.sum_cons, List.sum_cons]
    omega
end Gn

set_option Elab.async false
set_option linter.all false
set_option maxRecDepth 100000
set_option maxHeartbeats 4000000
/-! sorted(a text), set(a list of ints) as a set that can be walked -/
namespace Stx
open PySem PySem.Spec PyProof.Rows L2
section
variable {prog : Program} {w : World} {A : Around} {E : Value → Shared → Prop} {s : Shared}
/-- the signs of a text are texts of one sign -/
theorem signs_are {x : Str} : ∀ (l : List Value) (i : Nat), (∀ j v, l[j]? = some v → SignAt x (i + j) v) → i + l.length ≤ x.cps.size → StrsAre l ((x.cps.toList.drop i).take l.length |>.map fun c => ⟨#[c]⟩)
  | [], i, _, _ => by
    rw [List.length_nil, List.take_zero]
    exact .nil
  | v :: l, i, h, hz => by
    rw [List.length_cons] at hz
    obtain ⟨c, t, hc, rfl⟩ := h 0 v rfl
    rw [Nat.add_zero, ← Array.getElem?_toList] at hc
    have hi : i < x.cps.toList.length := by rw [Array.length_toList]; omega
    have ih := signs_are l (i + 1) (fun j v hv => by rw [show i + 1 + j = i + (j + 1) by omega]; exact h (j + 1) v hv) (by omega)
    rw [List.getElem?_eq_getElem hi] at hc
    injection hc with hc
    rw [List.drop_eq_getElem_cons hi, hc, List.length_cons, List.take_succ_cons, List.map_cons]
    exact .cons _ _ ih
theorem sorted_text {x : Str} {t : Tok} {Q : Value → Shared → Prop} (hh : A.handled = none) (h64 : x.cps.size < 64)
    (hQ : ∀ s' p (out : Array Value) (c : Nat) (ys : List Str), (∀ b o, s.heap.get? b = some o → s'.heap.get? b = some o) → s'.gens = s.gens → s'.os = s.os → s.heap.get? p = none →
      s'.heap.get? p = some (seqObj "list" out c) → StrsAre out.toList ys → ys.Perm (x.cps.toList.map fun c => (⟨#[c]⟩ : Str)) → sortedS ys = true → Q (.ref p) s') :
    wpAny (model prog w) A (call (.builtin "sorted") [.str x t]) Q E s := by
  have hsl : x.cps.size ≤ sizeLine := by rw [sizeLine_eq]; omega
  refine Calls.call_function_entry kind_sorted plain_sorted entry_sorted (args_sorted1 _) ?_
  unfold Builtin.«sorted»
  refine wpAny_bind (m := checkCount "sorted" 1 1 _) (wpAny_pure ?_)
  refine wpAny_bind (wpAny_collect_str (A := A.in1) hh x t (fun s1 acc k1 g1 _ o1 it => ?_) hsl)
  have hlen : acc.toList.length = x.cps.size := by rw [Array.length_toList]; exact it.1
  have hS := signs_are (x := x) acc.toList 0 (fun j v hv => by rw [Nat.zero_add]; exact it.2 j v (by rw [← Array.getElem?_toList]; exact hv)) (by rw [hlen]; omega)
  rw [List.drop_zero, hlen, ← Array.length_toList, List.take_length] at hS
  refine wpAny_bind (wpAny_newList ?_ (by rw [hlen]; exact hsl))
  have hoL : (s1.heap.push (seqObj "list" acc.toList.toArray 0)).get? s1.heap.objs.size = some (seqObj "list" acc.toList.toArray 0) := Heap.get?_push_size _ rfl
  refine wpAny_bind (wpAny_holding (wpAny_call_entry slot_list_sort ⟨_, hoL, rfl⟩ entry_list_sort (list_sort_treeK strKind_oneLt hoL hS.keysOf (fun v₁ v₂ rest e => keyKind_strs (by rw [← e]; exact hS)) (by rw [hlen]; exact h64) fun st' a1 a2 => ⟨_, rfl, ?_⟩) (args_list_sort _)))
  obtain ⟨ys, y1, y2, y3⟩ := sorted_out_str hS a1 a2
  obtain ⟨c, hc⟩ := sortedHeap_at (vs := acc.toList) (out := (arrOf st').map (·.2)) hoL
  refine wpAny_pure ⟨_, rfl, hQ _ s1.heap.objs.size _ c ys (fun b u e => ?_) g1 o1 ?_ hc y1 y2 y3⟩
  · have q := k1 b u e
    have hlt := Heap.lt_size q
    show (sortedHeap (s1.heap.push (seqObj "list" acc.toList.toArray 0)) s1.heap.objs.size acc.toList ((arrOf st').map (·.2))).get? b = some u
    rw [sortedHeap_old (Nat.ne_of_lt hlt) (by rw [size_push']; exact Nat.lt_succ_of_lt hlt)]
    exact Heap.get?_push_of_some _ q
  · cases e : s.heap.get? s1.heap.objs.size with
    | none => rfl
    | some u => exact absurd (Heap.lt_size (k1 _ _ e)) (Nat.lt_irrefl _)
end
end Stx
namespace Stx
open PySem PySem.Spec PyProof.Rows L2
section
variable {X : Cx}
theorem obj_there {P : Program} {w : World} {H : Hp} {h : Heap} {b : Addr} {o : HO} (x : ObjOk P w H h b o) : ∃ ob, h.get? b = some ob := by
  cases o with
  | lst _ => obtain ⟨_, _, _, _, e⟩ := x; exact ⟨_, e⟩
  | tup _ => obtain ⟨_, _, _, y⟩ := x; obtain ⟨ob, e, _⟩ := y; exact ⟨ob, e⟩
  | dK _ => obtain ⟨_, _, _, _, ob, _, _, e, _⟩ := x; exact ⟨ob, e⟩
  | dT _ => obtain ⟨_, _, _, _, ob, _, _, e, _⟩ := x; exact ⟨ob, e⟩
  | set _ _ => obtain ⟨ob, _, _, _, e, _⟩ := x; exact ⟨ob, e⟩
  | ins _ _ _ => obtain ⟨_, _, _, e, _⟩ := x; exact ⟨_, e⟩
  | own _ => obtain ⟨_, e⟩ := x; exact ⟨_, e⟩
  | xd _ => obtain ⟨_, ⟨_, _, _, e, _⟩, _⟩ := x; exact ⟨_, e⟩
  | rng _ _ => obtain ⟨_, _, _, e⟩ := x; exact ⟨_, e⟩
  | frz _ _ => obtain ⟨e, _⟩ := x; exact ⟨_, e⟩
  | tbl _ => exact ⟨_, (show h.get? b = some _ from x)⟩
  | met _ _ => exact ⟨_, (show h.get? b = some _ from x)⟩
  | ext _ => obtain ⟨_, ⟨ob, e⟩, _⟩ := x; exact ⟨ob, e⟩
def rSortTx : List V → Hp → VK → Prop := fun vs H Q => ∃ x : Str, vs = [V.str x] ∧ x.cps.size < 64 ∧
  ∀ (ys : List Str) (p : Addr), ys.Perm (x.cps.toList.map fun c => (⟨#[c]⟩ : Str)) → sortedS ys = true → H p = none → Q (.ref p) (upd H p (.lst (ys.map V.str)))
theorem cr_sortTx (hc : X.calm = true) : CallR X (.builtin "sorted") rSortTx := by
  intro pins s σ H vs us Q I r h
  obtain ⟨x, rfl, h64, q⟩ := h
  obtain ⟨u, rfl, ru⟩ := vals1 r
  obtain ⟨t, rfl⟩ := ru
  refine sorted_text (I.ok.hd hc) h64 fun s' p out c ys k g o hn hg hS hp hs => ?_
  have hHp : H p = none := by
    cases e : H p with
    | none => rfl
    | some u =>
      exfalso
      obtain ⟨ob, hob⟩ : ∃ ob, s.heap.get? p = some ob := by
        exact obj_there (I.hok p u e)
      rw [hob] at hn
      cases hn
  have hlen : (ys.map V.str).length ≤ sizeLine := by rw [List.length_map, hp.length_eq, List.length_map, Array.length_toList, sizeLine_eq]; omega
  have J : Inv X pins σ (upd H p (.lst (ys.map V.str))) { s with heap := s'.heap, gens := s'.gens, drawn := s'.drawn, toks := s'.toks } :=
    I.call (ch := []) (Un.laidN k hn hHp) (I.hok.laidN k hHp ⟨hlen, out.toList, c, vals_of_strs hS, hg⟩) (by rw [g]; exact I.bare) (fun _ z => nomatch z)
  have e : s' = { s with heap := s'.heap, gens := s'.gens, drawn := s'.drawn, toks := s'.toks } := by
    cases s'
    cases s
    cases o
    rfl
  rw [e]
  exact ⟨.ref p, _, J, rfl, q ys p hp hs hHp⟩
end
end Stx
namespace Stx
open PySem PySem.Spec PyProof.Rows L2
section
variable {P : Program} {w : World} {A : Around} {E : Value → Shared → Prop} {s : Shared}
/-- an empty set, as set() lays it -/
abbrev eSet (w : World) : Obj := { cls := .type "set", dict := none, data := .set #[] 0 (.fresh 0 0 (!w.params.followText "set-order")) }
set_option maxHeartbeats 3200000 in
theorem set_of_list {l : Addr} {xs : Array Value} (ns : List Int) {Q : Value → Shared → Prop} (hh : A.handled = none) (hl : s.heap.IsList l xs) (hi : IntsAre xs.toList ns) (hb : ns.length + 1 < scanBound)
    (k : ∀ (h' : Heap) (tk c : Nat), SetR w h' s.heap.objs.size (fun j => decide (j ∈ ns)) c → c ≤ ns.length → (∀ b o, s.heap.get? b = some o → h'.get? b = some o) → Q (.ref s.heap.objs.size) { s with heap := h', toks := tk }) :
    wpAny (model P w) A (call (.type "set") [.ref l]) Q E s := by
  have hz : xs.size = ns.length := by rw [← IntsAre.length hi, Array.length_toList]
  have m1 := PySem.F.called_set.made
  have m2 := PySem.F.called_set.sub
  have m3 := PySem.F.called_set.notType
  have m4 := PySem.F.called_set.canCreate
  have m5 := PySem.F.typeCall_set_1 (.ref l)
  obtain ⟨c0, t0, m6⟩ := PySem.F.called_set.mro
  refine wpAny_call (codeAny_of_tree ?_)
  show wpAny _ _ (callAny (.type "set") _) _ _ _
  refine wpAny_pure ⟨Code.quiet_builtin _ (by decide +kernel), codeAny_builtin PySem.F.entry_type_call ?_⟩
  rw [Around.under_plain (weight_type_call_type "set" [.ref l] []) rfl]
  repeat (any_goals (first | assumption | wp_step))
  refine codeAny_mono (code_set_led1 (.ref l) (E := E) (Q₁ := fun u s1 => u = .ref s.heap.objs.size ∧ s1 = { s with heap := s.heap.push (eSet w) }) ⟨rfl, rfl⟩) fun r s1 hr => ?_
  match r, hr with
  | .error e, hr => exact hr
  | .ok (.ret u), hr =>
    obtain ⟨rfl, rfl⟩ := hr
    have g0 : (s.heap.push (eSet w)).get? s.heap.objs.size = some (eSet w) := Heap.get?_push_size _ rfl
    have tS : Shared.TypeIs { s with heap := s.heap.push (eSet w) } (.ref s.heap.objs.size) "set" := ⟨_, g0, rfl⟩
    have m7 := PySem.F.called_set.init.lookup
    have m8 := PySem.F.called_set.init.bind (.ref s.heap.objs.size)
    repeat (any_goals (first | assumption | wp_step))
    refine codeAny_mono (codeAny_call_builtin (R := wants (fun r s2 => r = .none ∧ ∃ h' tk c, s2 = { s with heap := h', toks := tk } ∧ SetR w h' s.heap.objs.size (fun j => decide (j ∈ ns)) c ∧ c ≤ ns.length ∧
      (∀ b o, s.heap.get? b = some o → h'.get? b = some o)) E) PySem.F.called_set.init.plain PySem.F.entry_set_init (check_set_init_1 tS ?_)) fun r2 s2 hr2 => ?_
    · obtain ⟨ol, hol, hcl, nl, hdl⟩ := hl
      obtain ⟨oc, od, oda, osl⟩ := ol
      simp only at hcl hdl
      subst hcl
      subst hdl
      have gl : (s.heap.push (eSet w)).get? l = some { cls := .type "list", dict := od, data := .seq xs nl, slots := osl } := Heap.get?_push_of_some _ hol
      have n1 := PySem.F.sub_list_set
      have n2 := PySem.F.sub_list_frozenset
      have n3 : (Value.type "list" == Value.type "dict") = false := by decide
      have isl : (s.heap.push (eSet w)).IsList l xs := ⟨_, gl, rfl, nl, rfl⟩
      have ll : l < s.heap.objs.size := Heap.lt_size hol
      have z1 : (s.heap.push (eSet w)).objs.size = s.heap.objs.size + 1 := Heap.size_push ..
      have nI : l ≠ (s.heap.push (eSet w)).objs.size := by rw [z1]; exact Nat.ne_of_lt (Nat.lt_succ_of_lt ll)
      have nS : s.heap.objs.size ∉ [(s.heap.push (eSet w)).objs.size, l] := by
        rw [z1]
        simp only [List.mem_cons, List.not_mem_nil, or_false, not_or]
        exact ⟨Nat.ne_of_lt (Nat.lt_succ_self _), Nat.ne_of_gt ll⟩
      have val : ∀ (i : Nat) (v : Value), xs[i]? = some v → ∃ k t, ns[i]? = some k ∧ v = .int k t := fun i v hv => by
        have li : i < ns.length := by rw [← hz]; exact (Array.getElem?_eq_some_iff.mp hv).1
        obtain ⟨t, e⟩ := IntsAre.int_at hi i v (by rw [Array.getElem?_toList]; exact hv)
        exact ⟨ns[i], t, List.getElem?_eq_getElem li, by rw [e, List.getD_eq_getElem?_getD, List.getElem?_eq_getElem li]; rfl⟩
      unfold Builtin.«set.__init__» noKeywords Builtin.Frozenset.updateFrom
      generalize hPI : pyIter = PI
      wp_walk
      subst hPI
      refine wpAny_pyIter_list isl (wpAny_bind (wpAny_runValue ?_))
      refine set_update_ints ((Walks.list (by simp [hh]) _ l nI xs).toS) s.heap.objs.size nS ns hz hb val (xs.size - 0) 0 _ (by omega) (Nat.zero_le _)
        ⟨⟨_, Heap.get?_push_size _ rfl, rfl, rfl⟩, isl.push _⟩ ⟨0, Nat.le_refl 0, setR_new_at (Heap.get?_push_of_some _ g0)⟩ fun s' c' hm hc' hS' => ?_
      obtain ⟨h', g2, d', tk', os'⟩ := s'
      obtain rfl : g2 = s.gens := hm.gens
      obtain rfl : d' = s.drawn := hm.drawn
      obtain rfl : os' = s.os := hm.os
      show wpAny _ _ _ _ _ _
      refine wpAny_pure ?_
      show wpAny _ _ (ret Value.none) _ _ _
      rw [hz] at hc'
      refine wpAny_pure ⟨rfl, h', tk', c', rfl, hS', hc', fun b o e => ?_⟩
      have b0 := Heap.lt_size e
      refine hm.heap b o ?_ (Heap.get?_push_of_some _ (Heap.get?_push_of_some _ e))
      rw [z1]
      simp only [List.mem_cons, List.not_mem_nil, or_false, not_or]
      exact ⟨Nat.ne_of_lt b0, Nat.ne_of_lt (Nat.lt_succ_of_lt b0)⟩
    · match r2, hr2 with
      | .error e, hr2 => exact hr2
      | .ok (.ret r), hr2 =>
        obtain ⟨rfl, h', tk, c', rfl, q1, q2, q3⟩ := hr2
        repeat (any_goals (first | assumption | wp_step))
        exact k _ _ _ q1 q2 q3
      | .ok .next, hr2 => exact hr2.elim
      | .ok .brk, hr2 => exact hr2.elim
      | .ok .cont, hr2 => exact hr2.elim
  | .ok .next, hr => exact hr.elim
  | .ok .brk, hr => exact hr.elim
  | .ok .cont, hr => exact hr.elim
end
section
variable {X : Cx}
def rSetLO (K : PySem.W.Frag) (w : World) : List V → Hp → VK → Prop := fun xs H Q => ∃ (l : Addr) (ns : List Int), xs = [.ref l] ∧ SqL K H l (ns.map V.int) ∧ ns.length ≤ 1000 ∧ ∀ p c, H p = none → c ≤ ns.length → Q (.ref p) (upd H p (SetO w p (fun j => decide (j ∈ ns)) c))
theorem cr_setLO (hc : X.calm = true) : CallR X (.type "set") (rSetLO X.K X.w) := by
  intro pins s σ H xs us Q I r h
  obtain ⟨l, ns, rfl, hq, hl, q⟩ := h
  obtain ⟨u, rfl, ru⟩ := vals1 r
  cases (show u = Value.ref l from ru)
  obtain ⟨its, rv, pt, hz⟩ := I.list hq
  have hin := ints_of_vals rv
  refine set_of_list ns (I.ok.hd hc) pt.isList hin (by unfold scanBound; omega) fun h' tk c R cl k => ?_
  exact ⟨.ref s.heap.objs.size, _, I.laid (t' := tk) k (Nat.le_refl _) (setO_new R), rfl, q _ c (I.hok.fresh (Nat.le_refl _)) cl⟩
end
end Stx

set_option Elab.async false
set_option linter.all false
set_option maxRecDepth 100000
set_option maxHeartbeats 4000000
/-! patterns: what a text leaves, and the places that a pattern can lead to -/
namespace Gn
open PySem PySem.Spec PySem.Builtin.Str PyProof.Rows L2 Own Exn Mth Vld
abbrev Atm := Bool × List Nat
def kS (b : Bool) : Str := if b = true then "repeat" else "optional"
theorem drop_tw (g : Nat → Bool) : ∀ w : List Nat, w.drop (w.takeWhile g).length = w.dropWhile g
  | [] => rfl
  | x :: w => by
    cases h : g x with
    | true => rw [List.takeWhile_cons_of_pos h, List.dropWhile_cons_of_pos h, List.length_cons, List.drop_succ_cons, drop_tw g w]
    | false => rw [List.takeWhile_cons_of_neg (by rw [h]; exact Bool.false_ne_true), List.dropWhile_cons_of_neg (by rw [h]; exact Bool.false_ne_true)]; rfl
theorem sub_mk (w : List Nat) (k : Nat) : strSub (mk w) k w.length = mk (w.drop k) := by
  refine str_cs ?_
  show (w.toArray.extract k w.length).toList = _
  rw [Array.toList_extract]
  show (w.toArray.toList.drop k).take (w.length - k) = _
  rw [List.toList_toArray, List.take_of_length_le (by rw [List.length_drop]; exact Nat.le_refl _)]
theorem lstrip_mk (w l : List Nat) : Txt.lstripChars (mk w) (mk l) = mk (w.dropWhile l.contains) := by
  unfold Txt.lstripChars
  rw [PySem.W.stripBy_eq]
  have e : (mk l).cps.contains = l.contains := by
    funext c
    show l.toArray.contains c = _
    simp
  show strSub (mk w) ((w.toArray.toList.takeWhile (mk l).cps.contains).length) (mk w).length = _
  rw [e, List.toList_toArray, len_mk, sub_mk, drop_tw]
def preD (l w : List Nat) : List Nat := if w.take l.length = l then w.drop l.length else w
theorem rmpre_mk (w l : List Nat) : Txt.removeprefix (mk w) (mk l) = mk (preD l w) := by
  unfold Txt.removeprefix preD
  have e : subAt (mk w) (mk l) 0 = decide (w.take l.length = l) := by
    rw [PySem.StrLaws.subAt_eq]
    show ((w.toArray.toList.drop 0).take (mk l).length == l.toArray.toList) = _
    rw [List.toList_toArray, List.toList_toArray, List.drop_zero, len_mk]
    by_cases h : w.take l.length = l
    · rw [decide_eq_true h, h]
      exact beq_self_eq_true l
    · rw [decide_eq_false h]
      exact beq_eq_false_iff_ne.mpr h
  rw [e]
  by_cases h : w.take l.length = l
  · rw [decide_eq_true h, if_pos rfl, if_pos h, len_mk, len_mk]
    show (if (w.length - l.length == (mk w).length) = true then mk w else strSub (mk w) l.length w.length) = _
    rw [len_mk, sub_mk]
    split
    · rename_i h2
      have h2 := eq_of_beq h2
      have hl : l.length ≤ w.length := by
        have := congrArg List.length h
        rw [List.length_take] at this
        omega
      rcases Nat.eq_zero_or_pos l.length with h3 | h3
      · rw [h3, List.drop_zero]
      · omega
    · rfl
  · rw [decide_eq_false h, if_neg Bool.false_ne_true, if_neg h]
    rfl
/-- what each atom leaves, if it gets as much as it can -/
def gr : List Atm → List Nat → List Nat
  | [], w => w
  | (true, l) :: p, w => gr p (w.dropWhile l.contains)
  | (false, l) :: p, w => gr p (preD l w)
/-- where an atom can lead to -/
def St1 (w : List Nat) (b : Bool) (l : List Nat) (e m : Nat) : Prop := if b = true then e ≤ m ∧ m ≤ w.length ∧ ∀ i x, e ≤ i → i < m → w[i]? = some x → x ∈ l else m = e ∨ (m = e + 1 ∧ ∃ x, l = [x] ∧ w[e]? = some x)
def Rp (w : List Nat) : List Atm → Nat → Nat → Prop
  | [], e, e' => e' = e
  | a :: p, e, e' => ∃ m, St1 w a.1 a.2 e m ∧ Rp w p m e'
theorem st1_stay {w : List Nat} {b : Bool} {l : List Nat} {e : Nat} (h : e ≤ w.length) : St1 w b l e e := by
  unfold St1
  cases b
  · exact .inl rfl
  · exact ⟨Nat.le_refl _, h, fun i x h1 h2 => absurd h2 (by omega)⟩
theorem st1_le {w : List Nat} {b : Bool} {l : List Nat} {e m : Nat} (h : St1 w b l e m) (he : e ≤ w.length) : e ≤ m ∧ m ≤ w.length := by
  unfold St1 at h
  cases b
  · simp only [Bool.false_eq_true, if_false] at h
    rcases h with h | ⟨h, x, _, hx⟩
    · omega
    · have : e < w.length := by
        rcases Nat.lt_or_ge e w.length with g | g
        · exact g
        · rw [List.getElem?_eq_none g] at hx; cases hx
      omega
  · simp only [if_true] at h
    exact ⟨h.1, h.2.1⟩
theorem rp_snoc {w : List Nat} {a : Atm} : ∀ {p : List Atm} {e e' : Nat}, Rp w (p ++ [a]) e e' ↔ ∃ m, Rp w p e m ∧ St1 w a.1 a.2 m e'
  | [], e, e' => ⟨fun ⟨m, h1, h2⟩ => ⟨e, rfl, by cases h2; exact h1⟩, fun ⟨m, h1, h2⟩ => ⟨e', by cases h1; exact h2, rfl⟩⟩
  | b :: p, e, e' => ⟨fun ⟨m, h1, h2⟩ => by
      obtain ⟨n, g1, g2⟩ := rp_snoc.mp h2
      exact ⟨n, ⟨m, h1, g1⟩, g2⟩, fun ⟨n, ⟨m, h1, g1⟩, g2⟩ => ⟨m, h1, rp_snoc.mpr ⟨n, g1, g2⟩⟩⟩
theorem rp_later {w : List Nat} : ∀ {p : List Atm} {e e2 : Nat}, Rp w p e w.length → e ≤ e2 → e2 ≤ w.length → Rp w p e2 w.length
  | [], e, e2, h, h1, h2 => by
    have h : w.length = e := h
    show w.length = e2
    omega
  | a :: p, e, e2, ⟨m, s, t⟩, h1, h2 => by
    obtain ⟨g1, g2⟩ := st1_le s (by omega)
    by_cases hm : e2 ≤ m
    · by_cases hs : St1 w a.1 a.2 e2 m
      · exact ⟨m, hs, t⟩
      · refine ⟨e2, st1_stay h2, rp_later (e := m) t ?_ h2⟩
        unfold St1 at s hs
        cases hb : a.1
        · rw [hb] at s hs
          simp only [Bool.false_eq_true, if_false] at s hs
          rcases s with s | ⟨s, x, hx⟩
          · omega
          · rcases Nat.lt_or_ge e e2 with q | q
            · omega
            · exact absurd (.inr ⟨by omega, x, hx.1, by rw [show e2 = e by omega]; exact hx.2⟩) hs
        · rw [hb] at s hs
          simp only [if_true] at s hs
          exact absurd ⟨hm, s.2.1, fun i x q1 q2 => s.2.2 i x (by omega) q2⟩ hs
    · exact ⟨e2, st1_stay h2, rp_later (e := m) t (by omega) h2⟩
/-- atoms as they are used: an optional one has one item -/
def OneA (p : List Atm) : Prop := ∀ a ∈ p, a.1 = false → ∃ x, a.2 = [x]
theorem tw_get (g : Nat → Bool) : ∀ (w : List Nat) (i x : Nat), i < (w.takeWhile g).length → w[i]? = some x → g x = true
  | [], i, x, h, _ => by simp at h
  | y :: w, i, x, h, e => by
    cases hy : g y with
    | false => rw [List.takeWhile_cons_of_neg (by rw [hy]; exact Bool.false_ne_true)] at h; simp at h
    | true =>
      rw [List.takeWhile_cons_of_pos hy, List.length_cons] at h
      cases i with
      | zero => cases e; exact hy
      | succ i => exact tw_get g w i x (by omega) e
theorem tw_stop (g : Nat → Bool) : ∀ (w : List Nat) (x : Nat), w[(w.takeWhile g).length]? = some x → g x = false
  | [], x, e => by simp at e
  | y :: w, x, e => by
    cases hy : g y with
    | false =>
      rw [List.takeWhile_cons_of_neg (by rw [hy]; exact Bool.false_ne_true)] at e
      cases e
      exact hy
    | true =>
      rw [List.takeWhile_cons_of_pos hy, List.length_cons] at e
      exact tw_stop g w x e
theorem gr_rp {w : List Nat} : ∀ {p : List Atm} {e : Nat}, OneA p → e ≤ w.length → (gr p (w.drop e) = [] ↔ Rp w p e w.length)
  | [], e, _, he => by
    show w.drop e = [] ↔ w.length = e
    rw [List.drop_eq_nil_iff]
    omega
  | (true, l) :: p, e, ho, he => by
    have ih := fun e' h => gr_rp (w := w) (p := p) (e := e') (fun a ha => ho a (List.mem_cons_of_mem _ ha)) h
    have lt : ((w.drop e).takeWhile l.contains).length ≤ w.length - e := by
      have := (List.takeWhile_sublist (p := l.contains) (l := w.drop e)).length_le
      rwa [List.length_drop] at this
    show gr p ((w.drop e).dropWhile l.contains) = [] ↔ _
    rw [← drop_tw, List.drop_drop]
    rw [ih _ (by omega)]
    constructor
    · intro h
      refine ⟨_, ?_, h⟩
      unfold St1
      rw [if_pos rfl]
      refine ⟨by omega, by omega, fun i x h1 h2 hx => ?_⟩
      have := tw_get l.contains (w.drop e) (i - e) x (by omega) (by rw [List.getElem?_drop, show e + (i - e) = i by omega]; exact hx)
      exact List.contains_iff_mem.mp this
    · rintro ⟨m, s, t⟩
      unfold St1 at s
      rw [if_pos rfl] at s
      refine rp_later t ?_ (by omega)
      rcases Nat.lt_or_ge (e + ((w.drop e).takeWhile l.contains).length) m with q | q
      · exfalso
        have hx : e + ((w.drop e).takeWhile l.contains).length < w.length := by omega
        have h1 := s.2.2 _ _ (by omega) q (List.getElem?_eq_getElem hx)
        have h2 := tw_stop l.contains (w.drop e) w[e + ((w.drop e).takeWhile l.contains).length] (by rw [List.getElem?_drop]; exact List.getElem?_eq_getElem hx)
        rw [List.contains_iff_mem.mpr h1] at h2
        cases h2
      · exact q
  | (false, l) :: p, e, ho, he => by
    have ih := fun e' h => gr_rp (w := w) (p := p) (e := e') (fun a ha => ho a (List.mem_cons_of_mem _ ha)) h
    obtain ⟨x, hx⟩ := ho _ (List.mem_cons_self ..) rfl
    have hx : l = [x] := hx
    subst hx
    show gr p (preD [x] (w.drop e)) = [] ↔ _
    unfold preD
    have ht : (w.drop e).take 1 = [x] ↔ w[e]? = some x := by
      rcases Nat.lt_or_ge e w.length with g | g
      · rw [List.drop_eq_getElem_cons g, List.take_succ_cons, List.take_zero, List.getElem?_eq_getElem g]
        simp
      · rw [List.drop_eq_nil_of_le g, List.getElem?_eq_none g]
        simp
    show gr p (if (w.drop e).take 1 = [x] then (w.drop e).drop 1 else w.drop e) = [] ↔ _
    by_cases h : w[e]? = some x
    · have hl : e < w.length := by
        rcases Nat.lt_or_ge e w.length with g | g
        · exact g
        · rw [List.getElem?_eq_none g] at h; cases h
      rw [if_pos (ht.mpr h), List.drop_drop, ih _ hl]
      constructor
      · intro t
        exact ⟨e + 1, .inr ⟨rfl, x, rfl, h⟩, t⟩
      · rintro ⟨m, s, t⟩
        have := st1_le s he
        refine rp_later t ?_ hl
        have s : m = e ∨ (m = e + 1 ∧ ∃ y, [x] = [y] ∧ w[e]? = some y) := s
        rcases s with s | s
        · omega
        · omega
    · rw [if_neg (fun q => h (ht.mp q)), ih _ he]
      constructor
      · intro t
        exact ⟨e, .inl rfl, t⟩
      · rintro ⟨m, s, t⟩
        have s : m = e ∨ (m = e + 1 ∧ ∃ y, [x] = [y] ∧ w[e]? = some y) := s
        rcases s with s | ⟨_, y, h1, h2⟩
        · rw [← s]; exact t
        · injection h1 with h1
          rw [← h1] at h2
          exact absurd h2 h
end Gn

set_option Elab.async false
set_option linter.all false
set_option maxRecDepth 100000
set_option maxHeartbeats 4000000
/-! sorted texts of one sign -/
namespace Gn
open PySem PySem.Spec PyProof.Rows L2 Own Exn Mth Vld
theorem risP : ∀ (m : List Nat) (p : Nat), risingS (sg p) (m.map sg) = true → (p :: m).Pairwise (· ≤ ·)
  | [], p, _ => List.pairwise_singleton _ _
  | x :: m, p, h => by
    have h : (!ltCps [x] [p] && risingS (sg x) (m.map sg)) = true := h
    rw [Bool.and_eq_true, Bool.not_eq_true'] at h
    have ih := risP m x h.2
    have hx : p ≤ x := by
      have h1 : (decide (x < p) || (x == p && false)) = false := h.1
      rw [Bool.and_false, Bool.or_false] at h1
      exact Nat.not_lt.mp (of_decide_eq_false h1)
    refine List.pairwise_cons.mpr ⟨fun y hy => ?_, ih⟩
    rcases List.mem_cons.mp hy with rfl | hy
    · exact hx
    · exact Nat.le_trans hx ((List.pairwise_cons.mp ih).1 y hy)
theorem sorted_sg {l : List Nat} {ys : List Str} (hp : ys.Perm (l.map sg)) (hs : sortedS ys = true) (hn : l.Nodup) : ∃ m : List Nat, ys = m.map sg ∧ m.Perm l ∧ m.Pairwise (· < ·) := by
  have e1 : ∀ y ∈ ys, ∃ c, y = sg c := fun y hy => by
    obtain ⟨c, _, e⟩ := List.mem_map.mp (hp.subset hy)
    exact ⟨c, e.symm⟩
  let g : Str → Nat := fun y => y.cps.toList.headD 0
  have gs : ∀ c, g (sg c) = c := fun c => rfl
  have e2 : ys = (ys.map g).map sg := by
    rw [List.map_map]
    refine (List.map_id ys).symm.trans (List.map_congr_left fun y hy => ?_)
    obtain ⟨c, rfl⟩ := e1 y hy
    rfl
  have e3 : (ys.map g).Perm l := by
    have := hp.map g
    rw [List.map_map, show (g ∘ sg) = id from rfl, List.map_id] at this
    exact this
  refine ⟨ys.map g, e2, e3, ?_⟩
  have hle : (ys.map g).Pairwise (· ≤ ·) := by
    rw [e2] at hs
    cases h : ys.map g with
    | nil => exact .nil
    | cons x m =>
      rw [h] at hs
      exact risP m x hs
  have hnd : (ys.map g).Nodup := e3.nodup_iff.mpr hn
  exact hle.imp₂ (fun a b h1 h2 => Nat.lt_of_le_of_ne h1 h2) hnd
theorem asc_sub : ∀ (m z : List Nat), m.Pairwise (· < ·) → z.Pairwise (· < ·) → (∀ c ∈ z, c ∈ m) → List.Sublist z m
  | m, [], _, _, _ => List.nil_sublist _
  | [], x :: z, _, _, h => by cases h x (List.mem_cons_self ..)
  | y :: m, x :: z, hm, hz, h => by
    have hm := List.pairwise_cons.mp hm
    by_cases e : x = y
    · subst e
      have hz := List.pairwise_cons.mp hz
      refine (asc_sub m z hm.2 hz.2 fun c hc => ?_).cons₂ x
      rcases List.mem_cons.mp (h c (List.mem_cons_of_mem _ hc)) with e | h1
      · exact absurd (hz.1 c hc) (by omega)
      · exact h1
    · have hx : x ∈ m := by
        rcases List.mem_cons.mp (h x (List.mem_cons_self ..)) with e1 | h1
        · exact absurd e1 e
        · exact h1
      refine (asc_sub m (x :: z) hm.2 hz fun c hc => ?_).cons y
      rcases List.mem_cons.mp (h c hc) with e1 | h1
      · exfalso
        have h2 := hm.1 x hx
        rcases List.mem_cons.mp hc with e3 | e3
        · omega
        · have := (List.pairwise_cons.mp hz).1 c e3
          omega
      · exact h1
end Gn
namespace Stx
open PySem PySem.Spec PyProof.Rows L2
section
variable {X : Cx}
def rSetLD (K : PySem.W.Frag) (w : World) : List V → Hp → VK → Prop := fun xs H Q => ∃ (l : Addr) (ns : List Int), xs = [.ref l] ∧ SqL K H l (ns.map V.int) ∧ ns.length ≤ 1000 ∧ ∀ p (B : List Int), H p = none → B.Nodup → (∀ k, k ∈ B ↔ k ∈ ns) → Q (.ref p) (upd H p (SetO w p (fun j => decide (j ∈ ns)) B.length))
theorem cr_setLD (hc : X.calm = true) : CallR X (.type "set") (rSetLD X.K X.w) := by
  intro pins s σ H xs us Q I r h
  obtain ⟨l, ns, rfl, hq, hl, q⟩ := h
  obtain ⟨u, rfl, ru⟩ := vals1 r
  cases (show u = Value.ref l from ru)
  obtain ⟨its, rv, pt, hz⟩ := I.list hq
  have hin := ints_of_vals rv
  refine set_of_list ns (I.ok.hd hc) pt.isList hin (by unfold scanBound; omega) fun h' tk c R cl k => ?_
  have R' := R
  obtain ⟨o, es, ep, t, ho, _, _, _, nd, mem, _, _, sz, _, _⟩ := R'
  have eB : (es.toList.map keyOf).length = c := by rw [List.length_map, Array.length_toList]; exact sz
  refine ⟨.ref s.heap.objs.size, _, I.laid (t' := tk) k (Nat.le_refl _) (setO_new R), rfl, ?_⟩
  rw [← eB]
  exact q _ _ (I.hok.fresh (Nat.le_refl _)) nd fun k => (mem k).symm.trans decide_eq_true_iff
end
end Stx

set_option Elab.async false
set_option linter.all false
set_option maxRecDepth 100000
set_option maxHeartbeats 4000000
/-! max(a list of ints, default=d) -/
namespace Mxd
open PySem PySem.Spec PyProof.Rows L2
section
variable {prog : Program} {w : World} {A : Around} {R : Result → Shared → Prop} {I : Addr} {fp wr : List Addr} {n : Nat} {P : Nat → Value → Prop} {St : Nat → Heap → Prop}
/-- what the loop holds: nothing yet, or the best so far -/
def Cur (P : Nat → Value → Prop) (bt : Nat → Nat → Bool) (j : Nat) : Option Value → Prop
  | none => j = 0
  | some v => 0 < j ∧ P (argBest bt (j - 1)) v
def held : Option Value → Array Value
  | none => #[]
  | some v => #[v, v]
theorem loop (W : Walks prog w A.in1 I fp wr n P St) (bt : Nat → Nat → Bool) (hcmp : CmpOf prog w A.in1 .Gt P bt) (S : Addr) (hSf : S ∉ fp) (d : Value) :
    ∀ (k j : Nat) (s : Shared) (cur : Option Value) (c : Nat), n - j = k → j ≤ n → St j s.heap → Cur P bt j cur →
    s.heap.get? S = some { cls := .type "list", dict := none, data := .seq (held cur) c, slots := #[] } →
    (∀ v h' tk, (if n = 0 then v = d else P (argBest bt (n - 1)) v) → (∀ b o, b ∉ wr → b ≠ S → s.heap.get? b = some o → h'.get? b = some o) → R (.ok (.ret v)) { s with heap := h', toks := tk }) →
    codeAny (model prog w) A (.builtin "max.loop" ⟨[.ref I, .none, .ref S], [("default", d)]⟩) R s := by
  have hSw : S ∉ wr := fun h => hSf (W.sub _ h)
  have hname : (toString "max" ++ toString ".loop" : String) = "max.loop" := by decide
  intro k
  induction k with
  | zero =>
    intro j s cur c hk hj hst hc hS hR
    obtain rfl : j = n := by omega
    refine codeAny_builtin F.entry_max_loop ?_
    rw [Around.under_plainId F.plain_max_loop _]
    show wpAny _ A.in1 (seqItems? (.ref S) >>= _) _ _ s
    refine wpAny_bind (wpAny_seqItems hS rfl ?_)
    show wpAny _ A.in1 (tryCatch (pyNext (.ref I)) _ >>= _) _ _ s
    refine wpAny_bind (wpAny_tryCatch (W.done s _ _ hst fun h' tk hk' => ?_))
    have hS' := hk' S _ hSw hS
    cases cur with
    | none =>
      show wpAny _ A.in1 (rule _ >>= _) _ _ _
      refine wpAny_bind (wpAny_rule (wpAny_pure ?_))
      exact hR d _ tk (by rw [if_pos (show j = 0 from hc)]) fun b o hbw hbS e => hk' b o hbw e
    | some vb =>
      have hS' : h'.get? S = some { cls := .type "list", dict := none, data := .seq #[vb, vb] c, slots := #[] } := hS'
      show wpAny _ A.in1 (updateSeq S (fun _ => #[]) >>= _) _ _ _
      refine wpAny_bind ?_
      refine wpAny_updateSeq hS' rfl (wpAny_bind (wpAny_letGo (wpAny_pure ?_)))
      exact hR vb _ tk (by rw [if_neg (Nat.ne_of_gt hc.1)]; exact hc.2) fun b o hbw hbS e => (Heap.get?_update_other _ _ (Ne.symm hbS)).trans (hk' b o hbw e)
  | succ k ih =>
    intro j s cur c hk hj hst hc hS hR
    have hlt : j < n := by omega
    refine codeAny_builtin F.entry_max_loop ?_
    rw [Around.under_plainId F.plain_max_loop _]
    show wpAny _ A.in1 (seqItems? (.ref S) >>= _) _ _ s
    refine wpAny_bind (wpAny_seqItems hS rfl ?_)
    show wpAny _ A.in1 (tryCatch (pyNext (.ref I)) _ >>= _) _ _ s
    refine wpAny_bind (wpAny_tryCatch (W.item j s _ _ hlt hst fun v h' tk hP hst' hk' => ?_))
    have hS' := hk' S _ hSw hS
    cases cur with
    | none =>
      have hS' : h'.get? S = some { cls := .type "list", dict := none, data := .seq #[] c, slots := #[] } := hS'
      obtain rfl : j = 0 := hc
      show wpAny _ A.in1 (updateSeq S (fun _ => #[v, v]) >>= _) _ _ _
      refine wpAny_bind ?_
      refine wpAny_updateSeq hS' rfl ?_
      rw [hname]
      refine wpAny_pure ⟨plainId_quiet F.plain_max_loop _, ih 1 _ (some v) _ (by omega) hlt (W.frame _ _ _ hst' fun b hbf o e => ?_) ⟨Nat.one_pos, hP⟩ (Heap.get?_update_self _ hS' rfl) fun v' h'' tk'' hP' hk'' => ?_⟩
      · exact (Heap.get?_update_other _ _ (fun h : S = b => hSf (by rw [h]; exact hbf))).trans e
      · exact hR v' h'' tk'' hP' fun b o hbw hbS e => hk'' b o hbw hbS ((Heap.get?_update_other _ _ (Ne.symm hbS)).trans (hk' b o hbw e))
    | some vb =>
      have hS' : h'.get? S = some { cls := .type "list", dict := none, data := .seq #[vb, vb] c, slots := #[] } := hS'
      obtain ⟨j0, hb0⟩ := hc
      have e1 : argBest bt j = if bt j (argBest bt (j - 1)) then j else argBest bt (j - 1) := by
        obtain ⟨i, rfl⟩ : ∃ i, j = i + 1 := ⟨j - 1, by omega⟩
        rfl
      show wpAny _ A.in1 (tryCatch (holding [v, v] (richCompare .Gt v vb >>= _)) _ >>= _) _ _ _
      refine wpAny_bind (wpAny_tryCatch (wpAny_holding (wpAny_bind (hcmp j (argBest bt (j - 1)) v vb _ _ _ hP hb0 ?_))))
      refine wpAny_bind (wpAny_holding (wpAny_truthy_bool ?_))
      refine wpAny_bind (wpAny_letGo (wpAny_pure ?_))
      cases hb : bt j (argBest bt (j - 1)) with
      | true =>
        simp only [if_true]
        refine wpAny_bind ?_
        refine wpAny_updateSeq hS' rfl (wpAny_bind (wpAny_letGo ?_))
        rw [hname]
        refine wpAny_pure ⟨plainId_quiet F.plain_max_loop _, ih (j + 1) _ (some v) _ (by omega) hlt (W.frame _ _ _ hst' fun b hbf o e => ?_) ⟨Nat.succ_pos _, by rw [Nat.add_sub_cancel, e1, hb, if_pos rfl]; exact hP⟩ (Heap.get?_update_self _ hS' rfl) fun v' h'' tk'' hP' hk'' => ?_⟩
        · exact (Heap.get?_update_other _ _ (fun h : S = b => hSf (by rw [h]; exact hbf))).trans e
        · exact hR v' h'' tk'' hP' fun b o hbw hbS e => hk'' b o hbw hbS ((Heap.get?_update_other _ _ (Ne.symm hbS)).trans (hk' b o hbw e))
      | false =>
        simp only [Bool.false_eq_true, if_false]
        refine wpAny_bind (wpAny_letGo ?_)
        rw [hname]
        refine wpAny_pure ⟨plainId_quiet F.plain_max_loop _, ih (j + 1) _ (some vb) c (by omega) hlt hst' ⟨Nat.succ_pos _, by rw [Nat.add_sub_cancel, e1, hb, if_neg Bool.false_ne_true]; exact hb0⟩ hS' fun v' h'' tk'' hP' hk'' => ?_⟩
        exact hR v' h'' tk'' hP' fun b o hbw hbS e => hk'' b o hbw hbS (hk' b o hbw e)
end
section
variable {prog : Program} {w : World} {A : Around} {E : Value → Shared → Prop} {s : Shared}
theorem args_maxD (a d : Value) : argsOk "max" ⟨[a], [("default", d)]⟩ := by unfold argsOk; kernel_rfl
theorem call_maxD {x d : Value} {Q : Value → Shared → Prop}
    (h : wpAny (model prog w) A.in1 (pyIter x) (fun it s₂ => ∃ I fp wr n P St bt, it = .ref I ∧ Walks prog w A.in1 I fp wr n P St ∧ St 0 s₂.heap ∧ (∀ b ∈ fp, b < s₂.heap.objs.size) ∧ CmpOf prog w A.in1 .Gt P bt ∧
      ∀ v h' tk, (if n = 0 then v = d else P (argBest bt (n - 1)) v) → (∀ b o, b ∉ wr → s₂.heap.get? b = some o → h'.get? b = some o) → Q v { s₂ with heap := h', toks := tk }) E s) :
    wpAny (model prog w) A (call (.builtin "max") [x] [("default", d)]) Q E s := by
  have hname : (toString "max" ++ toString ".loop" : String) = "max.loop" := by decide
  refine wpAny_call (codeAny_call_builtin F.plain_max F.entry_max ?_)
  simp only [checkBuiltinCall, F.kind_max]
  cases hsig : Manifest.signature? "max" with
  | none => exact absurd hsig (by decide +kernel)
  | some sig =>
    have ha : Bind.checkArgs "max" sig ⟨[x], [("default", d)]⟩ = pure () := by simpa only [argsOk, hsig] using args_maxD x d
    show wpAny _ A.in1 (Bind.checkArgs "max" sig ⟨[x], [("default", d)]⟩) _ _ s
    rw [ha]
    refine wpAny_pure ?_
    show wpAny _ A.in1 (Builtin.Builtins.bindParams "max" ["key", "default"] 0 ⟨[], [("default", d)]⟩ >>= _) _ _ s
    refine wpAny_bind (wpAny_of_eq (show Builtin.Builtins.bindParams "max" ["key", "default"] 0 ⟨[], [("default", d)]⟩ = pure [none, some d] from rfl) ?_)
    refine wpAny_bind (wpAny_pure ?_)
    refine wpAny_bind (wpAny_mono h (fun it s₂ h₂ => ?_) fun _ _ e => e)
    obtain ⟨I, fp, wr, n, P, St, bt, rfl, W, hst, hfp, hcmp, hQ⟩ := h₂
    refine wpAny_bind (wpAny_newObj_type ?_)
    have hSf : s₂.heap.objs.size ∉ fp := fun hm => Nat.lt_irrefl _ (hfp _ hm)
    rw [hname]
    refine wpAny_pure ⟨plainId_quiet F.plain_max_loop _, loop W bt hcmp s₂.heap.objs.size hSf d _ 0 _ none _ rfl (Nat.zero_le _) (W.frame _ _ _ hst fun b _ o e => Heap.get?_push_of_some _ e) rfl (Heap.get?_push_size _ rfl) fun v h' tk hP hk => ?_⟩
    exact hQ v h' tk hP fun b o hbw e => hk b o hbw (Nat.ne_of_lt (Heap.lt_size e)) (Heap.get?_push_of_some _ e)
theorem maxD_raw {l : Addr} {its : List Value} {ns : List Int} {d : Int} {td : Tok} {Q : Value → Shared → Prop} (hh : A.handled = none) (hl : s.heap.IsList l its.toArray) (hi : IntsAre its ns)
    (h : ∀ h' tk M t', (∀ b o, s.heap.get? b = some o → h'.get? b = some o) → (ns = [] → M = d) → (ns ≠ [] → M ∈ ns) → (∀ a, a ∈ ns → a ≤ M) → Q (.int M t') { s with heap := h', toks := tk }) : wpAny (model prog w) A (call (.builtin "max") [.ref l] [("default", .int d td)]) Q E s := by
  obtain ⟨xs, e⟩ := hi.allInts.items
  have hn : numsOf (intItems xs).toList = ns := by rw [← e]; exact hi.numsOf
  rw [nums_intItems] at hn
  subst hn
  rw [e] at hl
  refine call_maxD (iter_intList hl fun s₂ e st hfp hlI => ?_)
  subst e
  refine ⟨_, _, _, _, _, _, _, rfl, Walks.list (A := A.in1) hh _ l hlI (intItems xs), st, hfp, CmpOf.ints_gt (numAt xs) (fun _ _ => intItems_at), fun v h' tk hP hk => ?_⟩
  have hz : (intItems xs).size = xs.size := by simp [intItems]
  rw [hz] at hP
  by_cases h0 : xs.size = 0
  · rw [if_pos h0] at hP
    subst hP
    have hx : xs.toList = [] := List.eq_nil_of_length_eq_zero (by rw [Array.length_toList]; exact h0)
    refine h h' tk _ td (old_kept hk) (fun _ => rfl) (fun h => absurd ?_ h) fun a ha => ?_
    · rw [hx]; rfl
    · rw [hx] at ha; cases ha
  · rw [if_neg h0] at hP
    obtain ⟨t, rfl⟩ := intItems_at hP
    obtain ⟨h1, h2⟩ := argBest_gt (numAt xs) (xs.size - 1)
    refine h h' tk _ t (old_kept hk) (fun h => ?_) (fun _ => ?_) fun a ha => ?_
    · exact absurd (by have := congrArg List.length h; rw [List.length_map, Array.length_toList] at this; exact this) h0
    · rw [numAt_eq]; exact PySem.getD_mem (by rw [List.length_map, Array.length_toList]; omega)
    · obtain ⟨j, hj, rfl⟩ := mem_getD ha
      rw [List.length_map, Array.length_toList] at hj
      rw [← numAt_eq]; exact h2 j (by omega)
end
section
variable {X : Cx}
/-- max(xs, default=d) of a list of ints -/
def rMaxD (K : PySem.W.Frag) : List V → List V → Hp → VK → Prop := fun vs zs H Q => ∃ (a : Addr) (ns : List Int) (d : Int), vs = [V.ref a] ∧ zs = [.int d] ∧ SqL K H a (ns.map V.int) ∧ ∀ m, (ns = [] → m = d) → (ns ≠ [] → m ∈ ns) → (∀ y, y ∈ ns → y ≤ m) → Q (.int m) H
theorem cr_maxD (hc : X.calm = true) : CallRK X (.builtin "max") ["default"] (rMaxD X.K) := by
  intro pins s σ H vs zs us ws Q I r rz h
  obtain ⟨a, ns, d, rfl, rfl, hs, q⟩ := h
  obtain ⟨its, rv, hl, _⟩ := I.list hs
  rw [Vals.ref1 r]
  obtain ⟨u, rfl, ru⟩ := vals1 rz
  obtain ⟨t, rfl⟩ := ru
  exact maxD_raw (I.ok.hd hc) hl.isList rv.ints fun h' tk m t' hk h1 h2 h3 => ⟨.int _, H, I.kept hk, ⟨_, rfl⟩, q m h1 h2 h3⟩
end
end Mxd
namespace Gn
open PySem PySem.Spec PyProof.Rows L2 Own Exn Mth Vld
section
variable {X : Cx}
/-- a list == [] -/
def rEqE : R2 := fun x y H Q => ∃ (p r : Addr) (xs : List V), x = .ref p ∧ y = .ref r ∧ H p = some (.lst xs) ∧ H r = some (.lst []) ∧ Q (.bl xs.isEmpty) H
def rNeE : R2 := fun x y H Q => ∃ (p r : Addr) (xs : List V), x = .ref p ∧ y = .ref r ∧ H p = some (.lst xs) ∧ H r = some (.lst []) ∧ Q (.bl !xs.isEmpty) H
theorem op_neE (hu : X.A.units + 64 < cLine) : OpR X (compareOp .NotEq) rNeE := by
  intro pins s σ H x y v u Q I rx ry h
  obtain ⟨p, r, xs, rfl, rfl, e1, e2, q⟩ := h
  cases xs with
  | nil =>
    refine op_neD hu pins s σ H _ _ v u Q I rx ry ⟨.list [], .list [], .lst (SqL.of e1) .nil, .lst (SqL.of e2) .nil, by decide +kernel, by decide +kernel, ?_⟩
    rw [show (!PyData.eqv (.list []) (.list [])) = false by decide +kernel]
    exact q
  | cons x xs => exact op_neLen (Nat.lt_of_le_of_lt (Nat.le_add_right _ 64) hu) pins s σ H _ _ v u Q I rx ry ⟨p, r, _, _, rfl, rfl, e1, e2, (fun e => nomatch e), q⟩
theorem op_eqE (hu : X.A.units + 64 < cLine) : OpR X (compareOp .Eq) rEqE := by
  intro pins s σ H x y v u Q I rx ry h
  obtain ⟨p, r, xs, rfl, rfl, e1, e2, q⟩ := h
  cases xs with
  | nil =>
    refine op_eqD hu pins s σ H _ _ v u Q I rx ry ⟨.list [], .list [], .lst (SqL.of e1) .nil, .lst (SqL.of e2) .nil, by decide +kernel, by decide +kernel, ?_⟩
    rw [show (PyData.eqv (.list []) (.list [])) = true by decide +kernel]
    exact q
  | cons x xs =>
    obtain rfl : v = Value.ref p := rx
    obtain rfl : u = Value.ref r := ry
    obtain ⟨its, rv, p', hz⟩ := I.list (SqL.of e1)
    obtain ⟨its2, rv2, p2, hz2⟩ := I.list (SqL.of e2)
    refine PySem.SeqAt.RcAt.lists_lengths p'.isList p2.isList ?_ (Nat.lt_of_le_of_lt (Nat.le_add_right _ 64) hu) X.prog X.w _ _ (fin_bl I q rfl)
    have h1 := rv.length
    have h2 := rv2.length
    simp only [List.length_cons, List.length_nil] at h1 h2
    simp
    omega
end
end Gn

set_option Elab.async false
set_option linter.all false
set_option maxRecDepth 100000
set_option maxHeartbeats 4000000
/-! patterns: reading a word, covering a pattern -/
namespace Gn
open PySem PySem.Spec PyProof.Rows L2 Own Exn Mth Vld
/-- what is left of a pattern after one item -/
def nx1 : List Atm → Nat → Option (List Atm)
  | [], _ => none
  | (b, l) :: q, c => if c ∈ l then some (if b = true then (b, l) :: q else q) else nx1 q c
def rdP : List Atm → List Nat → Option (List Atm)
  | q, [] => some q
  | q, c :: w => match nx1 q c with
    | none => none
    | some q' => rdP q' w
theorem rdP_none {q : List Atm} {c : Nat} {w : List Nat} (h : nx1 q c = none) : rdP q (c :: w) = none := by
  unfold rdP; rw [h]
theorem rdP_some {q q' : List Atm} {c : Nat} {w : List Nat} (h : nx1 q c = some q') : rdP q (c :: w) = rdP q' w := by
  rw [rdP, h]
theorem rdP_nil (q : List Atm) : rdP q [] = some q := by cases q <;> rfl
theorem rdP_skip {b : Bool} {l : List Nat} {q : List Atm} {c : Nat} {w : List Nat} (h : c ∉ l) : rdP ((b, l) :: q) (c :: w) = rdP q (c :: w) := by
  have e : nx1 ((b, l) :: q) c = nx1 q c := by unfold nx1; rw [if_neg h]; cases q <;> rfl
  cases hn : nx1 q c with
  | none => rw [rdP_none hn, rdP_none (e.trans hn)]
  | some q' => rw [rdP_some hn, rdP_some (e.trans hn)]
theorem rdP_stay {l : List Nat} {q : List Atm} {c : Nat} {w : List Nat} (h : c ∈ l) : rdP ((true, l) :: q) (c :: w) = rdP ((true, l) :: q) w := rdP_some (by unfold nx1; rw [if_pos h, if_pos rfl])
theorem rdP_one {l : List Nat} {q : List Atm} {c : Nat} {w : List Nat} (h : c ∈ l) : rdP ((false, l) :: q) (c :: w) = rdP q w := rdP_some (by unfold nx1; rw [if_pos h, if_neg Bool.false_ne_true])
theorem rdP_app : ∀ (u v : List Nat) (q : List Atm), rdP q (u ++ v) = (rdP q u).bind fun q' => rdP q' v
  | [], v, q => by rw [rdP_nil]; rfl
  | c :: u, v, q => by
    rw [List.cons_append]
    cases h : nx1 q c with
    | none => rw [rdP_none h, rdP_none h]; rfl
    | some q' => rw [rdP_some h, rdP_some h, rdP_app u v q']
theorem gr_nil : ∀ p : List Atm, gr p [] = []
  | [] => rfl
  | (true, l) :: p => gr_nil p
  | (false, l) :: p => by
    show gr p (preD l []) = []
    have : preD l [] = [] := by unfold preD; split <;> simp
    rw [this, gr_nil p]
/-- the greedy way reads what the pattern can read -/
theorem gr_rd : ∀ (p : List Atm) (w : List Nat), OneA p → (gr p w = [] ↔ (rdP p w).isSome = true)
  | [], [], _ => ⟨fun _ => rfl, fun _ => rfl⟩
  | [], c :: w, _ => ⟨(fun e => nomatch e), fun e => by rw [rdP_none rfl] at e; cases e⟩
  | (b, l) :: p, [], _ => by rw [gr_nil, rdP_nil]; exact ⟨fun _ => rfl, fun _ => rfl⟩
  | (true, l) :: p, c :: w, h => by
    by_cases hc : c ∈ l
    · rw [rdP_stay hc, ← gr_rd ((true, l) :: p) w h]
      show gr p ((c :: w).dropWhile l.contains) = [] ↔ gr p (w.dropWhile l.contains) = []
      rw [List.dropWhile_cons_of_pos (List.contains_iff_mem.mpr hc)]
    · rw [rdP_skip hc, ← gr_rd p (c :: w) fun a ha => h a (List.mem_cons_of_mem _ ha)]
      show gr p ((c :: w).dropWhile l.contains) = [] ↔ _
      rw [List.dropWhile_cons_of_neg fun e => hc (List.contains_iff_mem.mp e)]
  | (false, l) :: p, c :: w, h => by
    obtain ⟨x, hx⟩ := h _ (List.mem_cons_self ..) rfl
    have hx : l = [x] := hx
    subst hx
    show gr p (preD [x] (c :: w)) = [] ↔ _
    by_cases hc : c = x
    · subst hc
      rw [rdP_one (List.mem_singleton.mpr rfl), ← gr_rd p w fun a ha => h a (List.mem_cons_of_mem _ ha)]
      rw [show preD [c] (c :: w) = w by
        unfold preD
        rw [if_pos (show (c :: w).take [c].length = [c] from rfl)]
        rfl]
    · rw [rdP_skip fun e => hc (List.mem_singleton.mp e), ← gr_rd p (c :: w) fun a ha => h a (List.mem_cons_of_mem _ ha)]
      rw [show preD [x] (c :: w) = c :: w by
        unfold preD
        rw [if_neg]
        intro e
        have e : [c] = [x] := e
        injection e with e
        exact hc e]
/-- the first atom that can hold an atom -/
def Hold (x a : Atm) : Prop := x = a ∨ (x.1 = true ∧ ∀ c ∈ a.2, c ∈ x.2)
instance (x a : Atm) : Decidable (Hold x a) := by unfold Hold; infer_instance
def fnd1 : List Atm → Atm → Option (List Atm)
  | [], _ => none
  | x :: q, a => if Hold x a then some (if x.1 = true then x :: q else q) else fnd1 q a
def cov : List Atm → List Atm → Option (List Atm)
  | q, [] => some q
  | q, a :: p => match fnd1 q a with
    | none => none
    | some q' => cov q' p
/-- the long word of a pattern -/
def longA (n : Nat) (a : Atm) : List Nat := if a.1 = true then (List.replicate n a.2).flatten else a.2
def longW (n : Nat) (p : List Atm) : List Nat := (p.map (longA n)).flatten
theorem rd_all {l : List Nat} {q : List Atm} : ∀ {w : List Nat}, (∀ c ∈ w, c ∈ l) → rdP ((true, l) :: q) w = some ((true, l) :: q)
  | [], _ => rdP_nil _
  | c :: w, h => by rw [rdP_stay (h c (List.mem_cons_self ..)), rd_all fun x hx => h x (List.mem_cons_of_mem _ hx)]
theorem rd_leave {l : List Nat} {q : List Atm} : ∀ {u : List Nat} (t : List Nat), (∃ c ∈ u, c ∉ l) → ∃ v, v ≠ [] ∧ (∀ c ∈ v, c ∈ u) ∧ rdP ((true, l) :: q) (u ++ t) = rdP q (v ++ t)
  | [], t, ⟨c, h, _⟩ => by cases h
  | x :: u, t, h => by
    by_cases hx : x ∈ l
    · obtain ⟨c, hc, hn⟩ := h
      rcases List.mem_cons.mp hc with rfl | hc
      · exact absurd hx hn
      · obtain ⟨v, v0, v1, v2⟩ := rd_leave (u := u) t ⟨c, hc, hn⟩
        exact ⟨v, v0, fun y hy => List.mem_cons_of_mem _ (v1 y hy), by rw [List.cons_append, rdP_stay hx, v2]⟩
    · exact ⟨x :: u, (fun e => nomatch e), fun y hy => hy, by rw [List.cons_append, rdP_skip hx]⟩
/-- many rounds of m lead to the first atom that can hold all of m -/
theorem rd_long {m : List Nat} (hm : m ≠ []) : ∀ (q : List Atm) (v : List Nat) (n : Nat), OneA q → (∀ c ∈ v, c ∈ m) → q.length < n → rdP q (v ++ (List.replicate n m).flatten) = fnd1 q (true, m)
  | [], v, n, _, _, hn => by
    obtain ⟨n, rfl⟩ : ∃ k, n = k + 1 := ⟨n - 1, by simp at hn; omega⟩
    rw [List.replicate_succ, List.flatten_cons]
    cases hv : v ++ (m ++ (List.replicate n m).flatten) with
    | nil =>
      have := List.append_eq_nil_iff.mp hv
      exact absurd (List.append_eq_nil_iff.mp this.2).1 hm
    | cons c w => rw [rdP_none rfl]; rfl
  | (b, l) :: q, v, n, h1, hv, hn => by
    rw [List.length_cons] at hn
    obtain ⟨n, rfl⟩ : ∃ k, n = k + 1 := ⟨n - 1, by omega⟩
    have ho : OneA q := fun a ha => h1 a (List.mem_cons_of_mem _ ha)
    rw [List.replicate_succ, List.flatten_cons, ← List.append_assoc]
    have hvm : ∀ c ∈ v ++ m, c ∈ m := fun c hc => (List.mem_append.mp hc).elim (hv c) id
    cases b with
    | true =>
      by_cases hs : ∀ c ∈ m, c ∈ l
      · have hH : Hold (true, l) (true, m) := .inr ⟨rfl, hs⟩
        unfold fnd1
        rw [if_pos hH, if_pos rfl]
        refine rd_all fun c hc => ?_
        rcases List.mem_append.mp hc with hc | hc
        · exact hs c (hvm c hc)
        · obtain ⟨l', hl', h⟩ := List.mem_flatten.mp hc
          rw [List.eq_of_mem_replicate hl'] at h
          exact hs c h
      · have hH : ¬ Hold (true, l) (true, m) := by
          rintro (e | ⟨_, e⟩)
          · injection e with _ e
            exact hs fun c hc => e ▸ hc
          · exact hs e
        unfold fnd1
        rw [if_neg hH]
        have : ∃ c ∈ v ++ m, c ∉ l := by
          obtain ⟨c, hc⟩ := Classical.not_forall.mp hs
          obtain ⟨h2, h3⟩ := Classical.not_imp.mp hc
          exact ⟨c, List.mem_append_right _ h2, h3⟩
        obtain ⟨v', _, w1, w2⟩ := rd_leave (q := q) (List.replicate n m).flatten this
        rw [w2]
        exact rd_long hm q v' n ho (fun c hc => hvm c (w1 c hc)) (by omega)
    | false =>
      have hH : ¬ Hold (false, l) (true, m) := by
        rintro (e | ⟨e, _⟩)
        · cases e
        · cases e
      unfold fnd1
      rw [if_neg hH]
      cases hu : v ++ m with
      | nil => exact absurd (List.append_eq_nil_iff.mp hu).2 hm
      | cons c u =>
        rw [hu] at hvm
        rw [List.cons_append]
        by_cases hc : c ∈ l
        · rw [rdP_one hc]
          exact rd_long hm q u n ho (fun y hy => hvm y (List.mem_cons_of_mem _ hy)) (by omega)
        · rw [rdP_skip hc, ← List.cons_append]
          exact rd_long hm q (c :: u) n ho hvm (by omega)
theorem fnd1_one {c : Nat} : ∀ q : List Atm, OneA q → fnd1 q (false, [c]) = nx1 q c
  | [], _ => rfl
  | (b, l) :: q, h => by
    have ih := fnd1_one (c := c) q fun a ha => h a (List.mem_cons_of_mem _ ha)
    have e : Hold (b, l) (false, [c]) ↔ c ∈ l := by
      constructor
      · rintro (e | ⟨_, e⟩)
        · injection e with _ e
          rw [e]; exact List.mem_singleton.mpr rfl
        · exact e c (List.mem_singleton.mpr rfl)
      · intro hc
        cases b with
        | true => exact .inr ⟨rfl, fun x hx => by rw [List.mem_singleton.mp hx]; exact hc⟩
        | false =>
          obtain ⟨x, hx⟩ := h _ (List.mem_cons_self ..) rfl
          have hx : l = [x] := hx
          subst hx
          rw [List.mem_singleton.mp hc]
          exact .inl rfl
    unfold fnd1 nx1
    by_cases hc : c ∈ l
    · rw [if_pos (e.mpr hc), if_pos hc]
    · rw [if_neg fun h => hc (e.mp h), if_neg hc, ih]
theorem fnd1_le {a : Atm} : ∀ {q q' : List Atm}, fnd1 q a = some q' → List.Sublist q' q
  | [], q', h => by cases h
  | x :: q, q', h => by
    unfold fnd1 at h
    split at h
    · injection h with h
      rw [← h]
      split
      · exact List.Sublist.refl _
      · exact List.sublist_cons_self ..
    · exact (fnd1_le h).cons x
/-- a pattern covers another one iff it holds its long word -/
theorem cov_long {n : Nat} : ∀ (p q : List Atm), OneA p → OneA q → (∀ a ∈ p, a.2 ≠ []) → q.length < n → rdP q (longW n p) = cov q p
  | [], q, _, _, _, _ => by
    show rdP q [] = _
    rw [rdP_nil]; cases q <;> rfl
  | (b, l) :: p, q, hp, hq, h0, hn => by
    have e : rdP q (longA n (b, l)) = fnd1 q (b, l) := by
      cases b with
      | true =>
        have := rd_long (m := l) (h0 _ (List.mem_cons_self ..)) q [] n hq (fun c h => nomatch h) hn
        rw [List.nil_append] at this
        exact this
      | false =>
        obtain ⟨x, hx⟩ := hp _ (List.mem_cons_self ..) rfl
        have hx : l = [x] := hx
        subst hx
        rw [fnd1_one q hq]
        show rdP q [x] = _
        cases hn : nx1 q x with
        | none => exact rdP_none hn
        | some q' => rw [rdP_some hn, rdP_nil]
    show rdP q (longA n (b, l) ++ longW n p) = _
    rw [rdP_app, e]
    have ec : cov q ((b, l) :: p) = match fnd1 q (b, l) with | none => none | some q' => cov q' p := by cases q <;> rfl
    rw [ec]
    cases hf : fnd1 q (b, l) with
    | none => rfl
    | some q' =>
      have hs := fnd1_le hf
      exact cov_long p q' (fun a ha => hp a (List.mem_cons_of_mem _ ha)) (fun a ha => hq a (hs.subset ha)) (fun a ha => h0 a (List.mem_cons_of_mem _ ha)) (Nat.lt_of_le_of_lt hs.length_le hn)
end Gn

set_option Elab.async false
set_option linter.all false
set_option maxRecDepth 100000
set_option maxHeartbeats 4000000
/-! patterns: a pattern that covers another holds all its words -/
namespace Gn
open PySem PySem.Spec PyProof.Rows L2 Own Exn Mth Vld
theorem nx1_yes {b : Bool} {l : List Nat} {q : List Atm} {c : Nat} (h : c ∈ l) : nx1 ((b, l) :: q) c = some (if b = true then (b, l) :: q else q) := by unfold nx1; rw [if_pos h]
theorem nx1_no {b : Bool} {l : List Nat} {q : List Atm} {c : Nat} (h : c ∉ l) : nx1 ((b, l) :: q) c = nx1 q c := by unfold nx1; rw [if_neg h]; cases q <;> rfl
theorem nx1_le {c : Nat} : ∀ {q q' : List Atm}, nx1 q c = some q' → List.Sublist q' q
  | [], q', h => by cases h
  | (b, l) :: q, q', h => by
    by_cases hc : c ∈ l
    · rw [nx1_yes hc] at h
      injection h with h
      rw [← h]
      split
      · exact List.Sublist.refl _
      · exact List.sublist_cons_self ..
    · rw [nx1_no hc] at h
      exact (nx1_le h).cons _
theorem nx1_mono {c : Nat} : ∀ {q1 q : List Atm}, List.Sublist q1 q → ∀ {r : List Atm}, nx1 q1 c = some r → ∃ r', nx1 q c = some r' ∧ List.Sublist r r'
  | _, _, .slnil, r, h => by cases h
  | q1, (b, l) :: q, .cons _ s, r, h => by
    by_cases hc : c ∈ l
    · refine ⟨_, nx1_yes hc, ?_⟩
      have := (nx1_le h).trans s
      split
      · exact this.cons _
      · exact this
    · rw [nx1_no hc]
      exact nx1_mono s h
  | (b, l) :: q1, _ :: q, .cons₂ _ s, r, h => by
    by_cases hc : c ∈ l
    · rw [nx1_yes hc] at h ⊢
      injection h with h
      refine ⟨_, rfl, ?_⟩
      rw [← h]
      split
      · exact s.cons₂ _
      · exact s
    · rw [nx1_no hc] at h ⊢
      exact nx1_mono s h
theorem rd_mono : ∀ (w : List Nat) {q1 q : List Atm}, List.Sublist q1 q → (rdP q1 w).isSome = true → (rdP q w).isSome = true
  | [], q1, q, _, _ => by rw [rdP_nil]; rfl
  | c :: w, q1, q, s, h => by
    cases hn : nx1 q1 c with
    | none => rw [rdP_none hn] at h; cases h
    | some r =>
      rw [rdP_some hn] at h
      obtain ⟨r', e, s'⟩ := nx1_mono s hn
      rw [rdP_some e]
      exact rd_mono w s' h
theorem cov_cons {q : List Atm} {a : Atm} {p : List Atm} : cov q (a :: p) = match fnd1 q a with | none => none | some q' => cov q' p := by cases q <;> rfl
/-- after an item of a repeated atom the atom that holds it is still ahead -/
theorem fnd1_next {l : List Nat} {c : Nat} (hc : c ∈ l) : ∀ {q q1 : List Atm}, fnd1 q (true, l) = some q1 → ∃ q2, nx1 q c = some q2 ∧ fnd1 q2 (true, l) = some q1
  | [], q1, h => by cases h
  | (b, m) :: q, q1, h => by
    by_cases hH : Hold (b, m) (true, l)
    · have hb : b = true ∧ ∀ x ∈ l, x ∈ m := by
        rcases hH with e | ⟨e1, e2⟩
        · injection e with e1 e2
          exact ⟨e1, fun x hx => by rw [e2]; exact hx⟩
        · exact ⟨e1, e2⟩
      obtain ⟨rfl, hs⟩ := hb
      refine ⟨_, nx1_yes (hs c hc), ?_⟩
      rw [if_pos rfl]
      exact h
    · have h' : fnd1 q (true, l) = some q1 := by
        unfold fnd1 at h
        rw [if_neg hH] at h
        exact h
      by_cases hm : c ∈ m
      · refine ⟨_, nx1_yes hm, ?_⟩
        split
        · exact h
        · exact h'
      · rw [nx1_no hm]
        exact fnd1_next hc h'
theorem cov_sound : ∀ (w : List Nat) (p q : List Atm), OneA p → OneA q → (cov q p).isSome = true → (rdP p w).isSome = true → (rdP q w).isSome = true
  | [], p, q, _, _, _, _ => by rw [rdP_nil]; rfl
  | c :: w, [], q, _, _, _, h => by rw [rdP_none rfl] at h; cases h
  | c :: w, (b, l) :: p, q, hp, hq, hc, h => by
    have hp' : OneA p := fun a ha => hp a (List.mem_cons_of_mem _ ha)
    rw [cov_cons] at hc
    cases hf : fnd1 q (b, l) with
    | none => rw [hf] at hc; cases hc
    | some q1 =>
      rw [hf] at hc
      have s1 := fnd1_le hf
      have hq1 : OneA q1 := fun a ha => hq a (s1.subset ha)
      by_cases hm : c ∈ l
      · cases b with
        | true =>
          obtain ⟨q2, e2, f2⟩ := fnd1_next hm hf
          rw [rdP_some e2]
          rw [rdP_stay hm] at h
          exact cov_sound w ((true, l) :: p) q2 hp (fun a ha => hq a ((nx1_le e2).subset ha)) (by rw [cov_cons, f2]; exact hc) h
        | false =>
          obtain ⟨x, hx⟩ := hp _ (List.mem_cons_self ..) rfl
          have hx : l = [x] := hx
          subst hx
          obtain rfl := List.mem_singleton.mp hm
          rw [fnd1_one q hq] at hf
          rw [rdP_some hf]
          rw [rdP_one hm] at h
          exact cov_sound w p q1 hp' hq1 hc h
      · rw [rdP_skip hm] at h
        exact rd_mono (c :: w) s1 (cov_sound (c :: w) p q1 hp' hq1 hc h)
termination_by w p => (w.length, p.length)
theorem nx1_app {x : Atm} {c : Nat} : ∀ {q q' : List Atm}, nx1 q c = some q' → nx1 (q ++ [x]) c = some (q' ++ [x])
  | [], q', h => by cases h
  | (b, l) :: q, q', h => by
    rw [List.cons_append]
    by_cases hc : c ∈ l
    · rw [nx1_yes hc] at h ⊢
      injection h with h
      rw [← h]
      split <;> rfl
    · rw [nx1_no hc] at h ⊢
      exact nx1_app h
theorem rdP_appP {x : Atm} : ∀ {w : List Nat} {q q' : List Atm}, rdP q w = some q' → rdP (q ++ [x]) w = some (q' ++ [x])
  | [], q, q', h => by
    rw [rdP_nil] at h ⊢
    injection h with h
    rw [h]
  | c :: w, q, q', h => by
    cases hn : nx1 q c with
    | none => rw [rdP_none hn] at h; cases h
    | some r =>
      rw [rdP_some hn] at h
      rw [rdP_some (nx1_app hn)]
      exact rdP_appP h
theorem rd_snoc {p : List Atm} {z u : List Nat} {x : Atm} (h : (rdP p z).isSome = true) (hu : ∀ c ∈ u, c ∈ x.2) (h1 : x.1 = false → u.length ≤ 1) : (rdP (p ++ [x]) (z ++ u)).isSome = true := by
  obtain ⟨q', e⟩ := Option.isSome_iff_exists.mp h
  rw [rdP_app, rdP_appP e]
  show (rdP (q' ++ [x]) u).isSome = true
  refine rd_mono u (List.sublist_append_right q' [x]) ?_
  obtain ⟨b, l⟩ := x
  cases b with
  | true => rw [rd_all hu]; rfl
  | false =>
    match u, h1 rfl, hu with
    | [], _, _ => rw [rdP_nil]; rfl
    | [c], _, hu => rw [rdP_one (hu c (List.mem_singleton.mpr rfl)), rdP_nil]; rfl
end Gn

set_option Elab.async false
set_option linter.all false
set_option maxRecDepth 100000
set_option maxHeartbeats 4000000
/-! patterns: what a program makes of them -/
namespace Gn
open PySem PySem.Spec PyProof.Rows L2 Own Exn Mth Vld
/-- a pattern after a program -/
def afP : List Atm → List Nat → Option (List Atm)
  | q, [] => some q
  | q, c :: p => if 97 ≤ c then afP (q ++ [(false, [c])]) p else match nx1 q (c + 32) with
    | none => none
    | some q' => afP q' p
theorem afP_nil (q : List Atm) : afP q [] = some q := by cases q <;> rfl
theorem afP_put {q : List Atm} {c : Nat} {p : List Nat} (h : 97 ≤ c) : afP q (c :: p) = afP (q ++ [(false, [c])]) p := by
  rw [afP, if_pos h]
theorem afP_fail {q : List Atm} {c : Nat} {p : List Nat} (h : ¬ 97 ≤ c) (e : nx1 q (c + 32) = none) : afP q (c :: p) = none := by
  rw [afP, if_neg h, e]
theorem afP_take {q q' : List Atm} {c : Nat} {p : List Nat} (h : ¬ 97 ≤ c) (e : nx1 q (c + 32) = some q') : afP q (c :: p) = afP q' p := by
  rw [afP, if_neg h, e]
theorem fst_cons {x y : Nat} {z : List Nat} : fst? x (y :: z) = if y = x then some 0 else (fst? x z).map (· + 1) := rfl
theorem fst_skip {x : Nat} : ∀ {u z : List Nat}, x ∉ u → fst? x (u ++ z) = (fst? x z).map (· + u.length)
  | [], z, _ => by
    show fst? x z = _
    cases fst? x z <;> rfl
  | y :: u, z, h => by
    have hy : y ≠ x := fun e => h (e ▸ List.mem_cons_self ..)
    rw [List.cons_append, fst_cons, if_neg hy, fst_skip fun e => h (List.mem_cons_of_mem _ e)]
    cases fst? x z with
    | none => rfl
    | some k => show some (k + u.length + 1) = some (k + (u.length + 1)); rw [Nat.add_assoc]
/-- taking an item of a word that a pattern reads -/
theorem rd_take {x : Nat} : ∀ {z : List Nat} {q : List Atm} {k : Nat}, (rdP q z).isSome = true → fst? x z = some k → ∃ q', nx1 q x = some q' ∧ (rdP q' (z.drop (k + 1))).isSome = true
  | [], q, k, _, h => by cases h
  | y :: z, q, k, hr, h => by
    cases hn : nx1 q y with
    | none => rw [rdP_none hn] at hr; cases hr
    | some r =>
      rw [rdP_some hn] at hr
      rw [fst_cons] at h
      by_cases e : y = x
      · rw [if_pos e] at h
        cases h
        subst e
        exact ⟨r, hn, hr⟩
      · rw [if_neg e] at h
        cases hk : fst? x z with
        | none => rw [hk] at h; cases h
        | some j =>
          rw [hk] at h
          cases h
          obtain ⟨q1, e1, h1⟩ := rd_take hr hk
          obtain ⟨q2, e2, s2⟩ := nx1_mono (nx1_le hn) e1
          exact ⟨q2, e2, rd_mono _ s2 h1⟩
theorem rd_after : ∀ (p z : List Nat) {q : List Atm} {r : List Nat}, (rdP q z).isSome = true → bst p z = some r → ∃ q', afP q p = some q' ∧ (rdP q' r).isSome = true
  | [], z, q, r, h, e => by
    rw [bst_nil] at e
    cases e
    exact ⟨q, afP_nil q, h⟩
  | c :: p, z, q, r, h, e => by
    by_cases hc : 97 ≤ c
    · rw [bst_put hc] at e
      rw [afP_put hc]
      exact rd_after p _ (rd_snoc h (fun x hx => hx) (fun _ => Nat.le_refl _)) e
    · cases hf : fst? (c + 32) z with
      | none => rw [bst_fail hc hf] at e; cases e
      | some k =>
        rw [bst_take hc hf] at e
        obtain ⟨q', e1, h1⟩ := rd_take h hf
        rw [afP_take hc e1]
        exact rd_after p _ h1 e
/-- a long word of a pattern, of which rounds at its head may be gone -/
def LW (N n : Nat) : List Atm → List Nat → Prop
  | [], W => W = []
  | (false, l) :: q, W => W = l ++ longW N q
  | (true, m) :: q, W => ∃ v k, n ≤ k ∧ (∀ c ∈ v, c ∈ m) ∧ W = v ++ (List.replicate k m).flatten ++ longW N q
theorem longW_cons (N : Nat) (a : Atm) (q : List Atm) : longW N (a :: q) = longA N a ++ longW N q := rfl
theorem lw_long {N n : Nat} (h : n ≤ N) : ∀ q : List Atm, LW N n q (longW N q)
  | [] => rfl
  | (false, l) :: q => rfl
  | (true, m) :: q => ⟨[], N, h, (fun c hc => nomatch hc), rfl⟩
theorem longW_snoc (N : Nat) (q : List Atm) (c : Nat) : longW N (q ++ [(false, [c])]) = longW N q ++ [c] := by
  unfold longW
  rw [List.map_append, List.flatten_append]
  rfl
theorem lw_put {N n : Nat} {c : Nat} : ∀ {q : List Atm} {W : List Nat}, LW N n q W → LW N n (q ++ [(false, [c])]) (W ++ [c])
  | [], W, h => by
    cases (show W = [] from h)
    rfl
  | (false, l) :: q, W, h => by
    cases (show W = _ from h)
    show l ++ longW N q ++ [c] = l ++ longW N (q ++ [(false, [c])])
    rw [longW_snoc, List.append_assoc]
  | (true, m) :: q, W, ⟨v, k, h1, h2, h3⟩ => by
    refine ⟨v, k, h1, h2, ?_⟩
    show _ = v ++ (List.replicate k m).flatten ++ longW N (q ++ [(false, [c])])
    rw [h3, longW_snoc, ← List.append_assoc]
theorem lw_mono {N n n' : Nat} (h : n' ≤ n) : ∀ {q : List Atm} {W : List Nat}, LW N n q W → LW N n' q W
  | [], _, h1 => h1
  | (false, _) :: _, _, h1 => h1
  | (true, _) :: _, _, ⟨v, k, h1, h2, h3⟩ => ⟨v, k, Nat.le_trans h h1, h2, h3⟩
theorem lw_take {N n x : Nat} (hN : n + 1 ≤ N) : ∀ {q : List Atm} {W : List Nat}, OneA q → LW N (n + 1) q W → (fst? x W = none ∧ nx1 q x = none) ∨ ∃ k q', fst? x W = some k ∧ nx1 q x = some q' ∧ LW N n q' (W.drop (k + 1))
  | [], W, _, h => by
    cases (show W = [] from h)
    exact .inl ⟨rfl, rfl⟩
  | (false, l) :: q, W, ho, h => by
    obtain ⟨y, hy⟩ := ho _ (List.mem_cons_self ..) rfl
    have hy : l = [y] := hy
    subst hy
    cases (show W = _ from h)
    by_cases e : y = x
    · subst e
      refine .inr ⟨0, q, ?_, nx1_yes (List.mem_singleton.mpr rfl), lw_long (by omega) q⟩
      show fst? y (y :: longW N q) = _
      rw [fst_cons, if_pos rfl]
    · have hn : nx1 ((false, [y]) :: q) x = nx1 q x := nx1_no fun h => e (List.mem_singleton.mp h).symm
      have hf : fst? x ([y] ++ longW N q) = (fst? x (longW N q)).map (· + 1) := by
        show fst? x (y :: longW N q) = _
        rw [fst_cons, if_neg e]
      rw [hn, hf]
      rcases lw_take hN (fun a ha => ho a (List.mem_cons_of_mem _ ha)) (lw_long hN q) with ⟨h1, h2⟩ | ⟨k, q', h1, h2, h3⟩
      · exact .inl ⟨by rw [h1]; rfl, h2⟩
      · exact .inr ⟨k + 1, q', by rw [h1]; rfl, h2, h3⟩
  | (true, m) :: q, W, ho, ⟨v, k, h1, h2, h3⟩ => by
    subst h3
    obtain ⟨k, rfl⟩ : ∃ j, k = j + 1 := ⟨k - 1, by omega⟩
    by_cases hx : x ∈ m
    · refine .inr ?_
      have hs : v ++ (List.replicate (k + 1) m).flatten ++ longW N q = (v ++ m) ++ ((List.replicate k m).flatten ++ longW N q) := by
        rw [List.replicate_succ, List.flatten_cons]
        simp only [List.append_assoc]
      have hm : x ∈ v ++ m := List.mem_append_right _ hx
      cases hf : fst? x (v ++ m) with
      | none => exact absurd hm (fst_mem.mp hf)
      | some j =>
        have hj := (fst_lt hf).1
        refine ⟨j, (true, m) :: q, by rw [hs]; exact fst_app hf, by rw [nx1_yes hx, if_pos rfl], (v ++ m).drop (j + 1), k, by omega, fun c hc => ?_, ?_⟩
        · exact (List.mem_append.mp (List.mem_of_mem_drop hc)).elim (h2 c) id
        · rw [hs, List.drop_append_of_le_length (by omega), List.append_assoc]
    · have hu : x ∉ v ++ (List.replicate (k + 1) m).flatten := fun h => by
        rcases List.mem_append.mp h with h | h
        · exact hx (h2 x h)
        · obtain ⟨l, hl, h⟩ := List.mem_flatten.mp h
          rw [List.eq_of_mem_replicate hl] at h
          exact hx h
      rw [nx1_no hx, fst_skip hu]
      rcases lw_take hN (fun a ha => ho a (List.mem_cons_of_mem _ ha)) (lw_long hN q) with ⟨g1, g2⟩ | ⟨j, q', g1, g2, g3⟩
      · exact .inl ⟨by rw [g1]; rfl, g2⟩
      · refine .inr ⟨j + (v ++ (List.replicate (k + 1) m).flatten).length, q', by rw [g1]; rfl, g2, ?_⟩
        rw [show j + (v ++ (List.replicate (k + 1) m).flatten).length + 1 = (v ++ (List.replicate (k + 1) m).flatten).length + (j + 1) by omega, List.drop_append, List.drop_eq_nil_of_le (by omega)]
        rw [List.nil_append, show (v ++ (List.replicate (k + 1) m).flatten).length + (j + 1) - (v ++ (List.replicate (k + 1) m).flatten).length = j + 1 by omega]
        exact g3
theorem oneA_snoc {q : List Atm} {c : Nat} (h : OneA q) : OneA (q ++ [(false, [c])]) := fun a ha e => by
  rcases List.mem_append.mp ha with ha | ha
  · exact h a ha e
  · rw [List.mem_singleton.mp ha]
    exact ⟨c, rfl⟩
theorem lw_after {N t : Nat} : ∀ (p : List Nat) {q : List Atm} {W : List Nat}, OneA q → t + p.length ≤ N → LW N (t + p.length) q W → (bst p W = none ∧ afP q p = none) ∨ ∃ r q', bst p W = some r ∧ afP q p = some q' ∧ OneA q' ∧ LW N t q' r
  | [], q, W, ho, _, h => .inr ⟨W, q, bst_nil W, afP_nil q, ho, h⟩
  | c :: p, q, W, ho, hN, h => by
    rw [List.length_cons] at hN h
    by_cases hc : 97 ≤ c
    · rw [bst_put hc, afP_put hc]
      exact lw_after p (oneA_snoc ho) (by omega) (lw_put (lw_mono (by omega) h))
    · rcases lw_take (n := t + p.length) (x := c + 32) (by omega) ho h with ⟨h1, h2⟩ | ⟨k, q', h1, h2, h3⟩
      · exact .inl ⟨bst_fail hc h1 p, afP_fail hc h2⟩
      · rw [bst_take hc h1, afP_take hc h2]
        exact lw_after p (fun a ha => ho a ((nx1_le h2).subset ha)) (by omega) h3
theorem lw_cov {N n : Nat} {s : List Atm} (hs : OneA s) : ∀ {q : List Atm} {W : List Nat}, OneA q → (∀ a ∈ q, a.2 ≠ []) → s.length < n → n ≤ N → LW N n q W → rdP s W = cov s q
  | [], W, _, _, _, _, h => by
    cases (show W = [] from h)
    rw [rdP_nil]
    cases s <;> rfl
  | (false, l) :: q, W, ho, h0, hn, hN, h => by
    cases (show W = _ from h)
    exact cov_long ((false, l) :: q) s ho hs h0 (by omega)
  | (true, m) :: q, W, ho, h0, hn, hN, ⟨v, k, h1, h2, h3⟩ => by
    subst h3
    rw [rdP_app, rd_long (h0 _ (List.mem_cons_self ..)) s v k hs h2 (by omega), cov_cons]
    cases hf : fnd1 s (true, m) with
    | none => rfl
    | some s' =>
      have hl := fnd1_le hf
      exact cov_long q s' (fun a ha => ho a (List.mem_cons_of_mem _ ha)) (fun a ha => hs a (hl.subset ha)) (fun a ha => h0 a (List.mem_cons_of_mem _ ha)) (by have := hl.length_le; omega)
/-- a pattern holds its own long words, and covers its parts -/
theorem rd_self (N : Nat) (r : List Atm) (ho : OneA r) : ∀ i, i ≤ r.length → (rdP (r.take i) (longW N (r.take i))).isSome = true
  | 0, _ => by rw [List.take_zero]; rfl
  | i + 1, h => by
    have hx : r[i]? = some r[i] := List.getElem?_eq_getElem (by omega)
    rw [show r.take (i + 1) = r.take i ++ [r[i]] by rw [List.take_add_one, hx]; rfl]
    have e : longW N (r.take i ++ [r[i]]) = longW N (r.take i) ++ longA N r[i] := by
      unfold longW
      rw [List.map_append, List.flatten_append]
      show _ ++ (longA N r[i] ++ []) = _
      rw [List.append_nil]
    rw [e]
    have h1 := ho _ (List.mem_of_getElem? hx)
    clear hx e
    generalize r[i] = x at h1
    obtain ⟨b, l⟩ := x
    refine rd_snoc (rd_self N r ho i (by omega)) (fun c hc => ?_) fun hb => ?_
    · unfold longA at hc
      split at hc
      · obtain ⟨l', hl', h⟩ := List.mem_flatten.mp hc
        rw [List.eq_of_mem_replicate hl'] at h
        exact h
      · exact hc
    · have hb : b = false := hb
      subst hb
      obtain ⟨y, hy⟩ := h1 rfl
      have hy : l = [y] := hy
      subst hy
      exact Nat.le_refl _
theorem cov_sub {q r : List Atm} (hq : OneA q) (h0 : ∀ a ∈ q, a.2 ≠ []) (s : List.Sublist r q) : (cov q r).isSome = true := by
  have hr : OneA r := fun a ha => hq a (s.subset ha)
  rw [← cov_long (n := q.length + 1) r q hr hq (fun a ha => h0 a (s.subset ha)) (by omega)]
  refine rd_mono _ s ?_
  have := rd_self (q.length + 1) r hr r.length (Nat.le_refl _)
  rw [List.take_length] at this
  exact this
theorem af_takes : ∀ {p : List Nat} {q r : List Atm}, (∀ c ∈ p, ¬ 97 ≤ c) → afP q p = some r → List.Sublist r q
  | [], q, r, _, h => by
    rw [afP_nil] at h
    cases h
    exact List.Sublist.refl _
  | c :: p, q, r, hp, h => by
    have hc := hp c (List.mem_cons_self ..)
    cases hn : nx1 q (c + 32) with
    | none => rw [afP_fail hc hn] at h; cases h
    | some q' =>
      rw [afP_take hc hn] at h
      exact (af_takes (fun x hx => hp x (List.mem_cons_of_mem _ hx)) h).trans (nx1_le hn)
/-- whether all results are covered -/
def invB (qs : List (List Atm)) (ps : List (List Nat)) : Bool := ps.all fun p => qs.all fun q => match afP q p with
  | none => true
  | some r => qs.any fun s => (cov s r).isSome
end Gn

set_option Elab.async false
set_option linter.all false
set_option maxRecDepth 100000
set_option maxHeartbeats 4000000
/-! comprehensions of two clauses, by walks -/
namespace L2
open PySem PySem.Spec PyProof.Rows
section
variable {J : It} {n : Nat} {G : Hp → Prop} {Y : Nat → Hp → V → Hp → Prop}
theorem lc2_it (w : Walk J n G Y) {g g1 : TG} {tt tt1 : TT} {wi1 : TI} {te : TE} {vs vs1 : List Nat} {σ : St} {H1 : Hp} {D : Addr} {Qd : Hp → Prop} (Pv : Nat → Hp → Prop) (h0 : Pv 0 (upd H1 D (.lst []))) (hG : ∀ i H, i ≤ n → Pv i H → G H)
    (hs : ∀ i x H H', i < n → Pv i H → Y i H x H' → g x (wipe σ vs) H' fun σ2 H2 => wipe σ2 vs = wipe σ vs ∧ tt σ2 H2 fun b H3 =>
      if b = true then wi1 σ2 H3 fun J1 H4 => ∃ W1 : Nat → Nat → Hp → Prop, (∃ m, W1 0 m H4) ∧ ∀ j k H, W1 j k H →
        (J1.stop j H ∧ Pv (i + 1) H) ∨ (J1.go j H ∧ ∃ Nx1 : Hp → Prop, (∀ H', Nx1 H' → ∃ k', k' < k ∧ W1 (j + 1) k' H') ∧ ∀ x H', J1.yld j H x H' → g1 x (wipe σ2 vs1) H' fun σ3 H5 => wipe σ3 vs1 = wipe σ2 vs1 ∧ tt1 σ3 H5 fun b H6 =>
          if b = true then te σ3 H6 fun y H7 => ∃ acc, H7 D = some (.lst acc) ∧ acc.length < sizeLine ∧ Nx1 (upd H7 D (.lst (acc ++ [y]))) else Nx1 H6)
      else Pv (i + 1) H3) (hd : ∀ H, Pv n H → Qd H) :
    ∃ W : Nat → Nat → Hp → Prop, (∃ m, W 0 m (upd H1 D (.lst []))) ∧ ∀ i m H, W i m H →
  (J.stop i H ∧ Qd H) ∨ (J.go i H ∧ ∃ Nx : Hp → Prop, (∀ H', Nx H' → ∃ m', m' < m ∧ W (i + 1) m' H') ∧ ∀ x H', J.yld i H x H' → g x (wipe σ vs) H' fun σ2 H2 => wipe σ2 vs = wipe σ vs ∧ tt σ2 H2 fun b H3 =>
    if b = true then wi1 σ2 H3 fun J1 H4 => ∃ W1 : Nat → Nat → Hp → Prop, (∃ m, W1 0 m H4) ∧ ∀ j k H, W1 j k H →
      (J1.stop j H ∧ Nx H) ∨ (J1.go j H ∧ ∃ Nx1 : Hp → Prop, (∀ H', Nx1 H' → ∃ k', k' < k ∧ W1 (j + 1) k' H') ∧ ∀ x H', J1.yld j H x H' → g1 x (wipe σ2 vs1) H' fun σ3 H5 => wipe σ3 vs1 = wipe σ2 vs1 ∧ tt1 σ3 H5 fun b H6 =>
        if b = true then te σ3 H6 fun y H7 => ∃ acc, H7 D = some (.lst acc) ∧ acc.length < sizeLine ∧ Nx1 (upd H7 D (.lst (acc ++ [y]))) else Nx1 H6)
    else Nx H3) := by
  refine ⟨fun i m H => m = n - i ∧ i ≤ n ∧ Pv i H, ⟨n, by simp, Nat.zero_le _, h0⟩, ?_⟩
  rintro i m H ⟨rfl, hi, p⟩
  have q := hG i H hi p
  by_cases hlt : i < n
  · exact .inr ⟨w.goes i H hlt q, Pv (i + 1), fun H' p' => ⟨n - (i + 1), by omega, rfl, hlt, p'⟩, fun x H' y => hs i x H H' hlt p (w.yields i H x H' hlt q y)⟩
  · have e : i = n := by omega
    subst e
    exact .inl ⟨w.stops H q, hd H p⟩
theorem in_it (w : Walk J n G Y) {g1 : TG} {tt1 : TT} {te : TE} {vs1 : List Nat} {σ2 : St} {H4 : Hp} {D : Addr} {Nx : Hp → Prop} (Pv : Nat → Hp → Prop) (h0 : Pv 0 H4) (hG : ∀ i H, i ≤ n → Pv i H → G H)
    (hs : ∀ j x H H', j < n → Pv j H → Y j H x H' → g1 x (wipe σ2 vs1) H' fun σ3 H5 => wipe σ3 vs1 = wipe σ2 vs1 ∧ tt1 σ3 H5 fun b H6 =>
          if b = true then te σ3 H6 fun y H7 => ∃ acc, H7 D = some (.lst acc) ∧ acc.length < sizeLine ∧ Pv (j + 1) (upd H7 D (.lst (acc ++ [y]))) else Pv (j + 1) H6) (hd : ∀ H, Pv n H → Nx H) :
    ∃ W1 : Nat → Nat → Hp → Prop, (∃ m, W1 0 m H4) ∧ ∀ j k H, W1 j k H →
      (J.stop j H ∧ Nx H) ∨ (J.go j H ∧ ∃ Nx1 : Hp → Prop, (∀ H', Nx1 H' → ∃ k', k' < k ∧ W1 (j + 1) k' H') ∧ ∀ x H', J.yld j H x H' → g1 x (wipe σ2 vs1) H' fun σ3 H5 => wipe σ3 vs1 = wipe σ2 vs1 ∧ tt1 σ3 H5 fun b H6 =>
        if b = true then te σ3 H6 fun y H7 => ∃ acc, H7 D = some (.lst acc) ∧ acc.length < sizeLine ∧ Nx1 (upd H7 D (.lst (acc ++ [y]))) else Nx1 H6) := by
  refine ⟨fun i m H => m = n - i ∧ i ≤ n ∧ Pv i H, ⟨n, by simp, Nat.zero_le _, h0⟩, ?_⟩
  rintro i m H ⟨rfl, hi, p⟩
  have q := hG i H hi p
  by_cases hlt : i < n
  · exact .inr ⟨w.goes i H hlt q, Pv (i + 1), fun H' p' => ⟨n - (i + 1), by omega, rfl, hlt, p'⟩, fun x H' y => hs i x H H' hlt p (w.yields i H x H' hlt q y)⟩
  · have e : i = n := by omega
    subst e
    exact .inl ⟨w.stops H q, hd H p⟩
end
end L2
namespace Cmx
open PySem PySem.Spec PyProof.Rows L2 ClX
section
variable {X : Cx} {CX : CXT} {k : Nat} {f : Addr} {sp : Sp} {E : L2.St → XK} {x : Str} {pos p : Pos} {e : Expr} {es : List Expr} {t : TA}
def tCallFR (sp : Sp) (E : L2.St → XK) (t : TA) : TE := fun σ H Q => t σ H fun vs H1 => sp vs H1 Q (E σ)
/-- a call of a def with a starred parameter, errors at places -/
theorem pe_callFRS (F : FnR X.prog X.w X.K X.mg X.base CX k f sp) (hr : Room k X.A) (hg : Gl X x) (hm : X.mg x = some (.ref f)) (hk : PySem.W.keepIn X.K (.ref f) = true) (hx : ∀ σ, PassesAt CX X σ (E σ)) (ha : PA X (e :: es) t)
    (hdb : (x == ("__debug__" : Str)) = false := by decide) (he : starEach (e :: es) X.env = (false, eval e X.env) :: starEach es X.env := by rfl) (hpl : (backTo pos (starEach es X.env)).any (·.1) = false := by rfl) : PE X (.Call (.Name x p) (e :: es) [] pos) (tCallFR sp E t) := by
  refine ⟨fun pins s σ H Q I h => wpAny_Call_Name_kw (ld_glob I hg hm ?_ hdb)⟩
  refine PySem.W.callWith_K (h₀ := X.base) I.ok.mod.kin hk (thn (ha.run pos pins s σ H _ I h) fun us s1 ⟨vs, H1, I1, r, q⟩ => ⟨I1.kIn, ?_⟩) he hpl
  exact run_fnRS F hr (hx σ) I1 r q
end
end Cmx
namespace Own
open PySem PySem.Spec PyProof.Rows L2
def rJoin (K : PySem.W.Frag) : V → List V → Hp → VK → Prop := fun x xs H Q => ∃ a p, ∃ ys : List Str, x = .str a ∧ xs = [.ref p] ∧ (SqL K H p (ys.map V.str) ∨ SqT K H p (ys.map V.str)) ∧
  (ys.map (·.length)).sum + ys.length * a.length ≤ 16777216 ∧ Q (.str (Txt.join a ys)) H
end Own

set_option Elab.async false
set_option linter.all false
set_option maxRecDepth 100000
set_option maxHeartbeats 4000000
/-! normal patterns, normal sets -/
namespace Gn
open PySem PySem.Spec PyProof.Rows L2 Own Exn Mth Vld
/-- one atom holds all of another, however often it is repeated -/
def Abs (x a : Atm) : Prop := x.1 = true ∧ ∀ c ∈ a.2, c ∈ x.2
instance (x a : Atm) : Decidable (Abs x a) := by unfold Abs; infer_instance
/-- atoms that can be told by their items -/
structure Atk (x : Atm) : Prop where
  ne : x.2 ≠ []
  asc : x.2.Pairwise (· < ·)
  one : x.1 = false → ∃ c, x.2 = [c]
def Pk (p : List Atm) : Prop := ∀ x ∈ p, Atk x
theorem Pk.oneA {p : List Atm} (h : Pk p) : OneA p := fun x hx e => (h x hx).one e
theorem Pk.ne0 {p : List Atm} (h : Pk p) : ∀ a ∈ p, a.2 ≠ [] := fun a ha => (h a ha).ne
theorem Pk.sub {p r : List Atm} (h : Pk p) (s : List.Sublist r p) : Pk r := fun x hx => h x (s.subset hx)
theorem Pk.app {p q : List Atm} (h : Pk p) (g : Pk q) : Pk (p ++ q) := fun x hx => (List.mem_append.mp hx).elim (h x) (g x)
/-- one pattern covers another -/
def Cv (q p : List Atm) : Prop := (cov q p).isSome = true
instance (q p : List Atm) : Decidable (Cv q p) := by unfold Cv; infer_instance
theorem cv_iff {q p : List Atm} (hq : Pk q) (hp : Pk p) {n : Nat} (hn : q.length < n) : Cv q p ↔ (rdP q (longW n p)).isSome = true := by
  unfold Cv
  rw [← cov_long p q hp.oneA hq.oneA hp.ne0 hn]
theorem Cv.trans {r q p : List Atm} (hr : Pk r) (hq : Pk q) (hp : Pk p) (h1 : Cv r q) (h2 : Cv q p) : Cv r p := by
  have h3 := (cv_iff hq hp (n := q.length + r.length + 1) (by omega)).mp h2
  exact (cv_iff hr hp (n := q.length + r.length + 1) (by omega)).mpr (cov_sound _ q r hq.oneA hr.oneA h1 h3)
theorem Cv.sub {q r : List Atm} (hq : Pk q) (s : List.Sublist r q) : Cv q r := cov_sub hq.oneA hq.ne0 s
theorem Cv.refl {q : List Atm} (hq : Pk q) : Cv q q := Cv.sub hq (List.Sublist.refl _)
theorem fnd1_app {a : Atm} {q2 : List Atm} : ∀ {q q1 : List Atm}, fnd1 q a = some q1 → fnd1 (q ++ q2) a = some (q1 ++ q2)
  | [], q1, h => by cases h
  | x :: q, q1, h => by
    unfold fnd1 at h
    rw [List.cons_append]
    unfold fnd1
    by_cases hH : Hold x a
    · rw [if_pos hH] at h ⊢
      injection h with h
      rw [← h]
      split <;> rfl
    · rw [if_neg hH] at h ⊢
      exact fnd1_app h
theorem Cv.app {q2 p2 : List Atm} (k2 : Pk q2) (kp2 : Pk p2) (h2 : Cv q2 p2) : ∀ {p q : List Atm}, Pk q → Cv q p → Cv (q ++ q2) (p ++ p2)
  | [], q, kq, _ => Cv.trans (kq.app k2) k2 kp2 (Cv.sub (kq.app k2) (List.sublist_append_right q q2)) h2
  | a :: p, q, kq, h => by
    unfold Cv at h
    rw [cov_cons] at h
    cases hf : fnd1 q a with
    | none => rw [hf] at h; cases h
    | some q1 =>
      rw [hf] at h
      have := Cv.app k2 kp2 h2 (p := p) (q := q1) (kq.sub (fnd1_le hf)) h
      unfold Cv at this ⊢
      rw [List.cons_append, cov_cons, fnd1_app hf]
      exact this
theorem cv_abs {x a : Atm} (h : Abs x a) : Cv [x] [x, a] := by
  have h1 : Hold x x := .inl rfl
  have h2 : Hold x a := .inr h
  unfold Cv cov fnd1
  rw [if_pos h1, if_pos h.1]
  show (cov [x] [a]).isSome = true
  unfold cov fnd1
  rw [if_pos h2, if_pos h.1]
  rfl
theorem cv_abs' {x a : Atm} (h : Abs x a) : Cv [x] [a, x] := by
  have h1 : Hold x x := .inl rfl
  have h2 : Hold x a := .inr h
  unfold Cv cov fnd1
  rw [if_pos h2, if_pos h.1]
  show (cov [x] [x]).isSome = true
  unfold cov fnd1
  rw [if_pos h1, if_pos h.1]
  rfl
/-- both have the same words -/
def Eqv (p q : List Atm) : Prop := Cv p q ∧ Cv q p
theorem Eqv.refl {p : List Atm} (h : Pk p) : Eqv p p := ⟨Cv.refl h, Cv.refl h⟩
theorem Eqv.symm {p q : List Atm} (h : Eqv p q) : Eqv q p := ⟨h.2, h.1⟩
theorem Eqv.trans {p q r : List Atm} (kp : Pk p) (kq : Pk q) (kr : Pk r) (h : Eqv p q) (g : Eqv q r) : Eqv p r := ⟨Cv.trans kp kq kr h.1 g.1, Cv.trans kr kq kp g.2 h.2⟩
theorem eqv_drop {u v : List Atm} {x a : Atm} (k : Pk (u ++ x :: a :: v)) (h : Abs x a) : Eqv (u ++ x :: v) (u ++ x :: a :: v) := by
  have s : List.Sublist (u ++ x :: v) (u ++ x :: a :: v) := List.Sublist.append (List.Sublist.refl _) ((List.sublist_cons_self a v).cons₂ x)
  have ku := k.sub (List.sublist_append_left _ _)
  have kv : Pk v := k.sub (((List.sublist_cons_self a v).trans (List.sublist_cons_self x _)).trans (List.sublist_append_right u _))
  have kx : Pk [x] := fun y hy => by rw [List.mem_singleton.mp hy]; exact k x (List.mem_append_right _ (List.mem_cons_self ..))
  have ka : Pk [x, a] := fun y hy => k y (List.mem_append_right _ (by
    rcases List.mem_cons.mp hy with rfl | hy
    · exact List.mem_cons_self ..
    · rw [List.mem_singleton.mp hy]; exact List.mem_cons_of_mem _ (List.mem_cons_self ..)))
  exact ⟨Cv.app (q2 := [x] ++ v) (p2 := [x, a] ++ v) (kx.app kv) (ka.app kv) (Cv.app kv kv (Cv.refl kv) kx (cv_abs h)) ku (Cv.refl ku), Cv.sub k s⟩
theorem eqv_drop' {u v : List Atm} {x a : Atm} (k : Pk (u ++ a :: x :: v)) (h : Abs x a) : Eqv (u ++ x :: v) (u ++ a :: x :: v) := by
  have s : List.Sublist (u ++ x :: v) (u ++ a :: x :: v) := List.Sublist.append (List.Sublist.refl _) (List.sublist_cons_self a _)
  have ku := k.sub (List.sublist_append_left _ _)
  have kv : Pk v := k.sub (((List.sublist_cons_self x v).trans (List.sublist_cons_self a _)).trans (List.sublist_append_right u _))
  have kx : Pk [x] := fun y hy => by rw [List.mem_singleton.mp hy]; exact k x (List.mem_append_right _ (List.mem_cons_of_mem _ (List.mem_cons_self ..)))
  have ka : Pk [a, x] := fun y hy => k y (List.mem_append_right _ (by
    rcases List.mem_cons.mp hy with rfl | hy
    · exact List.mem_cons_self ..
    · rw [List.mem_singleton.mp hy]; exact List.mem_cons_of_mem _ (List.mem_cons_self ..)))
  exact ⟨Cv.app (q2 := [x] ++ v) (p2 := [a, x] ++ v) (kx.app kv) (ka.app kv) (Cv.app kv kv (Cv.refl kv) kx (cv_abs' h)) ku (Cv.refl ku), Cv.sub k s⟩
/-- no atom holds its neighbour -/
def Rdc (p : List Atm) : Prop := ∀ (i : Nat) (x y : Atm), p[i]? = some x → p[i + 1]? = some y → ¬ Abs x y ∧ ¬ Abs y x
theorem Rdc.tail {a : Atm} {p : List Atm} (h : Rdc (a :: p)) : Rdc p := fun i x y h1 h2 => h (i + 1) x y (by rw [List.getElem?_cons_succ]; exact h1) (by rw [List.getElem?_cons_succ]; exact h2)
theorem Rdc.head {a b : Atm} {p : List Atm} (h : Rdc (a :: b :: p)) : ¬ Abs a b ∧ ¬ Abs b a := h 0 a b rfl rfl
theorem rdc_rev {p : List Atm} (h : Rdc p) : Rdc p.reverse := fun i x y h1 h2 => by
  have hi : i + 1 < p.length := by
    rcases Nat.lt_or_ge (i + 1) p.length with g | g
    · exact g
    · rw [List.getElem?_eq_none (by rw [List.length_reverse]; exact g)] at h2; cases h2
  rw [List.getElem?_reverse (by omega)] at h1
  rw [List.getElem?_reverse (by omega)] at h2
  have := h (p.length - 1 - (i + 1)) y x h2 (by rw [show p.length - 1 - (i + 1) + 1 = p.length - 1 - i by omega]; exact h1)
  exact ⟨this.2, this.1⟩
theorem not_tail : ∀ (q : List Atm) (b : Atm), Pk (b :: q) → Rdc (b :: q) → ¬ Cv q (b :: q)
  | [], b, _, _, h => by
    unfold Cv at h
    rw [cov_cons] at h
    cases h
  | c :: q, b, k, r, h => by
    have kq : Pk (c :: q) := k.sub (List.sublist_cons_self ..)
    have ih := not_tail q c kq r.tail
    have hd := r.head
    by_cases hH : Hold c b
    · rcases hH with e | e
      · subst e
        cases hc : c.1 with
        | true => exact hd.1 ⟨hc, fun x hx => hx⟩
        | false =>
          unfold Cv at h
          rw [cov_cons] at h
          unfold fnd1 at h
          rw [if_pos (.inl rfl), if_neg (by rw [hc]; exact Bool.false_ne_true)] at h
          exact ih h
      · exact hd.2 e
    · have h2 : Cv q (b :: c :: q) := by
        unfold Cv at h ⊢
        rw [cov_cons] at h ⊢
        rw [show fnd1 (c :: q) b = fnd1 q b by unfold fnd1; rw [if_neg hH]; cases q <;> rfl] at h
        exact h
      exact ih (Cv.trans (kq.sub (List.sublist_cons_self ..)) k kq h2 (Cv.sub k (List.sublist_cons_self ..)))
theorem hold_anti {x a : Atm} (kx : Atk x) (ka : Atk a) (h : Hold x a) (g : Hold a x) : x = a := by
  rcases h with e | ⟨e1, e2⟩
  · exact e
  · rcases g with e | ⟨f1, f2⟩
    · exact e.symm
    · have h1 : List.Sublist a.2 x.2 := asc_sub _ _ kx.asc ka.asc e2
      have h2 : List.Sublist x.2 a.2 := asc_sub _ _ ka.asc kx.asc f2
      exact Prod.ext (e1.trans f1.symm) (h1.eq_of_length_le h2.length_le).symm
theorem cv_anti : ∀ (p q : List Atm), Pk p → Pk q → Rdc p → Rdc q → Cv q p → Cv p q → p = q
  | [], [], _, _, _, _, _, _ => rfl
  | [], b :: q, _, _, _, _, _, h => by
    unfold Cv at h
    rw [cov_cons] at h
    cases h
  | a :: p, [], _, _, _, _, h, _ => by
    unfold Cv at h
    rw [cov_cons] at h
    cases h
  | a :: p, b :: q, kp, kq, rp, rq, h, g => by
    have kp' := kp.sub (List.sublist_cons_self a p)
    have kq' := kq.sub (List.sublist_cons_self b q)
    have step : ∀ (a b : Atm) (p q : List Atm), Pk (a :: p) → Pk (b :: q) → Rdc (b :: q) → Cv (b :: q) (a :: p) → Cv (a :: p) (b :: q) → Hold b a := fun a b p q kp kq rq h g => by
      by_cases hH : Hold b a
      · exact hH
      · exfalso
        refine not_tail q b kq rq (Cv.trans (kq.sub (List.sublist_cons_self ..)) kp kq ?_ g)
        unfold Cv at h ⊢
        rw [cov_cons] at h ⊢
        rw [show fnd1 (b :: q) a = fnd1 q a by unfold fnd1; rw [if_neg hH]; cases q <;> rfl] at h
        exact h
    have hb := step a b p q kp kq rq h g
    have ha := step b a q p kq kp rp g h
    have e : b = a := hold_anti (kq b (List.mem_cons_self ..)) (kp a (List.mem_cons_self ..)) hb ha
    subst e
    have rest : ∀ (p q : List Atm), Rdc (b :: p) → Cv (b :: q) (b :: p) → Cv q p := fun p q rp h => by
      unfold Cv at h
      rw [cov_cons] at h
      unfold fnd1 at h
      rw [if_pos (.inl rfl)] at h
      cases hc : b.1 with
      | false =>
        rw [if_neg (by rw [hc]; exact Bool.false_ne_true)] at h
        exact h
      | true =>
        rw [if_pos hc] at h
        cases p with
        | nil =>
          unfold Cv
          cases q <;> rfl
        | cons a2 p =>
          have hn : ¬ Hold b a2 := by
            rintro (e | e)
            · subst e
              exact rp.head.1 ⟨hc, fun x hx => hx⟩
            · exact rp.head.1 e
          have h : (cov (b :: q) (a2 :: p)).isSome = true := h
          unfold Cv
          rw [cov_cons] at h ⊢
          rw [show fnd1 (b :: q) a2 = fnd1 q a2 by unfold fnd1; rw [if_neg hn]; cases q <;> rfl] at h
          exact h
    rw [cv_anti p q kp' kq' rp.tail rq.tail (rest p q rp h) (rest q p rq g)]
/-- the normal pattern: a stack, its last atom first -/
def pops (a : Atm) : List Atm → List Atm
  | [] => []
  | x :: s => if Abs a x then pops a s else x :: s
theorem pops_cons {a x : Atm} {s : List Atm} : pops a (x :: s) = if Abs a x then pops a s else x :: s := rfl
def push (a : Atm) (s : List Atm) : List Atm := match pops a s with
  | [] => [a]
  | x :: t => if Abs x a then x :: t else a :: x :: t
def nrmS : List Atm → List Atm → List Atm
  | s, [] => s
  | s, a :: p => nrmS (push a s) p
def nrm (p : List Atm) : List Atm := (nrmS [] p).reverse
theorem pops_suf (a : Atm) : ∀ s, ∃ u, s = u ++ pops a s
  | [] => ⟨[], rfl⟩
  | x :: s => by
    unfold pops
    by_cases h : Abs a x
    · rw [if_pos h]
      obtain ⟨u, e⟩ := pops_suf a s
      exact ⟨x :: u, by rw [List.cons_append, ← e]⟩
    · rw [if_neg h]
      exact ⟨[], rfl⟩
theorem pops_top {a x : Atm} {t : List Atm} : ∀ {s : List Atm}, pops a s = x :: t → ¬ Abs a x
  | [], h => by cases h
  | y :: s, h => by
    unfold pops at h
    by_cases g : Abs a y
    · rw [if_pos g] at h
      exact pops_top h
    · rw [if_neg g] at h
      injection h with h1 h2
      rw [← h1]
      exact g
theorem push_sub (a : Atm) (s : List Atm) : List.Sublist (push a s) (a :: s) := by
  unfold push
  obtain ⟨u, e⟩ := pops_suf a s
  have hs : List.Sublist (pops a s) s := by
    conv => rhs; rw [e]
    exact List.sublist_append_right u _
  cases hp : pops a s with
  | nil => exact (List.nil_sublist _).cons₂ a
  | cons x t =>
    rw [hp] at hs
    show List.Sublist (if Abs x a then x :: t else a :: x :: t) _
    split
    · exact hs.cons a
    · exact hs.cons₂ a
theorem rdc_suf {u s : List Atm} (h : Rdc (u ++ s)) : Rdc s := fun i x y h1 h2 => h (u.length + i) x y (by rw [List.getElem?_append_right (by omega), Nat.add_sub_cancel_left]; exact h1) (by rw [List.getElem?_append_right (by omega), show u.length + i + 1 - u.length = i + 1 by omega]; exact h2)
theorem push_rdc {a : Atm} {s : List Atm} (h : Rdc s) : Rdc (push a s) := by
  unfold push
  obtain ⟨u, e⟩ := pops_suf a s
  have hs : Rdc (pops a s) := rdc_suf (u := u) (by rw [← e]; exact h)
  cases hp : pops a s with
  | nil => exact fun i x y h1 h2 => by simp at h2
  | cons x t =>
    rw [hp] at hs
    have ht := pops_top hp
    show Rdc (if Abs x a then x :: t else a :: x :: t)
    split
    · exact hs
    · rename_i hn
      intro i y z h1 h2
      cases i with
      | zero =>
        cases h1
        cases h2
        exact ⟨ht, hn⟩
      | succ i => exact hs i y z h1 h2
theorem pops_eqv {a : Atm} {rest : List Atm} : ∀ {s : List Atm}, Pk (s.reverse ++ a :: rest) → Eqv ((pops a s).reverse ++ a :: rest) (s.reverse ++ a :: rest)
  | [], k => Eqv.refl k
  | x :: s, k => by
    unfold pops
    by_cases h : Abs a x
    · rw [if_pos h]
      have e : (x :: s).reverse ++ a :: rest = s.reverse ++ x :: a :: rest := by rw [List.reverse_cons, List.append_assoc]; rfl
      rw [e] at k ⊢
      have k2 : Pk (s.reverse ++ a :: rest) := k.sub (List.Sublist.append (List.Sublist.refl _) (List.sublist_cons_self ..))
      have h1 := pops_eqv (rest := rest) (s := s) k2
      obtain ⟨u, e2⟩ := pops_suf a s
      have k3 : Pk ((pops a s).reverse ++ a :: rest) := k2.sub (List.Sublist.append (by
        have : List.Sublist (pops a s) s := by conv => rhs; rw [e2]
                                               exact List.sublist_append_right u _
        exact this.reverse) (List.Sublist.refl _))
      exact h1.trans k3 k2 k (eqv_drop' k h)
    · rw [if_neg h]
      exact Eqv.refl k
theorem push_eqv {a : Atm} {s rest : List Atm} (k : Pk (s.reverse ++ a :: rest)) : Eqv ((push a s).reverse ++ rest) (s.reverse ++ a :: rest) := by
  have h1 := pops_eqv (rest := rest) k
  obtain ⟨u, e2⟩ := pops_suf a s
  have k3 : Pk ((pops a s).reverse ++ a :: rest) := k.sub (List.Sublist.append (by
    have : List.Sublist (pops a s) s := by conv => rhs; rw [e2]
                                           exact List.sublist_append_right u _
    exact this.reverse) (List.Sublist.refl _))
  unfold push
  cases hp : pops a s with
  | nil =>
    rw [hp] at h1
    exact h1
  | cons x t =>
    rw [hp] at h1 k3
    show Eqv ((if Abs x a then x :: t else a :: x :: t).reverse ++ rest) _
    split
    · rename_i hx
      have e : (x :: t).reverse ++ a :: rest = t.reverse ++ x :: a :: rest := by rw [List.reverse_cons, List.append_assoc]; rfl
      rw [e] at h1 k3
      have := eqv_drop k3 hx
      rw [List.reverse_cons, List.append_assoc]
      exact this.trans (k3.sub (List.Sublist.append (List.Sublist.refl _) ((List.sublist_cons_self a rest).cons₂ x))) k3 k h1
    · rw [List.reverse_cons, List.append_assoc]
      exact h1
theorem nrmS_sub : ∀ (p s : List Atm), List.Sublist (nrmS s p).reverse (s.reverse ++ p)
  | [], s => by rw [nrmS, List.append_nil]; exact List.Sublist.refl _
  | a :: p, s => by
    rw [nrmS]
    refine (nrmS_sub p (push a s)).trans ?_
    have := (push_sub a s).reverse
    rw [List.reverse_cons] at this
    have := this.append (List.Sublist.refl p)
    rw [List.append_assoc] at this
    exact this
theorem nrmS_eqv : ∀ (p s : List Atm), Pk (s.reverse ++ p) → Rdc s → Eqv (nrmS s p).reverse (s.reverse ++ p) ∧ Rdc (nrmS s p)
  | [], s, k, r => by
    rw [nrmS, List.append_nil]
    rw [List.append_nil] at k
    exact ⟨Eqv.refl k, r⟩
  | a :: p, s, k, r => by
    rw [nrmS]
    have h := push_eqv k
    have kp : Pk ((push a s).reverse ++ p) := k.sub (by
      have := (push_sub a s).reverse
      rw [List.reverse_cons] at this
      have := this.append (List.Sublist.refl p)
      rw [List.append_assoc] at this
      exact this)
    obtain ⟨h1, h2⟩ := nrmS_eqv p (push a s) kp (push_rdc r)
    exact ⟨h1.trans (kp.sub (nrmS_sub p _)) kp k h, h2⟩
theorem rdc_nil : Rdc [] := fun i x y h _ => by simp at h
theorem nrm_sub (p : List Atm) : List.Sublist (nrm p) p := nrmS_sub p []
theorem nrm_pk {p : List Atm} (k : Pk p) : Pk (nrm p) := k.sub (nrm_sub p)
theorem nrm_eqv {p : List Atm} (k : Pk p) : Eqv (nrm p) p := (nrmS_eqv p [] k rdc_nil).1
theorem nrm_rdc {p : List Atm} (k : Pk p) : Rdc (nrm p) := rdc_rev (nrmS_eqv p [] k rdc_nil).2
theorem eqv_uniq {p q : List Atm} (kp : Pk p) (kq : Pk q) (rp : Rdc p) (rq : Rdc q) (h : Eqv p q) : p = q := cv_anti p q kp kq rp rq h.2 h.1
theorem nrm_self {p : List Atm} (k : Pk p) (r : Rdc p) : nrm p = p := eqv_uniq (nrm_pk k) k (nrm_rdc k) r (nrm_eqv k)
theorem nrm_uniq {p q : List Atm} (kp : Pk p) (kq : Pk q) (r : Rdc q) (h : Eqv q p) : nrm p = q := eqv_uniq (nrm_pk kp) kq (nrm_rdc kp) r ((nrm_eqv kp).trans (nrm_pk kp) kp kq h.symm)
/-- normal patterns of a list that are needed -/
def needB (N : List (List Atm)) (i : Nat) (x : List Atm) : Bool := !decide (x ∈ N.take i) && !(N.any fun o => decide (o ≠ x) && (cov o x).isSome)
def nselU (N : List (List Atm)) : Nat → List (List Atm)
  | 0 => []
  | m + 1 => nselU N m ++ (match N[m]? with
    | some x => if needB N m x = true then [x] else []
    | none => [])
def nsel (N : List (List Atm)) : List (List Atm) := nselU N N.length
/-- normal lists -/
def Nl (N : List (List Atm)) : Prop := ∀ x ∈ N, Pk x ∧ Rdc x
theorem needB_iff {N : List (List Atm)} {i : Nat} {x : List Atm} : needB N i x = true ↔ x ∉ N.take i ∧ ∀ o ∈ N, Cv o x → o = x := by
  unfold needB
  rw [Bool.and_eq_true, Bool.not_eq_true', decide_eq_false_iff_not, Bool.not_eq_true', List.any_eq_false]
  refine and_congr Iff.rfl ⟨fun h o ho hc => ?_, fun h o ho => ?_⟩
  · have := h o ho
    rw [Bool.and_eq_true, decide_eq_true_iff] at this
    exact Classical.byContradiction fun g => this ⟨g, hc⟩
  · rw [Bool.and_eq_true, decide_eq_true_iff]
    exact fun ⟨g, hc⟩ => g (h o ho hc)
theorem nselU_mem {N : List (List Atm)} : ∀ {m : Nat} {x : List Atm}, x ∈ nselU N m ↔ ∃ i, i < m ∧ N[i]? = some x ∧ needB N i x = true
  | 0, x => ⟨(fun h => nomatch h), fun ⟨i, h, _⟩ => absurd h (Nat.not_lt_zero _)⟩
  | m + 1, x => by
    unfold nselU
    rw [List.mem_append, nselU_mem (m := m)]
    constructor
    · rintro (⟨i, h1, h2⟩ | h)
      · exact ⟨i, Nat.lt_succ_of_lt h1, h2⟩
      · cases hm : N[m]? with
        | none => rw [hm] at h; cases h
        | some y =>
          rw [hm] at h
          by_cases hb : needB N m y = true
          · have h : x ∈ (if needB N m y = true then [y] else []) := h
            rw [if_pos hb] at h
            rw [List.mem_singleton.mp h]
            exact ⟨m, Nat.lt_succ_self m, hm, hb⟩
          · have h : x ∈ (if needB N m y = true then [y] else []) := h
            rw [if_neg hb] at h
            cases h
    · rintro ⟨i, h1, h2, h3⟩
      rcases Nat.lt_or_ge i m with h | h
      · exact .inl ⟨i, h, h2, h3⟩
      · obtain rfl : i = m := by omega
        refine .inr ?_
        rw [h2]
        show x ∈ (if needB N i x = true then [x] else [])
        rw [if_pos h3]
        exact List.mem_singleton.mpr rfl
theorem nsel_mem {N : List (List Atm)} {x : List Atm} : x ∈ nsel N ↔ x ∈ N ∧ ∀ o ∈ N, Cv o x → o = x := by
  unfold nsel
  rw [nselU_mem]
  constructor
  · rintro ⟨i, _, h2, h3⟩
    exact ⟨List.mem_of_getElem? h2, (needB_iff.mp h3).2⟩
  · rintro ⟨h1, h2⟩
    -- the first place of x
    have : ∀ (l : List (List Atm)), x ∈ l → ∃ i, l[i]? = some x ∧ x ∉ l.take i := by
      intro l
      induction l with
      | nil => intro h; cases h
      | cons y l ih =>
        intro h
        by_cases e : y = x
        · exact ⟨0, by rw [e]; rfl, fun h => by cases h⟩
        · rcases List.mem_cons.mp h with h | h
          · exact absurd h.symm e
          · obtain ⟨i, g1, g2⟩ := ih h
            refine ⟨i + 1, by rw [List.getElem?_cons_succ]; exact g1, fun h => ?_⟩
            rw [List.take_succ_cons] at h
            rcases List.mem_cons.mp h with h | h
            · exact e h.symm
            · exact g2 h
    obtain ⟨i, g1, g2⟩ := this N h1
    refine ⟨i, ?_, g1, needB_iff.mpr ⟨g2, h2⟩⟩
    rcases Nat.lt_or_ge i N.length with h | h
    · exact h
    · rw [List.getElem?_eq_none h] at g1; cases g1
theorem nselU_nodup {N : List (List Atm)} : ∀ m, (nselU N m).Nodup
  | 0 => List.nodup_nil
  | m + 1 => by
    unfold nselU
    cases hm : N[m]? with
    | none => simpa using nselU_nodup m
    | some y =>
      show (nselU N m ++ if needB N m y = true then [y] else []).Nodup
      split
      · rename_i hb
        refine List.nodup_append.mpr ⟨nselU_nodup m, by simp, ?_⟩
        intro a ha b hb' e
        rw [List.mem_singleton.mp hb'] at e
        subst e
        obtain ⟨i, h1, h2, _⟩ := nselU_mem.mp ha
        refine (needB_iff.mp hb).1 (List.mem_of_getElem? (i := i) ?_)
        rw [List.getElem?_take, if_pos h1]
        exact h2
      · rw [List.append_nil]
        exact nselU_nodup m
theorem nsel_nodup (N : List (List Atm)) : (nsel N).Nodup := nselU_nodup _
theorem nselU_len {N : List (List Atm)} : ∀ m, (nselU N m).length ≤ m
  | 0 => Nat.le_refl _
  | m + 1 => by
    unfold nselU
    rw [List.length_append]
    have := nselU_len (N := N) m
    cases hm : N[m]? with
    | none => show _ + 0 ≤ _; omega
    | some y =>
      show _ + (if needB N m y = true then [y] else []).length ≤ _
      split
      · show _ + 1 ≤ _; omega
      · show _ + 0 ≤ _; omega
theorem nsel_nl {N : List (List Atm)} (h : Nl N) : Nl (nsel N) := fun x hx => h x (nsel_mem.mp hx).1
/-- above each pattern there is one that is needed -/
theorem nsel_above {N : List (List Atm)} (h : Nl N) : ∀ (n : Nat) (x : List Atm), x ∈ N → (N.filter fun o => decide (o ≠ x) && (cov o x).isSome).length ≤ n → ∃ y ∈ nsel N, Cv y x
  | n, x, hx, hn => by
    by_cases hm : ∀ o ∈ N, Cv o x → o = x
    · exact ⟨x, nsel_mem.mpr ⟨hx, hm⟩, Cv.refl (h x hx).1⟩
    · obtain ⟨o, ho⟩ := Classical.not_forall.mp hm
      obtain ⟨o1, ho⟩ := Classical.not_imp.mp ho
      obtain ⟨o2, o3⟩ := Classical.not_imp.mp ho
      have lt : (N.filter fun o' => decide (o' ≠ o) && (cov o' o).isSome).length < (N.filter fun o => decide (o ≠ x) && (cov o x).isSome).length := by
        have sub : ∀ l : List (List Atm), (∀ y ∈ l, y ∈ N) → ((l.filter fun o' => decide (o' ≠ o) && (cov o' o).isSome).length ≤ (l.filter fun o => decide (o ≠ x) && (cov o x).isSome).length) ∧ (o ∈ l → (l.filter fun o' => decide (o' ≠ o) && (cov o' o).isSome).length < (l.filter fun o => decide (o ≠ x) && (cov o x).isSome).length) := by
          intro l
          induction l with
          | nil => intro _; exact ⟨Nat.le_refl _, fun h => nomatch h⟩
          | cons z l ih =>
            intro hl
            have hz := hl z (List.mem_cons_self ..)
            obtain ⟨i1, i2⟩ := ih fun y hy => hl y (List.mem_cons_of_mem _ hy)
            have up : (decide (z ≠ o) && (cov z o).isSome) = true → (decide (z ≠ x) && (cov z x).isSome) = true := by
              intro g
              rw [Bool.and_eq_true, decide_eq_true_iff] at g ⊢
              have c2 : Cv z x := Cv.trans (h z hz).1 (h o o1).1 (h x hx).1 g.2 o2
              refine ⟨fun e => ?_, c2⟩
              subst e
              exact g.1 (cv_anti z o (h z hz).1 (h o o1).1 (h z hz).2 (h o o1).2 o2 g.2)
            rw [List.filter_cons, List.filter_cons]
            have self : (decide (o ≠ o) && (cov o o).isSome) = false := by simp
            have self2 : (decide (o ≠ x) && (cov o x).isSome) = true := by
              rw [Bool.and_eq_true, decide_eq_true_iff]
              exact ⟨o3, o2⟩
            refine ⟨?_, fun hm' => ?_⟩
            · by_cases g : (decide (z ≠ o) && (cov z o).isSome) = true
              · rw [if_pos g, if_pos (up g), List.length_cons, List.length_cons]
                omega
              · rw [if_neg g]
                split
                · rw [List.length_cons]; omega
                · exact i1
            · by_cases e : z = o
              · subst e
                rw [if_neg (by rw [self]; exact Bool.false_ne_true), if_pos self2, List.length_cons]
                omega
              · have hm'' : o ∈ l := (List.mem_cons.mp hm').elim (fun g => absurd g.symm e) id
                have := i2 hm''
                by_cases g : (decide (z ≠ o) && (cov z o).isSome) = true
                · rw [if_pos g, if_pos (up g), List.length_cons, List.length_cons]
                  omega
                · rw [if_neg g]
                  split
                  · rw [List.length_cons]; omega
                  · exact this
        exact (sub N fun y hy => hy).2 o1
      match n, hn with
      | 0, hn => omega
      | n + 1, hn =>
        obtain ⟨y, hy, hc⟩ := nsel_above h n o o1 (by omega)
        exact ⟨y, hy, Cv.trans (h y (nsel_mem.mp hy).1).1 (h o o1).1 (h x hx).1 hc o2⟩
theorem nsel_top {N : List (List Atm)} (h : Nl N) {x : List Atm} (hx : x ∈ N) : ∃ y ∈ nsel N, Cv y x := nsel_above h _ x hx (Nat.le_refl _)
theorem nsel_nil {N : List (List Atm)} (h : Nl N) : nsel N = [] ↔ N = [] := by
  constructor
  · intro e
    cases N with
    | nil => rfl
    | cons x N =>
      obtain ⟨y, hy, _⟩ := nsel_top h (List.mem_cons_self ..)
      rw [e] at hy
      cases hy
  · rintro rfl
    rfl
theorem map_nrm {N : List (List Atm)} (h : Nl N) : N.map nrm = N := (List.map_congr_left (g := id) fun x hx => nrm_self (h x hx).1 (h x hx).2).trans (List.map_id N)
/-- two lists that cover each other have the same needed patterns -/
theorem nsel_same {N M : List (List Atm)} (hN : Nl N) (hM : Nl M) (h1 : ∀ x ∈ N, ∃ y ∈ M, Cv y x) (h2 : ∀ y ∈ M, ∃ x ∈ N, Cv x y) : (nsel N).Perm (nsel M) := by
  have key : ∀ (N M : List (List Atm)), Nl N → Nl M → (∀ x ∈ N, ∃ y ∈ M, Cv y x) → (∀ y ∈ M, ∃ x ∈ N, Cv x y) → ∀ x ∈ nsel N, x ∈ nsel M := fun N M hN hM h1 h2 x hx => by
    obtain ⟨g1, g2⟩ := nsel_mem.mp hx
    obtain ⟨y, hy, hc⟩ := h1 x g1
    obtain ⟨z, hz, hd⟩ := h2 y hy
    have e := g2 z hz (Cv.trans (hN z hz).1 (hM y hy).1 (hN x g1).1 hd hc)
    subst e
    have e : z = y := cv_anti z y (hN z hz).1 (hM y hy).1 (hN z hz).2 (hM y hy).2 hc hd
    subst e
    refine nsel_mem.mpr ⟨hy, fun o ho hco => ?_⟩
    obtain ⟨w, hw, he⟩ := h2 o ho
    have e := g2 w hw (Cv.trans (hN w hw).1 (hM o ho).1 (hN z g1).1 he hco)
    subst e
    exact cv_anti o w (hM o ho).1 (hN w hw).1 (hM o ho).2 (hN w hw).2 he hco
  exact (List.perm_ext_iff_of_nodup (nsel_nodup N) (nsel_nodup M)).mpr fun x => ⟨key N M hN hM h1 h2 x, key M N hM hN h2 h1 x⟩
end Gn

set_option Elab.async false
set_option linter.all false
set_option maxRecDepth 100000
set_option maxHeartbeats 4000000
/-! images of sets -/
namespace Gn
open PySem PySem.Spec PyProof.Rows L2 Own Exn Mth Vld
theorem afP_app : ∀ (u v : List Nat) (q : List Atm), afP q (u ++ v) = (afP q u).bind fun q' => afP q' v
  | [], v, q => by rw [afP_nil]; rfl
  | c :: u, v, q => by
    rw [List.cons_append]
    by_cases hc : 97 ≤ c
    · rw [afP_put hc, afP_put hc, afP_app u v]
    · cases hn : nx1 q (c + 32) with
      | none => rw [afP_fail hc hn, afP_fail hc hn]; rfl
      | some q' => rw [afP_take hc hn, afP_take hc hn, afP_app u v]
theorem pk_opt (c : Nat) : Pk [(false, [c])] := fun x hx => by
  rw [List.mem_singleton.mp hx]
  exact ⟨by show [c] ≠ []; simp, List.pairwise_singleton _ _, fun _ => ⟨c, rfl⟩⟩
theorem af_pk : ∀ {p : List Nat} {q r : List Atm}, Pk q → afP q p = some r → Pk r
  | [], q, r, k, h => by
    rw [afP_nil] at h
    cases h
    exact k
  | c :: p, q, r, k, h => by
    by_cases hc : 97 ≤ c
    · rw [afP_put hc] at h
      exact af_pk (k.app (pk_opt c)) h
    · cases hn : nx1 q (c + 32) with
      | none => rw [afP_fail hc hn] at h; cases h
      | some q' =>
        rw [afP_take hc hn] at h
        exact af_pk (k.sub (nx1_le hn)) h
theorem nx1_cv {t s s' : List Atm} {x : Nat} (kt : Pk t) (ks : Pk s) (h : Cv t s) (hn : nx1 s x = some s') : ∃ t', nx1 t x = some t' ∧ Cv t' s' := by
  have ks' := ks.sub (nx1_le hn)
  have key : ∀ z, (rdP s' z).isSome = true → (rdP t (x :: z)).isSome = true := fun z hz =>
    cov_sound (x :: z) s t ks.oneA kt.oneA h (by rw [rdP_some hn]; exact hz)
  cases ht : nx1 t x with
  | none =>
    have := key [] (by rw [rdP_nil]; rfl)
    rw [rdP_none ht] at this
    cases this
  | some t' =>
    refine ⟨t', rfl, ?_⟩
    have kt' := kt.sub (nx1_le ht)
    have h1 : Cv s' s' := Cv.refl ks'
    have h2 := (cv_iff ks' ks' (n := s'.length + t'.length + 1) (by omega)).mp h1
    have h3 := key _ h2
    rw [rdP_some ht] at h3
    exact (cv_iff kt' ks' (n := s'.length + t'.length + 1) (by omega)).mpr h3
theorem af_mono : ∀ {p : List Nat} {t s r : List Atm}, Pk t → Pk s → Cv t s → afP s p = some r → ∃ r', afP t p = some r' ∧ Cv r' r
  | [], t, s, r, _, _, h, e => by
    rw [afP_nil] at e
    cases e
    exact ⟨t, afP_nil t, h⟩
  | c :: p, t, s, r, kt, ks, h, e => by
    by_cases hc : 97 ≤ c
    · rw [afP_put hc] at e
      rw [afP_put hc]
      exact af_mono (kt.app (pk_opt c)) (ks.app (pk_opt c)) (Cv.app (pk_opt c) (pk_opt c) (Cv.refl (pk_opt c)) kt h) e
    · cases hn : nx1 s (c + 32) with
      | none => rw [afP_fail hc hn] at e; cases e
      | some s' =>
        rw [afP_take hc hn] at e
        obtain ⟨t', h1, h2⟩ := nx1_cv kt ks h hn
        rw [afP_take hc h1]
        exact af_mono (kt.sub (nx1_le h1)) (ks.sub (nx1_le hn)) h2 e
/-- the image of a set -/
def imgS (qs : List (List Atm)) (p : List Nat) : List (List Atm) := nsel ((qs.filterMap fun q => afP q p).map nrm)
def Pks (A : List (List Atm)) : Prop := ∀ x ∈ A, Pk x
/-- all of the second set is covered by the first one -/
def Ov (A B : List (List Atm)) : Prop := ∀ x ∈ B, ∃ y ∈ A, Cv y x
theorem nrms_nl' {A : List (List Atm)} (h : Pks A) : Nl (A.map nrm) := fun x hx => by
  obtain ⟨p, hp, rfl⟩ := List.mem_map.mp hx
  exact ⟨nrm_pk (h p hp), nrm_rdc (h p hp)⟩
theorem af_pks {A : List (List Atm)} {p : List Nat} (h : Pks A) : Pks (A.filterMap fun q => afP q p) := fun x hx => by
  obtain ⟨q, hq, e⟩ := List.mem_filterMap.mp hx
  exact af_pk (h q hq) e
theorem img_nl {A : List (List Atm)} (p : List Nat) (h : Pks A) : Nl (imgS A p) := nsel_nl (nrms_nl' (af_pks h))
theorem img_pks {A : List (List Atm)} (p : List Nat) (h : Pks A) : Pks (imgS A p) := fun x hx => (img_nl p h x hx).1
theorem Ov.refl {A : List (List Atm)} (h : Pks A) : Ov A A := fun x hx => ⟨x, hx, Cv.refl (h x hx)⟩
theorem Ov.perm {A B : List (List Atm)} (h : Pks B) (p : A.Perm B) : Ov A B := fun x hx => ⟨x, p.mem_iff.mpr hx, Cv.refl (h x hx)⟩
theorem Ov.trans {A B C : List (List Atm)} (a : Pks A) (b : Pks B) (c : Pks C) (h : Ov A B) (g : Ov B C) : Ov A C := fun x hx => by
  obtain ⟨y, hy, h1⟩ := g x hx
  obtain ⟨z, hz, h2⟩ := h y hy
  exact ⟨z, hz, Cv.trans (a z hz) (b y hy) (c x hx) h2 h1⟩
theorem ov_nrm {A : List (List Atm)} (h : Pks A) : Ov (nsel (A.map nrm)) A := fun x hx => by
  obtain ⟨y, hy, hc⟩ := nsel_top (nrms_nl' h) (List.mem_map.mpr ⟨x, hx, rfl⟩)
  exact ⟨y, hy, Cv.trans (nsel_nl (nrms_nl' h) y hy).1 (nrm_pk (h x hx)) (h x hx) hc (nrm_eqv (h x hx)).1⟩
theorem nrm_ov {A : List (List Atm)} (h : Pks A) : Ov A (nsel (A.map nrm)) := fun x hx => by
  obtain ⟨q, hq, rfl⟩ := List.mem_map.mp (nsel_mem.mp hx).1
  exact ⟨q, hq, (nrm_eqv (h q hq)).2⟩
theorem af_ov {A B : List (List Atm)} (p : List Nat) (a : Pks A) (b : Pks B) (h : Ov A B) : Ov (A.filterMap fun q => afP q p) (B.filterMap fun q => afP q p) := fun x hx => by
  obtain ⟨q, hq, e⟩ := List.mem_filterMap.mp hx
  obtain ⟨y, hy, hc⟩ := h q hq
  obtain ⟨r, h1, h2⟩ := af_mono (a y hy) (b q hq) hc e
  exact ⟨r, List.mem_filterMap.mpr ⟨y, hy, h1⟩, h2⟩
theorem img_ov {A B : List (List Atm)} (p : List Nat) (a : Pks A) (b : Pks B) (h : Ov A B) : Ov (imgS A p) (imgS B p) :=
  Ov.trans (img_pks p a) (af_pks a) (img_pks p b) (ov_nrm (af_pks a)) (Ov.trans (af_pks a) (af_pks b) (img_pks p b) (af_ov p a b h) (nrm_ov (af_pks b)))
theorem nsel_ov {A B : List (List Atm)} (a : Pks A) (b : Pks B) (h : Ov A B) (g : Ov B A) : (nsel (A.map nrm)).Perm (nsel (B.map nrm)) := by
  have up : ∀ (A B : List (List Atm)), Pks A → Pks B → Ov A B → Ov (A.map nrm) (B.map nrm) := fun A B a b h x hx => by
    obtain ⟨q, hq, rfl⟩ := List.mem_map.mp hx
    obtain ⟨y, hy, hc⟩ := h q hq
    exact ⟨nrm y, List.mem_map.mpr ⟨y, hy, rfl⟩, Cv.trans (nrm_pk (a y hy)) (a y hy) (nrm_pk (b q hq)) (nrm_eqv (a y hy)).1 (Cv.trans (a y hy) (b q hq) (nrm_pk (b q hq)) hc (nrm_eqv (b q hq)).2)⟩
  exact nsel_same (nrms_nl' a) (nrms_nl' b) (up B A b a g) (up A B a b h)
theorem img_sim {A B : List (List Atm)} (p : List Nat) (a : Pks A) (b : Pks B) (h : Ov A B) (g : Ov B A) : (imgS A p).Perm (imgS B p) := nsel_ov (af_pks a) (af_pks b) (af_ov p a b h) (af_ov p b a g)
theorem af_join (A : List (List Atm)) (p q : List Nat) : (A.filterMap fun x => afP x (p ++ q)) = (A.filterMap fun x => afP x p).filterMap fun x => afP x q := by
  rw [List.filterMap_filterMap]
  congr 1
  funext x
  exact afP_app p q x
/-- one image after the other -/
theorem img_join {A : List (List Atm)} (p q : List Nat) (a : Pks A) : (imgS (imgS A p) q).Perm (imgS A (p ++ q)) := by
  have h := img_sim q (img_pks p a) (af_pks (p := p) a) (ov_nrm (af_pks a)) (nrm_ov (af_pks a))
  unfold imgS at h ⊢
  rw [af_join]
  exact h
theorem img_nil (A : List (List Atm)) : imgS A [] = nsel (A.map nrm) := by
  unfold imgS
  have : (fun q => afP q []) = (some : List Atm → Option (List Atm)) := funext afP_nil
  rw [this, List.filterMap_some]
/-- the first places of a list's elements -/
def dd : List (List Atm) → List (List Atm) → List (List Atm)
  | _, [] => []
  | s, x :: l => if x ∈ s then dd s l else x :: dd (x :: s) l
theorem dd_cons {s l : List (List Atm)} {x : List Atm} : dd s (x :: l) = if x ∈ s then dd s l else x :: dd (x :: s) l := rfl
theorem dd_congr : ∀ (l s s' : List (List Atm)), (∀ x, x ∈ s ↔ x ∈ s') → dd s l = dd s' l
  | [], _, _, _ => rfl
  | x :: l, s, s', h => by
    rw [dd_cons, dd_cons]
    by_cases hx : x ∈ s
    · rw [if_pos hx, if_pos ((h x).mp hx)]
      exact dd_congr l s s' h
    · rw [if_neg hx, if_neg fun g => hx ((h x).mpr g), dd_congr l (x :: s) (x :: s') fun y => by rw [List.mem_cons, List.mem_cons, h y]]
theorem dd_app : ∀ (l m s : List (List Atm)), dd s (l ++ m) = dd s l ++ dd (s ++ l) m
  | [], m, s => by rw [List.append_nil]; rfl
  | x :: l, m, s => by
    rw [List.cons_append, dd_cons, dd_cons]
    by_cases hx : x ∈ s
    · rw [if_pos hx, if_pos hx, dd_app l m s]
      congr 1
      refine dd_congr m _ _ fun y => ?_
      simp only [List.mem_append, List.mem_cons]
      constructor
      · rintro (h | h)
        · exact .inl h
        · exact .inr (.inr h)
      · rintro (h | rfl | h)
        · exact .inl h
        · exact .inl hx
        · exact .inr h
    · rw [if_neg hx, if_neg hx, List.cons_append, dd_app l m (x :: s)]
      congr 2
      refine dd_congr m _ _ fun y => ?_
      simp only [List.mem_append, List.mem_cons]
      constructor
      · rintro ((h | h) | h)
        · exact .inr (.inl h)
        · exact .inl h
        · exact .inr (.inr h)
      · rintro (h | h | h)
        · exact .inl (.inr h)
        · exact .inl (.inl h)
        · exact .inr h
theorem dd_filter : ∀ (l s : List (List Atm)), dd s l = (dd [] l).filter fun x => !decide (x ∈ s)
  | [], _ => rfl
  | x :: l, s => by
    have h0 : dd [] (x :: l) = x :: dd [x] l := by
      show (if x ∈ [] then _ else _) = _
      rw [if_neg (fun h => by cases h)]
    rw [h0, List.filter_cons, dd_cons]
    by_cases hx : x ∈ s
    · rw [if_pos hx, if_neg (by simp [hx]), dd_filter l s, dd_filter l [x], List.filter_filter]
      refine List.filter_congr fun y _ => ?_
      by_cases hy : y ∈ s
      · simp [hy]
      · have : y ≠ x := fun e => hy (e ▸ hx)
        simp [hy, this]
    · rw [if_neg hx, if_pos (by simp [hx]), dd_filter l (x :: s), dd_filter l [x], List.filter_filter]
      congr 1
      refine List.filter_congr fun y _ => ?_
      by_cases e : y = x <;> by_cases hy : y ∈ s <;> simp [e, hy]
theorem dd_mem {l : List (List Atm)} {x : List Atm} : ∀ {s}, x ∈ dd s l → x ∈ l := by
  induction l with
  | nil => intro s h; cases h
  | cons y l ih =>
    intro s h
    rw [dd_cons] at h
    split at h
    · exact List.mem_cons_of_mem _ (ih h)
    · rcases List.mem_cons.mp h with rfl | h
      · exact List.mem_cons_self ..
      · exact List.mem_cons_of_mem _ (ih h)
theorem dd_nodup : ∀ (l s : List (List Atm)), (∀ x ∈ l, x ∉ s) → l.Nodup → dd s l = l
  | [], _, _, _ => rfl
  | x :: l, s, h, n => by
    rw [dd_cons, if_neg (h x (List.mem_cons_self ..))]
    obtain ⟨n1, n2⟩ := List.nodup_cons.mp n
    rw [dd_nodup l (x :: s) (fun y hy g => ?_) n2]
    rcases List.mem_cons.mp g with rfl | g
    · exact n1 hy
    · exact h y (List.mem_cons_of_mem _ hy) g
def mxB (N : List (List Atm)) (x : List Atm) : Bool := !(N.any fun o => decide (o ≠ x) && (cov o x).isSome)
theorem mxB_iff {N : List (List Atm)} {x : List Atm} : mxB N x = true ↔ ∀ o ∈ N, Cv o x → o = x := by
  unfold mxB
  rw [Bool.not_eq_true', List.any_eq_false]
  refine ⟨fun h o ho hc => ?_, fun h o ho => ?_⟩
  · have := h o ho
    rw [Bool.and_eq_true, decide_eq_true_iff] at this
    exact Classical.byContradiction fun g => this ⟨g, hc⟩
  · rw [Bool.and_eq_true, decide_eq_true_iff]
    exact fun ⟨g, hc⟩ => g (h o ho hc)
theorem nselU_dd (N : List (List Atm)) : ∀ m, nselU N m = (dd [] (N.take m)).filter (mxB N)
  | 0 => by rw [List.take_zero]; rfl
  | m + 1 => by
    unfold nselU
    rw [nselU_dd N m]
    cases hm : N[m]? with
    | none =>
      have hl : N.length ≤ m := by
        rcases Nat.lt_or_ge m N.length with h | h
        · rw [List.getElem?_eq_getElem h] at hm; cases hm
        · exact h
      rw [List.take_of_length_le hl, List.take_of_length_le (Nat.le_succ_of_le hl), List.append_nil]
    | some x =>
      rw [show N.take (m + 1) = N.take m ++ [x] by rw [List.take_add_one, hm]; rfl, dd_app, List.filter_append, List.nil_append]
      congr 1
      show (if needB N m x = true then [x] else []) = (if x ∈ N.take m then dd (N.take m) [] else x :: dd (x :: N.take m) []).filter (mxB N)
      have e : needB N m x = (!decide (x ∈ N.take m) && mxB N x) := rfl
      rw [e]
      by_cases hx : x ∈ N.take m
      · rw [if_pos hx, decide_eq_true hx]
        rfl
      · rw [if_neg hx, decide_eq_false hx]
        show (if mxB N x = true then [x] else []) = [x].filter (mxB N)
        rw [List.filter_cons]
        rfl
theorem nsel_dd (N : List (List Atm)) : nsel N = (dd [] N).filter (mxB N) := by
  unfold nsel
  rw [nselU_dd, List.take_length]
/-- the needed patterns of two lists are those of their needed patterns -/
theorem nsel_app {A B : List (List Atm)} (hA : Nl A) (hB : Nl B) : nsel (A ++ B) = nsel (nsel A ++ nsel B) := by
  have hN : Nl (A ++ B) := fun x hx => (List.mem_append.mp hx).elim (hA x) (hB x)
  have sub : ∀ x ∈ nsel A ++ nsel B, x ∈ A ++ B := fun x hx => (List.mem_append.mp hx).elim (fun h => List.mem_append_left _ (nsel_mem.mp h).1) fun h => List.mem_append_right _ (nsel_mem.mp h).1
  have mx1 : ∀ x ∈ A ++ B, mxB (A ++ B) x = mxB (nsel A ++ nsel B) x := fun x hx => by
    rw [Bool.eq_iff_iff, mxB_iff, mxB_iff]
    refine ⟨fun h o ho hc => h o (sub o ho) hc, fun h o ho hc => ?_⟩
    obtain ⟨m, hm, hmc⟩ : ∃ m ∈ nsel A ++ nsel B, Cv m o := by
      rcases List.mem_append.mp ho with g | g
      · obtain ⟨m, hm, h⟩ := nsel_top hA g
        exact ⟨m, List.mem_append_left _ hm, h⟩
      · obtain ⟨m, hm, h⟩ := nsel_top hB g
        exact ⟨m, List.mem_append_right _ hm, h⟩
    have km := hN m (sub m hm)
    have e := h m hm (Cv.trans km.1 (hN o ho).1 (hN x hx).1 hmc hc)
    subst e
    exact cv_anti o m (hN o ho).1 km.1 (hN o ho).2 km.2 hmc hc
  have mx2 : ∀ {C : List (List Atm)} {x : List Atm}, mxB (A ++ B) x = true → (∀ o ∈ C, o ∈ A ++ B) → mxB C x = true := fun h g => mxB_iff.mpr fun o ho => mxB_iff.mp h o (g o ho)
  rw [nsel_dd (A ++ B), nsel_dd (nsel A ++ nsel B), dd_app, dd_app, List.filter_append, List.filter_append, List.nil_append, List.nil_append]
  rw [dd_nodup (nsel A) [] (fun x _ h => by cases h) (nsel_nodup A), dd_filter B A, dd_filter (nsel B) (nsel A), dd_nodup (nsel B) [] (fun x _ h => by cases h) (nsel_nodup B)]
  rw [nsel_dd A, nsel_dd B, ← nsel_dd A, ← nsel_dd B]
  congr 1
  · conv => rhs; rw [nsel_dd A, ← nsel_dd A]
    rw [show (nsel A).filter (mxB (nsel A ++ nsel B)) = ((dd [] A).filter (mxB A)).filter (mxB (nsel A ++ nsel B)) by rw [← nsel_dd A]]
    rw [List.filter_filter]
    refine List.filter_congr fun x hx => ?_
    have hxA := dd_mem hx
    rw [mx1 x (List.mem_append_left _ hxA), Bool.eq_iff_iff, Bool.and_eq_true]
    exact ⟨fun h => ⟨h, mx2 (by rw [mx1 x (List.mem_append_left _ hxA)]; exact h) fun o ho => List.mem_append_left _ ho⟩, fun h => h.1⟩
  · rw [show (nsel B).filter (fun x => !decide (x ∈ nsel A)) = ((dd [] B).filter (mxB B)).filter (fun x => !decide (x ∈ nsel A)) by rw [← nsel_dd B]]
    rw [List.filter_filter, List.filter_filter, List.filter_filter]
    refine List.filter_congr fun x hx => ?_
    have hxB := List.mem_append_right A (dd_mem hx)
    rw [mx1 x hxB, Bool.eq_iff_iff]
    simp only [Bool.and_eq_true, Bool.not_eq_true', decide_eq_false_iff_not]
    constructor
    · rintro ⟨h1, h2⟩
      exact ⟨⟨h1, fun g => h2 (nsel_mem.mp g).1⟩, mx2 (by rw [mx1 x hxB]; exact h1) fun o ho => List.mem_append_right _ ho⟩
    · rintro ⟨⟨h1, h2⟩, h3⟩
      exact ⟨h1, fun g => h2 (nsel_mem.mpr ⟨g, mxB_iff.mp (mx2 (C := A) (by rw [mx1 x hxB]; exact h1) fun o ho => List.mem_append_left _ ho)⟩)⟩
theorem img_app {A B : List (List Atm)} (p : List Nat) (a : Pks A) (b : Pks B) : imgS (A ++ B) p = nsel ((imgS A p ++ imgS B p).map nrm) := by
  rw [map_nrm fun x hx => (List.mem_append.mp hx).elim (img_nl p a x) (img_nl p b x)]
  unfold imgS
  rw [List.filterMap_append, List.map_append]
  exact nsel_app (nrms_nl' (af_pks a)) (nrms_nl' (af_pks b))
theorem nsel_idem {A : List (List Atm)} (h : Nl A) : nsel ((nsel A).map nrm) = nsel A := by
  rw [map_nrm (nsel_nl h)]
  have := nsel_app (A := A) (B := []) h fun x hx => by cases hx
  rw [List.append_nil, show nsel [] = [] from rfl, List.append_nil] at this
  exact this.symm
theorem af_len : ∀ {p : List Nat} {q r : List Atm}, afP q p = some r → r.length ≤ q.length + p.length
  | [], q, r, h => by
    rw [afP_nil] at h
    cases h
    exact Nat.le_refl _
  | c :: p, q, r, h => by
    rw [List.length_cons]
    by_cases hc : 97 ≤ c
    · rw [afP_put hc] at h
      have := af_len h
      rw [List.length_append, List.length_singleton] at this
      omega
    · cases hn : nx1 q (c + 32) with
      | none => rw [afP_fail hc hn] at h; cases h
      | some q' =>
        rw [afP_take hc hn] at h
        have := af_len h
        have := (nx1_le hn).length_le
        omega
theorem img_len {A : List (List Atm)} {p : List Nat} {m : Nat} (h : ∀ x ∈ A, x.length ≤ m) : ∀ x ∈ imgS A p, x.length ≤ m + p.length := fun x hx => by
  obtain ⟨y, hy, rfl⟩ := List.mem_map.mp (nsel_mem.mp hx).1
  obtain ⟨q, hq, e⟩ := List.mem_filterMap.mp hy
  have h1 := (nrm_sub y).length_le
  have h2 := af_len e
  have h3 := h q hq
  omega
theorem img_num (A : List (List Atm)) (p : List Nat) : (imgS A p).length ≤ A.length := by
  have h1 : (imgS A p).length ≤ ((A.filterMap fun q => afP q p).map nrm).length := nselU_len _
  have h2 := List.length_filterMap_le (fun q => afP q p) A
  rw [List.length_map] at h1
  exact Nat.le_trans h1 h2
end Gn

set_option Elab.async false
set_option linter.all false
set_option maxRecDepth 100000
set_option maxHeartbeats 4000000
/-! sorted lists of texts; which signs a shown value has -/
namespace Gn
open PySem PySem.Spec PyProof.Rows L2 Own Exn Mth Vld
theorem lt_cons {a b : Nat} {r t : List Nat} : ltCps (a :: r) (b :: t) = false ↔ b < a ∨ (a = b ∧ ltCps r t = false) := by
  show (decide (a < b) || (a == b && ltCps r t)) = false ↔ _
  rw [Bool.or_eq_false_iff, decide_eq_false_iff_not, Bool.and_eq_false_iff, beq_eq_false_iff_ne]
  constructor
  · rintro ⟨h1, h2⟩
    by_cases e : a = b
    · exact .inr ⟨e, h2.elim (fun h => absurd e h) id⟩
    · exact .inl (by omega)
  · rintro (h | ⟨rfl, h⟩)
    · exact ⟨by omega, .inl (by omega)⟩
    · exact ⟨by omega, .inr h⟩
theorem lt_anti : ∀ (x y : List Nat), ltCps x y = false → ltCps y x = false → x = y
  | [], [], _, _ => rfl
  | [], _ :: _, h, _ => by cases h
  | _ :: _, [], _, h => by cases h
  | a :: r, b :: t, h, g => by
    rw [lt_cons] at h g
    obtain ⟨e, h1, h2⟩ : a = b ∧ ltCps r t = false ∧ ltCps t r = false := by
      rcases h with h | ⟨h1, h2⟩ <;> rcases g with g | ⟨g1, g2⟩
      · omega
      · omega
      · omega
      · exact ⟨h1, h2, g2⟩
    rw [e, lt_anti r t h1 h2]
theorem le_trans' : ∀ (x y z : List Nat), ltCps y x = false → ltCps z y = false → ltCps z x = false
  | x, [], z, h, g => by
    cases z with
    | nil => cases x with
      | nil => rfl
      | cons => cases h
    | cons c z => cases x with
      | nil => rfl
      | cons => cases h
  | x, b :: y, z, h, g => by
    cases z with
    | nil => cases g
    | cons c z =>
      cases x with
      | nil => rfl
      | cons a x =>
        rw [lt_cons] at h g ⊢
        rcases h with h | ⟨rfl, h⟩ <;> rcases g with g | ⟨rfl, g⟩
        · exact .inl (by omega)
        · exact .inl h
        · exact .inl g
        · exact .inr ⟨rfl, le_trans' x y z h g⟩
def leS (a b : Str) : Prop := ltCps b.cps.toList a.cps.toList = false
theorem ris_pw : ∀ (r : List Str) (p : Str), risingS p r = true → (p :: r).Pairwise leS
  | [], p, _ => List.pairwise_singleton _ _
  | x :: r, p, h => by
    have h : (!ltCps x.cps.toList p.cps.toList && risingS x r) = true := h
    rw [Bool.and_eq_true, Bool.not_eq_true'] at h
    have ih := ris_pw r x h.2
    refine List.pairwise_cons.mpr ⟨fun y hy => ?_, ih⟩
    rcases List.mem_cons.mp hy with rfl | hy
    · exact h.1
    · exact le_trans' _ _ _ h.1 ((List.pairwise_cons.mp ih).1 y hy)
theorem sorted_pw {ys : List Str} (h : sortedS ys = true) : ys.Pairwise leS := by
  cases ys with
  | nil => exact .nil
  | cons x r => exact ris_pw r x h
theorem str_eq {a b : Str} (h : a.cps.toList = b.cps.toList) : a = b := by
  have h2 : a.cps = b.cps := Array.toList_inj.mp h
  cases a
  cases b
  congr
theorem sorted_uniq {xs ys : List Str} (p : xs.Perm ys) (h : sortedS xs = true) (g : sortedS ys = true) : xs = ys :=
  p.eq_of_pairwise (fun a b _ _ h1 h2 => str_eq (lt_anti _ _ h2 h1)) (sorted_pw h) (sorted_pw g)
/-- all signs of a text are signs -/
theorem ok_app {x y : Str} (h : PyData.strOk x = true) (g : PyData.strOk y = true) : PyData.strOk (x ++ y) = true := by
  unfold PyData.strOk at h g ⊢
  have e : (x ++ y).cps = x.cps ++ y.cps := rfl
  rw [e, Array.all_append, h, g]
  rfl
theorem textFrom_ok : ∀ (ts : List Str) (k : Nat) (acc : Str), PyData.strOk acc = true → (∀ t ∈ ts, PyData.strOk t = true) → PyData.strOk (textFrom k acc ts) = true
  | [], _, acc, h, _ => h
  | t :: ts, k, acc, h, g => by
    show PyData.strOk (textFrom (k + 1) (acc ++ (if k > 0 then ", " else "" : String) ++ t) ts) = true
    refine textFrom_ok ts (k + 1) _ (ok_app (ok_app h ?_) (g t (List.mem_cons_self ..))) fun x hx => g x (List.mem_cons_of_mem _ hx)
    split <;> decide +kernel
theorem join_ok : ∀ (ts : List Str), (∀ t ∈ ts, PyData.strOk t = true) → PyData.strOk (Str.join ", " ts) = true
  | [], _ => by decide +kernel
  | [x], h => h x (List.mem_cons_self ..)
  | x :: y :: r, h => by
    show PyData.strOk (x ++ ", " ++ Str.join ", " (y :: r)) = true
    exact ok_app (ok_app (h x (List.mem_cons_self ..)) (by decide +kernel)) (join_ok (y :: r) fun t ht => h t (List.mem_cons_of_mem _ ht))
theorem shownAll_ok : ∀ {ds : List PyData}, (∀ d ∈ ds, PyData.strOk d.shown = true) → ∀ t ∈ PyData.shownAll ds, PyData.strOk t = true
  | [], _, t, h => by cases h
  | d :: ds, h, t, ht => by
    have ht : t ∈ d.shown :: PyData.shownAll ds := ht
    rcases List.mem_cons.mp ht with rfl | ht
    · exact h d (List.mem_cons_self ..)
    · exact shownAll_ok (fun x hx => h x (List.mem_cons_of_mem _ hx)) t ht
theorem list_ok {ds : List PyData} (h : ∀ d ∈ ds, PyData.strOk d.shown = true) : PyData.strOk (PyData.shown (.list ds)) = true := by
  show PyData.strOk (listText (PyData.shownAll ds)) = true
  exact ok_app (textFrom_ok _ 0 "[" (by decide +kernel) (shownAll_ok h)) (by decide +kernel)
theorem tup_ok {ds : List PyData} (h : ∀ d ∈ ds, PyData.strOk d.shown = true) : PyData.strOk (PyData.shown (.tuple ds)) = true := by
  show PyData.strOk (tupleText (PyData.shownAll ds)) = true
  unfold tupleText
  refine ok_app (ok_app (by decide +kernel) (join_ok _ (shownAll_ok h))) ?_
  split <;> decide +kernel
end Gn

set_option Elab.async false
set_option linter.all false
set_option maxRecDepth 100000
set_option maxHeartbeats 1000000
/-! generators whose consumer has several places of its own that change while they sleep -/
namespace Gcs
open PySem PySem.Spec PyProof.Rows GenW L2
/-- a consumer: its places, and what stands there when ys has been handed out -/
structure Csm where
  ad : List Addr
  R : List V → List (Addr × Obj) → Prop
  adr : ∀ ys cp, R ys cp → ∀ p ∈ cp, p.1 ∈ ad
  cov : ∀ ys cp, R ys cp → ∀ b ∈ ad, ∃ o, (b, o) ∈ cp
  nc : ∀ ys cp, R ys cp → ∀ p ∈ cp, ∀ v, p.2.data ≠ .cell v
/-- asleep: only the consumer's places change, and x is put down there -/
structure Nap (cs : Csm) (ys : List V) (x : V) (s s' : Shared) : Prop where
  os : s'.os = s.os
  bare : AllBare s'.gens
  keep : ∀ b o, b ∉ cs.ad → s.heap.get? b = some o → s'.heap.get? b = some o
  own : ∃ cp, cs.R (ys ++ [x]) cp ∧ ∀ p ∈ cp, s'.heap.get? p.1 = some p.2
/-- awake since s₀: the consumer's places are as they were then -/
def Awk (X : Cx) (cs : Csm) (ip : List (Addr × Obj)) (ys : List V) (σ : L2.St) (H : Hp) (s₀ s : Shared) : Prop :=
  ∃ cp, cs.R ys cp ∧ (∀ p ∈ cp, s₀.heap.get? p.1 = some p.2) ∧ Inv X (cp ++ ip) σ H s
section
variable {X : Cx} {cs : Csm} {ip : List (Addr × Obj)} {ys : List V} {σ : L2.St} {H : Hp} {s₀ s s' : Shared}
theorem own_of {cp : List (Addr × Obj)} (hr : cs.R ys cp) (I : Inv X (cp ++ ip) σ H s) : ∀ b ∈ cs.ad, H b = none ∧ b ≠ X.env.locals ∧ b ∉ X.fs := fun b hb => by
  obtain ⟨o, ho⟩ := cs.cov ys cp hr b hb
  obtain ⟨_, e2, e3, e4, _⟩ := I.pin (b, o) (List.mem_append_right _ (List.mem_append_left _ ho))
  exact ⟨e2, e3, e4⟩
theorem pin_own {cp : List (Addr × Obj)} (I : Inv X (cp ++ ip) σ H s) : ∀ p ∈ cp, s.heap.get? p.1 = some p.2 := fun p hp => (I.pin p (List.mem_append_right _ (List.mem_append_left _ hp))).1
theorem Awk.rise {x : V} (hpn : ∀ p ∈ X.pn, p.1 ∉ cs.ad) (hip : ∀ p ∈ ip, p.1 ∉ cs.ad) (hA : ∀ b ∈ cs.ad, Apart X b) (h : Awk X cs ip ys σ H s₀ s) (z : Nap cs ys x s s') : Awk X cs ip (ys ++ [x]) σ H s' s' := by
  obtain ⟨cp, hr, h0, I⟩ := h
  have own := own_of hr I
  have I0 : Inv X ip σ H s := I.pins_of fun p hp => I.pin p (List.mem_append_right _ (List.mem_append_right _ hp))
  have far : ∀ b u, H b = some u → b ∉ cs.ad := fun b u q hb => by rw [(own b hb).1] at q; cases q
  obtain ⟨z1, z2, z3, cp', hr', z4⟩ := z
  obtain ⟨hh, gg, dd, tt, o⟩ := s'
  obtain rfl : o = s.os := z1
  have J : Inv X ip σ H { s with heap := hh, gens := gg, drawn := dd, toks := tt } := by
    refine I0.step (g' := gg) (t' := tt) (d' := dd) (ch := cs.ad) (fun b hb => ⟨.inr (hA b hb).1, (hA b hb).2.1, (hA b hb).2.2, fun p hp e => ?_⟩) (fun b ob _ _ hc q _ => z3 b ob hc q)
      (fun b ob _ _ hc q _ => ⟨ob.slots, z3 b ob hc q⟩) (fun _ _ _ _ n => n) (fun b ob hc q => ⟨ob, z3 b ob hc q⟩) (fun _ _ q => q) (fun _ _ _ q => q)
      (fun b ps q => ⟨#[], by rw [q]; simp⟩) (fun m hm => ?_) (fun b u q => ?_) z2
    · exact (List.mem_append.mp hp).elim (fun hp => hpn p hp (e ▸ hb)) fun hp => hip p hp (e ▸ hb)
    · obtain ⟨ob, es, ep, ho, r⟩ := hm
      exact ⟨ob, es, ep, z3 _ ob (fun hb => (own _ hb).2.1 rfl) ho, r⟩
    · refine (I0.hok b u q).stay (fun c v hc y => z3 c v (hc.elim (fun y => ?_) fun y => far c _ y) y) (fun _ y => y) fun _ _ y => y
      rw [y]
      exact far b u q
  refine ⟨cp', hr', z4, J.pins_of fun p hp => (List.mem_append.mp hp).elim (fun hp => ?_) fun hp => J.pin p (List.mem_append_right _ hp)⟩
  have hb := own p.1 (cs.adr _ _ hr' p hp)
  exact ⟨z4 p hp, hb.1, hb.2.1, hb.2.2, cs.nc _ _ hr' p hp⟩
end
/-! ### the protocol; G: what is promised of each item -/
def Pr (X : Cx) (cs : Csm) (G : List V → V → Prop) : Protocol := fun n s₀ v s kap =>
  ∃ ys x ip σ H, n + 1 + ys.length = sizeLine ∧ RelV x v ∧ G ys x ∧ Awk X cs ip ys σ H s₀ s ∧ ∀ s', Nap cs ys x s s' → kap (.send .none) s'
def Ed (X : Cx) (cs : Csm) (Q : List V → VK) (F : Value → Shared → Prop) : GenEnd := fun n s₀ r s => match r with
  | .ok (.ret u) => ∃ ys v ip σ H, n + ys.length = sizeLine ∧ Awk X cs ip ys σ H s₀ s ∧ RelV v u ∧ Q ys v H
  | .ok _ => False
  | .error e => F e s
def Pt (X : Cx) (cs : Csm) (ip : List (Addr × Obj)) (D : GEnds) (ys : List V) (f : Flow) (s₀ s : Shared) : Prop := match f with
  | .ret u => ∃ v σ H, Awk X cs ip ys σ H s₀ s ∧ RelV v u ∧ D.rt ys v H
  | .brk => ∃ σ H, Awk X cs ip ys σ H s₀ s ∧ D.bk ys σ H
  | .cont => ∃ σ H, Awk X cs ip ys σ H s₀ s ∧ D.ct ys σ H
  | .next => ∃ σ H, Awk X cs ip ys σ H s₀ s ∧ D.nx ys σ H
structure Wh (X : Cx) (cs : Csm) (ip : List (Addr × Obj)) (A : Around) (c : Code) (fs : List Frame) (gd : Bool → Bool) : Prop where
  pn : ∀ p ∈ X.pn, p.1 ∉ cs.ad
  ip : ∀ p ∈ ip, p.1 ∉ cs.ad
  ap : ∀ b ∈ cs.ad, Apart X b
  over : A.over c fs = X.A
  split : splitAtGen fs = none
  guard : fs.any Frame.guarded = false
  gd : gd false = false
structure Fo (X : Cx) (G : List V → V → Prop) (cs : Csm) (ip : List (Addr × Obj)) (A : Around) (R : GenEnd) (c : Code) (fs : List Frame) (K : Flow → Sem PySem.Fin) (J : Value → Sem PySem.Fin) (D : GEnds) : Prop where
  ok : ∀ (n : Nat) (ys : List V) (s₀ s : Shared) (f : Flow), n + ys.length = sizeLine → Pt X cs ip D ys f s₀ s → Seg (model X.prog X.w) A R (Pr X cs G) n s₀ c (K f) fs s
  exc : ∀ (n : Nat) (s₀ : Shared) (e : Value) (s : Shared), X.xe e s → Seg (model X.prog X.w) A R (Pr X cs G) n s₀ c (J e) fs s
/-- a statement of a generator; a suite -/
structure Gs1 (X : Cx) (G : List V → V → Prop) (st : Stmt) (t : TGn) : Prop where
  run : ∀ (A : Around) (cs : Csm) (ip : List (Addr × Obj)) (R : GenEnd) (n : Nat) (ys : List V) (s₀ : Shared) (c : Code) (fs : List Frame) (K : Flow → Sem PySem.Fin) (J : Value → Sem PySem.Fin) (gd : Bool → Bool) (lv : List Value → List Value) (s : Shared) (σ : L2.St) (H : Hp) (D : GEnds),
    Wh X cs ip A c fs gd → n + ys.length = sizeLine → Fo X G cs ip A R c fs K J D → Awk X cs ip ys σ H s₀ s → t D ys σ H → Seg (model X.prog X.w) A R (Pr X cs G) n s₀ c ((exec st X.env).wrap K J gd lv) fs s
structure Gsn (X : Cx) (G : List V → V → Prop) (st : List Stmt) (t : TGn) : Prop where
  run : ∀ (A : Around) (cs : Csm) (ip : List (Addr × Obj)) (R : GenEnd) (n : Nat) (ys : List V) (s₀ : Shared) (c : Code) (fs : List Frame) (K : Flow → Sem PySem.Fin) (J : Value → Sem PySem.Fin) (gd : Bool → Bool) (lv : List Value → List Value) (s : Shared) (σ : L2.St) (H : Hp) (D : GEnds),
    Wh X cs ip A c fs gd → n + ys.length = sizeLine → Fo X G cs ip A R c fs K J D → Awk X cs ip ys σ H s₀ s → t D ys σ H → Seg (model X.prog X.w) A R (Pr X cs G) n s₀ c ((execs st X.env).wrap K J gd lv) fs s
section
variable {X : Cx} {G : List V → V → Prop} {st : Stmt} {rest : List Stmt}
theorem pt_of {cs : Csm} {ip cp : List (Addr × Obj)} {s₀ s : Shared} {D : GEnds} {ys : List V} {f : Flow} (r : cs.R ys cp) (h0 : ∀ p ∈ cp, s₀.heap.get? p.1 = some p.2) (h : SP X (cp ++ ip) (D.at ys) f s) : Pt X cs ip D ys f s₀ s := by
  cases f with
  | ret u => obtain ⟨v, σ, H, I, r1, q⟩ := h; exact ⟨v, σ, H, ⟨cp, r, h0, I⟩, r1, q⟩
  | _ => obtain ⟨σ, H, I, q⟩ := h; exact ⟨σ, H, ⟨cp, r, h0, I⟩, q⟩
/-- a statement that hands out nothing -/
theorem g_ps {t : TS} (h : PS X st t) : Gs1 X G st (tPlain t) := ⟨fun A cs ip R n ys s₀ c fs K J gd lv s σ H D g hn k ⟨cp, r, h0, I⟩ ht => by
  refine seg_wrap ?_
  rw [g.over]
  exact wpAny_mono (h.run _ s σ H (D.at ys) I ht) (fun f s' hs => k.ok n ys s₀ s' f hn (pt_of r h0 hs)) fun x s' hx => k.exc n s₀ x s' hx⟩
theorem g_nil : Gsn X G [] tG0 := ⟨fun A cs ip R n ys s₀ c fs K J gd lv s σ H D g hn k hI ht => seg_execs_nil (k.ok n ys s₀ s .next hn ⟨σ, H, hI, ht⟩)⟩
theorem g_cons {t u : TGn} (a : Gs1 X G st t) (b : Gsn X G rest u) : Gsn X G (st :: rest) (tGThen t u) := ⟨fun A cs ip R n ys s₀ c fs K J gd lv s σ H D g hn k hI ht => by
  refine seg_execs_cons (a.run A cs ip R n ys s₀ c fs _ J gd lv s σ H { D with nx := fun ys' σ' H' => u D ys' σ' H' } g hn ⟨fun n' ys' s₀' s' f hn' hs => ?_, k.exc⟩ hI ht)
  cases f with
  | next =>
    obtain ⟨σ', H', I', q⟩ := hs
    exact b.run A cs ip R n' ys' s₀' c fs K J gd lv s' σ' H' D g hn' k I' q
  | _ => exact k.ok n' ys' s₀' s' _ hn' hs⟩
/-! ### yield -/
def tYld (G : List V → V → Prop) (te : TE) : TGn := fun D ys σ H => ys.length < sizeLine ∧ te σ H fun x H1 => G ys x ∧ D.nx (ys ++ [x]) σ H1
theorem g_yield {e : Expr} {yp pos : Pos} {te : TE} (he : PE X e te) (hco : X.env.scope.isCoroutine = false := by rfl) (hi : interactive X.env = false := by rfl) : Gs1 X G (.Expr (.Yield (some e) yp) pos) (tYld G te) :=
  ⟨fun A cs ip R n ys s₀ c fs K J gd lv s σ H D g hn k ⟨cp, r, h0, I⟩ ⟨hlt, ht⟩ => by
    obtain ⟨n, rfl⟩ : ∃ m, n = m + 1 := ⟨n - 1, by omega⟩
    refine seg_Expr_Yield g.split g.gd g.guard ?_ hco hi
    rw [g.over]
    refine wpAny_mono (he.run _ s σ H _ I ht) (fun v s' ⟨x, H1, I1, rv, hG, q⟩ kap hk => ?_) fun x s' hx => k.exc _ s₀ x s' hx
    have W1 : Awk X cs ip ys σ H1 s₀ s' := ⟨cp, r, h0, I1⟩
    refine ⟨ys, x, ip, σ, H1, hn, rv, hG, W1, fun s'' z => hk .none s'' (k.ok n (ys ++ [x]) s'' s'' .next ?_ ⟨σ, H1, W1.rise g.pn g.ip g.ap z, q⟩)⟩
    rw [List.length_append, List.length_singleton]
    omega⟩
/-! ### loops -/
theorem wh_loop {cs : Csm} {ip : List (Addr × Obj)} {A : Around} {c c' : Code} {fs : List Frame} {gd : Bool → Bool} {k : Result → Sem PySem.Fin} {l kp : List Value} {p : Pos} (g : Wh X cs ip A c fs gd) (hw : c'.weight = 0) (hu : c'.cUnits = 0) :
    Wh X cs ip A c' (.ret k none (gd false) l c p kp :: fs) id :=
  ⟨g.pn, g.ip, g.ap, (over_loop hw hu).trans g.over, (show (splitAtGen fs).map _ = none by rw [g.split]; rfl), (show (gd false || fs.any Frame.guarded) = false by rw [g.gd, g.guard]; rfl), rfl⟩
theorem g_back {cs : Csm} {ip : List (Addr × Obj)} {A : Around} {R : GenEnd} {c : Code} {fs : List Frame} {K : Flow → Sem PySem.Fin} {J : Value → Sem PySem.Fin} {gd : Bool → Bool} {lv : List Value → List Value} {D : GEnds} {n : Nat} {s₀ s : Shared} {e : Value}
    (g : Wh X cs ip A c fs gd) (k : Fo X G cs ip A R c fs K J D) (h : cameBackBy (model X.prog X.w) X.A X.env X.xe e s) : Seg (model X.prog X.w) A R (Pr X cs G) n s₀ c (((Sem.raise e : Sem Flow).onRaise (cameBack X.env)).wrap K J gd lv) fs s := by
  show Seg _ _ _ _ _ _ _ (((cameBack X.env e).bind fun _ => (Sem.raise e : Sem Flow)).wrap K J gd lv) _ _
  rw [Sem.bind_eq_wrap, Sem.wrap_wrap]
  refine seg_wrap ?_
  rw [g.over]
  exact wpAny_mono h (fun _ s' hx => k.exc n s₀ e s' hx) fun x s' hx => k.exc n s₀ x s' hx
end
end Gcs

set_option Elab.async false
set_option linter.all false
set_option maxRecDepth 100000
set_option maxHeartbeats 1000000
/-! for in such a generator; its def -/
namespace Gcs
open PySem PySem.Spec PyProof.Rows GenW L2
section
variable {X : Cx} {G : List V → V → Prop} {tg : Expr}
theorem fp_cp {cs : Csm} {ys ys' : List V} {b : Addr} {cp cp' ip : List (Addr × Obj)} {H H' : Hp} (r : cs.R ys cp) (r' : cs.R ys' cp') (f : FpOk X (cp ++ ip) H b) (hn : H' b = none) : FpOk X (cp' ++ ip) H' b := by
  refine ⟨hn, f.2.1, f.2.2.1, f.2.2.2.1, f.2.2.2.2.1, fun p hp => ?_⟩
  have old := f.2.2.2.2.2
  rcases List.mem_append.mp hp with h | h
  · exact old p (List.mem_append_left _ h)
  rcases List.mem_append.mp h with h | h
  · obtain ⟨o, ho⟩ := cs.cov _ _ r p.1 (cs.adr _ _ r' p h)
    exact old (p.1, o) (List.mem_append_right _ (List.mem_append_left _ ho))
  · exact old p (List.mem_append_right _ (List.mem_append_right _ h))
theorem g_for {iter : Expr} {body : List Stmt} {wi : TI} {g : TG} {tb : TGn} {pos : Pos} (hp : PassesOwn (model X.prog X.w) X.A X.env X.xe) (hc : X.calm = true) (hi : PI X tg iter wi) (hg : PG X tg g) (hb : Gsn X G body tb)
    (hs : ∀ x, foldedSetIterable iter X.env x = pure x := by intro _; rfl) : Gs1 X G (.For tg iter body [] pos) (tGFor wi g tb) := by
  refine ⟨fun A cs ip R n ys s₀ c fs K J gd lv s σ H D gc hn k ⟨cp, r, h0, I⟩ ht => ?_⟩
  refine seg_For ?_ hs
  rw [gc.over]
  refine wpAny_mono (hi.run _ s σ H _ I ht) (fun v s1 h1 => wpAny_mono h1 (fun itv s2 h2 p => ?_) fun x s' hx => k.exc n s₀ x s' hx) fun x s' hx => k.exc n s₀ x s' hx
  obtain ⟨it, fp, tn, Jt, H2, rfl, I2, T, st2, f2, W, ⟨m0, w0⟩, turn⟩ := h2
  have gl := fun (kk : Result → Sem PySem.Fin) => wh_loop (k := kk) (c' := .forLoop tg (.ref it) body [] X.env) (l := lv []) (kp := []) (p := p) gc rfl rfl
  have ee : ∀ (n : Nat) (s₀ : Shared) (x : Value) (s' : Shared), X.xe x s' → EE X.prog X.w A R (Pr X cs G) n s₀ (.forLoop tg (.ref it) body [] X.env) X.env
      (.ret (fun r => ((match r with | .ok f => (.pure f : Sem Flow) | .error e => .raise e).onRaise (cameBack X.env)).wrap K J gd lv) none (gd false) (lv []) c p [] :: fs) x s' := by
    intro n s₀ x s' hx
    refine seg_wrap ?_
    rw [(gl _).over]
    exact wpAny_bind (wpAny_mono (hp x s' hx) (fun _ t hcb => wpAny_theTreesLotGoes (seg_leaf (.error x) (g_back gc k hcb))) fun y t hcb => seg_leaf (.error y) (g_back gc k hcb))
  have loop : ∀ (m n i : Nat) (ys : List V) (s₀ s : Shared) (σ : L2.St) (H : Hp), n + ys.length = sizeLine → W i m ys σ H → Awk X cs ip ys σ H s₀ s → tn i s.heap → (∀ b ∈ fp, H b = none) →
      Seg (model X.prog X.w) A R (Pr X cs G) n s₀ (.forLoop tg (.ref it) body [] X.env) ((model X.prog X.w).den (.forLoop tg (.ref it) body [] X.env))
        (.ret (fun r => ((match r with | .ok f => (.pure f : Sem Flow) | .error e => .raise e).onRaise (cameBack X.env)).wrap K J gd lv) none (gd false) (lv []) c p [] :: fs) s := by
    intro m
    induction m using Nat.strongRecOn with
    | ind m ih =>
      intro n i ys s₀ s σ H hn w ⟨cp3, r3, h3, I3⟩ st fr
      have stat : ∀ {H' : Hp}, (∀ b ∈ fp, H' b = none) → ∀ b ∈ fp, FpOk X (cp3 ++ ip) H' b := fun hn b hb => fp_cp r r3 (f2 b hb) (hn b hb)
      refine seg_forLoop ?_
      rw [(gl _).over]
      rcases turn i m ys σ H w with ⟨stop, qn⟩ | ⟨go, N, hN, step⟩
      · refine wpAny_mono (T.done X rfl rfl rfl hc i _ s σ H X.xe I3 (stat fr) st stop) (fun rr t ⟨er, I4⟩ => ?_) (ee n s₀)
        subst er
        exact seg_noElse (seg_leaf (.ok .next) (k.ok n ys s₀ t .next hn ⟨σ, H, ⟨cp3, r3, h3, I4⟩, qn⟩))
      · refine wpAny_mono (T.item X rfl rfl rfl hc i _ s σ H X.xe I3 (stat fr) st go) (fun rr t ⟨u, er, h4⟩ => ?_) (ee n s₀)
        subst er
        refine wpAny_mono h4 (fun _ s5 ⟨x, H5, I5, r5, y5, st5, fr5⟩ => ?_) (ee n s₀)
        have I5' := I5.pinned (stat fr5) (T.obj _ _ st5)
        refine wpAny_mono (hg.run _ s5 σ H5 x u _ I5' r5 (step x H5 y5)) (fun _ s6 ⟨σ6, H6, I6, q6⟩ => ?_) (ee n s₀)
        rw [List.append_assoc] at I6
        have gb : Wh X cs (ip ++ pinsAt fp s5.heap) A (.forLoop tg (.ref it) body [] X.env) (.ret (fun r => ((match r with | .ok f => (.pure f : Sem Flow) | .error e => .raise e).onRaise (cameBack X.env)).wrap K J gd lv) none (gd false) (lv []) c p [] :: fs) id := by
          have g0 := gl (fun r => ((match r with | .ok f => (.pure f : Sem Flow) | .error e => .raise e).onRaise (cameBack X.env)).wrap K J gd lv)
          refine ⟨g0.pn, fun q hq hm => ?_, g0.ap, g0.over, g0.split, g0.guard, g0.gd⟩
          rcases List.mem_append.mp hq with hq | hq
          · exact g0.ip q hq hm
          · obtain ⟨o, ho⟩ := cs.cov _ _ r3 q.1 hm
            exact (stat fr5 q.1 (of_pinsAt hq).1).2.2.2.2.2 (q.1, o) (List.mem_append_right _ (List.mem_append_left _ ho)) rfl
        refine hb.run A cs (ip ++ pinsAt fp s5.heap) R n ys s₀ _ _ _ _ id id s6 σ6 H6 { D with nx := N, ct := N, bk := D.nx } gb hn ⟨fun n' ys' s₀' s7 f hn' hs7 => ?_, fun n' s₀' x s7 hx => ee n' s₀' x s7 hx⟩ ⟨cp3, r3, h3, I6⟩ q6
        have drop : ∀ {σ7 : L2.St} {H7 : Hp}, Awk X cs (ip ++ pinsAt fp s5.heap) ys' σ7 H7 s₀' s7 → Awk X cs ip ys' σ7 H7 s₀' s7 := fun ⟨cp7, r7, h7, I7⟩ => ⟨cp7, r7, h7, Inv.unpinned (pins := cp7 ++ ip) (by rw [List.append_assoc]; exact I7)⟩
        have more : ∀ {σ7 : L2.St} {H7 : Hp}, Awk X cs (ip ++ pinsAt fp s5.heap) ys' σ7 H7 s₀' s7 → N ys' σ7 H7 → Seg (model X.prog X.w) A R (Pr X cs G) n' s₀' (.forLoop tg (.ref it) body [] X.env) (.pure (.again (.forLoop tg (.ref it) body [] X.env)))
            (.ret (fun r => ((match r with | .ok f => (.pure f : Sem Flow) | .error e => .raise e).onRaise (cameBack X.env)).wrap K J gd lv) none (gd false) (lv []) c p [] :: fs) s7 := by
          intro σ7 H7 G7 n7
          obtain ⟨m', hm, w7⟩ := hN ys' σ7 H7 n7
          have pin7 : ∀ b o, b ∈ fp → s5.heap.get? b = some o → s7.heap.get? b = some o ∧ H7 b = none := fun b o hb e => by
            obtain ⟨cp7, r7, _, I7⟩ := G7
            have := I7.pin (b, o) (List.mem_append_right _ (List.mem_append_right _ (List.mem_append_right _ (mem_pinsAt hb e))))
            exact ⟨this.1, this.2.1⟩
          refine seg_again rfl (ih m' hm n' (i + 1) ys' s₀' s7 σ7 H7 hn' w7 (drop G7) (T.keep _ _ _ st5 fun b hb o e => (pin7 b o hb e).1) fun b hb => ?_)
          obtain ⟨o, e, _⟩ := T.obj _ _ st5 b hb
          exact (pin7 b o hb e).2
        cases f with
        | next => obtain ⟨σ7, H7, G7, n7⟩ := hs7; exact more G7 n7
        | cont => obtain ⟨σ7, H7, G7, n7⟩ := hs7; exact more G7 n7
        | brk => obtain ⟨σ7, H7, G7, q7⟩ := hs7; exact seg_leaf (.ok .next) (k.ok n' ys' s₀' s7 .next hn' ⟨σ7, H7, drop G7, q7⟩)
        | ret v => obtain ⟨v7, σ7, H7, G7, rv7, q7⟩ := hs7; exact seg_leaf (.ok (.ret v)) (k.ok n' ys' s₀' s7 (.ret v) hn' ⟨v7, σ7, H7, drop G7, rv7, q7⟩)
  exact loop m0 n 0 ys s₀ s2 σ H2 hn w0 ⟨cp, r, h0, I2⟩ st2 fun b hb => (f2 b hb).1
end
end Gcs

set_option Elab.async false
set_option linter.all false
set_option maxRecDepth 100000
set_option maxHeartbeats 1000000
/-! the def of such a generator: what a call gives -/
namespace Gcs
open PySem PySem.Spec PyProof.Rows GenW L2
/-- arguments, heap, the promise of each item, what is wanted of all items and the heap at the end, the exception -/
abbrev SpY := List V → Hp → (List V → V → Prop) → (List V → Hp → Prop) → XK → Prop
/-- the heap amid a run of it, for its caller -/
structure Amid (P : Program) (w : World) (outer : List Env) (H : Hp) (s : Shared) (cs : Csm) (H' : Hp) (s1 : Shared) : Prop where
  os : s1.os = s.os
  bare : AllBare s1.gens
  un : Un (frs outer) [] H H' s.heap s1.heap
  hok : HOk P w H' s1.heap
  own : ∀ b ∈ cs.ad, H' b = none
def Fin2 (P : Program) (w : World) (outer : List Env) (H : Hp) (s : Shared) (cs : Csm) (a : Addr) (g : Nat) (Q : List V → Hp → Prop) (E : XK) : GenEnd := fun n s₀ r s1 =>
  ((r = .ok (.ret .none) ∨ r = .ok .next) ∧ ∃ H' ys cp, Amid P w outer H s cs H' s1 ∧ cs.R ys cp ∧ (∀ p ∈ cp, s₀.heap.get? p.1 = some p.2 ∧ s1.heap.get? p.1 = some p.2) ∧ ys.length ≤ sizeLine ∧ Q ys H') ∨
  ∃ e, r = .error e ∧ CX P w outer H s E e s1 ∧ s1.heap.IsGen a g
def Item (P : Program) (w : World) (outer : List Env) (H : Hp) (s : Shared) (cs : Csm) (a : Addr) (g : Nat) (G : List V → V → Prop) : Protocol := fun n s₀ v s1 kap =>
  s1.heap.NoLimit ∧ s1.heap.IsGen a g ∧ ∃ H' ys x cp, Amid P w outer H s cs H' s1 ∧ cs.R ys cp ∧ (∀ p ∈ cp, s₀.heap.get? p.1 = some p.2 ∧ s1.heap.get? p.1 = some p.2) ∧ n + 1 + ys.length = sizeLine ∧ RelV x v ∧ G ys x ∧ ∀ s', Nap cs ys x s1 s' → kap (.send .none) s'
/-- a generator that has not begun -/
def Made (P : Program) (w : World) (k : Nat) (outer : List Env) (H : Hp) (s : Shared) (G : List V → V → Prop) (Q : List V → Hp → Prop) (E : XK) (u : Value) (s' : Shared) : Prop :=
  ∃ (a : Addr) (g : Nat) (c : Code), u = .ref a ∧ s.heap.objs.size ≤ a ∧ a < s'.heap.objs.size ∧ s'.heap.IsGen a g ∧ s'.gens[g]? = some (.fresh c) ∧ s'.os = s.os ∧ AllBare s'.gens ∧ s'.heap.NoLimit ∧ (∀ b o, s.heap.get? b = some o → s'.heap.get? b = some o) ∧
    ∀ (A : Around) (cs : Csm) (s2 : Shared) (cp : List (Addr × Obj)), Room k A → A.frames = some outer → (∀ b ∈ cs.ad, s'.heap.objs.size ≤ b) → (∀ b o, s'.heap.get? b = some o → s2.heap.get? b = some o) → cs.R [] cp → (∀ p ∈ cp, s2.heap.get? p.1 = some p.2) → s2.os = s.os → AllBare s2.gens →
      Seg (model P w) A (Fin2 P w outer H s cs a g Q E) (Item P w outer H s cs a g G) sizeLine s2 c ((model P w).den c) [] s2
structure GfnY (P : Program) (w : World) (K : PySem.W.Frag) (mg : Str → Option Value) (base : Heap) (k : Nat) (f : Addr) (fd : FuncData) (ps : List Str) (sp : SpY) : Prop where
  len : ∀ vs H G Q E, sp vs H G Q E → vs.length = ps.length
  run : ∀ (A : Around) (outer : List Env) (s : Shared) (H : Hp) (args : Args) (us : List Value) (vs : List V) (G : List V → V → Prop) (Q : List V → Hp → Prop) (E : XK), Room k A → Env0 P w K mg base A outer s H → BindsTo s fd args (ps.zip us) → Vals vs us → sp vs H G Q E →
    codeAny (model P w) A (.call (.ref f) args) (fun r s' => match r with | .ok (.ret u) => Made P w k outer H s G Q E u s' | _ => False) s
theorem gfnY_of {P : Program} {w : World} {K : PySem.W.Frag} {mg : Str → Option Value} {base : Heap} {k : Nat} {f : Addr} {name qual : Str} {params : Arguments} {body : List Stmt} {scope : Scope} {dV kV doc pm cdv ct oc : Value} {an od : Option Addr}
    {osl : Array (Option Value)} {N ps : List Str} {sp : SpY} (lk : K.lookup f = some ⟨oc, od, .func (PySem.W.fnOf name qual params body scope dV kV doc pm an cdv ct), osl⟩) (hcd : PySem.W.codeIn K cdv qual = true) (S : GScope N ps scope)
    (len : ∀ vs H G Q E, sp vs H G Q E → vs.length = ps.length)
    (hbody : ∀ (A : Around) (outer : List Env) (s : Shared) (H : Hp) (vs : List V) (G : List V → V → Prop) (Q : List V → Hp → Prop) (E : XK) (pn : List (Addr × Obj)), Room k (A.deeper (envOfC qual scope s.heap.objs.size f cdv)) → sp vs H G Q E →
      ∃ t, Gsn (gcxOf P w K mg base N qual scope f cdv A outer s H E pn) G body t ∧ t { nx := fun ys _ H' => Q ys H', rt := fun ys v H' => v = .non ∧ Q ys H' } [] (start N vs) H) :
    GfnY P w K mg base (k + 1) f (PySem.W.fnOf name qual params body scope dV kV doc pm an cdv ct) ps sp := by
  refine ⟨len, fun A outer s H args us vs G Q E hr e0 hb r hsp => ?_⟩
  have hl := len _ _ _ _ _ hsp
  have bsh : ∀ b o, base.get? b = some o → s.heap.get? b = some o := fun b o e => (e0.bs b o e).1
  have KX : K.In s.heap := e0.mod.kin.keeps bsh
  have kinds : ∀ y ∈ ps.zip us, scope.names.lookup y.1 = some .local ∨ (scope.names.lookup y.1 = some .cell ∧ ((cellsFrom (s.heap.objs.size + 1) scope.names []).lookup y.1).isSome = true) := fun y hy =>
    (S.par y.1 (List.of_mem_zip (a := y.1) (b := y.2) hy).1).imp id fun q => ⟨q, PySem.W.cellsFrom_some _ _ _ (.inl q)⟩
  refine codeAny_call_generator hr.depth (KX _ _ lk) rfl S.co S.gen rfl (PySem.W.codeRec_of KX hcd) (hb _ _ _ _ (wpAny_newFunctionEnv_cells S.kind kinds fun env he s1 x => ?_))
  subst he
  have kp1 := x.toInCall.keep
  have lim1 : s1.heap.NoLimit := (e0.mod.nolimit.keeps bsh).keeps kp1
  refine ⟨lim1, ?_⟩
  obtain ⟨os1, gen1⟩ : s1.os = s.os ∧ s1.gens = s.gens := by
    obtain ⟨h1, tk, es1, _⟩ := x.done
    rw [es1]
    exact ⟨rfl, rfl⟩
  have lt1 : s.heap.objs.size < s1.heap.objs.size := x.toInCall.ns.lt
  -- the generator's object go, wherever it came from
  have main : ∀ (go : Obj) (nm qn : Value) (tk2 : Nat), go.cls = .type "generator" → go.data = .fields #[.int s1.gens.size 0, nm, qn] → go.slots = #[] → (∀ h : Heap, (h.push go).get? h.objs.size = some go) →
      Made P w (k + 1) outer H s G Q E (.ref s1.heap.objs.size) { s1 with gens := s1.gens.push (.fresh (.func body (envOfC qual scope s.heap.objs.size f cdv))), toks := tk2, heap := s1.heap.push go } := by
    intro go nm qn tk2 hgc hgd0 hgs hgp
    have isg : ∀ h : Heap, h.get? s1.heap.objs.size = some go → h.IsGen s1.heap.objs.size s1.gens.size := fun h e => ⟨go, nm, qn, e, hgc, hgd0, hgs⟩
    refine ⟨s1.heap.objs.size, s1.gens.size, _, rfl, Nat.le_of_lt lt1, (by show _ < (s1.heap.push _).objs.size; rw [Heap.size_push]; exact Nat.lt_succ_self _), isg _ (hgp _), Array.getElem?_push_size .., os1, AllBare.push (by rw [gen1]; exact e0.bare) rfl,
      lim1.keeps fun b o e => Heap.get?_push_of_some _ e, fun b o e => Heap.get?_push_of_some _ (kp1 b o e), ?_⟩
    intro Aw cs s2 cp hrw hfr hyoung hk2 hR0 hcp hos hba
    obtain ⟨t, ht, hq⟩ := hbody Aw outer s H vs G Q E [(s1.heap.objs.size, go)] (hrw.deeper _) hsp
    have I1 : Inv (gcxOf P w K mg base N qual scope f cdv Aw outer s H E []) [] (start N vs) H s1 := inv_startG S hrw.hd ⟨hfr, e0.mod, e0.bs, e0.bsz, e0.funs, e0.frf, e0.hok, e0.bare⟩ hl r x
    have kp2 : ∀ b o, s1.heap.get? b = some o → s2.heap.get? b = some o := fun b o e => hk2 b o (Heap.get?_push_of_some _ e)
    have I2 : Inv (gcxOf P w K mg base N qual scope f cdv Aw outer s H E []) [] (start N vs) H s2 :=
      I1.call' (ch := []) (hos.trans os1.symm) (Un.kept kp2) (I1.hok.kept kp2) hba fun b z => nomatch z
    have later : ∀ b ∈ cs.ad, s1.heap.objs.size < b := fun b hb => by
      have : (s1.heap.push go).objs.size ≤ b := hyoung b hb
      rw [Heap.size_push] at this
      exact this
    have young : ∀ b, s1.heap.objs.size ≤ b → H b = none ∧ b ≠ s.heap.objs.size ∧ b ∉ frs outer ∧ s.heap.objs.size ≤ b ∧ ∀ y c, (cellsFrom (s.heap.objs.size + 1) scope.names []).lookup y = some c → c ≠ b := fun b hb =>
      ⟨I1.hok.fresh hb, Nat.ne_of_gt (Nat.lt_of_lt_of_le lt1 hb), I1.nofs hb, Nat.le_trans (Nat.le_of_lt lt1) hb, fun y c e z => by
        obtain ⟨v, ob, ho, _⟩ := I1.cell y c e
        have := Heap.lt_size ho
        rw [z] at this
        exact absurd (Nat.lt_of_lt_of_le this hb) (Nat.lt_irrefl _)⟩
    have hG : Awk (gcxOf P w K mg base N qual scope f cdv Aw outer s H E [(s1.heap.objs.size, go)]) cs [] [] (start N vs) H s2 s2 := by
      refine ⟨cp, hR0, hcp, Inv.pinnedG I2 fun p hp => ?_⟩
      rcases List.mem_append.mp hp with z | z
      · obtain ⟨y1, y2, y3, _, _⟩ := young s1.heap.objs.size (Nat.le_refl _)
        rw [List.mem_singleton.mp z]
        exact ⟨hk2 _ go (hgp _), y1, y2, y3, fun v q => by rw [hgd0] at q; cases q⟩
      · rw [List.append_nil] at z
        obtain ⟨y1, y2, y3, _, _⟩ := young p.1 (Nat.le_of_lt (later _ (cs.adr _ _ hR0 p z)))
        exact ⟨hcp p z, y1, y2, y3, cs.nc _ _ hR0 p z⟩
    have isg2 : ∀ {ip cp : List (Addr × Obj)} {s' : Shared} {σ' : L2.St} {H' : Hp}, Inv (gcxOf P w K mg base N qual scope f cdv Aw outer s H E [(s1.heap.objs.size, go)]) (cp ++ ip) σ' H' s' → s'.heap.IsGen s1.heap.objs.size s1.gens.size := fun J =>
      isg _ (J.pin (s1.heap.objs.size, go) (List.mem_append_left _ (List.mem_singleton.mpr rfl))).1
    have amid : ∀ {ip cp : List (Addr × Obj)} {ys : List V} {s' : Shared} {σ' : L2.St} {H' : Hp}, cs.R ys cp → Inv (gcxOf P w K mg base N qual scope f cdv Aw outer s H E [(s1.heap.objs.size, go)]) (cp ++ ip) σ' H' s' → Amid P w outer H s cs H' s' := fun hr J =>
      ⟨J.os, J.bare, J.base, J.hok, fun b hb => (own_of hr J b hb).1⟩
    refine seg_func ?_
    refine seg_imp (R := Ed (gcxOf P w K mg base N qual scope f cdv Aw outer s H E [(s1.heap.objs.size, go)]) cs (fun ys v H' => v = .non ∧ Q ys H') fun e s' => CX P w outer H s E e s' ∧ ∀ p ∈ [(s1.heap.objs.size, go)], s'.heap.get? p.1 = some p.2)
      (Y := Pr (gcxOf P w K mg base N qual scope f cdv Aw outer s H E [(s1.heap.objs.size, go)]) cs G) (fun n s₀ rr s1' hR => ?_) (fun n s₀ v s1' kap kap' hkk hY => ?_) sizeLine ?_
    · cases rr with
      | error e => exact .inr ⟨e, rfl, hR.1, isg _ (hR.2 (s1.heap.objs.size, go) (List.mem_singleton.mpr rfl))⟩
      | ok fl =>
        cases fl with
        | ret u =>
          obtain ⟨ys, v, ip, σ', H', hn, ⟨cp1, r1, h01, J⟩, rv, rfl, hQ⟩ := hR
          obtain rfl : u = Value.none := rv
          exact .inl ⟨.inl rfl, H', ys, cp1, amid r1 J, r1, fun p hp => ⟨h01 p hp, pin_own J p hp⟩, by omega, hQ⟩
        | _ => exact False.elim hR
    · obtain ⟨ys, xx, ip, σ', H', hn, rv, hg, ⟨cp1, r1, h01, J⟩, h3⟩ := hY
      exact ⟨J.nolimit, isg2 J, H', ys, xx, cp1, amid r1 J, r1, fun p hp => ⟨h01 p hp, pin_own J p hp⟩, hn, rv, hg, fun s' z => hkk _ _ (h3 s' z)⟩
    · refine ht.run Aw cs [] _ sizeLine [] s2 _ [] _ _ id id s2 (start N vs) H _ ⟨fun p hp hm => ?_, fun p hp => (by simp at hp), fun b hb => ?_, over_func, rfl, rfl, rfl⟩ (Nat.add_zero _) ⟨fun n ys s₀ s' fl hn hs => ?_, fun n s₀ e s' hx => ?_⟩ hG hq
      · rw [List.mem_singleton.mp hp] at hm
        exact absurd (later _ hm) (Nat.lt_irrefl _)
      · obtain ⟨_, y2, _, y4, y5⟩ := young b (Nat.le_of_lt (later b hb))
        exact ⟨y4, y2, y5⟩
      · cases fl with
        | next =>
          obtain ⟨σ', H', hI, hQ⟩ := hs
          exact seg_end (.ok (.ret .none)) ⟨ys, .non, [], σ', H', hn, hI, rfl, rfl, hQ⟩
        | brk => obtain ⟨_, _, _, q⟩ := hs; exact False.elim q
        | cont => obtain ⟨_, _, _, q⟩ := hs; exact False.elim q
        | ret u =>
          obtain ⟨v, σ', H', hI, rv, ev, hQ⟩ := hs
          exact seg_end (.ok (.ret u)) ⟨ys, v, [], σ', H', hn, hI, rv, ev, hQ⟩
      · refine seg_wrap ?_
        rw [over_func]
        exact wpAny_mono (show wpAny (model P w) (Aw.deeper (envOfC qual scope s.heap.objs.size f cdv)) (leaving (envOfC qual scope s.heap.objs.size f cdv) e) (fun _ s'' => CX P w outer H s E e s'' ∧ ∀ p ∈ [(s1.heap.objs.size, go)], s''.heap.get? p.1 = some p.2) (fun _ _ => False) s' from hx) (fun _ s'' q => seg_end (.error e) q) fun _ s'' q => q.elim
  exact main _ _ _ _ rfl rfl rfl fun h => Heap.get?_push_size _ rfl
end Gcs

set_option Elab.async false
set_option linter.all false
set_option maxRecDepth 100000
set_option maxHeartbeats 2000000
/-! list(g) and [x for x in g] of such a generator -/
namespace Gcs
open PySem PySem.Spec PyProof.Rows GenW L2
def lstC (S : Addr) : Csm where
  ad := [S]
  R := fun ys cp => ∃ (acc : Array Value) (c : Nat), cp = [(S, lstObj acc c)] ∧ Vals ys acc.toList
  adr := fun ys cp ⟨acc, c, e, _⟩ p hp => by rw [e, List.mem_singleton] at hp; rw [hp]; exact List.mem_singleton.mpr rfl
  cov := fun ys cp ⟨acc, c, e, _⟩ b hb => ⟨lstObj acc c, by rw [e, List.mem_singleton.mp hb]; exact List.mem_singleton.mpr rfl⟩
  nc := fun ys cp ⟨acc, c, e, _⟩ p hp v => by rw [e, List.mem_singleton] at hp; rw [hp]; exact fun q => nomatch q
/-- the library's promise of a generator -/
theorem made_list {P : Program} {w : World} {k : Nat} {outer : List Env} {H : Hp} {s s' : Shared} {G : List V → V → Prop} {Q : List V → Hp → Prop} {E : XK} {u : Value} (h : Made P w k outer H s G Q E u s') : GMade P w k outer H s [] Q E u s' := by
  obtain ⟨a, g, c, hu, h1, h2, h3, h4, h5, h6, h7, h8, wake⟩ := h
  refine ⟨a, g, c, hu, h1, h2, h3, h4, h5, h6, h7, h8, fun A S s2 hr hf hS hk ⟨c0, e0⟩ hos hb => ?_⟩
  have seg := wake A (lstC S) s2 [(S, lstObj #[] c0)] hr hf (fun b hb => by rw [List.mem_singleton.mp hb]; exact hS) hk ⟨#[], c0, rfl, .nil⟩ (fun p hp => by rw [List.mem_singleton.mp hp]; exact e0) hos hb
  refine seg_imp (fun n s₀ r s1 hR => ?_) (fun n s₀ v s1 kap kap' hkk hY => ?_) sizeLine seg
  · rcases hR with ⟨hr, H', ys, cp, am, ⟨acc, c, rfl, rv⟩, hg, hl, hq⟩ | hR
    · exact .inl ⟨hr, H', ys, acc, c, am.os, am.bare, am.un, am.hok, am.own S (List.mem_singleton.mpr rfl), (hg _ (List.mem_singleton.mpr rfl)).2, rv, hl, hq⟩
    · exact .inr hR
  · obtain ⟨nl, ig, H', ys, x, cp, am, ⟨acc, c, rfl, rv⟩, hg, hn, rx, _, hkap⟩ := hY
    have eS := (hg _ (List.mem_singleton.mpr rfl)).2
    have sz : acc.size = ys.length := by
      have := rv.length
      rw [Array.length_toList] at this
      exact this.symm
    refine ⟨am.os, am.bare, nl, ig, ⟨acc, c, eS, by rw [sz]; exact hn⟩, fun s'' z => hkk _ _ (hkap s'' ⟨z.os, z.bare, fun b o hb e => z.keep b o (fun q => hb (List.mem_singleton.mpr q)) e, ?_⟩)⟩
    obtain ⟨c', e'⟩ := z.own acc c eS
    refine ⟨[(S, lstObj (acc.push v) c')], ⟨acc.push v, c', rfl, ?_⟩, fun p hp => by rw [List.mem_singleton.mp hp]; exact e'⟩
    rw [Array.toList_push]
    exact rv.append (.cons rx .nil)
theorem gfn_from {P : Program} {w : World} {K : PySem.W.Frag} {mg : Str → Option Value} {base : Heap} {k : Nat} {f : Addr} {fd : FuncData} {ps : List Str} {sp : SpY} (F : GfnY P w K mg base k f fd ps sp) : GFn P w K mg base k f fd ps (fun vs H Q E => ∃ G, sp vs H G Q E) := by
  refine ⟨fun vs H Q E ⟨G, h⟩ => F.len _ _ _ _ _ h, fun A outer s H args us vs Q E hr e0 hb r ⟨G, h⟩ => codeAny_mono (F.run A outer s H args us vs G Q E hr e0 hb r h) fun r s' hq => ?_⟩
  cases r with
  | error e => exact hq
  | ok fl =>
    cases fl with
    | ret u => exact made_list hq
    | _ => exact hq
/-! ### the comprehension -/
def cmpC (D C : Addr) : Csm where
  ad := [D, C]
  R := fun ys cp => ∃ (acc : Array Value) (c : Nat) (o : Obj), cp = [(D, lstObj acc c), (C, o)] ∧ Vals ys acc.toList ∧ ∀ v, o.data ≠ .cell v
  adr := fun ys cp ⟨acc, c, o, e, _⟩ p hp => by
    rw [e] at hp
    rcases List.mem_cons.mp hp with rfl | hp
    · exact List.mem_cons_self
    · rw [List.mem_singleton.mp hp]; exact List.mem_cons_of_mem _ List.mem_cons_self
  cov := fun ys cp ⟨acc, c, o, e, _⟩ b hb => by
    rw [e]
    rcases List.mem_cons.mp hb with rfl | hb
    · exact ⟨_, List.mem_cons_self⟩
    · rw [List.mem_singleton.mp hb]; exact ⟨_, List.mem_cons_of_mem _ List.mem_cons_self⟩
  nc := fun ys cp ⟨acc, c, o, e, _, n⟩ p hp v => by
    rw [e] at hp
    rcases List.mem_cons.mp hp with rfl | hp
    · exact fun q => nomatch q
    · rw [List.mem_singleton.mp hp]; exact n v
section
variable {X : Cx}
/-- an expression whose value is such a generator; it raises nothing -/
structure PGenY (X : Cx) (k : Nat) (e : Expr) (tg : TGen) : Prop where
  run : ∀ (pins : List (Addr × Obj)) (s : Shared) (σ : L2.St) (H : Hp) (cont : List V → Hp → Prop), Inv X pins σ H s → tg σ H cont → wpAny (model X.prog X.w) X.A (eval e X.env)
    (fun u s' => ∃ H1 sc G, Inv X pins σ H1 sc ∧ Made X.prog X.w k X.stack H1 sc G cont (fun _ _ _ => False) u s') X.xe s
theorem pe_lcG {x : Str} {p1 p2 pos : Pos} {iter : Expr} {scope : Scope} {own : List (Str × Nat)} {tg : TGen} {k : Nat} (hc : X.calm = true) (hN : X.N.Nodup) (hr : Room (k + 3) X.A) (hi : PGenY X k iter tg) (ok : BlkOk X.N X.env.scope scope own)
    (hk : ∀ (cl : List (Str × Addr)) (C : Addr), (compEnvC scope cl C X.env).kindOf x = some .local) (hkd : ∀ (cl : List (Str × Addr)) (C : Addr), (compEnvC scope cl C X.env).scope.kind = .function) (hd : (x == ("__debug__" : Str)) = false := by decide) (hs : ∀ y, foldedSetIterable iter X.env y = pure y := by intro _; rfl) :
    PE X (.ListComp (.Name x p1) [⟨.Name x p2, iter, [], 0⟩] scope pos) (tListG tg) := by
  refine ⟨fun pins s σ H Q I h => ?_⟩
  rw [eval_ListComp]
  have hfree : ∀ y ∈ scope.names, y.2 = .free → ∃ c, X.env.cells.lookup y.1 = some c := fun y hy e => (ok.free y hy e).elim (fun k => I.ok.has _ (.inl k)) fun k => I.ok.has _ (.inr k)
  refine comprehension_at (use := none) rfl hs (closure_ok hfree) ok.kind (fun y hy e => by rw [ok.uniq y hy, e]) (thn (hi.run pins s σ H _ I h) fun u s1 ⟨H1, sc, G, I1, hM⟩ => ?_)
  obtain ⟨a, g, c, rfl, ha1, ha2, hg, hgs, hos, hb, hl, hkp, wake⟩ := hM
  refine wpAny_pyIter_gen hg ?_
  refine wpAny_newObj_type (newEnv_comp ?_) (by show 0 ≤ sizeLine; decide)
  have IS : Inv X pins σ H1 s1 := I1.call' (ch := []) hos (Un.kept hkp) (I1.hok.kept hkp) hb fun b z => nomatch z
  generalize hD : s1.heap.objs.size = D
  generalize hs3 : ({ s1 with heap := s1.heap.push { cls := .type "list", data := .seq ([] : List Value).toArray } } : Shared) = s3
  have I3 : Inv X pins σ (upd H1 D (.lst [])) s3 := by
    rw [← hs3]
    refine IS.laid (t' := s1.toks) (fun b o e => Heap.get?_push_of_some _ e) (Nat.le_of_eq hD) ⟨Nat.zero_le _, [], 0, .nil, ?_⟩
    rw [← hD]
    exact Heap.get?_push_size _ rfl
  have I4 := block_start I3 ok hN (fp := []) fun b hb => nomatch hb
  have h3 : s3.heap = s1.heap.push { cls := .type "list", data := .seq ([] : List Value).toArray } := by rw [← hs3]
  have g3 : s3.gens = s1.gens := by rw [← hs3]
  have o3 : s3.os = s1.os := by rw [← hs3]
  have hsz3 : s3.heap.objs.size = D + 1 := by rw [h3, Heap.size_push, hD]
  show codeAny _ _ (.compStart (.ListComp (.Name x p1) [⟨.Name x p2, iter, [], 0⟩] scope pos) 0 (.ref a) (.ref D) (compEnvC scope (cellsFrom (s3.heap.objs.size + 1) scope.names (cloFrom X.env.cells scope.names [])) s3.heap.objs.size X.env)) (compEnds (model X.prog X.w) X.A X.xe none (EP X pins σ Q) (.ref D) (compEnvC scope (cellsFrom (s3.heap.objs.size + 1) scope.names (cloFrom X.env.cells scope.names [])) s3.heap.objs.size X.env)) { s3 with heap := pushCells (s3.heap.push { cls := .type "dict", data := .dict #[] }) scope.names }
  have hk := hk (cellsFrom (s3.heap.objs.size + 1) scope.names (cloFrom X.env.cells scope.names [])) s3.heap.objs.size
  have hkd := hkd (cellsFrom (s3.heap.objs.size + 1) scope.names (cloFrom X.env.cells scope.names [])) s3.heap.objs.size
  generalize hce : compEnvC scope (cellsFrom (s3.heap.objs.size + 1) scope.names (cloFrom X.env.cells scope.names [])) s3.heap.objs.size X.env = ce at I4 hk hkd ⊢
  have cL : ce.locals = s3.heap.objs.size := by subst hce; rfl
  have kp4 : ∀ b o, s3.heap.get? b = some o → (pushCells (s3.heap.push { cls := .type "dict", data := .dict #[] }) scope.names).get? b = some o := fun b o e => pushCells_keeps _ _ _ _ (Heap.get?_push_of_some _ e)
  generalize hs4 : ({ s3 with heap := pushCells (s3.heap.push { cls := .type "dict", data := .dict #[] }) scope.names } : Shared) = s4 at I4 ⊢
  have k14 : ∀ b o, s1.heap.get? b = some o → s4.heap.get? b = some o := fun b o e => by rw [← hs4]; exact kp4 b o (by rw [h3]; exact Heap.get?_push_of_some _ e)
  have g4 : s4.gens = s1.gens := by rw [← hs4, ← g3]
  have o4 : s4.os = s1.os := by rw [← hs4, ← o3]
  have eD4 : s4.heap.get? D = some (lstObj #[] 0) := by
    rw [← hs4]
    refine kp4 D _ ?_
    rw [h3, ← hD]
    exact Heap.get?_push_size _ rfl
  obtain ⟨m0, hn0, _⟩ := I4.loc
  have hn0 : s4.heap.Ns ce.locals m0 := hn0
  have fC : ∀ {H' : Hp}, H' ce.locals = none → FpOk X pins H' ce.locals := fun e => I3.fpOk (by rw [cL]; exact Nat.le_refl _) e
  have DC : D ≠ ce.locals := by rw [cL, hsz3]; exact Nat.ne_of_lt (Nat.lt_succ_self _)
  have lt13 : s1.heap.objs.size ≤ s3.heap.objs.size := by rw [hsz3, hD]; exact Nat.le_succ _
  have hst : cStatics < s1.heap.objs.size := let ⟨_, hn, _⟩ := hl; hn.lt
  have hh : X.A.handled = none := I.ok.hd hc
  have hdp : X.A.depth < recursionLimit := by have := hr.dp; omega
  clear hce hs4 hs3 h3 g3 o3 kp4 I4 hsz3
  have loop : codeAny (model X.prog X.w) X.A (.compLoop (.ListComp (.Name x p1) [⟨.Name x p2, iter, [], 0⟩] scope pos) 0 (.ref a) (.ref D) ce) (compEnds (model X.prog X.w) X.A X.xe none (EP X pins σ Q) (.ref D) ce) s4 := by
    refine compLoop_any (fun n s' => ∃ (ys : List V) (acc : Array Value) (c' : Nat) (m : Str → Option Value) (gs : GenState), s'.heap.IsGen a g ∧ s'.heap.NoLimit ∧ s'.heap.get? D = some (lstObj acc c') ∧ s'.heap.Ns ce.locals m ∧ s'.gens[g]? = some gs ∧
      gs.Goes (model X.prog X.w) X.A.in1 (Fin2 X.prog X.w X.stack H1 sc (cmpC D ce.locals) a g (fun out H2 => ∀ p : Addr, H2 p = none → Q (.ref p) (upd H2 p (.lst out))) fun _ _ _ => False) (Item X.prog X.w X.stack H1 sc (cmpC D ce.locals) a g G) n (.send .none) (s'.setGen g .running)) ?_ sizeLine
      ⟨[], #[], 0, m0, .fresh c, hg.keeps k14, hl.keeps k14, eD4, hn0, by rw [g4]; exact hgs, rfl, ?_⟩
    · rintro n s5 ⟨ys, acc, c5, m5, gs, hg5, hl5, eD5, hn5, hgs5, go⟩
      have hgl : g < s5.gens.size := (Array.getElem?_eq_some_iff.mp hgs5).1
      obtain ⟨o5, es5, ep5, eC5, d5⟩ := id hn5
      refine wpAny_gsz (n := g + 1) hgl (next_genG (A := X.A)
        (F := fun n s₀ s1 => ∃ H' ys cp, Amid X.prog X.w X.stack H1 sc (cmpC D ce.locals) H' s1 ∧ (cmpC D ce.locals).R ys cp ∧ (∀ p ∈ cp, s₀.heap.get? p.1 = some p.2 ∧ s1.heap.get? p.1 = some p.2) ∧ ys.length ≤ sizeLine ∧ ∀ p : Addr, H' p = none → Q (.ref p) (upd H' p (.lst ys)))
        (Er := fun e s1 => CX X.prog X.w X.stack H1 sc (fun _ _ _ => False) e s1 ∧ s1.heap.IsGen a g) hh hl5 hdp hg5 hgs5 go (fun v s₁ gs' hbare hv => ?_) (fun s₁ hp h' hkeep => ?_) fun e s₁ he => ?_)
      · intro hsz
        obtain ⟨hl1, hg1, H', ys1, x1, cp1, am, ⟨acc1, c1, o1, rfl, rv1, nc1⟩, h01, hnn, rx, hG, hkap⟩ := hv
        have eD1 := h01 (D, lstObj acc1 c1) List.mem_cons_self
        have eC1 := h01 (ce.locals, o1) (List.mem_cons_of_mem _ List.mem_cons_self)
        have hnC : s₁.heap.Ns ce.locals m5 := hn5.at' fun o e => by
          have e' : (s5.setGen g .running).heap.get? ce.locals = some o := e
          rw [eC1.1] at e'
          cases e'
          exact eC1.2
        refine wpAny_pure ?_
        refine wpAny_assign_Name (wpAny_storeName_local (s := s₁.setGen g gs') hk hnC (fun h2 hn2 sb2 => ?_) (by rw [hkd]; rfl))
        refine wpAny_pure ?_
        rw [if_pos rfl]
        refine wpAny_Name (wpAny_loadName_local hkd hk hn2 (if_pos rfl) ?_) hd
        have eD2 : h2.get? D = some (lstObj acc1 c1) := (sb2.2 D DC).trans eD1.2
        have sz1 : acc1.size = ys1.length := by
          have := rv1.length
          rw [Array.length_toList] at this
          exact this.symm
        refine append_at eD2 (fun h3 sb3 eD3 => ?_) (by omega)
        have hn3 := hn2.at' fun o e => (sb3.2 ce.locals DC.symm).trans e
        obtain ⟨o2, es2, ep2, eC2, d2⟩ := id hn3
        have hsz1 : g < s₁.gens.size := by
          have q : (s₁.setGen g gs').gens.size = s₁.gens.size := setGen_size _ _ _
          omega
        have keep : ∀ b o, b ∉ [D, ce.locals] → s₁.heap.get? b = some o → h3.get? b = some o := fun b o hb e =>
          (sb3.2 b fun z => hb (by rw [z]; exact List.mem_cons_self)).trans ((sb2.2 b fun z => hb (by rw [z]; exact List.mem_cons_of_mem _ List.mem_cons_self)).trans e)
        have far : ∀ b, b < s1.heap.objs.size → b ∉ [D, ce.locals] := fun b hb hm => by
          rcases List.mem_cons.mp hm with e | hm
          · rw [e, ← hD] at hb; exact absurd hb (Nat.lt_irrefl _)
          · rw [List.mem_singleton.mp hm, cL] at hb
            exact absurd (Nat.lt_of_lt_of_le hb lt13) (Nat.lt_irrefl _)
        have nap : Nap (cmpC D ce.locals) ys1 x1 s₁ (({ s₁.setGen g gs' with heap := h3, toks := (s₁.setGen g gs').toks + 1 } : Shared).setGen g .running) := by
          refine { os := rfl, bare := allBare_setGen (s := ({ s₁.setGen g gs' with heap := h3, toks := (s₁.setGen g gs').toks + 1 } : Shared)) (allBare_setGen am.bare hbare) rfl, keep := keep, own := ⟨[(D, lstObj (acc1.push v) (c1 + 1)), (ce.locals, o2)], ⟨_, _, o2, rfl, by rw [Array.toList_push]; exact rv1.append (.cons rx .nil), fun v q => ?_⟩, fun p hp => ?_⟩ }
          · rw [d2.1] at q; cases q
          · rcases List.mem_cons.mp hp with rfl | hp
            · exact eD3
            · rw [List.mem_singleton.mp hp]; exact eC2
        have hgo := hkap _ nap
        cases n with
        | zero => exact hgo.elim
        | succ m =>
          refine ⟨m, Nat.lt_succ_self _, ys1 ++ [x1], acc1.push v, c1 + 1, _, gs', ?_, ?_, eD3, hn3, setGen_at hsz1, hgo⟩
          · obtain ⟨o, nm, qn, ho, r⟩ := hg1
            exact ⟨o, nm, qn, keep a o (far a ha2) ho, r⟩
          · obtain ⟨mc, hns, hnn'⟩ := hl1
            exact ⟨mc, hns.at' fun o e => keep _ o (far _ hst) e, hnn'⟩
      · intro hsz
        obtain ⟨H', ys1, cp1, am, ⟨acc1, c1, o1, rfl, rv1, nc1⟩, h01, hle, hq⟩ := hp
        have eD1 := h01 (D, lstObj acc1 c1) List.mem_cons_self
        have eC1 := h01 (ce.locals, o1) (List.mem_cons_of_mem _ List.mem_cons_self)
        have hnC : h'.Ns ce.locals m5 := hn5.at' fun o e => hkeep _ _ (by
          have e' : (s5.setGen g .running).heap.get? ce.locals = some o := e
          rw [eC1.1] at e'
          cases e'
          exact eC1.2)
        have HD : H' D = none := am.own D List.mem_cons_self
        have HC : H' ce.locals = none := am.own ce.locals (List.mem_cons_of_mem _ List.mem_cons_self)
        have JD : Inv X pins σ (upd H' D (.lst ys1)) { s₁.setGen g .finished with heap := h' } := I1.drained (S := D) (acc := acc1) (c := c1) (by rw [← hD]; exact Nat.le_of_lt (Nat.lt_of_le_of_lt ha1 ha2)) hle (hkeep _ _ eD1.2) rv1 ExOk.nil am.os (allBare_setGen am.bare rfl) (am.un.trans (Un.kept hkeep)) (am.hok.kept hkeep) HD
        obtain ⟨f0, f1, f2, f3, f4, f5⟩ := fC (H' := upd H' D (.lst ys1)) ((upd_ne DC.symm).trans HC)
        exact ⟨m5, hnC, fun h'' sb => ⟨.ref D, upd H' D (.lst ys1), JD.turned (t' := (s₁.setGen g .finished).toks) (fun b o hb e => (sb.2 b hb).trans e) f0 f1 f3 f4 f5, rfl, hq D HD⟩⟩
      · obtain ⟨⟨_, _, _, _, _, _, _, _, _, _, _, _, hE⟩, _⟩ := he
        exact False.elim hE
    · obtain ⟨o0, es0, ep0, eC0, d0⟩ := id hn0
      refine wake X.A.in1 (cmpC D ce.locals) (s4.setGen g .running) [(D, lstObj #[] 0), (ce.locals, o0)] ⟨hr.hd, ?_, ?_⟩ I.ok.frames (fun b hb => ?_) k14 ⟨#[], 0, o0, rfl, .nil, fun v q => ?_⟩ (fun p hp => ?_) (o4.trans hos) (allBare_setGen (by rw [g4]; exact hb) rfl)
      · have := hr.dp
        show X.A.depth + 3 * k + 5 < _
        omega
      · have := hr.un
        show X.A.units + 1 + 16 * k + 200 < _
        omega
      · rcases List.mem_cons.mp hb with rfl | hb
        · exact Nat.le_of_eq hD
        · rw [List.mem_singleton.mp hb, cL]
          exact lt13
      · rw [d0.1] at q; cases q
      · rcases List.mem_cons.mp hp with rfl | hp
        · exact eD4
        · rw [List.mem_singleton.mp hp]; exact eC0
  exact codeAny_compStart_list loop (wpAny_pyIter_gen (hg.keeps k14) loop)
end
end Gcs

set_option Elab.async false
set_option linter.all false
set_option maxRecDepth 100000
set_option maxHeartbeats 2000000
/-! calls of such generators; list of them -/
namespace Gcs
open PySem PySem.Spec PyProof.Rows GenW L2
section
variable {X : Cx} {k : Nat} {f : Addr} {fd : FuncData} {ps ks : List Str} {sp : SpY} {x : Str} {p pos : Pos}
theorem run_y {args : Args} {pins : List (Addr × Obj)} {σ : L2.St} {H : Hp} {s : Shared} {us : List Value} {vs : List V} {G : List V → V → Prop} {cont : List V → Hp → Prop} {E1 : Value → Shared → Prop} (F : GfnY X.prog X.w X.K X.mg X.base k f fd ps sp) (hr : Room k X.A)
    (I : Inv X pins σ H s) (hb : us.length = ps.length → BindsTo s fd args (ps.zip us)) (r : Vals vs us) (h : sp vs H G cont fun _ _ _ => False) :
    wpAny (model X.prog X.w) X.A (call (.ref f) args.pos args.kw) (fun u s' => ∃ H1 sc G, Inv X pins σ H1 sc ∧ Made X.prog X.w k X.stack H1 sc G cont (fun _ _ _ => False) u s') E1 s := by
  have hl : us.length = ps.length := by rw [← r.length]; exact F.len _ _ _ _ _ h
  refine wpAny_call (codeAny_mono (F.run X.A X.stack s H args us vs G cont _ hr I.env0 (hb hl) r h) fun r s' hq => ?_)
  match r, hq with
  | .ok (.ret u), hq => exact ⟨H, s, G, I, hq⟩
def tgY (sp : SpY) (t : TA) : TGen := fun σ H cont => t σ H fun vs H1 => ∃ G, sp vs H1 G cont fun _ _ _ => False
def tgK (sp : SpY) (gV : List V → List V → List V) (tk : TA) : TGen := fun σ H cont => tk σ H fun zs H1 => ∃ G, sp (gV [] zs) H1 G cont fun _ _ _ => False
/-- f(e, ..) -/
theorem pgy_call {e : Expr} {es : List Expr} {t : TA} (F : GfnY X.prog X.w X.K X.mg X.base k f fd ps sp) (hr : Room k X.A) (hg : Gl X x) (hm : X.mg x = some (.ref f)) (hk : PySem.W.keepIn X.K (.ref f) = true) (hb : Binds X.K fd ps [])
    (ha : PA X (e :: es) t) (hdg : (x == ("__debug__" : Str)) = false := by decide) (hst : starEach (e :: es) X.env = (false, eval e X.env) :: starEach es X.env := by rfl) (hns : (backTo pos (starEach es X.env)).any (·.1) = false := by rfl) :
    PGenY X k (.Call (.Name x p) (e :: es) [] pos) (tgY sp t) := by
  refine ⟨fun pins s σ H cont I h => wpAny_Call_Name_kw (ld_glob I hg hm ?_ hdg)⟩
  refine PySem.W.callWith_K (h₀ := X.base) I.ok.mod.kin hk (thn (ha.run pos pins s σ H _ I h) fun us s1 ⟨vs, H1, I1, r, G, q⟩ => ⟨I1.kIn, ?_⟩) hst hns
  exact run_y (args := ⟨us, []⟩) F hr I1 (fun hl => by have := hb s1 us I1.kIn (by rw [List.append_nil]; exact hl); rw [List.append_nil] at this; exact this) r q
/-- f(k=e) -/
theorem pgy_callK0 {kws : List Keyword} {tk : TA} {g : List Value → List Value → List Value} {gV : List V → List V → List V} (F : GfnY X.prog X.w X.K X.mg X.base k f fd ps sp) (hr : Room k X.A) (hg : Gl X x) (hm : X.mg x = some (.ref f)) (hk : PySem.W.keepIn X.K (.ref f) = true)
    (hb : KBinds X.K fd ps ks g gV) (hkw : PK X kws tk) (hal : (backToKw pos (keywordEach kws X.env)).all (·.1.isSome) = true := by rfl) (hks : (backToKw pos (keywordEach kws X.env)).filterMap (·.1) = ks := by rfl) (hdg : (x == ("__debug__" : Str)) = false := by decide)
    (hst : ((backTo pos (starEach [] X.env)).any (·.1) || (backToKw pos (keywordEach kws X.env)).any (·.1.isNone)) = false := by rfl) : PGenY X k (.Call (.Name x p) [] kws pos) (tgK sp gV tk) := by
  refine ⟨fun pins s σ H cont I h => wpAny_Call_Name_kw (ld_glob I hg hm ?_ hdg)⟩
  refine PySem.W.callWith_KW0 (h₀ := X.base) I.ok.mod.kin hk hal (thn (hkw.run pos pins s σ H _ I h) fun ws s2 ⟨zs, H2, I2, rz, G, q⟩ => ⟨I2.kIn, ?_⟩) hst
  rw [hks]
  exact run_y (args := ⟨[], ks.zip ws⟩) F hr I2 (fun hl => hb.to s2 [] ws I2.kIn hl) (hb.rel .nil rz) q
theorem PGenY.list {e : Expr} {tg : TGen} (h : PGenY X k e tg) : PGen X k e tg fun _ _ _ => False :=
  ⟨fun pins s σ H cont I q => thn (h.run pins s σ H cont I q) fun u s' ⟨H1, sc, G, I1, hM⟩ => ⟨H1, sc, [], I1, .nil, made_list hM⟩⟩
end
end Gcs

set_option Elab.async false
set_option linter.all false
set_option maxRecDepth 100000
set_option maxHeartbeats 2000000
/-! f() of a def with a starred parameter, errors at places -/
namespace Cmx
open PySem PySem.Spec PyProof.Rows L2 ClX
theorem pe_callFRS0 {X : Cx} {CX : CXT} {k : Nat} {f : Addr} {sp : Sp} {E : L2.St → XK} {x : Str} {pos p : Pos} (F : FnR X.prog X.w X.K X.mg X.base CX k f sp) (hr : Room k X.A) (hg : Gl X x) (hm : X.mg x = some (.ref f)) (hk : PySem.W.keepIn X.K (.ref f) = true)
    (hx : ∀ σ, PassesAt CX X σ (E σ)) (hdg : (x == ("__debug__" : Str)) = false := by decide) : PE X (.Call (.Name x p) [] [] pos) (tCallFR sp E tNil) :=
  ⟨fun pins s σ H Q I h => wpAny_Call_Name_kw (ld_glob I hg hm (PySem.W.callWith_K0 (first := []) I.kIn hk (run_fnRS (us := []) (vs := []) F hr (hx σ) I .nil h)) hdg)⟩
end Cmx

set_option Elab.async false
set_option linter.all false
set_option maxRecDepth 100000
set_option maxHeartbeats 4000000
/-! Hv: the head by one run; what is seen of the heap behind it -/
namespace Hk
open PySem PySem.Spec PyProof.Rows L2 He
/-! ### functions -/
abbrev FnS : Type := Option (Str × Str × Arguments × FuncBody × Scope × Addr × Addr)
def fnS (K : PySem.W.Frag) (a : Addr) : FnS := match K.lookup a with
  | some ⟨_, _, .func fd, _⟩ => some (fd.name, fd.qualname, fd.params, fd.body, fd.scope, fd.globals, fd.builtins)
  | _ => none
def fnD (K : PySem.W.Frag) (a : Addr) : FuncData := match K.lookup a with
  | some ⟨_, _, .func fd, _⟩ => fd
  | _ => default
def exS (n q : Str) (s : Stmt) : FnS := some (n, q, defArgs s, .stmts (defBody s), defScope s, mainGlobals, builtinsNs)
def fnB (K : PySem.W.Frag) (a : Addr) (q : Str) : Bool := PySem.W.keepIn K (.ref a) && PySem.W.codeIn K (fnD K a).code q
def clN (K : PySem.W.Frag) (a : Addr) : Bool := match (fnD K a).closure with
  | [] => true
  | _ => false
def dfN (K : PySem.W.Frag) (a : Addr) : Bool := match (fnD K a).defaults with
  | .none => true
  | _ => false
def kwN (K : PySem.W.Frag) (a : Addr) : Bool := match (fnD K a).kwdefaults with
  | .none => true
  | _ => false
def dfI (K : PySem.W.Frag) (a : Addr) (i : Int) : Bool := match (fnD K a).defaults with
  | .ref T => (match K.lookup T with
    | some ⟨_, _, .seq ⟨[.int j _]⟩ _, _⟩ => decide (j = i)
    | _ => false)
  | _ => false
def dfS (K : PySem.W.Frag) (a : Addr) (z : Str) : Bool := match (fnD K a).defaults with
  | .ref T => (match K.lookup T with
    | some ⟨_, _, .seq ⟨[.str y _]⟩ _, _⟩ => decide (y = z)
    | _ => false)
  | _ => false
def clS (K : PySem.W.Frag) (a C : Addr) : Bool := match (fnD K a).closure with
  | [(n, c)] => decide (n = ("__class__" : Str)) && (match K.lookup c with
    | some ⟨_, _, .cell (some (.ref D)), _⟩ => decide (D = C)
    | _ => false)
  | _ => false
def cdS (K : PySem.W.Frag) (a : Addr) : Bool := match (fnD K a).code with
  | .ref c => (match K.lookup c with
    | some ⟨_, _, .fields vs, _⟩ => (match (vs[2]? : Option Value) with
      | some (.str z _) => decide (z = ("/claim/cut.py" : Str))
      | _ => false)
    | _ => false)
  | _ => false
section
variable {K : PySem.W.Frag} {a C : Addr} {n q : Str} {s : Stmt} {i : Int} {z : Str}
theorem fn_at (e : fnS K a = exS n q s) : ∃ oc od osl cl dV kV dc pm an cd ct, K.lookup a = some ⟨oc, od, .func ⟨n, q, defArgs s, .stmts (defBody s), defScope s, mainGlobals, cl, dV, kV, dc, pm, an, cd, ct, builtinsNs⟩, osl⟩ ∧
    fnD K a = ⟨n, q, defArgs s, .stmts (defBody s), defScope s, mainGlobals, cl, dV, kV, dc, pm, an, cd, ct, builtinsNs⟩ := by
  unfold fnS exS at e
  unfold fnD
  cases h : K.lookup a with
  | none => rw [h] at e; cases e
  | some o =>
    obtain ⟨oc, od, dt, osl⟩ := o
    rw [h] at e
    cases dt with
    | func fd =>
      obtain ⟨n1, n2, n3, n4, n5, n6, n7, n8, n9, n10, n11, n12, n13, n14, n15⟩ := fd
      have e2 : (some (n1, n2, n3, n4, n5, n6, n15) : FnS) = some (n, q, defArgs s, .stmts (defBody s), defScope s, mainGlobals, builtinsNs) := e
      simp only [Option.some.injEq, Prod.mk.injEq] at e2
      obtain ⟨h1, h2, h3, h4, h5, h6, h7⟩ := e2
      subst h1 h2 h3 h4 h5 h6 h7
      exact ⟨oc, od, osl, n7, n8, n9, n10, n11, n12, n13, n14, rfl, rfl⟩
    | _ => cases e
theorem clN_ok (h : clN K a = true) : (fnD K a).closure = [] := by
  unfold clN at h
  cases e : (fnD K a).closure with
  | nil => rfl
  | cons _ _ => rw [e] at h; cases h
theorem dfN_ok (h : dfN K a = true) : (fnD K a).defaults = .none := by
  unfold dfN at h
  cases e : (fnD K a).defaults with
  | none => rfl
  | _ => rw [e] at h; cases h
theorem kwN_ok (h : kwN K a = true) : (fnD K a).kwdefaults = .none := by
  unfold kwN at h
  cases e : (fnD K a).kwdefaults with
  | none => rfl
  | _ => rw [e] at h; cases h
theorem dfI_ok (h : dfI K a i = true) : ∃ td to tp tn ts tk, (fnD K a).defaults = .ref td ∧ K.lookup td = some ⟨to, tp, .seq #[.int i tk] tn, ts⟩ := by
  unfold dfI at h
  split at h
  · rename_i T hT
    split at h
    · rename_i o d j t n' sl hl
      have := of_decide_eq_true h
      subst this
      exact ⟨T, _, _, _, _, _, hT, hl⟩
    · cases h
  · cases h
theorem dfS_ok (h : dfS K a z = true) : ∃ td to tp tn ts tk, (fnD K a).defaults = .ref td ∧ K.lookup td = some ⟨to, tp, .seq #[.str z tk] tn, ts⟩ := by
  unfold dfS at h
  split at h
  · rename_i T hT
    split at h
    · rename_i o d j t n' sl hl
      have := of_decide_eq_true h
      subst this
      exact ⟨T, _, _, _, _, _, hT, hl⟩
    · cases h
  · cases h
theorem clS_ok (h : clS K a C = true) : ∃ cc cel ced ces, (fnD K a).closure = [(("__class__" : Str), cc)] ∧ K.lookup cc = some ⟨cel, ced, .cell (some (.ref C)), ces⟩ := by
  unfold clS at h
  split at h
  · rename_i n' c hc
    obtain ⟨h1, h2⟩ := ba h
    have := of_decide_eq_true h1
    subst this
    split at h2
    · rename_i o d D sl hl
      have := of_decide_eq_true h2
      subst this
      exact ⟨c, _, _, _, hc, hl⟩
    · cases h2
  · cases h
theorem cdS_ok (h : cdS K a = true) : ∃ cda ccl cdd cvs ccs tf, (fnD K a).code = .ref cda ∧ K.lookup cda = some ⟨ccl, cdd, .fields cvs, ccs⟩ ∧ cvs[2]? = some (.str "/claim/cut.py" tf) := by
  unfold cdS at h
  split at h
  · rename_i c hc
    split at h
    · rename_i o d vs sl hl
      split at h
      · rename_i z t hz
        have := of_decide_eq_true h
        subst this
        exact ⟨c, _, _, _, _, _, hc, hl, hz⟩
      · cases h
    · cases h
  · cases h
/-- a def without defaults -/
theorem fn0 (e : fnS K a = exS n q s) (c : (fnB K a q && (clN K a && dfN K a)) = true) : ∃ oc od sl kV dc pm an cd ct, K.lookup a = some ⟨oc, od, .func (PySem.W.fnOf n q (defArgs s) (defBody s) (defScope s) .none kV dc pm an cd ct), sl⟩ ∧ PySem.W.codeIn K cd q = true ∧ PySem.W.keepIn K (.ref a) = true := by
  obtain ⟨c1, c2⟩ := ba c
  obtain ⟨c2, c3⟩ := ba c2
  obtain ⟨k1, k2⟩ := ba c1
  obtain ⟨oc, od, osl, cl, dV, kV, dc, pm, an, cd, ct, hl, hd⟩ := fn_at e
  have e1 := clN_ok c2
  have e2 := dfN_ok c3
  rw [hd] at e1 e2 k2
  cases e1
  cases e2
  exact ⟨oc, od, osl, kV, dc, pm, an, cd, ct, hl, k2, k1⟩
theorem fn1i (e : fnS K a = exS n q s) (c : (fnB K a q && (clN K a && dfI K a i)) = true) : ∃ td to tp tn ts tk oc od sl kV dc pm an cd ct, K.lookup td = some ⟨to, tp, .seq #[.int i tk] tn, ts⟩ ∧ K.lookup a = some ⟨oc, od, .func (PySem.W.fnOf n q (defArgs s) (defBody s) (defScope s) (.ref td) kV dc pm an cd ct), sl⟩ ∧ PySem.W.codeIn K cd q = true ∧ PySem.W.keepIn K (.ref a) = true := by
  obtain ⟨c1, c2⟩ := ba c
  obtain ⟨c2, c3⟩ := ba c2
  obtain ⟨k1, k2⟩ := ba c1
  obtain ⟨oc, od, osl, cl, dV, kV, dc, pm, an, cd, ct, hl, hd⟩ := fn_at e
  have e1 := clN_ok c2
  obtain ⟨td, to, tp, tn, ts, tk, e2, ht⟩ := dfI_ok c3
  rw [hd] at e1 e2 k2
  cases e1
  cases e2
  exact ⟨td, to, tp, tn, ts, tk, oc, od, osl, kV, dc, pm, an, cd, ct, ht, hl, k2, k1⟩
theorem fn1s (e : fnS K a = exS n q s) (c : (fnB K a q && (clN K a && dfS K a z)) = true) : ∃ td to tp tn ts tk oc od sl kV dc pm an cd ct, K.lookup td = some ⟨to, tp, .seq #[.str z tk] tn, ts⟩ ∧ K.lookup a = some ⟨oc, od, .func (PySem.W.fnOf n q (defArgs s) (defBody s) (defScope s) (.ref td) kV dc pm an cd ct), sl⟩ ∧ PySem.W.codeIn K cd q = true ∧ PySem.W.keepIn K (.ref a) = true := by
  obtain ⟨c1, c2⟩ := ba c
  obtain ⟨c2, c3⟩ := ba c2
  obtain ⟨k1, k2⟩ := ba c1
  obtain ⟨oc, od, osl, cl, dV, kV, dc, pm, an, cd, ct, hl, hd⟩ := fn_at e
  have e1 := clN_ok c2
  obtain ⟨td, to, tp, tn, ts, tk, e2, ht⟩ := dfS_ok c3
  rw [hd] at e1 e2 k2
  cases e1
  cases e2
  exact ⟨td, to, tp, tn, ts, tk, oc, od, osl, kV, dc, pm, an, cd, ct, ht, hl, k2, k1⟩
/-- an error's __init__ -/
theorem fnx (e : fnS K a = exS n q s) (c : (fnB K a q && (clN K a && (dfN K a && kwN K a))) = true) : ∃ oc od dc pm an cd ct sl, K.lookup a = some ⟨oc, od, .func (PySem.W.fnOf n q (defArgs s) (defBody s) (defScope s) .none .none dc pm an cd ct), sl⟩ ∧ PySem.W.codeIn K cd q = true := by
  obtain ⟨c1, c2⟩ := ba c
  obtain ⟨c2, c3⟩ := ba c2
  obtain ⟨c3, c4⟩ := ba c3
  obtain ⟨k1, k2⟩ := ba c1
  obtain ⟨oc, od, osl, cl, dV, kV, dc, pm, an, cd, ct, hl, hd⟩ := fn_at e
  have e1 := clN_ok c2
  have e2 := dfN_ok c3
  have e3 := kwN_ok c4
  rw [hd] at e1 e2 e3 k2
  cases e1
  cases e2
  cases e3
  exact ⟨oc, od, dc, pm, an, cd, ct, osl, hl, k2⟩
/-- a method that calls super() -/
theorem fnk0 (e : fnS K a = exS n q s) (c : (fnB K a q && (clS K a C && (cdS K a && dfN K a))) = true) : ∃ oc od sl kV dc pm an ct cda cc ccl cdd cvs ccs tf cel ced ces, K.lookup cda = some ⟨ccl, cdd, .fields cvs, ccs⟩ ∧ cvs[2]? = some (.str "/claim/cut.py" tf) ∧ K.lookup cc = some ⟨cel, ced, .cell (some (.ref C)), ces⟩ ∧
    K.lookup a = some ⟨oc, od, .func (PySem.W.ksFn n q (defArgs s) (defBody s) (defScope s) .none kV dc pm an (.ref cda) ct cc), sl⟩ ∧ PySem.W.codeIn K (.ref cda) q = true ∧ PySem.W.keepIn K (.ref a) = true := by
  obtain ⟨c1, c2⟩ := ba c
  obtain ⟨c2, c3⟩ := ba c2
  obtain ⟨c3, c4⟩ := ba c3
  obtain ⟨k1, k2⟩ := ba c1
  obtain ⟨oc, od, osl, cl, dV, kV, dc, pm, an, cd, ct, hl, hd⟩ := fn_at e
  obtain ⟨cc, cel, ced, ces, e1, h1⟩ := clS_ok c2
  obtain ⟨cda, ccl, cdd, cvs, ccs, tf, e2, h2, h3⟩ := cdS_ok c3
  have e3 := dfN_ok c4
  rw [hd] at e1 e2 e3 k2
  cases e1
  cases e2
  cases e3
  exact ⟨oc, od, osl, kV, dc, pm, an, ct, cda, cc, ccl, cdd, cvs, ccs, tf, cel, ced, ces, h2, h3, h1, hl, k2, k1⟩
theorem fnk1s (e : fnS K a = exS n q s) (c : (fnB K a q && (clS K a C && (cdS K a && dfS K a z))) = true) : ∃ td to tp tn ts tk oc od sl kV dc pm an ct cda cc ccl cdd cvs ccs tf cel ced ces, K.lookup td = some ⟨to, tp, .seq #[.str z tk] tn, ts⟩ ∧ K.lookup cda = some ⟨ccl, cdd, .fields cvs, ccs⟩ ∧ cvs[2]? = some (.str "/claim/cut.py" tf) ∧ K.lookup cc = some ⟨cel, ced, .cell (some (.ref C)), ces⟩ ∧
    K.lookup a = some ⟨oc, od, .func (PySem.W.ksFn n q (defArgs s) (defBody s) (defScope s) (.ref td) kV dc pm an (.ref cda) ct cc), sl⟩ ∧ PySem.W.codeIn K (.ref cda) q = true ∧ PySem.W.keepIn K (.ref a) = true := by
  obtain ⟨c1, c2⟩ := ba c
  obtain ⟨c2, c3⟩ := ba c2
  obtain ⟨c3, c4⟩ := ba c3
  obtain ⟨k1, k2⟩ := ba c1
  obtain ⟨oc, od, osl, cl, dV, kV, dc, pm, an, cd, ct, hl, hd⟩ := fn_at e
  obtain ⟨cc, cel, ced, ces, e1, h1⟩ := clS_ok c2
  obtain ⟨cda, ccl, cdd, cvs, ccs, tf, e2, h2, h3⟩ := cdS_ok c3
  obtain ⟨td, to, tp, tn, ts, tk, e3, ht⟩ := dfS_ok c4
  rw [hd] at e1 e2 e3 k2
  cases e1
  cases e2
  cases e3
  exact ⟨td, to, tp, tn, ts, tk, oc, od, osl, kV, dc, pm, an, ct, cda, cc, ccl, cdd, cvs, ccs, tf, cel, ced, ces, ht, h2, h3, h1, hl, k2, k1⟩
end
/-! ### addresses and facts by names -/
def recA (K : PySem.W.Frag) (p : Addr) (k : String) : Addr := match PySem.W.recIn K p k with
  | some (.ref f :: _) => f
  | _ => 0
def recB (K : PySem.W.Frag) (p : Addr) (k : String) : Bool := match PySem.W.recIn K p k with
  | some (.ref _ :: _) => true
  | _ => false
theorem recB_ok {K : PySem.W.Frag} {p : Addr} {k : String} (h : recB K p k = true) : ∃ re, PySem.W.recIn K p k = some (.ref (recA K p k) :: re) := by
  unfold recB at h
  unfold recA
  split at h
  · rename_i f re e
    rw [e]
    exact ⟨re, rfl⟩
  · cases h
def clsA (K : PySem.W.Frag) (C : Addr) (m : Str) : Addr := match PySem.W.findCls K (.ref C) (.type "type") m with
  | some (.get _ (.ref p) _ _) => p
  | _ => 0
def clsB (K : PySem.W.Frag) (C : Addr) (m : Str) (b : String) : Bool := match PySem.W.findCls K (.ref C) (.type "type") m with
  | some (.get (.builtin g) (.ref _) .none (.ref D)) => decide (g = b) && decide (D = C)
  | _ => false
theorem clsB_ok {K : PySem.W.Frag} {C : Addr} {m : Str} {b : String} (h : clsB K C m b = true) : PySem.W.findCls K (.ref C) (.type "type") m = some (.get (.builtin b) (.ref (clsA K C m)) .none (.ref C)) := by
  unfold clsB at h
  unfold clsA
  split at h
  · rename_i g p D e
    obtain ⟨h1, h2⟩ := ba h
    have h1 := of_decide_eq_true h1
    have h2 := of_decide_eq_true h2
    subst h1 h2
    rw [e]
  · cases h
def valB (K : PySem.W.Frag) (C : Addr) (m : Str) (i : Int) : Bool := match PySem.W.findCls K (.ref C) (.type "type") m with
  | some (.val (.int j _)) => decide (j = i)
  | _ => false
theorem valB_ok {K : PySem.W.Frag} {C : Addr} {m : Str} {i : Int} (h : valB K C m i = true) : ∃ t, PySem.W.findCls K (.ref C) (.type "type") m = some (.val (.int i t)) := by
  unfold valB at h
  split at h
  · rename_i j t e
    have := of_decide_eq_true h
    subst this
    exact ⟨t, e⟩
  · cases h
def conI (K : PySem.W.Frag) (x : Str) (i : Int) : Bool := match PySem.W.nsIn K mainGlobals x with
  | some (some (.int j _)) => decide (j = i)
  | _ => false
theorem conI_ok {K : PySem.W.Frag} {x : Str} {i : Int} (h : conI K x i = true) : ∃ t, PySem.W.nsIn K mainGlobals x = some (some (.int i t)) := by
  unfold conI at h
  split at h
  · rename_i j t e
    have := of_decide_eq_true h
    subst this
    exact ⟨t, e⟩
  · cases h
def conS (K : PySem.W.Frag) (x z : Str) : Bool := match PySem.W.nsIn K mainGlobals x with
  | some (some (.str y _)) => decide (y = z)
  | _ => false
theorem conS_ok {K : PySem.W.Frag} {x z : Str} (h : conS K x z = true) : ∃ t, PySem.W.nsIn K mainGlobals x = some (some (.str z t)) := by
  unfold conS at h
  split at h
  · rename_i j t e
    have := of_decide_eq_true h
    subst this
    exact ⟨t, e⟩
  · cases h
/-! ### the Hook -/
abbrev Ch := PySem.W.Frag → Bool
abbrev Fn := (PySem.W.Frag → Addr) × FnS
abbrev Al : Type := Bool × List FnS
def obsK (cs : List Ch) (fs : List Fn) (K : PySem.W.Frag) : Al := (cs.all fun c => c K, fs.map fun f => fnS K (f.1 K))
def valK (fs : List Fn) : Al := (true, fs.map fun f => f.2)
def Says (cs : List Ch) (fs : List Fn) (K : PySem.W.Frag) : Prop := obsK cs fs K = valK fs
/-! what is looked at: the module's names, the classes' names, functions, their code -/
def r1 (o : Obj) : List Addr := match o.data with
  | .dict es _ => es.toList.flatMap fun e => refV e.val
  | .func fd => refV fd.code ++ (refV fd.defaults ++ fd.closure.map (·.2))
  | .cls cd => [cd.ns]
  | .fields vs => (match o.cls with
    | .type "code" => []
    | _ => vs.toList.flatMap refV)
  | _ => []
def refs1 (g : Addr → Option Obj) (a : Addr) : List Addr := match g a with
  | some o => r1 o
  | none => []
/-- a list, written out -/
def frL {α : Type} : List Addr → (List Addr → α) → α
  | [], k => k []
  | x :: xs, k => HandSHeadRun.frNat x fun x => frL xs fun xs => k (x :: xs)
theorem frL_eq {α : Type} : ∀ (l : List Addr) (k : List Addr → α), frL l k = k l
  | [], _ => rfl
  | x :: xs, k => by
    show HandSHeadRun.frNat x (fun x => frL xs fun xs => k (x :: xs)) = _
    rw [HandSHeadRun.frNat_eq, frL_eq xs]
def frO {α : Type} (o : Obj) (k : Obj → α) : α := match o with
  | ⟨c, d, dt, sl⟩ => match dt with
    | .func fd => k ⟨c, d, .func fd, sl⟩
    | .cls cd => k ⟨c, d, .cls cd, sl⟩
    | .dict es n => k ⟨c, d, .dict es n, sl⟩
    | .fields vs => k ⟨c, d, .fields vs, sl⟩
    | .seq es n => k ⟨c, d, .seq es n, sl⟩
    | dt => k ⟨c, d, dt, sl⟩
theorem frO_eq {α : Type} (o : Obj) (k : Obj → α) : frO o k = k o := by
  obtain ⟨c, d, dt, sl⟩ := o
  cases dt <;> rfl
def frK {α : Type} : List (Addr × Obj) → (List (Addr × Obj) → α) → α
  | [], k => k []
  | x :: xs, k => match x with
    | (a, o) => HandSHeadRun.frNat a fun a => frO o fun o => frK xs fun xs => k ((a, o) :: xs)
theorem frK_eq {α : Type} : ∀ (l : List (Addr × Obj)) (k : List (Addr × Obj) → α), frK l k = k l
  | [], _ => rfl
  | (a, o) :: xs, k => by
    show HandSHeadRun.frNat a (fun a => frO o fun o => frK xs fun xs => k ((a, o) :: xs)) = _
    rw [HandSHeadRun.frNat_eq, frO_eq, frK_eq xs]
/-- level by level -/
def lev {α : Type} (g : Addr → Option Obj) : Nat → List Addr → List Addr → (List Addr → α) → α
  | 0, _, all, k => k all
  | n + 1, as, all, k => frL (as.flatMap (refs1 g)) fun bs => lev g n bs (all ++ bs) k
theorem lev_eq {α : Type} (g : Addr → Option Obj) : ∀ (n : Nat) (as all : List Addr) (k : List Addr → α), lev g n as all k = k (lev g n as all id)
  | 0, _, _, _ => rfl
  | n + 1, as, all, k => by
    show frL (as.flatMap (refs1 g)) (fun bs => lev g n bs (all ++ bs) k) = k (frL (as.flatMap (refs1 g)) fun bs => lev g n bs (all ++ bs) id)
    rw [frL_eq, frL_eq]
    exact lev_eq g n _ _ k
def asX (g : Addr → Option Obj) (n : Nat) : List Addr := lev g n [mainGlobals] [mainGlobals, cStatics] id
def obsX (n : Nat) (cs : List Ch) (fs : List Fn) (g : Addr → Option Obj) : Al := lev g n [mainGlobals] [mainGlobals, cStatics] fun as => frL as fun as => frK (frG g as) fun K => obsK cs fs K
theorem obsX_is (n : Nat) (cs : List Ch) (fs : List Fn) (g : Addr → Option Obj) : obsX n cs fs g = obsK cs fs (frG g (asX g n)) := by
  unfold obsX
  rw [lev_eq, frL_eq, frK_eq]
  rfl
def hook (n : Nat) (cs : List Ch) (fs : List Fn) : PySem.W.Hook where
  α := Al
  obs := fun s => obsX n cs fs s.heap.get?
  val := fun _ => valK fs
  says := fun _ h => ∃ K : PySem.W.Frag, K.In h ∧ Says cs fs K
  of := fun _ s e => ⟨frG s.heap.get? (asX s.heap.get? n), frG_in, (obsX_is n cs fs s.heap.get?).symm.trans e⟩
  keeps := fun _ _ _ ⟨K, hK, c⟩ k => ⟨K, PySem.W.Frag.In.keeps hK k, c⟩
theorem obsX_eq {n : Nat} {cs : List Ch} {fs : List Fn} {g : Addr → Option Obj} {s : Shared} (h : ∀ a, g a = s.heap.get? a) : obsX n cs fs g = (hook n cs fs).obs s := by
  have e : g = s.heap.get? := funext h
  rw [e] <;> rfl
theorem Says.ch {cs : List Ch} {fs : List Fn} {K : PySem.W.Frag} (c : Says cs fs K) (i : Nat) {f : Ch} (h : cs[i]? = some f) : f K = true := by
  have c1 : (cs.all fun c => c K) = true := congrArg (fun z : Al => z.1) c
  exact List.all_eq_true.mp c1 f (List.mem_of_getElem? h)
theorem Says.fn {cs : List Ch} {fs : List Fn} {K : PySem.W.Frag} (c : Says cs fs K) (i : Nat) {f : Fn} (h : fs[i]? = some f) : fnS K (f.1 K) = f.2 := by
  have e : (fs.map fun f => fnS K (f.1 K)) = fs.map fun f => f.2 := congrArg (fun z : Al => z.2) c
  have e2 : (fs.map fun f => fnS K (f.1 K))[i]? = (fs.map fun f => f.2)[i]? := by rw [e]
  rw [List.getElem?_map, List.getElem?_map, h] at e2
  exact Option.some.inj e2
end Hk
namespace Own
open PySem PySem.Spec PyProof.Rows L2
theorem walk_GE {l : PySem.W.OpenLaw} {n k : Nat} {q : Program} {loose : List Str} {XP : (Str → Option Value) → Heap → Prop} {YP : World → Heap → Prop} {d : DefRec} {CX : World → CXT} {x : Str}
    (hn : l.most = some n) (hn2 : n ≤ sizeLine) (hdf : d.params.defaults = []) (hr : Room k callerA)
    (F : ∀ (w : World) (mg : Str → Option Value) (fa : Addr) (h : Heap), YP w h → h.Ns mainGlobals mg → mg d.name = some (.ref fa) →
      ∃ (K : PySem.W.Frag) (fd : FuncData) (sp : Sp), K.In h ∧ (∀ (s : Shared) (u : Value), BindsTo s fd ⟨[u], []⟩ [(x, u)]) ∧
        (∀ (H : Hp) (a : Addr) (ns : List Int), ns.length ≤ n → Only H → SqL K H a (ns.map V.int) → sp [.ref a] H (fun v _ => v = .bl true) fun _ _ _ => False) ∧
        ∀ base : Heap, K.In base → base.Ns mainGlobals mg → FnG l.prog w K mg base (CX w) k fa fd [x] sp)
    (hCX : ∀ (w : World) (H : Hp) (s : Shared) (e : Value) (s' : Shared), CX w [] H s (fun _ _ _ => False) e s' → False) :
    PySem.W.WalkO q loose XP YP l.row.toRowW d [] (fun f vs => PySem.call f vs) := by
  apply Att.attach_call hn hdf
  intro w s0 s1 mg mb fa o pm cd doc a vs ns G Y _ _ _ hmg hobj hints hlen hgen
  obtain ⟨K, fd, sp, KX, hb, hsp, hF⟩ := F w mg fa _ Y G.T.g hmg
  exact law_callG KX G.T.g G.T.b G.T.builtins G.T.nolimit hgen hobj hints (Nat.le_trans hlen hn2) hr hF hb (fun H => hsp H a ns hlen) fun H e s' => hCX w H s1 e s'
end Own

set_option Elab.async false
set_option linter.all false
set_option maxRecDepth 100000
set_option maxHeartbeats 4000000
namespace E03
open Own PySem PySem.Spec PyProof.Rows L2 Exn
def topS (i : Nat) : Stmt := PySem.Challenge.pw_leakyqueue_k03_parts_of_programs.main.body.getD i (.Pass ⟨0, 0, 0, 0⟩)
abbrev s_is_string_of : Stmt := topS 6
abbrev N_is_string_of : List Str := ["value", "letters", "longest"]
theorem sc_is_string_of : FnScope N_is_string_of ["value", "letters", "longest"] (defScope s_is_string_of) := ⟨rfl, rfl, rfl, by decide +kernel, rfl, by decide +kernel, by decide +kernel⟩
abbrev s_is_program : Stmt := topS 9
abbrev N_is_program : List Str := ["value"]
theorem sc_is_program : FnScope N_is_program ["value"] (defScope s_is_program) := ⟨rfl, rfl, rfl, by decide +kernel, rfl, by decide +kernel, by decide +kernel⟩
abbrev s_require_program : Stmt := topS 10
abbrev N_require_program : List Str := ["value"]
theorem sc_require_program : FnScope N_require_program ["value"] (defScope s_require_program) := ⟨rfl, rfl, rfl, by decide +kernel, rfl, by decide +kernel, by decide +kernel⟩
abbrev s_take_items : Stmt := topS 11
abbrev N_take_items : List Str := ["program", "step"]
theorem sc_take_items : FnScope N_take_items ["program"] (defScope s_take_items) := ⟨rfl, rfl, rfl, by decide +kernel, rfl, by decide +kernel, by decide +kernel⟩
abbrev s_put_items : Stmt := topS 12
abbrev N_put_items : List Str := ["program", "step"]
theorem sc_put_items : FnScope N_put_items ["program"] (defScope s_put_items) := ⟨rfl, rfl, rfl, by decide +kernel, rfl, by decide +kernel, by decide +kernel⟩
abbrev s_counts_before_takes : Stmt := topS 13
abbrev N_counts_before_takes : List Str := ["program", "counts", "done", "step"]
theorem sc_counts_before_takes : FnScope N_counts_before_takes ["program"] (defScope s_counts_before_takes) := ⟨rfl, rfl, rfl, by decide +kernel, rfl, by decide +kernel, by decide +kernel⟩
abbrev s_takes : Stmt := topS 14
abbrev N_takes : List Str := ["program"]
theorem sc_takes : FnScope N_takes ["program"] (defScope s_takes) := ⟨rfl, rfl, rfl, by decide +kernel, rfl, by decide +kernel, by decide +kernel⟩
abbrev s_puts : Stmt := topS 15
abbrev N_puts : List Str := ["program"]
theorem sc_puts : FnScope N_puts ["program"] (defScope s_puts) := ⟨rfl, rfl, rfl, by decide +kernel, rfl, by decide +kernel, by decide +kernel⟩
abbrev s_put_counts : Stmt := topS 16
abbrev N_put_counts : List Str := ["program"]
theorem sc_put_counts : FnScope N_put_counts ["program"] (defScope s_put_counts) := ⟨rfl, rfl, rfl, by decide +kernel, rfl, by decide +kernel, by decide +kernel⟩
abbrev s_steps : Stmt := topS 17
abbrev N_steps : List Str := ["program", "step", "word"]
theorem sc_steps : GScope N_steps ["program"] (defScope s_steps) := ⟨rfl, rfl, rfl, by decide +kernel, rfl, by decide +kernel, by decide +kernel⟩
abbrev s_join : Stmt := topS 18
abbrev N_join : List Str := ["programs", "program", "joined"]
theorem sc_join : FnScope N_join ["programs"] (defScope s_join) := ⟨rfl, rfl, rfl, by decide +kernel, rfl, by decide +kernel, by decide +kernel⟩
abbrev s_Lpool : Stmt := topS 20
abbrev N_Lpool : List Str := ["_law_script", "_law_k", "_law_cell", "_law_number", "_law_mixed"]
theorem sc_Lpool : FnScope N_Lpool ["_law_script", "_law_k"] (defScope s_Lpool) := ⟨rfl, rfl, rfl, by decide +kernel, rfl, by decide +kernel, by decide +kernel⟩
abbrev s_Ltake : Stmt := topS 21
abbrev N_Ltake : List Str := ["_law_pool_here", "_law_many", "_law_digit"]
theorem sc_Ltake : FnScope N_Ltake ["_law_pool_here", "_law_many"] (defScope s_Ltake) := ⟨rfl, rfl, rfl, by decide +kernel, rfl, by decide +kernel, by decide +kernel⟩
abbrev s_Lprogram : Stmt := topS 22
abbrev N_Lprogram : List Str := ["_law_pool_here", "_law_most", "_law_letters", "_law_moves", "_law_turn"]
theorem sc_Lprogram : FnScope N_Lprogram ["_law_pool_here", "_law_most", "_law_letters"] (defScope s_Lprogram) := ⟨rfl, rfl, rfl, by decide +kernel, rfl, by decide +kernel, by decide +kernel⟩
abbrev s_Lsaid : Stmt := topS 23
abbrev N_Lsaid : List Str := ["_law_some", "e"]
theorem sc_Lsaid : FnScope N_Lsaid ["_law_some"] (defScope s_Lsaid) := ⟨rfl, rfl, rfl, by decide +kernel, rfl, by decide +kernel, by decide +kernel⟩
abbrev s_Lright : Stmt := topS 24
abbrev N_Lright : List Str := ["_law_prog", "_law_wanted", "_law_items", "_law_numbers", "_law_rows", "_law_step", "_law_row"]
theorem sc_Lright : FnScope N_Lright ["_law_prog"] (defScope s_Lright) := ⟨rfl, rfl, rfl, by decide +kernel, rfl, by decide +kernel, by decide +kernel⟩
abbrev s_law : Stmt := topS 25
abbrev N_law : List Str := ["_law_script", "_law_k", "_law_pool_here", "_law_some", "_law_prog", "_law_odd", "_law_spot", "_law_bent", "_law_size", "_law_numbers", "_law_turn"]
theorem sc_law : FnScope N_law ["_law_script"] (defScope s_law) := ⟨rfl, rfl, rfl, by decide +kernel, rfl, by decide +kernel, by decide +kernel⟩
structure Ad where
  f_is_string_of : Addr
  d_is_string_of : FuncData
  f_is_program : Addr
  d_is_program : FuncData
  f_require_program : Addr
  d_require_program : FuncData
  f_take_items : Addr
  d_take_items : FuncData
  f_put_items : Addr
  d_put_items : FuncData
  f_counts_before_takes : Addr
  d_counts_before_takes : FuncData
  f_takes : Addr
  d_takes : FuncData
  f_puts : Addr
  d_puts : FuncData
  f_put_counts : Addr
  d_put_counts : FuncData
  f_steps : Addr
  d_steps : FuncData
  f_join : Addr
  d_join : FuncData
  f_Lpool : Addr
  d_Lpool : FuncData
  f_Ltake : Addr
  d_Ltake : FuncData
  f_Lprogram : Addr
  d_Lprogram : FuncData
  f_Lsaid : Addr
  d_Lsaid : FuncData
  f_Lright : Addr
  d_Lright : FuncData
  f_law : Addr
  d_law : FuncData
  t_MAX_LENGTH : Tok
  t_STEPS : Tok
  C_LeakError : Addr
  C_InvalidProgram : Addr
  I_InvalidProgram : Addr
  C_LimitExceeded : Addr
  I_LimitExceeded : Addr
structure Txt (K : PySem.W.Frag) (mg : Str → Option Value) (a : Ad) : Prop where
  F_is_string_of : FunD K "is_string_of" "is_string_of" (defArgs s_is_string_of) (defBody s_is_string_of) (defScope s_is_string_of) [.int 400] [] a.f_is_string_of a.d_is_string_of
  b_is_string_of : ∃ ds, Vals [.int 400] ds ∧ Binds K a.d_is_string_of ["value", "letters", "longest"] ds
  g_is_string_of : mg "is_string_of" = some (.ref a.f_is_string_of)
  F_is_program : Fun K "is_program" "is_program" s_is_program a.f_is_program a.d_is_program
  b_is_program : Binds K a.d_is_program ["value"] []
  g_is_program : mg "is_program" = some (.ref a.f_is_program)
  F_require_program : Fun K "require_program" "require_program" s_require_program a.f_require_program a.d_require_program
  b_require_program : Binds K a.d_require_program ["value"] []
  g_require_program : mg "require_program" = some (.ref a.f_require_program)
  F_take_items : Fun K "take_items" "take_items" s_take_items a.f_take_items a.d_take_items
  b_take_items : Binds K a.d_take_items ["program"] []
  g_take_items : mg "take_items" = some (.ref a.f_take_items)
  F_put_items : Fun K "put_items" "put_items" s_put_items a.f_put_items a.d_put_items
  b_put_items : Binds K a.d_put_items ["program"] []
  g_put_items : mg "put_items" = some (.ref a.f_put_items)
  F_counts_before_takes : Fun K "counts_before_takes" "counts_before_takes" s_counts_before_takes a.f_counts_before_takes a.d_counts_before_takes
  b_counts_before_takes : Binds K a.d_counts_before_takes ["program"] []
  g_counts_before_takes : mg "counts_before_takes" = some (.ref a.f_counts_before_takes)
  F_takes : Fun K "takes" "takes" s_takes a.f_takes a.d_takes
  b_takes : Binds K a.d_takes ["program"] []
  g_takes : mg "takes" = some (.ref a.f_takes)
  F_puts : Fun K "puts" "puts" s_puts a.f_puts a.d_puts
  b_puts : Binds K a.d_puts ["program"] []
  g_puts : mg "puts" = some (.ref a.f_puts)
  F_put_counts : Fun K "put_counts" "put_counts" s_put_counts a.f_put_counts a.d_put_counts
  b_put_counts : Binds K a.d_put_counts ["program"] []
  g_put_counts : mg "put_counts" = some (.ref a.f_put_counts)
  F_steps : Fun K "steps" "steps" s_steps a.f_steps a.d_steps
  b_steps : Binds K a.d_steps ["program"] []
  g_steps : mg "steps" = some (.ref a.f_steps)
  F_join : Fun K "join" "join" s_join a.f_join a.d_join
  g_join : mg "join" = some (.ref a.f_join)
  F_Lpool : Fun K "_law_pool" "_law_pool" s_Lpool a.f_Lpool a.d_Lpool
  b_Lpool : Binds K a.d_Lpool ["_law_script", "_law_k"] []
  g_Lpool : mg "_law_pool" = some (.ref a.f_Lpool)
  F_Ltake : Fun K "_law_take" "_law_take" s_Ltake a.f_Ltake a.d_Ltake
  b_Ltake : Binds K a.d_Ltake ["_law_pool_here", "_law_many"] []
  g_Ltake : mg "_law_take" = some (.ref a.f_Ltake)
  F_Lprogram : Fun K "_law_program" "_law_program" s_Lprogram a.f_Lprogram a.d_Lprogram
  b_Lprogram : Binds K a.d_Lprogram ["_law_pool_here", "_law_most", "_law_letters"] []
  g_Lprogram : mg "_law_program" = some (.ref a.f_Lprogram)
  F_Lsaid : Fun K "_law_said" "_law_said" s_Lsaid a.f_Lsaid a.d_Lsaid
  b_Lsaid : Binds K a.d_Lsaid ["_law_some"] []
  g_Lsaid : mg "_law_said" = some (.ref a.f_Lsaid)
  F_Lright : Fun K "_law_right" "_law_right" s_Lright a.f_Lright a.d_Lright
  b_Lright : Binds K a.d_Lright ["_law_prog"] []
  g_Lright : mg "_law_right" = some (.ref a.f_Lright)
  F_law : Fun K "law" "law" s_law a.f_law a.d_law
  b_law : Binds K a.d_law ["_law_script"] []
  g_law : mg "law" = some (.ref a.f_law)
  kb_steps : KBinds K a.d_steps ["program"] ["program"] kw1 kw1
  kb_put_counts : KBinds K a.d_put_counts ["program"] ["program"] kw1 kw1
  kb_takes : KBinds K a.d_takes ["program"] ["program"] kw1 kw1
  kb_puts : KBinds K a.d_puts ["program"] ["program"] kw1 kw1
  c_MAX_LENGTH : mg "MAX_LENGTH" = some (.int 400 a.t_MAX_LENGTH)
  c_STEPS : mg "STEPS" = some (.str "abcdefghABCDEFGH" a.t_STEPS)
  z_isinstance : mg "isinstance" = none
  z_str : mg "str" = none
  z_len : mg "len" = none
  z_max : mg "max" = none
  z_int : mg "int" = none
  z_range : mg "range" = none
  z_repr : mg "repr" = none
  z_OverflowError : mg "OverflowError" = none
  z_list : mg "list" = none
  z_min : mg "min" = none
  g_LeakError : mg "LeakError" = some (.ref a.C_LeakError)
  e_InvalidProgram : Ecl_value K mg "InvalidProgram" "InvalidProgram.__init__" "ValueError" "ValueError" "ValueError.__new__" "ValueError.__init__" [.type "ValueError", .type "Exception", .type "BaseException", .type "object"] [.type "ValueError", .type "Exception", .type "BaseException", .type "object"] a.C_InvalidProgram a.I_InvalidProgram
  h_InvalidProgram : ecB K a.C_InvalidProgram a.I_InvalidProgram "value" [.type "ValueError", .type "Exception", .type "BaseException", .type "object"] "ValueError.__new__" = true
  e_LimitExceeded : Ecl_limit K mg "LimitExceeded" "LimitExceeded.__init__" "OverflowError" "OverflowError" "OverflowError.__new__" "OverflowError.__init__" [.type "OverflowError", .type "ArithmeticError", .type "Exception", .type "BaseException", .type "object"] [.type "OverflowError", .type "ArithmeticError", .type "Exception", .type "BaseException", .type "object"] a.C_LimitExceeded a.I_LimitExceeded
  h_LimitExceeded : ecB K a.C_LimitExceeded a.I_LimitExceeded "limit" [.type "OverflowError", .type "ArithmeticError", .type "Exception", .type "BaseException", .type "object"] "OverflowError.__new__" = true
theorem txt_mk {K : PySem.W.Frag} {h : Heap} {mg : Str → Option Value} {f1 f2 f3 f4 f5 f6 f7 f8 f9 f10 f11 f12 f13 f14 f15 f16 f17 : Addr} {od1 an1 od2 an2 od3 an3 od4 an4 od5 an5 od6 an6 od7 an7 od8 an8 od9 an9 od10 an10 od11 an11 od12 an12 od13 an13 od14 an14 od15 an15 od16 an16 od17 an17 : Option Addr} {sl1 sl2 sl3 sl4 sl5 sl6 sl7 sl8 sl9 sl10 sl11 sl12 sl13 sl14 sl15 sl16 sl17 : Array (Option Value)}
    {oc1 kV1 dc1 pm1 cd1 ct1 oc2 kV2 dc2 pm2 cd2 ct2 oc3 kV3 dc3 pm3 cd3 ct3 oc4 kV4 dc4 pm4 cd4 ct4 oc5 kV5 dc5 pm5 cd5 ct5 oc6 kV6 dc6 pm6 cd6 ct6 oc7 kV7 dc7 pm7 cd7 ct7 oc8 kV8 dc8 pm8 cd8 ct8 oc9 kV9 dc9 pm9 cd9 ct9 oc10 kV10 dc10 pm10 cd10 ct10 oc11 kV11 dc11 pm11 cd11 ct11 oc12 kV12 dc12 pm12 cd12 ct12 oc13 kV13 dc13 pm13 cd13 ct13 oc14 kV14 dc14 pm14 cd14 ct14 oc15 kV15 dc15 pm15 cd15 ct15 oc16 kV16 dc16 pm16 cd16 ct16 oc17 kV17 dc17 pm17 cd17 ct17 : Value}
    {t_MAX_LENGTH t_STEPS : Tok}
    (X : K.In h) (G : h.Ns mainGlobals mg)
    {td1 : Addr} {to1 : Value} {tp1 : Option Addr} {tn1 : Nat} {ts1 : Array (Option Value)} {tk1_0 : Tok}
    (t1 : K.lookup td1 = some ⟨to1, tp1, .seq #[.int 400 tk1_0] tn1, ts1⟩)
    (a1 : PySem.W.nsIn K mainGlobals "is_string_of" = some (some (.ref f1))) (l1 : K.lookup f1 = some ⟨oc1, od1, .func (PySem.W.fnOf "is_string_of" "is_string_of" (defArgs s_is_string_of) (defBody s_is_string_of) (defScope s_is_string_of) (.ref td1) kV1 dc1 pm1 an1 cd1 ct1), sl1⟩)
    (c1 : PySem.W.codeIn K cd1 "is_string_of" = true) (k1 : PySem.W.keepIn K (.ref f1) = true)
    (a2 : PySem.W.nsIn K mainGlobals "is_program" = some (some (.ref f2))) (l2 : K.lookup f2 = some ⟨oc2, od2, .func (PySem.W.fnOf "is_program" "is_program" (defArgs s_is_program) (defBody s_is_program) (defScope s_is_program) .none kV2 dc2 pm2 an2 cd2 ct2), sl2⟩)
    (c2 : PySem.W.codeIn K cd2 "is_program" = true) (k2 : PySem.W.keepIn K (.ref f2) = true)
    (a3 : PySem.W.nsIn K mainGlobals "require_program" = some (some (.ref f3))) (l3 : K.lookup f3 = some ⟨oc3, od3, .func (PySem.W.fnOf "require_program" "require_program" (defArgs s_require_program) (defBody s_require_program) (defScope s_require_program) .none kV3 dc3 pm3 an3 cd3 ct3), sl3⟩)
    (c3 : PySem.W.codeIn K cd3 "require_program" = true) (k3 : PySem.W.keepIn K (.ref f3) = true)
    (a4 : PySem.W.nsIn K mainGlobals "take_items" = some (some (.ref f4))) (l4 : K.lookup f4 = some ⟨oc4, od4, .func (PySem.W.fnOf "take_items" "take_items" (defArgs s_take_items) (defBody s_take_items) (defScope s_take_items) .none kV4 dc4 pm4 an4 cd4 ct4), sl4⟩)
    (c4 : PySem.W.codeIn K cd4 "take_items" = true) (k4 : PySem.W.keepIn K (.ref f4) = true)
    (a5 : PySem.W.nsIn K mainGlobals "put_items" = some (some (.ref f5))) (l5 : K.lookup f5 = some ⟨oc5, od5, .func (PySem.W.fnOf "put_items" "put_items" (defArgs s_put_items) (defBody s_put_items) (defScope s_put_items) .none kV5 dc5 pm5 an5 cd5 ct5), sl5⟩)
    (c5 : PySem.W.codeIn K cd5 "put_items" = true) (k5 : PySem.W.keepIn K (.ref f5) = true)
    (a6 : PySem.W.nsIn K mainGlobals "counts_before_takes" = some (some (.ref f6))) (l6 : K.lookup f6 = some ⟨oc6, od6, .func (PySem.W.fnOf "counts_before_takes" "counts_before_takes" (defArgs s_counts_before_takes) (defBody s_counts_before_takes) (defScope s_counts_before_takes) .none kV6 dc6 pm6 an6 cd6 ct6), sl6⟩)
    (c6 : PySem.W.codeIn K cd6 "counts_before_takes" = true) (k6 : PySem.W.keepIn K (.ref f6) = true)
    (a7 : PySem.W.nsIn K mainGlobals "takes" = some (some (.ref f7))) (l7 : K.lookup f7 = some ⟨oc7, od7, .func (PySem.W.fnOf "takes" "takes" (defArgs s_takes) (defBody s_takes) (defScope s_takes) .none kV7 dc7 pm7 an7 cd7 ct7), sl7⟩)
    (c7 : PySem.W.codeIn K cd7 "takes" = true) (k7 : PySem.W.keepIn K (.ref f7) = true)
    (a8 : PySem.W.nsIn K mainGlobals "puts" = some (some (.ref f8))) (l8 : K.lookup f8 = some ⟨oc8, od8, .func (PySem.W.fnOf "puts" "puts" (defArgs s_puts) (defBody s_puts) (defScope s_puts) .none kV8 dc8 pm8 an8 cd8 ct8), sl8⟩)
    (c8 : PySem.W.codeIn K cd8 "puts" = true) (k8 : PySem.W.keepIn K (.ref f8) = true)
    (a9 : PySem.W.nsIn K mainGlobals "put_counts" = some (some (.ref f9))) (l9 : K.lookup f9 = some ⟨oc9, od9, .func (PySem.W.fnOf "put_counts" "put_counts" (defArgs s_put_counts) (defBody s_put_counts) (defScope s_put_counts) .none kV9 dc9 pm9 an9 cd9 ct9), sl9⟩)
    (c9 : PySem.W.codeIn K cd9 "put_counts" = true) (k9 : PySem.W.keepIn K (.ref f9) = true)
    (a10 : PySem.W.nsIn K mainGlobals "steps" = some (some (.ref f10))) (l10 : K.lookup f10 = some ⟨oc10, od10, .func (PySem.W.fnOf "steps" "steps" (defArgs s_steps) (defBody s_steps) (defScope s_steps) .none kV10 dc10 pm10 an10 cd10 ct10), sl10⟩)
    (c10 : PySem.W.codeIn K cd10 "steps" = true) (k10 : PySem.W.keepIn K (.ref f10) = true)
    (a11 : PySem.W.nsIn K mainGlobals "join" = some (some (.ref f11))) (l11 : K.lookup f11 = some ⟨oc11, od11, .func (PySem.W.fnOf "join" "join" (defArgs s_join) (defBody s_join) (defScope s_join) .none kV11 dc11 pm11 an11 cd11 ct11), sl11⟩)
    (c11 : PySem.W.codeIn K cd11 "join" = true) (k11 : PySem.W.keepIn K (.ref f11) = true)
    (a12 : PySem.W.nsIn K mainGlobals "_law_pool" = some (some (.ref f12))) (l12 : K.lookup f12 = some ⟨oc12, od12, .func (PySem.W.fnOf "_law_pool" "_law_pool" (defArgs s_Lpool) (defBody s_Lpool) (defScope s_Lpool) .none kV12 dc12 pm12 an12 cd12 ct12), sl12⟩)
    (c12 : PySem.W.codeIn K cd12 "_law_pool" = true) (k12 : PySem.W.keepIn K (.ref f12) = true)
    (a13 : PySem.W.nsIn K mainGlobals "_law_take" = some (some (.ref f13))) (l13 : K.lookup f13 = some ⟨oc13, od13, .func (PySem.W.fnOf "_law_take" "_law_take" (defArgs s_Ltake) (defBody s_Ltake) (defScope s_Ltake) .none kV13 dc13 pm13 an13 cd13 ct13), sl13⟩)
    (c13 : PySem.W.codeIn K cd13 "_law_take" = true) (k13 : PySem.W.keepIn K (.ref f13) = true)
    (a14 : PySem.W.nsIn K mainGlobals "_law_program" = some (some (.ref f14))) (l14 : K.lookup f14 = some ⟨oc14, od14, .func (PySem.W.fnOf "_law_program" "_law_program" (defArgs s_Lprogram) (defBody s_Lprogram) (defScope s_Lprogram) .none kV14 dc14 pm14 an14 cd14 ct14), sl14⟩)
    (c14 : PySem.W.codeIn K cd14 "_law_program" = true) (k14 : PySem.W.keepIn K (.ref f14) = true)
    (a15 : PySem.W.nsIn K mainGlobals "_law_said" = some (some (.ref f15))) (l15 : K.lookup f15 = some ⟨oc15, od15, .func (PySem.W.fnOf "_law_said" "_law_said" (defArgs s_Lsaid) (defBody s_Lsaid) (defScope s_Lsaid) .none kV15 dc15 pm15 an15 cd15 ct15), sl15⟩)
    (c15 : PySem.W.codeIn K cd15 "_law_said" = true) (k15 : PySem.W.keepIn K (.ref f15) = true)
    (a16 : PySem.W.nsIn K mainGlobals "_law_right" = some (some (.ref f16))) (l16 : K.lookup f16 = some ⟨oc16, od16, .func (PySem.W.fnOf "_law_right" "_law_right" (defArgs s_Lright) (defBody s_Lright) (defScope s_Lright) .none kV16 dc16 pm16 an16 cd16 ct16), sl16⟩)
    (c16 : PySem.W.codeIn K cd16 "_law_right" = true) (k16 : PySem.W.keepIn K (.ref f16) = true)
    (a17 : PySem.W.nsIn K mainGlobals "law" = some (some (.ref f17))) (l17 : K.lookup f17 = some ⟨oc17, od17, .func (PySem.W.fnOf "law" "law" (defArgs s_law) (defBody s_law) (defScope s_law) .none kV17 dc17 pm17 an17 cd17 ct17), sl17⟩)
    (c17 : PySem.W.codeIn K cd17 "law" = true) (k17 : PySem.W.keepIn K (.ref f17) = true)
    (v_MAX_LENGTH : PySem.W.nsIn K mainGlobals "MAX_LENGTH" = some (some (.int 400 t_MAX_LENGTH)))
    (v_STEPS : PySem.W.nsIn K mainGlobals "STEPS" = some (some (.str "abcdefghABCDEFGH" t_STEPS)))
    (z_isinstance : PySem.W.nsIn K mainGlobals "isinstance" = some none)
    (z_str : PySem.W.nsIn K mainGlobals "str" = some none)
    (z_len : PySem.W.nsIn K mainGlobals "len" = some none)
    (z_max : PySem.W.nsIn K mainGlobals "max" = some none)
    (z_int : PySem.W.nsIn K mainGlobals "int" = some none)
    (z_range : PySem.W.nsIn K mainGlobals "range" = some none)
    (z_repr : PySem.W.nsIn K mainGlobals "repr" = some none)
    (z_OverflowError : PySem.W.nsIn K mainGlobals "OverflowError" = some none)
    (z_list : PySem.W.nsIn K mainGlobals "list" = some none)
    (z_min : PySem.W.nsIn K mainGlobals "min" = some none)
    {C_LeakError : Addr} (n_LeakError : PySem.W.nsIn K mainGlobals "LeakError" = some (some (.ref C_LeakError)))
    {C_InvalidProgram I_InvalidProgram : Addr} {x1InvalidProgram : Value} {x2InvalidProgram : Option Addr} {x3InvalidProgram x4InvalidProgram : Value} {x5InvalidProgram : Option Addr} {x6InvalidProgram x7InvalidProgram : Value} {x8InvalidProgram : Array (Option Value)} {p1InvalidProgram p2InvalidProgram q1InvalidProgram q2InvalidProgram q3InvalidProgram q4InvalidProgram : Pos}
    (n_InvalidProgram : PySem.W.nsIn K mainGlobals "InvalidProgram" = some (some (.ref C_InvalidProgram))) (i_InvalidProgram : PySem.W.findIn K (.ref C_InvalidProgram) "__init__" = some (some (.ref I_InvalidProgram)))
    (m_InvalidProgram : K.lookup I_InvalidProgram = some ⟨x1InvalidProgram, x2InvalidProgram, .func (PySem.W.fnOf "__init__" "InvalidProgram.__init__" (iA "value" p1InvalidProgram p2InvalidProgram) (iB "value" q1InvalidProgram q2InvalidProgram q3InvalidProgram q4InvalidProgram) (iS "value" []) .none .none x3InvalidProgram x4InvalidProgram x5InvalidProgram x6InvalidProgram x7InvalidProgram), x8InvalidProgram⟩) (d_InvalidProgram : PySem.W.codeIn K x6InvalidProgram "InvalidProgram.__init__" = true)
    (h_InvalidProgram : ecB K C_InvalidProgram I_InvalidProgram "value" [.type "ValueError", .type "Exception", .type "BaseException", .type "object"] "ValueError.__new__" = true)
    {C_LimitExceeded I_LimitExceeded : Addr} {x1LimitExceeded : Value} {x2LimitExceeded : Option Addr} {x3LimitExceeded x4LimitExceeded : Value} {x5LimitExceeded : Option Addr} {x6LimitExceeded x7LimitExceeded : Value} {x8LimitExceeded : Array (Option Value)} {p1LimitExceeded p2LimitExceeded q1LimitExceeded q2LimitExceeded q3LimitExceeded q4LimitExceeded : Pos}
    (n_LimitExceeded : PySem.W.nsIn K mainGlobals "LimitExceeded" = some (some (.ref C_LimitExceeded))) (i_LimitExceeded : PySem.W.findIn K (.ref C_LimitExceeded) "__init__" = some (some (.ref I_LimitExceeded)))
    (m_LimitExceeded : K.lookup I_LimitExceeded = some ⟨x1LimitExceeded, x2LimitExceeded, .func (PySem.W.fnOf "__init__" "LimitExceeded.__init__" (iA "limit" p1LimitExceeded p2LimitExceeded) (iB "limit" q1LimitExceeded q2LimitExceeded q3LimitExceeded q4LimitExceeded) (iS "limit" []) .none .none x3LimitExceeded x4LimitExceeded x5LimitExceeded x6LimitExceeded x7LimitExceeded), x8LimitExceeded⟩) (d_LimitExceeded : PySem.W.codeIn K x6LimitExceeded "LimitExceeded.__init__" = true)
    (h_LimitExceeded : ecB K C_LimitExceeded I_LimitExceeded "limit" [.type "OverflowError", .type "ArithmeticError", .type "Exception", .type "BaseException", .type "object"] "OverflowError.__new__" = true)
    : Txt K mg ⟨f1, (PySem.W.fnOf "is_string_of" "is_string_of" (defArgs s_is_string_of) (defBody s_is_string_of) (defScope s_is_string_of) (.ref td1) kV1 dc1 pm1 an1 cd1 ct1), f2, (PySem.W.fnOf "is_program" "is_program" (defArgs s_is_program) (defBody s_is_program) (defScope s_is_program) .none kV2 dc2 pm2 an2 cd2 ct2), f3, (PySem.W.fnOf "require_program" "require_program" (defArgs s_require_program) (defBody s_require_program) (defScope s_require_program) .none kV3 dc3 pm3 an3 cd3 ct3), f4, (PySem.W.fnOf "take_items" "take_items" (defArgs s_take_items) (defBody s_take_items) (defScope s_take_items) .none kV4 dc4 pm4 an4 cd4 ct4), f5, (PySem.W.fnOf "put_items" "put_items" (defArgs s_put_items) (defBody s_put_items) (defScope s_put_items) .none kV5 dc5 pm5 an5 cd5 ct5), f6, (PySem.W.fnOf "counts_before_takes" "counts_before_takes" (defArgs s_counts_before_takes) (defBody s_counts_before_takes) (defScope s_counts_before_takes) .none kV6 dc6 pm6 an6 cd6 ct6), f7, (PySem.W.fnOf "takes" "takes" (defArgs s_takes) (defBody s_takes) (defScope s_takes) .none kV7 dc7 pm7 an7 cd7 ct7), f8, (PySem.W.fnOf "puts" "puts" (defArgs s_puts) (defBody s_puts) (defScope s_puts) .none kV8 dc8 pm8 an8 cd8 ct8), f9, (PySem.W.fnOf "put_counts" "put_counts" (defArgs s_put_counts) (defBody s_put_counts) (defScope s_put_counts) .none kV9 dc9 pm9 an9 cd9 ct9), f10, (PySem.W.fnOf "steps" "steps" (defArgs s_steps) (defBody s_steps) (defScope s_steps) .none kV10 dc10 pm10 an10 cd10 ct10), f11, (PySem.W.fnOf "join" "join" (defArgs s_join) (defBody s_join) (defScope s_join) .none kV11 dc11 pm11 an11 cd11 ct11), f12, (PySem.W.fnOf "_law_pool" "_law_pool" (defArgs s_Lpool) (defBody s_Lpool) (defScope s_Lpool) .none kV12 dc12 pm12 an12 cd12 ct12), f13, (PySem.W.fnOf "_law_take" "_law_take" (defArgs s_Ltake) (defBody s_Ltake) (defScope s_Ltake) .none kV13 dc13 pm13 an13 cd13 ct13), f14, (PySem.W.fnOf "_law_program" "_law_program" (defArgs s_Lprogram) (defBody s_Lprogram) (defScope s_Lprogram) .none kV14 dc14 pm14 an14 cd14 ct14), f15, (PySem.W.fnOf "_law_said" "_law_said" (defArgs s_Lsaid) (defBody s_Lsaid) (defScope s_Lsaid) .none kV15 dc15 pm15 an15 cd15 ct15), f16, (PySem.W.fnOf "_law_right" "_law_right" (defArgs s_Lright) (defBody s_Lright) (defScope s_Lright) .none kV16 dc16 pm16 an16 cd16 ct16), f17, (PySem.W.fnOf "law" "law" (defArgs s_law) (defBody s_law) (defScope s_law) .none kV17 dc17 pm17 an17 cd17 ct17), t_MAX_LENGTH, t_STEPS, C_LeakError, C_InvalidProgram, I_InvalidProgram, C_LimitExceeded, I_LimitExceeded⟩ := by
  have F1 : FunD K "is_string_of" "is_string_of" (defArgs s_is_string_of) (defBody s_is_string_of) (defScope s_is_string_of) [.int 400] [] f1 (PySem.W.fnOf "is_string_of" "is_string_of" (defArgs s_is_string_of) (defBody s_is_string_of) (defScope s_is_string_of) (.ref td1) kV1 dc1 pm1 an1 cd1 ct1) := ⟨⟨_, _, _, _, _, _, _, _, _, _, rfl, l1, c1, Or.inr ⟨(fun h => nomatch h), _, _, [.int 400 tk1_0], _, rfl, t1, rfl, (.cons ⟨_, rfl⟩ .nil)⟩, Or.inl rfl⟩, k1⟩
  have b1 := F1.binds1 (ps := ["value", "letters", "longest"]) 2 0 (fun h => nomatch h) rfl fun _ _ _ _ _ _ _ us its hl hi => match us, its, hl, hi with | [_, _], [_], _, _ => ⟨_, rfl, rfl⟩
  have F2 := fun_mk (st := s_is_program) l2 c2 k2
  have b2 := F2.binds (ps := ["value"]) fun _ _ _ _ _ _ us hl => match us, hl with | [_], _ => rfl
  have F3 := fun_mk (st := s_require_program) l3 c3 k3
  have b3 := F3.binds (ps := ["value"]) fun _ _ _ _ _ _ us hl => match us, hl with | [_], _ => rfl
  have F4 := fun_mk (st := s_take_items) l4 c4 k4
  have b4 := F4.binds (ps := ["program"]) fun _ _ _ _ _ _ us hl => match us, hl with | [_], _ => rfl
  have F5 := fun_mk (st := s_put_items) l5 c5 k5
  have b5 := F5.binds (ps := ["program"]) fun _ _ _ _ _ _ us hl => match us, hl with | [_], _ => rfl
  have F6 := fun_mk (st := s_counts_before_takes) l6 c6 k6
  have b6 := F6.binds (ps := ["program"]) fun _ _ _ _ _ _ us hl => match us, hl with | [_], _ => rfl
  have F7 := fun_mk (st := s_takes) l7 c7 k7
  have b7 := F7.binds (ps := ["program"]) fun _ _ _ _ _ _ us hl => match us, hl with | [_], _ => rfl
  have F8 := fun_mk (st := s_puts) l8 c8 k8
  have b8 := F8.binds (ps := ["program"]) fun _ _ _ _ _ _ us hl => match us, hl with | [_], _ => rfl
  have F9 := fun_mk (st := s_put_counts) l9 c9 k9
  have b9 := F9.binds (ps := ["program"]) fun _ _ _ _ _ _ us hl => match us, hl with | [_], _ => rfl
  have F10 := fun_mk (st := s_steps) l10 c10 k10
  have b10 := F10.binds (ps := ["program"]) fun _ _ _ _ _ _ us hl => match us, hl with | [_], _ => rfl
  have F11 := fun_mk (st := s_join) l11 c11 k11
  have F12 := fun_mk (st := s_Lpool) l12 c12 k12
  have b12 := F12.binds (ps := ["_law_script", "_law_k"]) fun _ _ _ _ _ _ us hl => match us, hl with | [_, _], _ => rfl
  have F13 := fun_mk (st := s_Ltake) l13 c13 k13
  have b13 := F13.binds (ps := ["_law_pool_here", "_law_many"]) fun _ _ _ _ _ _ us hl => match us, hl with | [_, _], _ => rfl
  have F14 := fun_mk (st := s_Lprogram) l14 c14 k14
  have b14 := F14.binds (ps := ["_law_pool_here", "_law_most", "_law_letters"]) fun _ _ _ _ _ _ us hl => match us, hl with | [_, _, _], _ => rfl
  have F15 := fun_mk (st := s_Lsaid) l15 c15 k15
  have b15 := F15.binds (ps := ["_law_some"]) fun _ _ _ _ _ _ us hl => match us, hl with | [_], _ => rfl
  have F16 := fun_mk (st := s_Lright) l16 c16 k16
  have b16 := F16.binds (ps := ["_law_prog"]) fun _ _ _ _ _ _ us hl => match us, hl with | [_], _ => rfl
  have F17 := fun_mk (st := s_law) l17 c17 k17
  have b17 := F17.binds (ps := ["_law_script"]) fun _ _ _ _ _ _ us hl => match us, hl with | [_], _ => rfl
  exact ⟨F1, b1, PySem.W.mg_of X G a1, F2, b2, PySem.W.mg_of X G a2, F3, b3, PySem.W.mg_of X G a3, F4, b4, PySem.W.mg_of X G a4, F5, b5, PySem.W.mg_of X G a5, F6, b6, PySem.W.mg_of X G a6, F7, b7, PySem.W.mg_of X G a7, F8, b8, PySem.W.mg_of X G a8, F9, b9, PySem.W.mg_of X G a9, F10, b10, PySem.W.mg_of X G a10, F11, PySem.W.mg_of X G a11, F12, b12, PySem.W.mg_of X G a12, F13, b13, PySem.W.mg_of X G a13, F14, b14, PySem.W.mg_of X G a14, F15, b15, PySem.W.mg_of X G a15, F16, b16, PySem.W.mg_of X G a16, F17, b17, PySem.W.mg_of X G a17, kb_one (fun s a => .of_eq rfl), kb_one (fun s a => .of_eq rfl), kb_one (fun s a => .of_eq rfl), kb_one (fun s a => .of_eq rfl), PySem.W.mg_of X G v_MAX_LENGTH, PySem.W.mg_of X G v_STEPS, PySem.W.mg_none_of X G z_isinstance, PySem.W.mg_none_of X G z_str, PySem.W.mg_none_of X G z_len, PySem.W.mg_none_of X G z_max, PySem.W.mg_none_of X G z_int, PySem.W.mg_none_of X G z_range, PySem.W.mg_none_of X G z_repr, PySem.W.mg_none_of X G z_OverflowError, PySem.W.mg_none_of X G z_list, PySem.W.mg_none_of X G z_min, PySem.W.mg_of X G n_LeakError, ecl_value PySem.F.excBase_ValueError ⟨by decide +kernel, by decide +kernel, by decide +kernel⟩ PySem.F.store_ValueError (PySem.W.mg_of X G n_InvalidProgram) h_InvalidProgram i_InvalidProgram m_InvalidProgram d_InvalidProgram, h_InvalidProgram, ecl_limit PySem.F.excBase_OverflowError ⟨by decide +kernel, by decide +kernel, by decide +kernel⟩ PySem.F.store_OverflowError (PySem.W.mg_of X G n_LimitExceeded) h_LimitExceeded i_LimitExceeded m_LimitExceeded d_LimitExceeded, h_LimitExceeded⟩
end E03

set_option Elab.async false
set_option linter.all false
set_option maxRecDepth 100000
set_option maxHeartbeats 4000000
namespace E03
open Own PySem PySem.Spec PyProof.Rows L2 Exn
structure Hd (K : PySem.W.Frag) (a : Ad) : Prop where
  hn : PySem.W.specialIn K (.builtin "object.__class__") "__get__" = some (some (.builtin "getset_descriptor.__get__"))
  hk : PySem.W.takesIn K (.builtin "object.__class__") = some true
  x_InvalidProgram_InvalidProgram : PySem.W.exmOne K (.ref a.C_InvalidProgram) (.ref a.C_InvalidProgram) = some true
  x_LimitExceeded_InvalidProgram : PySem.W.exmOne K (.ref a.C_LimitExceeded) (.ref a.C_InvalidProgram) = some false
  x_LimitExceeded_LimitExceeded : PySem.W.exmOne K (.ref a.C_LimitExceeded) (.ref a.C_LimitExceeded) = some true
  i_LimitExceeded_OverflowError : PySem.W.kitOne K (.ref a.C_LimitExceeded) (.type "OverflowError") = some true
end E03

set_option Elab.async false
set_option linter.all false
set_option maxRecDepth 100000
set_option maxHeartbeats 4000000
namespace E03
open Own PySem PySem.Spec PyProof.Rows L2 Exn Mth Vld Gn StX
section
variable {P : Program} {w : World} {K : PySem.W.Frag} {mg : Str → Option Value} {base : Heap} {a : Ad}
def sp_is_string_of (K : PySem.W.Frag) : Sp := fun vs H Q _ => ∃ (v : V) (t : Value) (b : Str), vs = [v, .str b, .int 400] ∧ AnyV K H v t ∧ Q (.bl (okV v b)) H
theorem ok_is_string_of (T : Txt K mg a) : FnOk P w K mg base CX0 1 a.f_is_string_of a.d_is_string_of ["value", "letters", "longest"] (sp_is_string_of K) := by
  refine T.F_is_string_of.ok sc_is_string_of (fun vs H Q E h => ?_) (fun cdv A outer s H vs Q E hr h => ?_)
  · obtain ⟨v, t, b, rfl, _⟩ := h
    rfl
  · obtain ⟨v, t, b, rfl, hv, q⟩ := h
    refine ⟨_, (pss_one (ps_ret (pe_and (pe_callB call_isi (by rfl) T.z_isinstance (by decide +kernel) (pa_cons (pv 0) (pa_cons (pe_bltn (v := .ty "str") (by rfl) T.z_str (by decide +kernel) rfl) pa_nil))) (pe_and (pe_cmpR op_le (pe_callB call_len_str (by rfl) T.z_len (by decide +kernel) (pa_cons (pv 0) pa_nil)) (pv 2) (nomark _)) (pe_one (pe_cmpR op_eq (pe_bm PySem.F.plainAttrs_str PySem.F.slot_str_strip PySem.F.type_str_strip mt_stripChars (pv 0) (pa_cons (pv 1) pa_nil)) pe_str (nomark _))))))), ?_⟩
    cases hv with
    | oth ty no ns =>
      refine ⟨v, rfl, v, .ty "str", t, .type "str", false, rfl, .ty "str", ty, no, false, rfl, iteF ?_⟩
      rw [okV_oth ns] at q
      exact q
    | str z h =>
      refine ⟨.str z, rfl, .str z, .ty "str", .type "str", .type "str", true, rfl, .ty "str", .base (.str z), kit_ty (by decide +kernel), true, rfl, iteT ?_⟩
      refine ⟨.str z, rfl, z, rfl, le_line (by omega), .int 400, rfl, _, _, rfl, rfl, _, rfl, ?_⟩
      by_cases hz : z.length ≤ 400
      · rw [decide_eq_true (show (z.length : Int) ≤ 400 by omega)]
        refine iteT ⟨.str z, rfl, rfl, .str b, rfl, z, b, rfl, rfl, le_line (by omega), rfl, ?_⟩
        rw [strip_dec]
        have : okV (.str z) b = ((cs z).all fun c => (cs b).contains c) := by show okS z b = _; unfold okS; rw [decide_eq_true hz, Bool.true_and]
        rw [← this]
        exact q
      · rw [decide_eq_false (show ¬ (z.length : Int) ≤ 400 by omega)]
        have : okV (.str z) b = false := by show okS z b = _; unfold okS; rw [decide_eq_false hz, Bool.false_and]
        rw [this] at q
        exact iteF q
def sp_is (b : Str) (K : PySem.W.Frag) : Sp := fun vs H Q _ => ∃ (v : V) (t : Value), vs = [v] ∧ AnyV K H v t ∧ Q (.bl (okV v b)) H
/-- a word, or its error with the very value -/
def sp_req (C : Addr) (b : Str) (K : PySem.W.Frag) : Sp := fun vs H Q E => ∃ (v : V) (t : Value), vs = [v] ∧ AnyV K H v t ∧ (okV v b = true → Q .non H) ∧ (okV v b = false → ∀ d, H d = none → E (.ref C) (some d) (upd H d (.xd [(("value" : Str), v)])))
end
end E03

set_option Elab.async false
set_option linter.all false
set_option maxRecDepth 100000
set_option maxHeartbeats 4000000
namespace E03
open Own PySem PySem.Spec PyProof.Rows L2 Exn Mth Vld Gn StX
section
variable {P : Program} {w : World} {K : PySem.W.Frag} {mg : Str → Option Value} {base : Heap} {a : Ad}
theorem ok_is_program (T : Txt K mg a) : FnOk P w K mg base CX0 2 a.f_is_program a.d_is_program ["value"] (sp_is "abcdefghABCDEFGH" K) := by
  have G_is_string_of := ok_is_string_of (P := P) (w := w) (base := base) T
  refine T.F_is_program.ok sc_is_program (fun vs H Q E h => ?_) (fun cdv A outer s H vs Q E hr h => ?_)
  · obtain ⟨v, t, rfl, _⟩ := h
    rfl
  · obtain ⟨v, t, rfl, hv, q⟩ := h
    refine ⟨_, (pss_one (ps_ret (pe_call G_is_string_of (hr.mono (by decide)) (by rfl) T.g_is_string_of T.F_is_string_of.kp T.b_is_string_of.choose_spec.2 T.b_is_string_of.choose_spec.1 pass0 (pa_cons (pv 0) (pa_cons (pe_glob (v := .str "abcdefghABCDEFGH") (by rfl) T.c_STEPS ⟨_, rfl⟩) pa_nil))))), ?_⟩
    exact ⟨v, rfl, v, t, "abcdefghABCDEFGH", rfl, hv, q⟩
theorem ok_require_program (T : Txt K mg a) : FnOk P w K mg base (L2.CX P w) 3 a.f_require_program a.d_require_program ["value"] (sp_req a.C_InvalidProgram "abcdefghABCDEFGH" K) := by
  have G_is_program := ok_is_program (P := P) (w := w) (base := base) T
  refine T.F_require_program.okX sc_require_program (fun vs H Q E h => ?_) (fun cdv A outer s H vs Q E hr h => ?_)
  · obtain ⟨v, t, rfl, _⟩ := h
    rfl
  · obtain ⟨v, t, rfl, hv, q1, q2⟩ := h
    refine ⟨_, (pss_one (ps_if (pt_not (pt_val (pe_call G_is_program (hr.mono (by decide)) (by rfl) T.g_is_program T.F_is_program.kp T.b_is_program .nil pass0 (pa_cons (pv 0) pa_nil))))
        (pss_one (ps_raise rfl (takes_of rfl rfl rfl rfl) (pmk_value T.e_InvalidProgram hr (pa_cons (pv 0) pa_nil) (by rfl))))
        pss_nil)), ?_⟩
    cases e : okV v "abcdefghABCDEFGH" with
    | true => exact ⟨v, rfl, v, t, rfl, hv, true, by rw [e], iteF (q1 e)⟩
    | false => exact ⟨v, rfl, v, t, rfl, hv, false, by rw [e], iteT ⟨v, rfl, v, rfl, fun d hd => q2 e d hd⟩⟩
end
end E03

set_option Elab.async false
set_option linter.all false
set_option maxRecDepth 100000
set_option maxHeartbeats 4000000
namespace E03
open Own PySem PySem.Spec PyProof.Rows L2 Exn Mth Vld Gn StX
section
variable {P : Program} {w : World} {K : PySem.W.Frag} {mg : Str → Option Value} {base : Heap} {a : Ad}
def sp_take_items : Sp := fun vs H Q _ => ∃ p : Str, vs = [.str p] ∧ p.length ≤ 1000 ∧ (∀ c ∈ cs p, c ∈ st16) ∧ ∀ H', Same H H' → Q (.str (mk (tkS (cs p)))) H'
theorem ok_take_items (T : Txt K mg a) : FnOk P w K mg base CX0 1 a.f_take_items a.d_take_items ["program"] sp_take_items := by
  refine T.F_take_items.ok sc_take_items (fun vs H Q E h => ?_) (fun cdv A outer s H vs Q E hr h => ?_)
  · obtain ⟨p, rfl, _⟩ := h
    rfl
  · obtain ⟨p, rfl, lp, cp, q⟩ := h
    refine ⟨_, (pss_one (ps_ret (pe_join pe_str (pe_lc (own := [("step", 1)]) (g := gName 1) (by rfl) sc_take_items.nd (pi_str (pv 0)) (blkOk_by (own := [("step", 1)]) (N := N_take_items) (sc := defScope s_take_items) (by decide +kernel)) (fun _ _ _ _ _ => pg_name (i := 1) sc_take_items.nd rfl (Or.inl rfl)) (fun _ _ _ _ _ => (pts_one (pt_val (show PE _ _ (tBM0 K "str" _ _) from pe_bm0 PySem.F.plainAttrs_str PySem.F.slot_str_isupper PySem.F.type_str_isupper mt_isupper (pv 1))))) (fun _ _ _ _ _ => (pe_lower (pv 1))))))), ?_⟩
    refine ⟨⟨_, rfl⟩, .str p, rfl, p, rfl, fun D nD => ?_⟩
    refine lc_it walk_str (fun i H3 => Same H H3 ∧ H3 D = some (.lst (sV (tkS ((cs p).take i)))) ∧ (tkS ((cs p).take i)).length ≤ i) ?_ (fun _ _ _ _ => trivial) ?_ ?_
    · exact ⟨same_new nD, upd_same, Nat.le_refl _⟩
    · rintro i x H3 H4 hi ⟨sm, eD, le⟩ ⟨rfl, c, hc, rfl⟩
      obtain ⟨ts, cm⟩ := take_snoc hi hc
      obtain ⟨u1, u2, u3⟩ := letters c (cp c cm)
      have hi' : i < p.length := hi
      refine ⟨rfl, .str (sg c), rfl, rfl, sg c, rfl, rfl, trivial, _, rfl, ?_⟩
      rw [u1, ts, tkS_snoc]
      by_cases hu : c < 97
      · rw [decide_eq_true hu, if_pos hu]
        refine iteT ⟨.str (sg c), rfl, ⟨_, rfl⟩, sg c, rfl, rfl, line1, ?_⟩
        rw [u3]
        refine ⟨_, eD, lt_line (by rw [sV_len]; omega), same_put sm nD, by rw [upd_same, sV_snoc], ?_⟩
        rw [List.length_append]
        show _ + 1 ≤ _
        omega
      · rw [decide_eq_false hu, if_neg hu, List.append_nil]
        exact iteF ⟨sm, eD, by omega⟩
    · rintro H3 ⟨sm, eD, le⟩
      rw [List.take_of_length_le (by rw [← len_cs]; exact Nat.le_refl _)] at eD le
      refine ⟨"", D, (tkS (cs p)).map sg, rfl, rfl, .inl (SqL.of (by rw [eD, sV_eq])), ?_, ?_⟩
      · rw [sum_ones, List.length_map]
        show _ + _ * 0 ≤ 16777216
        have : (tkS (cs p)).length ≤ p.length := le
        omega
      · rw [show Txt.join "" ((tkS (cs p)).map sg) = mk (tkS (cs p)) from str_cs (join_signs _)]
        exact q H3 sm
def sp_put_items : Sp := fun vs H Q _ => ∃ p : Str, vs = [.str p] ∧ p.length ≤ 1000 ∧ (∀ c ∈ cs p, c ∈ st16) ∧ ∀ H', Same H H' → Q (.str (mk (puS (cs p)))) H'
theorem ok_put_items (T : Txt K mg a) : FnOk P w K mg base CX0 1 a.f_put_items a.d_put_items ["program"] sp_put_items := by
  refine T.F_put_items.ok sc_put_items (fun vs H Q E h => ?_) (fun cdv A outer s H vs Q E hr h => ?_)
  · obtain ⟨p, rfl, _⟩ := h
    rfl
  · obtain ⟨p, rfl, lp, cp, q⟩ := h
    refine ⟨_, (pss_one (ps_ret (pe_join pe_str (pe_lc (own := [("step", 1)]) (g := gName 1) (by rfl) sc_put_items.nd (pi_str (pv 0)) (blkOk_by (own := [("step", 1)]) (N := N_put_items) (sc := defScope s_put_items) (by decide +kernel)) (fun _ _ _ _ _ => pg_name (i := 1) sc_put_items.nd rfl (Or.inl rfl)) (fun _ _ _ _ _ => (pts_one (pt_val (show PE _ _ (tBM0 K "str" _ _) from pe_bm0 PySem.F.plainAttrs_str PySem.F.slot_str_islower PySem.F.type_str_islower mt_islower (pv 1))))) (fun _ _ _ _ _ => (pv 1)))))), ?_⟩
    refine ⟨⟨_, rfl⟩, .str p, rfl, p, rfl, fun D nD => ?_⟩
    refine lc_it walk_str (fun i H3 => Same H H3 ∧ H3 D = some (.lst (sV (puS ((cs p).take i)))) ∧ (puS ((cs p).take i)).length ≤ i) ?_ (fun _ _ _ _ => trivial) ?_ ?_
    · exact ⟨same_new nD, upd_same, Nat.le_refl _⟩
    · rintro i x H3 H4 hi ⟨sm, eD, le⟩ ⟨rfl, c, hc, rfl⟩
      obtain ⟨ts, cm⟩ := take_snoc hi hc
      obtain ⟨u1, u2, u3⟩ := letters c (cp c cm)
      have hi' : i < p.length := hi
      refine ⟨rfl, .str (sg c), rfl, rfl, sg c, rfl, rfl, trivial, _, rfl, ?_⟩
      rw [u2, ts, puS_snoc]
      by_cases hu : 97 ≤ c
      · rw [decide_eq_true hu, if_pos hu]
        refine iteT ⟨.str (sg c), rfl, _, eD, lt_line (by rw [sV_len]; omega), same_put sm nD, by rw [upd_same, sV_snoc], ?_⟩
        rw [List.length_append]
        show _ + 1 ≤ _
        omega
      · rw [decide_eq_false hu, if_neg hu, List.append_nil]
        exact iteF ⟨sm, eD, by omega⟩
    · rintro H3 ⟨sm, eD, le⟩
      rw [List.take_of_length_le (by rw [← len_cs]; exact Nat.le_refl _)] at eD le
      refine ⟨"", D, (puS (cs p)).map sg, rfl, rfl, .inl (SqL.of (by rw [eD, sV_eq])), ?_, ?_⟩
      · rw [sum_ones, List.length_map]
        show _ + _ * 0 ≤ 16777216
        have : (puS (cs p)).length ≤ p.length := le
        omega
      · rw [show Txt.join "" ((puS (cs p)).map sg) = mk (puS (cs p)) from str_cs (join_signs _)]
        exact q H3 sm
def sp_counts : Sp := fun vs H Q _ => ∃ p : Str, vs = [.str p] ∧ p.length ≤ 1000 ∧ (∀ c ∈ cs p, c ∈ st16) ∧ ∀ H' o, Same H H' → H o = none → H' o = some (.lst (iV (pcS 0 (cs p)))) → Q (.ref o) H'
theorem ok_counts_before_takes (T : Txt K mg a) : FnOk P w K mg base CX0 1 a.f_counts_before_takes a.d_counts_before_takes ["program"] sp_counts := by
  refine T.F_counts_before_takes.ok sc_counts_before_takes (fun vs H Q E h => ?_) (fun cdv A outer s H vs Q E hr h => ?_)
  · obtain ⟨p, rfl, _⟩ := h
    rfl
  · obtain ⟨p, rfl, lp, cp, q⟩ := h
    refine ⟨_, (pss_cons (ps_set (i := 1) sc_counts_before_takes.nd rfl (Or.inl rfl) (pe_lst pa_nil))
      (pss_cons (ps_set (i := 2) sc_counts_before_takes.nd rfl (Or.inl rfl) pe_int)
      (pss_cons (ps_for PassesOwn.never rfl (pi_str (pv 0)) (pg_name (i := 3) sc_counts_before_takes.nd rfl (Or.inl rfl))
        (pss_one (ps_if (pt_val (pe_bm0 PySem.F.plainAttrs_str PySem.F.slot_str_islower PySem.F.type_str_islower mt_islower (pv 3)))
          (pss_one (ps_aug (i := 2) sc_counts_before_takes.nd rfl (Or.inl rfl) pe_int ip_add))
          (pss_one (ps_expr (pe_bm PySem.F.plainAttrs_list PySem.F.slot_list_append PySem.F.type_list_append mt_append (pv 1) (pa_cons (pv 2) pa_nil)))))))
      (pss_one (ps_ret (pv 1)))))), ?_⟩
    refine ⟨Nat.zero_le _, fun o no => ?_⟩
    refine ⟨.str p, rfl, p, rfl, for_it walk_str (fun i σ H3 => ∃ (acc : List Nat) (dn : Nat) (y3 : Option V), σ = [some (.str p), some (.ref o), some (.int (dn : Nat)), y3] ∧ Same H H3 ∧ H3 o = some (.lst (iV acc)) ∧ acc.length ≤ i ∧ acc ++ pcS dn ((cs p).drop i) = pcS 0 (cs p)) ?_ (fun _ _ _ _ _ => trivial) ?_ ?_⟩
    · exact ⟨[], 0, none, rfl, same_new no, upd_same, Nat.le_refl _, rfl⟩
    · rintro i x σ H3 H4 hi ⟨acc, dn, y3, rfl, sm, eo, la, em⟩ ⟨rfl, c, hc, rfl⟩
      obtain ⟨ts, cm⟩ := take_snoc hi hc
      obtain ⟨u1, u2, u3⟩ := letters c (cp c cm)
      have hi' : i < p.length := hi
      rw [drop_cons (str_at hc), pcS_cons] at em
      refine ⟨.str (sg c), rfl, rfl, sg c, rfl, rfl, trivial, _, rfl, ?_⟩
      rw [u2]
      by_cases hu : 97 ≤ c
      · rw [decide_eq_true hu]
        rw [if_pos hu] at em
        refine iteT ⟨.int dn, rfl, dn, 1, rfl, rfl, acc, dn + 1, _, rfl, sm, eo, by omega, em⟩
      · rw [decide_eq_false hu]
        rw [if_neg hu] at em
        refine iteF ⟨.ref o, rfl, .inl ⟨rfl, _, SqL.of eo⟩, .int dn, rfl, o, _, _, rfl, rfl, eo, lt_line (by rw [iV_len]; omega), acc ++ [dn], dn, _, rfl, same_put sm no, by rw [upd_same, iV_snoc], by rw [List.length_append]; show _ + 1 ≤ _; omega, ?_⟩
        rw [List.append_assoc]
        exact em
    · rintro σ H3 ⟨acc, dn, y3, rfl, sm, eo, la, em⟩
      rw [List.drop_of_length_le (by rw [← len_cs]; exact Nat.le_refl _)] at em
      rw [pcS_nil, List.append_nil] at em
      rw [em] at eo
      exact ⟨.ref o, rfl, q H3 o sm no eo⟩
end
end E03

set_option Elab.async false
set_option linter.all false
set_option maxRecDepth 100000
set_option maxHeartbeats 4000000
namespace E03
open Own PySem PySem.Spec PyProof.Rows L2 Exn Mth Vld Gn StX
section
variable {P : Program} {w : World} {K : PySem.W.Frag} {mg : Str → Option Value} {base : Heap} {a : Ad}
def sp_takes : Sp := fun vs H Q _ => ∃ p : List Nat, vs = [.str (mk p)] ∧ p.length ≤ 400 ∧ (∀ c ∈ p, c ∈ st16) ∧ ∀ H', Same H H' → Q (.str (mk (tkS p))) H'
theorem ok_takes (T : Txt K mg a) : FnOk P w K mg base (L2.CX P w) 4 a.f_takes a.d_takes ["program"] sp_takes := by
  have G_require_program := ok_require_program (P := P) (w := w) (base := base) T
  have G_take_items := ok_take_items (P := P) (w := w) (base := base) T
  refine T.F_takes.okX sc_takes (fun vs H Q E h => ?_) (fun cdv A outer s H vs Q E hr h => ?_)
  · obtain ⟨p, rfl, _⟩ := h
    rfl
  · obtain ⟨p, rfl, lp, cp, q⟩ := h
    refine ⟨_, (pss_cons (ps_expr (pe_callS G_require_program (hr.mono (by decide)) (by rfl) T.g_require_program T.F_require_program.kp T.b_require_program (fun σ => passAt (takes_of rfl rfl rfl rfl) σ) (pa_cons (pv 0) pa_nil)))
      (pss_one (ps_ret (pe_call G_take_items (hr.mono (by decide)) (by rfl) T.g_take_items T.F_take_items.kp T.b_take_items .nil pass0 (pa_cons (pv 0) pa_nil))))), ?_⟩
    have okp : okS (mk p) "abcdefghABCDEFGH" = true := okS_mk lp cp
    refine ⟨.str (mk p), rfl, .str (mk p), _, rfl, any_ok okp, fun _ => ?_, fun e => no_ok okp e⟩
    refine ⟨.str (mk p), rfl, mk p, rfl, by rw [len_mk]; omega, by rw [cs_mk]; exact cp, fun H' s' => ?_⟩
    rw [cs_mk]
    exact q H' s'
def sp_puts : Sp := fun vs H Q _ => ∃ p : List Nat, vs = [.str (mk p)] ∧ p.length ≤ 400 ∧ (∀ c ∈ p, c ∈ st16) ∧ ∀ H', Same H H' → Q (.str (mk (puS p))) H'
theorem ok_puts (T : Txt K mg a) : FnOk P w K mg base (L2.CX P w) 4 a.f_puts a.d_puts ["program"] sp_puts := by
  have G_require_program := ok_require_program (P := P) (w := w) (base := base) T
  have G_put_items := ok_put_items (P := P) (w := w) (base := base) T
  refine T.F_puts.okX sc_puts (fun vs H Q E h => ?_) (fun cdv A outer s H vs Q E hr h => ?_)
  · obtain ⟨p, rfl, _⟩ := h
    rfl
  · obtain ⟨p, rfl, lp, cp, q⟩ := h
    refine ⟨_, (pss_cons (ps_expr (pe_callS G_require_program (hr.mono (by decide)) (by rfl) T.g_require_program T.F_require_program.kp T.b_require_program (fun σ => passAt (takes_of rfl rfl rfl rfl) σ) (pa_cons (pv 0) pa_nil)))
      (pss_one (ps_ret (pe_call G_put_items (hr.mono (by decide)) (by rfl) T.g_put_items T.F_put_items.kp T.b_put_items .nil pass0 (pa_cons (pv 0) pa_nil))))), ?_⟩
    have okp : okS (mk p) "abcdefghABCDEFGH" = true := okS_mk lp cp
    refine ⟨.str (mk p), rfl, .str (mk p), _, rfl, any_ok okp, fun _ => ?_, fun e => no_ok okp e⟩
    refine ⟨.str (mk p), rfl, mk p, rfl, by rw [len_mk]; omega, by rw [cs_mk]; exact cp, fun H' s' => ?_⟩
    rw [cs_mk]
    exact q H' s'
def sp_put_counts : Sp := fun vs H Q _ => ∃ p : List Nat, vs = [.str (mk p)] ∧ p.length ≤ 400 ∧ (∀ c ∈ p, c ∈ st16) ∧ ∀ H' o, Same H H' → H o = none → H' o = some (.lst (iV (pcS 0 p))) → Q (.ref o) H'
theorem ok_put_counts (T : Txt K mg a) : FnOk P w K mg base (L2.CX P w) 4 a.f_put_counts a.d_put_counts ["program"] sp_put_counts := by
  have G_require_program := ok_require_program (P := P) (w := w) (base := base) T
  have G_counts_before_takes := ok_counts_before_takes (P := P) (w := w) (base := base) T
  refine T.F_put_counts.okX sc_put_counts (fun vs H Q E h => ?_) (fun cdv A outer s H vs Q E hr h => ?_)
  · obtain ⟨p, rfl, _⟩ := h
    rfl
  · obtain ⟨p, rfl, lp, cp, q⟩ := h
    refine ⟨_, (pss_cons (ps_expr (pe_callS G_require_program (hr.mono (by decide)) (by rfl) T.g_require_program T.F_require_program.kp T.b_require_program (fun σ => passAt (takes_of rfl rfl rfl rfl) σ) (pa_cons (pv 0) pa_nil)))
      (pss_one (ps_ret (pe_call G_counts_before_takes (hr.mono (by decide)) (by rfl) T.g_counts_before_takes T.F_counts_before_takes.kp T.b_counts_before_takes .nil pass0 (pa_cons (pv 0) pa_nil))))), ?_⟩
    have okp : okS (mk p) "abcdefghABCDEFGH" = true := okS_mk lp cp
    refine ⟨.str (mk p), rfl, .str (mk p), _, rfl, any_ok okp, fun _ => ?_, fun e => no_ok okp e⟩
    refine ⟨.str (mk p), rfl, mk p, rfl, by rw [len_mk]; omega, by rw [cs_mk]; exact cp, fun H' o s' no e => ?_⟩
    rw [cs_mk] at e
    exact q H' o s' no e
end
end E03

set_option Elab.async false
set_option linter.all false
set_option maxRecDepth 100000
set_option maxHeartbeats 4000000
namespace E03
open Own PySem PySem.Spec PyProof.Rows L2 Exn Mth Vld Gn StX
section
variable {P : Program} {w : World} {K : PySem.W.Frag} {mg : Str → Option Value} {base : Heap} {a : Ad}
/-- a row of steps -/
def rowS (H : Hp) (c : Nat) (v : V) : Prop := ∃ o, v = .ref o ∧ H o = some (.tup [.str (if 97 ≤ c then "put" else "take"), .str (sg (lowC c))])
theorem rowS.same {H H' : Hp} {c : Nat} {v : V} (h : rowS H c v) (s : Same H H') : rowS H' c v := let ⟨o, e, g⟩ := h; ⟨o, e, s _ _ g⟩
def Rows (H : Hp) (p : List Nat) (ys : List V) : Prop := Paired (fun y c => rowS H c y) ys p
theorem Rows.same {H H' : Hp} {p : List Nat} {ys : List V} (h : Rows H p ys) (s : Same H H') : Rows H' p ys := h.mono fun y c r => r.same s
theorem Rows.snoc {H : Hp} {p : List Nat} {ys : List V} {y : V} {c : Nat} (h : Rows H p ys) (r : rowS H c y) : Rows H (p ++ [c]) (ys ++ [y]) := Paired.snoc h r
def sp_steps : Gcs.SpY := fun vs H G Q _ => ∃ p : List Nat, vs = [.str (mk p)] ∧ p.length ≤ 400 ∧ (∀ c ∈ p, c ∈ st16) ∧ (∀ ys x, G ys x) ∧ ∀ H' ys, Same H H' → Rows H' p ys → Q ys H'
theorem ok_steps (T : Txt K mg a) : Gcs.GfnY P w K mg base 4 a.f_steps a.d_steps ["program"] sp_steps := by
  have G_require_program := ok_require_program (P := P) (w := w) (base := base) T
  obtain ⟨oc, od, kV, doc, pm, an, cdv, ct, osl, hfd, lk, hcd⟩ := T.F_steps.ex
  rw [hfd] at lk ⊢
  refine Gcs.gfnY_of lk hcd sc_steps (fun vs H G Q E h => ?_) (fun A outer s H vs G Q E pn hr h => ?_)
  · obtain ⟨p, rfl, _⟩ := h
    rfl
  · obtain ⟨p, rfl, lp, cp, hG, q⟩ := h
    refine ⟨_, (Gcs.g_cons (Gcs.g_ps (ps_expr (pe_callS G_require_program (hr.mono (by decide)) (by rfl) T.g_require_program T.F_require_program.kp T.b_require_program (fun σ => passAt takes_gcx σ) (pa_cons (pv 0) pa_nil))))
      (Gcs.g_cons (Gcs.g_for owns_gcx rfl (pi_str (pv 0)) (pg_name (i := 1) sc_steps.nd rfl (Or.inl rfl))
        (Gcs.g_cons (Gcs.g_ps (ps_set (i := 2) sc_steps.nd rfl (Or.inl rfl) (pe_ifExp (pt_val (pe_bm0 PySem.F.plainAttrs_str PySem.F.slot_str_islower PySem.F.type_str_islower mt_islower (pv 1))) pe_str pe_str)))
        (Gcs.g_cons (Gcs.g_yield (pe_tup (pa_cons (pv 2) (pa_cons (pe_lower (pv 1)) pa_nil))))
        Gcs.g_nil)))
      Gcs.g_nil)), ?_⟩
    have okp : okS (mk p) "abcdefghABCDEFGH" = true := okS_mk lp cp
    refine ⟨.str (mk p), rfl, .str (mk p), _, rfl, any_ok okp, fun _ => ?_, fun e => no_ok okp e⟩
    refine ⟨.str (mk p), rfl, mk p, rfl, gfor_it walk_str (fun i ys σ H3 => ∃ y1 y2 : Option V, σ = [some (.str (mk p)), y1, y2] ∧ Same H H3 ∧ Rows H3 (p.take i) ys) ?_ (fun _ _ _ _ _ _ => trivial) ?_ ?_⟩
    · exact ⟨none, none, rfl, Same.refl H, .nil⟩
    · rintro i x ys σ H3 H4 hi ⟨y1, y2, rfl, sm, hy⟩ ⟨rfl, c, hc, rfl⟩
      obtain ⟨ts, cm⟩ := take_snoc hi hc
      rw [cs_mk] at ts cm
      rw [ts]
      have c16 := cp c cm
      obtain ⟨u1, u2, u3⟩ := letters c c16
      have hi' : i < p.length := by have : i < (mk p).length := hi; rwa [len_mk] at this
      have hyl : ys.length ≤ 400 := by have := hy.length; rw [List.length_take] at this; omega
      have fin : ∀ wd : Str, wd = (if 97 ≤ c then ("put" : Str) else ("take" : Str)) → ∀ t : Addr, H4 t = none → Same H (upd H4 t (.tup [.str wd, .str (sg (lowC c))])) ∧ Rows (upd H4 t (.tup [.str wd, .str (sg (lowC c))])) (p.take i ++ [c]) (ys ++ [.ref t]) := fun wd ew t nt =>
        ⟨sm.trans (same_new nt), (hy.same (same_new nt)).snoc ⟨t, rfl, by rw [upd_same, ew]⟩⟩
      refine ⟨.str (sg c), rfl, rfl, sg c, rfl, rfl, trivial, _, rfl, ?_⟩
      rw [u2]
      by_cases hu : 97 ≤ c
      · rw [decide_eq_true hu]
        refine iteT ⟨lt_line (by omega), .str "put", rfl, .str (sg c), rfl, ⟨_, rfl⟩, sg c, rfl, rfl, line1, ?_⟩
        rw [u3]
        refine ⟨le_line (show 2 ≤ 100000 by decide), fun t nt => ⟨hG _ _, ?_⟩⟩
        obtain ⟨f1, f2⟩ := fin "put" (by rw [if_pos hu]) t nt
        exact ⟨_, _, rfl, f1, f2⟩
      · rw [decide_eq_false hu]
        refine iteF ⟨lt_line (by omega), .str "take", rfl, .str (sg c), rfl, ⟨_, rfl⟩, sg c, rfl, rfl, line1, ?_⟩
        rw [u3]
        refine ⟨le_line (show 2 ≤ 100000 by decide), fun t nt => ⟨hG _ _, ?_⟩⟩
        obtain ⟨f1, f2⟩ := fin "take" (by rw [if_neg hu]) t nt
        exact ⟨_, _, rfl, f1, f2⟩
    · rintro ys σ H3 ⟨y1, y2, rfl, sm, hy⟩
      rw [List.take_of_length_le (by show p.length ≤ (mk p).length; rw [len_mk]; exact Nat.le_refl _)] at hy
      exact q H3 ys sm hy
end
end E03

set_option Elab.async false
set_option linter.all false
set_option maxRecDepth 100000
set_option maxHeartbeats 4000000
namespace E03
open Own PySem PySem.Spec PyProof.Rows L2 Exn Mth Vld Gn StX
section
variable {P : Program} {w : World} {K : PySem.W.Frag} {mg : Str → Option Value} {base : Heap} {a : Ad}
theorem all_strs {b : Str} : ∀ xs : List V, (∀ x ∈ xs, okV x b = true) → ∃ zs : List Str, xs = zs.map V.str ∧ ∀ z ∈ zs, okS z b = true
  | [], _ => ⟨[], rfl, fun z hz => by cases hz⟩
  | x :: xs, h => by
    obtain ⟨zs, e, hz⟩ := all_strs xs fun y hy => h y (List.mem_cons_of_mem _ hy)
    have hx := h x (List.mem_cons_self ..)
    obtain ⟨z, rfl, _⟩ := okV_str hx
    refine ⟨z :: zs, by rw [e]; rfl, fun y hy => ?_⟩
    rcases List.mem_cons.mp hy with r | r
    · rw [r]; exact hx
    · exact hz y r
theorem sum_le : ∀ zs : List Str, (∀ z ∈ zs, z.length ≤ 400) → (zs.map (·.length)).sum ≤ 400 * zs.length
  | [], _ => by simp
  | z :: zs, h => by
    have h1 := h z (List.mem_cons_self ..)
    have h2 := sum_le zs fun y hy => h y (List.mem_cons_of_mem _ hy)
    rw [List.map_cons, List.sum_cons, List.length_cons]
    omega
theorem join_len (zs : List Str) : (Txt.join "" zs).length = (zs.map (·.length)).sum := by
  have core : ∀ zs : List Str, (Str.join "" zs).length = (zs.map (·.length)).sum := by
    intro zs
    induction zs with
    | nil => rfl
    | cons z zs ih =>
      cases zs with
      | nil => show z.length = z.length + 0; omega
      | cons y zs =>
        show (z ++ "" ++ Str.join "" (y :: zs)).cps.size = _
        have e : ∀ x y : Str, (x ++ y).cps.size = x.cps.size + y.cps.size := fun x y => Array.size_append
        rw [e, e, List.map_cons, List.sum_cons, ← ih]
        show z.cps.size + 0 + _ = z.cps.size + _
        rfl
  show (Builtin.Str.glued "" zs).length = _
  rw [PySem.StrLaws.glued_eq_join]
  exact core zs
def sp_join (Cp Cl : Addr) (K : PySem.W.Frag) : Sp := fun vs H Q E => ∃ (tp : Addr) (xs : List V), vs = [.ref tp] ∧ H tp = some (.tup xs) ∧ xs.length ≤ 10 ∧ (∀ x ∈ xs, ∃ t, AnyV K H x t) ∧
  (∀ zs : List Str, xs = zs.map V.str → (∀ z ∈ zs, okS z "abcdefghABCDEFGH" = true) → ((Txt.join "" zs).length ≤ 400 → ∀ H', Same H H' → Q (.str (Txt.join "" zs)) H') ∧ (400 < (Txt.join "" zs).length → ∀ H' d, Same H H' → H d = none → H' d = some (.xd [(("limit" : Str), .int 400)]) → E (.ref Cl) (some d) H')) ∧
  (∀ (i : Nat) (x : V), xs[i]? = some x → (∀ j < i, ∀ y, xs[j]? = some y → okV y "abcdefghABCDEFGH" = true) → okV x "abcdefghABCDEFGH" = false → ∀ H' d, Same H H' → H d = none → H' d = some (.xd [(("value" : Str), x)]) → E (.ref Cp) (some d) H')
theorem ok_join (T : Txt K mg a) : FnR P w K mg base (L2.CX P w) 4 a.f_join (fun vs H Q E => ∃ ws rest, vs = ws ++ rest ∧ ws.length = ([] : List Str).length ∧ rest.length ≤ sizeLine ∧ ∀ p, H p = Option.none → sp_join a.C_InvalidProgram a.C_LimitExceeded K (ws ++ [V.ref p]) (upd H p (.tup rest)) Q E) := by
  have G_require_program := ok_require_program (P := P) (w := w) (base := base) T
  obtain ⟨oc, od, kV, doc, pm, an, cdv, ct, osl, hfd, lk, hcd⟩ := T.F_join.ex
  rw [hfd] at lk
  refine fn_star (pv := "programs") (ps := []) lk hcd sc_join cxUp (fun us rest hl => ?_) (fun A outer s H vs Q E hr h => ?_)
  · match us, hl with
    | [], _ =>
      cases rest with
      | nil => rfl
      | cons r rs => rfl
  · obtain ⟨tp, xs, rfl, htp, lx, hx, q, q1⟩ := h
    refine ⟨_, (pss_cons (ps_for (passes_of rfl) rfl (pi_tup (pv 0)) (pg_name (i := 1) sc_join.nd rfl (Or.inl rfl))
        (pss_one (ps_expr (pe_callS G_require_program (hr.mono (by decide)) (by rfl) T.g_require_program T.F_require_program.kp T.b_require_program (fun σ => passAt (takes_of rfl rfl rfl rfl) σ) (pa_cons (pv 1) pa_nil)))))
      (pss_cons (ps_set (i := 2) sc_join.nd rfl (Or.inl rfl) (pe_join pe_str (pv 0)))
      (pss_cons (ps_if (pt_cmpR op_gt (pe_callB call_len_str (by rfl) T.z_len (by decide +kernel) (pa_cons (pv 2) pa_nil)) (pe_glob (v := .int 400) (by rfl) T.c_MAX_LENGTH ⟨_, rfl⟩) (nomark _))
        (pss_one (ps_raise rfl (takes_of rfl rfl rfl rfl) (pmk_limit T.e_LimitExceeded hr (pa_cons (pe_glob (v := .int 400) (by rfl) T.c_MAX_LENGTH ⟨_, rfl⟩) pa_nil) (by rfl))))
        pss_nil)
      (pss_one (ps_ret (pv 2)))))), ?_⟩
    refine ⟨.ref tp, rfl, tp, rfl, ⟨xs, SqT.of htp⟩, for_it (walk_tup (xs := xs)) (fun i σ H3 => ∃ y1 y2 : Option V, σ = [some (.ref tp), y1, y2] ∧ H3 = H ∧ ∀ j < i, ∀ y, xs[j]? = some y → okV y "abcdefghABCDEFGH" = true) ?_ (fun i σ H3 _ hp => ?_) ?_ ?_⟩
    · exact ⟨none, none, rfl, rfl, fun j hj => absurd hj (Nat.not_lt_zero _)⟩
    · obtain ⟨_, _, _, rfl, _⟩ := hp
      exact SqT.of htp
    · rintro i x σ H3 H4 hi ⟨y1, y2, rfl, rfl, hok⟩ ⟨rfl, hxi⟩
      obtain ⟨t, ht⟩ := hx x (List.mem_of_getElem? hxi)
      refine ⟨x, rfl, x, t, rfl, ht, fun e => ⟨_, _, rfl, rfl, fun j hj y hy => ?_⟩, fun e d hd => q1 i x hxi hok e _ d (same_new hd) hd upd_same⟩
      rcases Nat.lt_or_ge j i with h | h
      · exact hok j h y hy
      · obtain rfl : j = i := by omega
        rw [hxi] at hy
        cases hy
        exact e
    · rintro σ H3 ⟨y1, y2, rfl, rfl, hok⟩
      obtain ⟨zs, rfl, hz⟩ := all_strs xs fun x hx => by
        obtain ⟨j, hj⟩ := List.mem_iff_getElem?.mp hx
        exact hok j (by rcases Nat.lt_or_ge j xs.length with h | h; exact h; rw [List.getElem?_eq_none h] at hj; cases hj) x hj
      obtain ⟨qa, qb⟩ := q zs rfl hz
      have hsum : (zs.map (·.length)).sum ≤ 400 * zs.length := sum_le zs fun z hz' => (okS_iff.mp (hz z hz')).1
      have lz : zs.length ≤ 10 := by rw [List.length_map] at lx; exact lx
      refine ⟨⟨_, rfl⟩, .ref tp, rfl, "", tp, zs, rfl, rfl, .inr (SqT.of htp), by show _ + _ * 0 ≤ 16777216; omega, ?_⟩
      refine ⟨.str (Txt.join "" zs), rfl, _, rfl, le_line (by rw [join_len]; omega), _, _, rfl, rfl, _, rfl, ite2 (fun hc => ?_) (fun hc => ?_)⟩
      · have hc' := of_decide_eq_true hc
        exact ⟨.int 400, rfl, fun d hd => qb (by omega) _ d (same_new hd) hd upd_same⟩
      · have hc' : ¬ ((400 : Int) < ((Txt.join "" zs).length : Nat)) := fun h => hc (decide_eq_true h)
        exact ⟨_, rfl, qa (by omega) _ (Same.refl _)⟩
end
end E03

set_option Elab.async false
set_option linter.all false
set_option maxRecDepth 100000
set_option maxHeartbeats 4000000
namespace E03
open Own PySem PySem.Spec PyProof.Rows L2 Exn Mth Vld Gn StX
section
variable {P : Program} {w : World} {K : PySem.W.Frag} {mg : Str → Option Value} {base : Heap} {a : Ad}
def sp_Lpool (K : PySem.W.Frag) : Sp := fun vs H Q _ => ∃ (s : Addr) (k : Int) (ns : List Int), vs = [.ref s, .int k] ∧ SqL K H s (ns.map V.int) ∧ ns.length ≤ 1000 ∧ 0 ≤ k ∧ k ≤ 1000 ∧
  ∀ H' p, Same H H' → H p = none → Pool H' p → Q (.ref p) H'
theorem ok_Lpool (T : Txt K mg a) : FnOk P w K mg base CX0 1 a.f_Lpool a.d_Lpool ["_law_script", "_law_k"] (sp_Lpool K) := by
  refine T.F_Lpool.ok sc_Lpool (fun vs H Q E h => ?_) (fun cdv A outer s H vs Q E hr h => ?_)
  · obtain ⟨s, k, ns, rfl, _⟩ := h
    rfl
  · obtain ⟨sc, k, ns, rfl, hS, hns, hk0, hk1, q⟩ := h
    refine ⟨_, (pss_cons (ps_set (i := 2) sc_Lpool.nd rfl (Or.inl rfl) (pe_ix ix_list (pe_op op_cat (pe_slice sl_list (pv 0) (po_some (pv 1)) (po_some (pe_op op_add (pv 1) pe_int))) (pe_lst (pa_cons pe_int pa_nil))) pe_int (fun _ _ => rfl)))
      (pss_cons (ps_set (i := 3) sc_Lpool.nd rfl (Or.inl rfl) (pe_callB (call_max2 rfl) (by rfl) T.z_max (by decide +kernel) (pa_cons (pv 2) (pa_cons (pe_op op_sub (pe_un un_neg pe_int) (pv 2)) pa_nil))))
      (pss_cons (ps_set (i := 4) sc_Lpool.nd rfl (Or.inl rfl) (pe_op op_mod (pe_op op_mul (pe_op op_add (pe_op op_add (pe_op op_add (pe_op op_mod (pv 3) pe_int) (pe_op op_mul (pe_op op_mul pe_int (pv 1)) (pv 1))) (pe_op op_mul pe_int (pv 1))) pe_int) pe_int) pe_int))
      (pss_one (ps_ret (pe_lst (pa_cons (pe_op op_mul (pv 3) (pe_callTy call_int1 (by rfl) T.z_int (by decide +kernel) (pa_cons (pe_cmpR op_ge (pv 3) (pe_op op_pow pe_int pe_int) (nomark _)) pa_nil))) (pa_cons (pe_op op_mod (pe_op op_mul (pv 4) (pv 4)) pe_int) pa_nil)))))))), ?_⟩
    refine ⟨.ref sc, rfl, .int k, rfl, k, rfl, .int k, rfl, k, 1, rfl, rfl, k + 1, rfl, sc, _, rfl, hS, fun c nc => ?_⟩
    obtain ⟨l, hl⟩ := cut_int ns (some k) (some (k + 1))
    have hlen := cutV_length (ns.map V.int) (some k) (some (k + 1))
    rw [hl] at hlen ⊢
    have s1 : Same H (upd H c (.lst (l.map V.int))) := same_new nc
    refine ⟨le_line (by decide), fun d nd => ?_⟩
    have ndc : d ≠ c := fun e => by rw [e, upd_same] at nd; cases nd
    have s2 := s1.trans (same_new (o := .lst [V.int 0]) nd)
    obtain ⟨x, r, hx⟩ : ∃ x r, l.map V.int ++ [V.int 0] = V.int x :: r := by
      cases l with
      | nil => exact ⟨0, _, rfl⟩
      | cons y l => exact ⟨y, _, rfl⟩
    refine ⟨c, d, l.map V.int, [V.int 0], rfl, rfl, by rw [upd_ne ndc.symm, upd_same], upd_same, ?_, fun e ne => ?_⟩
    · rw [List.length_map] at hlen ⊢
      rw [List.length_map] at hlen
      exact le_line (by rw [List.length_singleton]; omega)
    have s3 := s2.trans (same_new (o := .lst (l.map V.int ++ [V.int 0])) ne)
    refine ⟨e, _, 0, V.int x, rfl, rfl, SqL.of upd_same, atI_nat (j := 0) (by rw [hx]; rfl), ?_⟩
    -- the number
    refine ⟨.int x, rfl, 1, rfl, .int x, rfl, -1, x, rfl, rfl, _, _, rfl, ?_⟩
    obtain ⟨n, hn, hn0⟩ : ∃ n, (if -1 - x > x then -1 - x else x) = n ∧ 0 ≤ n := by
      refine ⟨_, rfl, ?_⟩
      split <;> omega
    rw [hn]
    have e1 : n % 2147483629 < 2147483629 := Int.emod_lt_of_pos _ (by decide)
    have e0 : 0 ≤ n % 2147483629 := Int.emod_nonneg _ (by decide)
    have k2 : 0 ≤ 7919 * k * k ∧ 7919 * k * k ≤ 7919 * 1000 * 1000 := by
      constructor
      · exact Int.mul_nonneg (by omega) hk0
      · exact Int.mul_le_mul (by omega) hk1 hk0 (by decide)
    refine ⟨.int n, rfl, n, 2147483629, rfl, rfl, (show (0 : Int) < 2147483629 by decide), .int k, rfl, 7919, k, rfl, rfl, .inl ⟨by decide, by decide⟩, .int k, rfl, 7919 * k, k, rfl, rfl, .inl ⟨by omega, by omega⟩, _, _, rfl, rfl,
      .int k, rfl, 31, k, rfl, rfl, .inl ⟨by decide, by decide⟩, _, _, rfl, rfl, _, _, rfl, rfl, _, 48271, rfl, rfl, .inr ⟨by decide, by decide⟩, _, 2147483647, rfl, rfl, (show (0 : Int) < 2147483647 by decide), ?_⟩
    obtain ⟨mx, hm, hm0, hm1⟩ : ∃ mx, ((n % 2147483629 + 7919 * k * k + 31 * k + 17) * 48271) % 2147483647 = mx ∧ 0 ≤ mx ∧ mx < 2147483647 :=
      ⟨_, rfl, Int.emod_nonneg _ (by decide), Int.emod_lt_of_pos _ (by decide)⟩
    dsimp only
    rw [hm]
    refine ⟨.int n, rfl, .int n, rfl, 10, 18, rfl, rfl, ⟨by decide, by decide, by decide⟩, _, _, rfl, rfl, .inr ⟨_, rfl, ?_⟩⟩
    have hb : ∀ b : Bool, (0 : Int) ≤ (if b = true then 1 else 0) ∧ (if b = true then (1 : Int) else 0) ≤ 1 := by intro b; cases b <;> decide
    have hb' := hb (decide ((10 : Int) ^ (18 : Int).toNat ≤ n))
    refine ⟨n, _, rfl, rfl, .inr ⟨by omega, by omega⟩, .int mx, rfl, .int mx, rfl, mx, mx, rfl, rfl, .inl ⟨by omega, by omega⟩, _, 2147483629, rfl, rfl, (show (0 : Int) < 2147483629 by decide), le_line (show 2 ≤ 100000 by decide), fun p np => ?_⟩
    have h1 : 0 ≤ mx * mx % 2147483629 := Int.emod_nonneg _ (by decide)
    have h2 : mx * mx % 2147483629 < 2147483629 := Int.emod_lt_of_pos _ (by decide)
    exact q _ p (s3.trans (same_new np)) (s3.free np) ⟨_, _, upd_same, Int.mul_nonneg hn0 hb'.1, h1, by omega⟩
def sp_Ltake : Sp := fun vs H Q _ => ∃ (p : Addr) (k : Int), vs = [.ref p, .int k] ∧ Pool H p ∧ 1 ≤ k ∧ k ≤ 1000000 ∧
  ∀ n m d : Int, 0 ≤ n → 0 ≤ m → m < 2147483647 → 0 ≤ d → d < k → Q (.int d) (upd H p (.lst [.int n, .int m]))
theorem ok_Ltake (T : Txt K mg a) : FnOk P w K mg base CX0 1 a.f_Ltake a.d_Ltake ["_law_pool_here", "_law_many"] sp_Ltake := by
  refine T.F_Ltake.ok sc_Ltake (fun vs H Q E h => ?_) (fun cdv A outer s H vs Q E hr h => ?_)
  · obtain ⟨p, k, rfl, _⟩ := h
    rfl
  · obtain ⟨p, k, rfl, ⟨n, m, hp, hn, hm0, hm1⟩, hk0, hk1, q⟩ := h
    refine ⟨_, (pss_cons (ps_if (pt_cmpR op_gt (pe_ix ix_list (pv 0) pe_int (fun _ _ => rfl)) pe_int (nomark _))
        (pss_cons (ps_set (i := 2) sc_Ltake.nd rfl (Or.inl rfl) (pe_op op_mod (pe_ix ix_list (pv 0) pe_int (fun _ _ => rfl)) (pv 1)))
        (pss_cons (ps_asg (pe_op op_fdiv (pe_ix ix_list (pv 0) pe_int (fun _ _ => rfl)) (pv 1)) (pg_sub (pv 0) pe_int set_list))
        (pss_one (ps_ret (pv 2)))))
        pss_nil)
      (pss_cons (ps_asg (pe_op op_mod (pe_op op_add (pe_op op_mul (pe_ix ix_list (pv 0) pe_int (fun _ _ => rfl)) pe_int) pe_int) pe_int) (pg_sub (pv 0) pe_int set_list))
      (pss_one (ps_ret (pe_op op_mod (pe_op op_fdiv (pe_op op_mod (pe_op op_mul (pe_ix ix_list (pv 0) pe_int (fun _ _ => rfl)) (pe_ix ix_list (pv 0) pe_int (fun _ _ => rfl))) pe_int) pe_int) (pv 1)))))), ?_⟩
    refine ⟨.ref p, rfl, p, _, 0, _, rfl, rfl, SqL.of hp, atI_nat (j := 0) rfl, _, _, rfl, rfl, _, rfl, ite2 (fun e => ?_) (fun e => ?_)⟩
    · refine ⟨.ref p, rfl, p, _, 0, _, rfl, rfl, SqL.of hp, atI_nat (j := 0) rfl, .int k, rfl, n, k, rfl, rfl, by omega, ?_⟩
      refine ⟨.ref p, rfl, p, _, 0, _, rfl, rfl, SqL.of hp, atI_nat (j := 0) rfl, .int k, rfl, n, k, rfl, rfl, ⟨by omega, by omega⟩, ?_⟩
      refine ⟨.ref p, rfl, p, _, 0, 0, rfl, rfl, hp, rfl, ?_⟩
      refine ⟨_, rfl, ?_⟩
      exact q (n / k) m (n % k) (Int.ediv_nonneg hn (by omega)) hm0 hm1 (Int.emod_nonneg _ (by omega)) (Int.emod_lt_of_pos _ (by omega))
    · refine ⟨.ref p, rfl, p, _, 1, _, rfl, rfl, SqL.of hp, atI_nat (j := 1) rfl, m, 48271, rfl, rfl, .inr ⟨by decide, by decide⟩, _, _, rfl, rfl, _, 2147483647, rfl, rfl, (show (0 : Int) < 2147483647 by decide), ?_⟩
      obtain ⟨x, hx, hx0, hx1⟩ : ∃ x, (m * 48271 + 12345) % 2147483647 = x ∧ 0 ≤ x ∧ x < 2147483647 := ⟨_, rfl, Int.emod_nonneg _ (by decide), Int.emod_lt_of_pos _ (by decide)⟩
      dsimp only
      rw [hx]
      refine ⟨.ref p, rfl, p, _, 1, 1, rfl, rfl, hp, rfl, ?_⟩
      have hp2 : (upd H p (.lst ([V.int n, V.int m].set 1 (.int x)))) p = some (.lst [.int n, .int x]) := upd_same
      refine ⟨.ref p, rfl, p, _, 1, _, rfl, rfl, SqL.of hp2, atI_nat (j := 1) rfl, .ref p, rfl, p, _, 1, _, rfl, rfl, SqL.of hp2, atI_nat (j := 1) rfl, x, x, rfl, rfl, .inl ⟨by omega, by omega⟩, _, 2147483629, rfl, rfl, (show (0 : Int) < 2147483629 by decide),
        _, 64, rfl, rfl, ⟨by decide, by decide⟩, .int k, rfl, _, k, rfl, rfl, by omega, ?_⟩
      exact q n x _ hn hx0 hx1 (Int.emod_nonneg _ (by omega)) (Int.emod_lt_of_pos _ (by omega))
end
end E03

set_option Elab.async false
set_option linter.all false
set_option maxRecDepth 100000
set_option maxHeartbeats 4000000
namespace E03
open Own PySem PySem.Spec PyProof.Rows L2 Exn Mth Vld Gn StX
section
variable {P : Program} {w : World} {K : PySem.W.Frag} {mg : Str → Option Value} {base : Heap} {a : Ad}
theorem st16_of16 {c : Nat} (h : c ∈ cs "aAbBcCdDeEfFgGhH") : c ∈ st16 := (let16 c h).2
def sp_Lprogram : Sp := fun vs H Q _ => ∃ (p : Addr) (m k : Int), vs = [.ref p, .int m, .int k] ∧ Pool H p ∧ 0 ≤ m ∧ m ≤ 100 ∧ 1 ≤ k ∧ k ≤ 8 ∧
  ∀ H' z, Pool H' p → But p H H' → (z.length : Int) ≤ m → (∀ c ∈ z, c ∈ st16) → Q (.str (mk z)) H'
theorem ok_Lprogram (T : Txt K mg a) : FnOk P w K mg base CX0 2 a.f_Lprogram a.d_Lprogram ["_law_pool_here", "_law_most", "_law_letters"] sp_Lprogram := by
  have G_Ltake := ok_Ltake (P := P) (w := w) (base := base) T
  refine T.F_Lprogram.ok sc_Lprogram (fun vs H Q E h => ?_) (fun cdv A outer s H vs Q E hr h => ?_)
  · obtain ⟨p, m, k, rfl, _⟩ := h
    rfl
  · obtain ⟨p, m, k, rfl, hP, hm0, hm1, hk0, hk1, q⟩ := h
    refine ⟨_, (pss_cons (ps_set (i := 3) sc_Lprogram.nd rfl (Or.inr rfl) (pe_slice sl_str pe_str po_none (po_some (pe_op op_mul pe_int (pv 2)))))
      (pss_one (ps_ret (pe_join pe_str (pe_lc (own := [("_law_turn", 4)]) (g := gName 4) (by rfl) sc_Lprogram.nd (pi_range1 (by rfl) T.z_range (pa_cons (pe_call G_Ltake (hr.mono (by decide)) (by rfl) T.g_Ltake T.F_Ltake.kp T.b_Ltake .nil pass0 (pa_cons (pv 0) (pa_cons (pe_op op_add (pv 1) pe_int) pa_nil))) pa_nil)) (blkOk_by (own := [("_law_turn", 4)]) (N := N_Lprogram) (sc := defScope s_Lprogram) (by decide +kernel)) (fun _ _ _ _ _ => pg_name (i := 4) sc_Lprogram.nd rfl (Or.inl rfl)) (fun _ _ _ _ _ => pts_nil) (fun _ _ _ _ _ => (pe_ix ix_str (pv 3) (pe_call G_Ltake (hr.mono (by decide)) (by rfl) T.g_Ltake T.F_Ltake.kp T.b_Ltake .nil pass0 (pa_cons (pv 0) (pa_cons (pe_op op_mul pe_int (pv 2)) pa_nil))) (fun _ _ => rfl)))))))), ?_⟩
    refine ⟨.int k, rfl, 2, k, rfl, rfl, .inl ⟨by decide, by decide⟩, 2 * k, rfl, "aAbBcCdDeEfFgGhH", rfl, le_line (by decide +kernel), ?_⟩
    refine ⟨⟨_, rfl⟩, .ref p, rfl, .int m, rfl, m, 1, rfl, rfl, p, m + 1, rfl, hP, by omega, by omega, fun n1 m1 d h1 h2 h3 h4 h5 => ?_⟩
    refine ⟨d, rfl, by omega, by omega, fun D hD => ?_⟩
    have hDp : D ≠ p := fun e => by rw [e, upd_same] at hD; cases hD
    have hDH : H D = none := by rw [upd_ne hDp] at hD; exact hD
    refine lc_it walk_range (fun i H3 => ∃ acc : List Nat, Pool H3 p ∧ But p H H3 ∧ H3 D = some (.lst (sV acc)) ∧ acc.length = i ∧ ∀ c ∈ acc, c ∈ cs "aAbBcCdDeEfFgGhH") ?_ (fun _ _ _ _ => trivial) ?_ ?_
    · exact ⟨[], ⟨n1, m1, by rw [upd_ne hDp.symm, upd_same], h1, h2, h3⟩, (But.put But.refl).new hDH, upd_same, rfl, fun c hc => by cases hc⟩
    · rintro i x H3 H4 hi ⟨acc, hP3, b3, eD, la, hc⟩ ⟨rfl, rfl⟩
      refine ⟨rfl, _, rfl, .ref p, rfl, .int k, rfl, 2, k, rfl, rfl, .inl ⟨by decide, by decide⟩, p, 2 * k, rfl, hP3, by omega, by omega, fun n2 m2 e g1 g2 g3 g4 g5 => ?_⟩
      obtain ⟨c, hc1, hc2⟩ := item16 g4 g5 hk1
      have h16 : (Str.length "aAbBcCdDeEfFgGhH") = 16 := by decide +kernel
      refine ⟨_, e, c, rfl, rfl, le_line (Nat.le_trans (cut_len (by omega)) (by rw [h16]; decide)), hc1, sV acc, by rw [upd_ne hDp]; exact eD, ?_, acc ++ [c], ⟨n2, m2, by rw [upd_ne hDp.symm, upd_same], g1, g2, g3⟩, b3.put.new hDH, by rw [upd_same, sV_snoc], by rw [List.length_append, la]; rfl, ?_⟩
      · rw [sV_len]
        exact lt_line (by omega)
      · intro y hy
        rcases List.mem_append.mp hy with h | h
        · exact hc y h
        · rw [List.mem_singleton.mp h]; exact hc2
    · rintro H3 ⟨acc, hP3, b3, eD, la, hc⟩
      refine ⟨"", D, acc.map sg, rfl, rfl, .inl (SqL.of (by rw [eD, sV_eq])), ?_, ?_⟩
      · rw [sum_ones, List.length_map]
        show _ + _ * 0 ≤ 16777216
        omega
      · rw [show Txt.join "" (acc.map sg) = mk acc from str_cs (join_signs acc)]
        exact q H3 _ hP3 b3 (by omega) fun c h => st16_of16 (hc c h)
end
end E03

set_option Elab.async false
set_option linter.all false
set_option maxRecDepth 100000
set_option maxHeartbeats 4000000
namespace E03
open Own PySem PySem.Spec PyProof.Rows L2 Exn Mth Vld Gn StX
section
variable {P : Program} {w : World} {K : PySem.W.Frag} {mg : Str → Option Value} {base : Heap} {a : Ad}
/-- what a call of join gives, as it is told -/
inductive Said (K : PySem.W.Frag) (H : Hp) (xs : List V) : PyData → Prop where
  | good {zs : List Str} (e : xs = zs.map V.str) (ok : ∀ z ∈ zs, okS z "abcdefghABCDEFGH" = true) (l : (Txt.join "" zs).length ≤ 400) : Said K H xs (.str (Txt.join "" zs))
  | limit {zs : List Str} (e : xs = zs.map V.str) (ok : ∀ z ∈ zs, okS z "abcdefghABCDEFGH" = true) (l : 400 < (Txt.join "" zs).length) : Said K H xs (.list [.str "limit", .int 400, .bool true])
  | bad {i : Nat} {x : V} {z : Str} (e : xs[i]? = some x) (pre : ∀ j < i, ∀ y, xs[j]? = some y → okV y "abcdefghABCDEFGH" = true) (no : okV x "abcdefghABCDEFGH" = false) (r : Vv K H x z) : Said K H xs (.list [.str "program", .str z])
theorem strs_inj : ∀ {xs ys : List Str}, xs.map V.str = ys.map V.str → xs = ys
  | [], [], _ => rfl
  | x :: xs, y :: ys, h => by
    injection h with h1 h2
    injection h1 with h1
    rw [h1, strs_inj h2]
theorem ok_at {zs : List Str} (ok : ∀ z ∈ zs, okS z "abcdefghABCDEFGH" = true) {i : Nat} {x : V} (h : (zs.map V.str)[i]? = some x) : okV x "abcdefghABCDEFGH" = true := by
  rw [List.getElem?_map] at h
  cases e : zs[i]? with
  | none => rw [e] at h; cases h
  | some z =>
    rw [e] at h
    cases h
    exact ok z (List.mem_of_getElem? e)
theorem join_of {Cp Cl p : Addr} {H : Hp} {xs : List V} {d : PyData} {Q : VK} {E : XK} (hS : Said K H xs d) (lx : xs.length ≤ 3) (hx : ∀ x ∈ xs, ∃ t, ∀ H', Same H H' → AnyV K H' x t) (np : H p = none)
    (good : ∀ z : Str, d = .str z → ∀ H', Same H H' → Q (.str z) H') (lim : d = .list [.str "limit", .int 400, .bool true] → ∀ H' dd, Same H H' → H dd = none → H' dd = some (.xd [(("limit" : Str), .int 400)]) → E (.ref Cl) (some dd) H')
    (bad : ∀ x z, Vv K H x z → d = .list [.str "program", .str z] → ∀ H' dd, Same H H' → H dd = none → H' dd = some (.xd [(("value" : Str), x)]) → E (.ref Cp) (some dd) H') : sp_join Cp Cl K [.ref p] (upd H p (.tup xs)) Q E := by
  have sp := same_new (o := .tup xs) np
  refine ⟨p, xs, rfl, upd_same, by omega, fun x hx' => ?_, fun zs' e' ok' => ?_, fun i x hi pre no H' dd s' nd ed => ?_⟩
  · obtain ⟨t, ht⟩ := hx x hx'
    exact ⟨t, ht _ sp⟩
  · cases hS with
    | @good zs e ok l =>
      obtain rfl := strs_inj (e.symm.trans e')
      exact ⟨fun _ H' s' => good _ rfl H' (sp.trans s'), fun h => by omega⟩
    | @limit zs e ok l =>
      obtain rfl := strs_inj (e.symm.trans e')
      exact ⟨fun h => by omega, fun _ H' dd s' nd ed => lim rfl H' dd (sp.trans s') (sp.free nd) ed⟩
    | @bad i x z e pre no r =>
      rw [e'] at e
      rw [ok_at ok' e] at no
      cases no
  · cases hS with
    | @good zs e ok l => rw [e] at hi; rw [ok_at ok hi] at no; cases no
    | @limit zs e ok l => rw [e] at hi; rw [ok_at ok hi] at no; cases no
    | @bad i' x' z e pre' no' r =>
      obtain rfl : i = i' := by
        rcases Nat.lt_trichotomy i i' with h | h | h
        · rw [pre' i h x hi] at no; cases no
        · exact h
        · rw [pre i' h x' e] at no'; cases no'
      rw [e] at hi
      cases hi
      exact bad x z r rfl H' dd (sp.trans s') (sp.free nd) ed
def sp_Lsaid (K : PySem.W.Frag) : Sp := fun vs H Q _ => ∃ (L : Addr) (xs : List V) (d : PyData), vs = [.ref L] ∧ H L = some (.lst xs) ∧ xs.length ≤ 3 ∧ (∀ x ∈ xs, ∃ t, ∀ H', Same H H' → AnyV K H' x t) ∧ Said K H xs d ∧ ∀ H' r, Same H H' → Dp K H' r d → Q r H'
theorem ok_Lsaid (T : Txt K mg a) (hd : Hd K a) : FnG P w K mg base CX0 5 a.f_Lsaid a.d_Lsaid ["_law_some"] (sp_Lsaid K) := by
  have G_join := ok_join (P := P) (w := w) (base := base) T
  refine Fun_okG T.F_Lsaid sc_Lsaid (fun vs H Q E h => ?_) (fun cdv A outer s H vs Q E hg hr h => ?_)
  · obtain ⟨L, xs, d, rfl, _⟩ := h
    rfl
  · obtain ⟨L, xs, d, rfl, eL, lx, hx, hS, q⟩ := h
    have hun := hr.un
    have hu2 : (A.deeper (envOfC "_law_said" (defScope s_Lsaid) s.heap.objs.size a.f_Lsaid cdv)).units + 200 < cLine := by omega
    refine ⟨_, (pss_one (Cmx.ps_tryN (i := 1) (n := "e") (Wout := fun _ _ _ _ => False) rfl rfl sc_Lsaid.nd rfl rfl takes0
          (fun W pn xe tk ow => by exact (pss_cons (ps_if (pt_cmpR op_eq (pe_callB (Cmx.call_lenQ : CallR _ (.builtin "len") (Cmx.rLenQ K)) (by rfl) T.z_len (by decide +kernel) (pa_cons (pv 0) pa_nil)) pe_int (nomark _))
            (pss_one (ps_ret (Cmx.pe_callFRS0 G_join (hr.mono (by decide)) (by rfl) T.g_join T.F_join.kp (fun σ => passAt tk σ))))
            pss_nil)
          (pss_cons (ps_if (pt_cmpR op_eq (pe_callB (Cmx.call_lenQ : CallR _ (.builtin "len") (Cmx.rLenQ K)) (by rfl) T.z_len (by decide +kernel) (pa_cons (pv 0) pa_nil)) pe_int (nomark _))
            (pss_one (ps_ret (Cmx.pe_callFRS G_join (hr.mono (by decide)) (by rfl) T.g_join T.F_join.kp (fun σ => passAt tk σ) (pa_cons (pe_ix (ix_list : IxR _ (rIxL K)) (pv 0) pe_int (fun _ _ => rfl)) pa_nil))))
            pss_nil)
          (pss_cons (ps_if (pt_cmpR op_eq (pe_callB (Cmx.call_lenQ : CallR _ (.builtin "len") (Cmx.rLenQ K)) (by rfl) T.z_len (by decide +kernel) (pa_cons (pv 0) pa_nil)) pe_int (nomark _))
            (pss_one (ps_ret (Cmx.pe_callFRS G_join (hr.mono (by decide)) (by rfl) T.g_join T.F_join.kp (fun σ => passAt tk σ) (pa_cons (pe_ix (ix_list : IxR _ (rIxL K)) (pv 0) pe_int (fun _ _ => rfl)) (pa_cons (pe_ix (ix_list : IxR _ (rIxL K)) (pv 0) pe_int (fun _ _ => rfl)) pa_nil)))))
            pss_nil)
          (pss_one (ps_ret (Cmx.pe_callFRS G_join (hr.mono (by decide)) (by rfl) T.g_join T.F_join.kp (fun σ => passAt tk σ) (pa_cons (pe_ix (ix_list : IxR _ (rIxL K)) (pv 0) pe_int (fun _ _ => rfl)) (pa_cons (pe_ix (ix_list : IxR _ (rIxL K)) (pv 0) pe_int (fun _ _ => rfl)) (pa_cons (pe_ix (ix_list : IxR _ (rIxL K)) (pv 0) pe_int (fun _ _ => rfl)) pa_nil))))))))))
          (.cons ⟨rfl, by decide, .inl T.e_InvalidProgram.gC⟩ (fun q oq cls d pn hz hf => by exact (pss_one (ps_ret (pe_lst (pa_cons pe_str (pa_cons (pe_callB (call_reprRU hg hu2 : CallR _ (.builtin "repr") (rReprR K)) (by rfl) T.z_repr (by decide +kernel) (pa_cons (pe_got hz hf (pv 1) : PE _ _ (tGot K "value" q cls d _)) pa_nil)) pa_nil))))))
          (.cons ⟨rfl, by decide, .inl T.e_LimitExceeded.gC⟩ (fun q oq cls d pn hz hf => by exact (pss_one (ps_ret (pe_lst (pa_cons pe_str (pa_cons (pe_got hz hf (pv 1) : PE _ _ (tGot K "limit" q cls d _)) (pa_cons (pe_callB (call_isGot hz hf : CallR _ (.builtin "isinstance") (rIsGot K q cls d)) (by rfl) T.z_isinstance (by decide +kernel) (pa_cons (pv 1) (pa_cons (pe_bltn (v := .ty "OverflowError") (by rfl) T.z_OverflowError (by decide +kernel) rfl) pa_nil))) pa_nil)))))))
          .nil)))), ?_⟩
    obtain ⟨P1, P2⟩ := xv_of T.h_InvalidProgram hd.hn hd.hk
    obtain ⟨L1, L2⟩ := xv_of T.h_LimitExceeded hd.hn hd.hk
    match xs, lx with
    | [], lx =>
      refine ⟨.ref L, rfl, L, _, rfl, .inl (SqL.of eL), rfl, _, rfl, iteT ?_⟩
      refine ⟨[], [], rfl, rfl, le_line (show 0 ≤ 100000 by decide), fun p np => join_of hS lx hx np (fun z ez H' s' => q H' _ s' (ez ▸ .str z)) (fun ed H' dd s' nd ee => ?_) (fun x z r ed H' dd s' nd ee => ?_)⟩
      · refine ⟨false, hd.x_LimitExceeded_InvalidProgram, (fun h => nomatch h), fun _ => ⟨true, hd.x_LimitExceeded_LimitExceeded, fun _ q0 _ => ?_, (fun h => nomatch h)⟩⟩
        exact ⟨.ref q0, rfl, rfl, _, dd, _, .int 400, rfl, rfl, ee, lk1, L1, L2, .ref q0, rfl, a.C_LimitExceeded, dd, _, _, _, true, rfl, .ty _, rfl, rfl, ee, L1, hd.i_LimitExceeded_OverflowError, le_line (show 3 ≤ 100000 by decide), fun l nl => q _ _ (s'.trans (same_new nl)) (ed ▸ .lst (SqL.of upd_same) (.cons (.str _) (.cons (.int _) (.cons (.bl _) .nil))))⟩
      · refine ⟨true, hd.x_InvalidProgram_InvalidProgram, fun _ q0 _ => ?_, (fun h => nomatch h)⟩
        exact ⟨.ref q0, rfl, rfl, _, dd, _, x, rfl, rfl, ee, lk1, P1, P2, r.rep H' s' _ ⟨le_line (show 2 ≤ 100000 by decide), fun l nl => q _ _ (s'.trans (same_new nl)) (ed ▸ .lst (SqL.of upd_same) (.cons (.str _) (.cons (.str _) .nil)))⟩⟩
    | [x], lx =>
      refine ⟨.ref L, rfl, L, _, rfl, .inl (SqL.of eL), rfl, _, rfl, iteF ?_⟩
      refine ⟨.ref L, rfl, L, _, rfl, .inl (SqL.of eL), rfl, _, rfl, iteT ?_⟩
      refine ⟨.ref L, rfl, L, _, 0, x, rfl, rfl, SqL.of eL, atI_nat (j := 0) rfl, [], [x], rfl, rfl, le_line (show 1 ≤ 100000 by decide), fun p np => join_of hS lx hx np (fun z ez H' s' => q H' _ s' (ez ▸ .str z)) (fun ed H' dd s' nd ee => ?_) (fun x z r ed H' dd s' nd ee => ?_)⟩
      · refine ⟨false, hd.x_LimitExceeded_InvalidProgram, (fun h => nomatch h), fun _ => ⟨true, hd.x_LimitExceeded_LimitExceeded, fun _ q0 _ => ?_, (fun h => nomatch h)⟩⟩
        exact ⟨.ref q0, rfl, rfl, _, dd, _, .int 400, rfl, rfl, ee, lk1, L1, L2, .ref q0, rfl, a.C_LimitExceeded, dd, _, _, _, true, rfl, .ty _, rfl, rfl, ee, L1, hd.i_LimitExceeded_OverflowError, le_line (show 3 ≤ 100000 by decide), fun l nl => q _ _ (s'.trans (same_new nl)) (ed ▸ .lst (SqL.of upd_same) (.cons (.str _) (.cons (.int _) (.cons (.bl _) .nil))))⟩
      · refine ⟨true, hd.x_InvalidProgram_InvalidProgram, fun _ q0 _ => ?_, (fun h => nomatch h)⟩
        exact ⟨.ref q0, rfl, rfl, _, dd, _, x, rfl, rfl, ee, lk1, P1, P2, r.rep H' s' _ ⟨le_line (show 2 ≤ 100000 by decide), fun l nl => q _ _ (s'.trans (same_new nl)) (ed ▸ .lst (SqL.of upd_same) (.cons (.str _) (.cons (.str _) .nil)))⟩⟩
    | [x, y], lx =>
      refine ⟨.ref L, rfl, L, _, rfl, .inl (SqL.of eL), rfl, _, rfl, iteF ?_⟩
      refine ⟨.ref L, rfl, L, _, rfl, .inl (SqL.of eL), rfl, _, rfl, iteF ?_⟩
      refine ⟨.ref L, rfl, L, _, rfl, .inl (SqL.of eL), rfl, _, rfl, iteT ?_⟩
      refine ⟨.ref L, rfl, L, _, 0, x, rfl, rfl, SqL.of eL, atI_nat (j := 0) rfl, .ref L, rfl, L, _, 1, y, rfl, rfl, SqL.of eL, atI_nat (j := 1) rfl, [], [x, y], rfl, rfl, le_line (show 2 ≤ 100000 by decide), fun p np => join_of hS lx hx np (fun z ez H' s' => q H' _ s' (ez ▸ .str z)) (fun ed H' dd s' nd ee => ?_) (fun x z r ed H' dd s' nd ee => ?_)⟩
      · refine ⟨false, hd.x_LimitExceeded_InvalidProgram, (fun h => nomatch h), fun _ => ⟨true, hd.x_LimitExceeded_LimitExceeded, fun _ q0 _ => ?_, (fun h => nomatch h)⟩⟩
        exact ⟨.ref q0, rfl, rfl, _, dd, _, .int 400, rfl, rfl, ee, lk1, L1, L2, .ref q0, rfl, a.C_LimitExceeded, dd, _, _, _, true, rfl, .ty _, rfl, rfl, ee, L1, hd.i_LimitExceeded_OverflowError, le_line (show 3 ≤ 100000 by decide), fun l nl => q _ _ (s'.trans (same_new nl)) (ed ▸ .lst (SqL.of upd_same) (.cons (.str _) (.cons (.int _) (.cons (.bl _) .nil))))⟩
      · refine ⟨true, hd.x_InvalidProgram_InvalidProgram, fun _ q0 _ => ?_, (fun h => nomatch h)⟩
        exact ⟨.ref q0, rfl, rfl, _, dd, _, x, rfl, rfl, ee, lk1, P1, P2, r.rep H' s' _ ⟨le_line (show 2 ≤ 100000 by decide), fun l nl => q _ _ (s'.trans (same_new nl)) (ed ▸ .lst (SqL.of upd_same) (.cons (.str _) (.cons (.str _) .nil)))⟩⟩
    | [x, y, z], lx =>
      refine ⟨.ref L, rfl, L, _, rfl, .inl (SqL.of eL), rfl, _, rfl, iteF ?_⟩
      refine ⟨.ref L, rfl, L, _, rfl, .inl (SqL.of eL), rfl, _, rfl, iteF ?_⟩
      refine ⟨.ref L, rfl, L, _, rfl, .inl (SqL.of eL), rfl, _, rfl, iteF ?_⟩
      refine ⟨.ref L, rfl, L, _, 0, x, rfl, rfl, SqL.of eL, atI_nat (j := 0) rfl, .ref L, rfl, L, _, 1, y, rfl, rfl, SqL.of eL, atI_nat (j := 1) rfl, .ref L, rfl, L, _, 2, z, rfl, rfl, SqL.of eL, atI_nat (j := 2) rfl, [], [x, y, z], rfl, rfl, le_line (show 3 ≤ 100000 by decide), fun p np => join_of hS lx hx np (fun z ez H' s' => q H' _ s' (ez ▸ .str z)) (fun ed H' dd s' nd ee => ?_) (fun x z r ed H' dd s' nd ee => ?_)⟩
      · refine ⟨false, hd.x_LimitExceeded_InvalidProgram, (fun h => nomatch h), fun _ => ⟨true, hd.x_LimitExceeded_LimitExceeded, fun _ q0 _ => ?_, (fun h => nomatch h)⟩⟩
        exact ⟨.ref q0, rfl, rfl, _, dd, _, .int 400, rfl, rfl, ee, lk1, L1, L2, .ref q0, rfl, a.C_LimitExceeded, dd, _, _, _, true, rfl, .ty _, rfl, rfl, ee, L1, hd.i_LimitExceeded_OverflowError, le_line (show 3 ≤ 100000 by decide), fun l nl => q _ _ (s'.trans (same_new nl)) (ed ▸ .lst (SqL.of upd_same) (.cons (.str _) (.cons (.int _) (.cons (.bl _) .nil))))⟩
      · refine ⟨true, hd.x_InvalidProgram_InvalidProgram, fun _ q0 _ => ?_, (fun h => nomatch h)⟩
        exact ⟨.ref q0, rfl, rfl, _, dd, _, x, rfl, rfl, ee, lk1, P1, P2, r.rep H' s' _ ⟨le_line (show 2 ≤ 100000 by decide), fun l nl => q _ _ (s'.trans (same_new nl)) (ed ▸ .lst (SqL.of upd_same) (.cons (.str _) (.cons (.str _) .nil)))⟩⟩
end
end E03

set_option Elab.async false
set_option linter.all false
set_option maxRecDepth 100000
set_option maxHeartbeats 4000000
namespace E03
open Own PySem PySem.Spec PyProof.Rows L2 Exn Mth Vld Gn StX
section
variable {P : Program} {w : World} {K : PySem.W.Frag} {mg : Str → Option Value} {base : Heap} {a : Ad}
theorem dp_iV {H : Hp} : ∀ l : List Nat, DpAll K H (iV l) (l.map fun j => PyData.int (j : Nat))
  | [] => .nil
  | _ :: l => .cons (.int _) (dp_iV l)
theorem low_put {c : Nat} (h : 97 ≤ c) : lowC c = c := if_neg (by omega)
theorem in8 {c : Nat} (h : c ∈ st16) : decide (c ∈ cs "abcdefgh") = decide (97 ≤ c) := by
  have key : ∀ c ∈ cs "abcdefghABCDEFGH", decide (c ∈ cs "abcdefgh") = decide (97 ≤ c) := by decide +kernel
  exact key c h
theorem rowS.put {H : Hp} {D : Addr} {xs : List V} {o : HO} {c : Nat} {v : V} (h : rowS H c v) (hD : H D = some (.lst xs)) : rowS (upd H D o) c v := by
  obtain ⟨t, e, g⟩ := h
  refine ⟨t, e, (upd_ne fun z => ?_).trans g⟩
  rw [z, hD] at g
  cases g
theorem Rows.put {H : Hp} {D : Addr} {xs : List V} {o : HO} {p : List Nat} {ys : List V} (h : Rows H p ys) (hD : H D = some (.lst xs)) : Rows (upd H D o) p ys := h.mono fun y c r => r.put hD
def rowD (c : Nat) : PyData := .tuple [.str (if 97 ≤ c then "put" else "take"), .str (sg (lowC c))]
theorem rows_dp {H : Hp} {p : List Nat} {ys : List V} (h : Rows H p ys) : DpAll K H ys (p.map rowD) := by
  induction h with
  | nil => exact .nil
  | cons r _ ih =>
    obtain ⟨t, rfl, g⟩ := r
    exact .cons (.tup (SqT.of g) (.cons (.str _) (.cons (.str _) .nil))) ih
theorem row_ok : ∀ c ∈ cs "abcdefghABCDEFGH", (rowD c).canLay0 = true ∧ (rowD c).depth = 1 := by decide +kernel
theorem rows_sh {p : List Nat} (h : ∀ c ∈ p, c ∈ st16) : SeqAt.shaped (.list (p.map rowD)) = true := by
  have a : PyData.canLayAll0 (p.map rowD) = true := by
    induction p with
    | nil => rfl
    | cons c p ih =>
      show ((rowD c).canLay0 && PyData.canLayAll0 (p.map rowD)) = true
      rw [(row_ok c (h c List.mem_cons_self)).1, ih fun x hx => h x (List.mem_cons_of_mem _ hx)]
      rfl
  have b : PyData.depthAll (p.map rowD) ≤ 1 := by
    clear a
    induction p with
    | nil => exact Nat.zero_le _
    | cons c p ih =>
      show max (rowD c).depth (PyData.depthAll (p.map rowD)) ≤ 1
      rw [(row_ok c (h c List.mem_cons_self)).2]
      exact Nat.max_le.mpr ⟨Nat.le_refl _, ih fun x hx => h x (List.mem_cons_of_mem _ hx)⟩
  unfold SeqAt.shaped
  have c : PyData.canLay0 (.list (p.map rowD)) = true := a
  have d : PyData.depth (.list (p.map rowD)) ≤ 64 := Nat.le_trans (Nat.succ_le_succ b) (by decide)
  rw [c, decide_eq_true d]
  rfl
theorem pcS_end (c : Nat) : ∀ (l : List Nat) (n : Nat), pcS n (l ++ [c]) = pcS n l ++ (if 97 ≤ c then [] else [n + (puS l).length])
  | [], n => by
    show pcS n [c] = _
    rw [pcS_cons]
    split <;> rfl
  | x :: l, n => by
    rw [List.cons_append, pcS_cons, pcS_cons]
    have e : puS (x :: l) = (if 97 ≤ x then x :: puS l else puS l) := by
      unfold puS
      by_cases h : 97 ≤ x
      · rw [if_pos h, List.filter_cons_of_pos (by rw [decide_eq_true h])]
      · rw [if_neg h, List.filter_cons_of_neg (by rw [decide_eq_false h]; exact Bool.false_ne_true)]
    rw [e]
    by_cases h : 97 ≤ x
    · rw [if_pos h, if_pos h, if_pos h, pcS_end c l (n + 1), List.length_cons, show n + 1 + (puS l).length = n + ((puS l).length + 1) by omega]
    · rw [if_neg h, if_neg h, if_neg h, pcS_end c l n]
      rfl
def sp_Lright : Sp := fun vs H Q _ => ∃ p : List Nat, vs = [.str (mk p)] ∧ p.length ≤ 400 ∧ (∀ c ∈ p, c ∈ st16) ∧ ∀ H', Same H H' → Q (.bl true) H'
theorem ok_Lright (T : Txt K mg a) : FnOk P w K mg base CX0 8 a.f_Lright a.d_Lright ["_law_prog"] sp_Lright := by
  have G_takes := ok_takes (P := P) (w := w) (base := base) T
  have G_puts := ok_puts (P := P) (w := w) (base := base) T
  have G_put_counts := ok_put_counts (P := P) (w := w) (base := base) T
  have G_steps := ok_steps (P := P) (w := w) (base := base) T
  refine T.F_Lright.ok sc_Lright (fun vs H Q E h => ?_) (fun cdv A outer s H vs Q E hr h => ?_)
  · obtain ⟨p, rfl, _⟩ := h
    rfl
  · obtain ⟨p, rfl, lp, cp, q⟩ := h
    refine ⟨_, (pss_cons (ps_asg (pe_tup (pa_cons pe_str (pa_cons pe_str (pa_cons (pe_lst pa_nil) (pa_cons (pe_lst pa_nil) pa_nil))))) (pg_tup rfl (pgs_cons (pg_name (i := 1) sc_Lright.nd rfl (Or.inl rfl)) (pgs_cons (pg_name (i := 2) sc_Lright.nd rfl (Or.inl rfl)) (pgs_cons (pg_name (i := 3) sc_Lright.nd rfl (Or.inl rfl)) (pgs_cons (pg_name (i := 4) sc_Lright.nd rfl (Or.inl rfl)) pgs_nil))))))
      (pss_cons (ps_for PassesOwn.never rfl (pi_str (pv 0)) (pg_name (i := 5) sc_Lright.nd rfl (Or.inl rfl))
        (pss_one (ps_if (pt_cmpR op_in_sign (pv 5) pe_str (by rfl))
          (pss_cons (ps_set (i := 2) sc_Lright.nd rfl (Or.inl rfl) (pe_op op_add_str (pv 2) (pv 5)))
          (pss_one (ps_expr (pe_bm PySem.F.plainAttrs_list PySem.F.slot_list_append PySem.F.type_list_append mt_append (pv 4) (pa_cons (pe_tup (pa_cons pe_str (pa_cons (pv 5) pa_nil))) pa_nil)))))
          (pss_cons (ps_set (i := 1) sc_Lright.nd rfl (Or.inl rfl) (pe_op op_add_str (pv 1) (pe_lower (pv 5))))
          (pss_cons (ps_expr (pe_bm PySem.F.plainAttrs_list PySem.F.slot_list_append PySem.F.type_list_append mt_append (pv 3) (pa_cons (pe_callB call_len_str (by rfl) T.z_len (by decide +kernel) (pa_cons (pv 2) pa_nil)) pa_nil)))
          (pss_one (ps_expr (pe_bm PySem.F.plainAttrs_list PySem.F.slot_list_append PySem.F.type_list_append mt_append (pv 4) (pa_cons (pe_tup (pa_cons pe_str (pa_cons (pe_lower (pv 5)) pa_nil))) pa_nil)))))))))
      (pss_cons (ps_if (PW.pt (pw_or (pt_cmpR op_ne (pe_callS G_takes (hr.mono (by decide)) (by rfl) T.g_takes T.F_takes.kp T.b_takes (fun σ => passAt takes0 σ) (pa_cons (pv 0) pa_nil)) (pv 1) (nomark _)) (pw_or (pt_cmpR op_ne (pe_callS G_puts (hr.mono (by decide)) (by rfl) T.g_puts T.F_puts.kp T.b_puts (fun σ => passAt takes0 σ) (pa_cons (pv 0) pa_nil)) (pv 2) (nomark _)) (pw_or1 (pt_cmpR (op_neD hr.units) (pe_callS G_put_counts (hr.mono (by decide)) (by rfl) T.g_put_counts T.F_put_counts.kp T.b_put_counts (fun σ => passAt takes0 σ) (pa_cons (pv 0) pa_nil)) (pv 3) (nomark _))))))
        (pss_one (ps_ret pe_bl))
        pss_nil)
      (pss_one (ps_ret (pe_and (pe_cmpR (op_eqD hr.units) (Gcs.pe_lcG (by rfl) sc_Lright.nd (hr.mono (by decide)) (Gcs.pgy_call G_steps (hr.mono (by decide)) (by rfl) T.g_steps T.F_steps.kp T.b_steps (pa_cons (pv 0) pa_nil)) (blkOk_by (own := [("_law_row", 6)]) (N := N_Lright) (sc := defScope s_Lright) (by decide +kernel)) (fun _ _ => rfl) (fun _ _ => rfl)) (pv 4) (nomark _)) (pe_one (pe_cmpR (op_eqD hr.units) (pe_listG (Gcs.PGenY.list (Gcs.pgy_callK0 G_steps (hr.mono (by decide)) (by rfl) T.g_steps T.F_steps.kp T.kb_steps (pk_cons (pv 0) pk_nil))) (passes_call takes0 fun _ _ _ _ h => h) (fun _ _ _ h => h.elim) (hr.mono (by decide)) (by rfl) T.z_list (by decide +kernel)) (pv 4) (nomark _))))))))), ?_⟩
    refine ⟨Nat.zero_le _, fun N nN => ⟨Nat.zero_le _, fun R nR => ?_⟩⟩
    have RN : R ≠ N := fun e => by rw [e, upd_same] at nR; cases nR
    have nR0 : H R = none := by rw [upd_ne RN] at nR; exact nR
    refine ⟨le_line (show 4 ≤ 100000 by decide), fun t nt => ?_⟩
    have sA := (same_new (o := .lst []) nN).trans ((same_new (o := .lst []) nR).trans (same_new (o := .tup [.str "", .str "", .ref N, .ref R]) nt))
    have st := same_new (o := .tup [.str "", .str "", .ref N, .ref R]) nt
    have eN := st _ _ (same_new (o := .lst []) nR _ _ (upd_same (H := H) (a := N) (o := .lst [])))
    have eR := st _ _ (upd_same (H := upd H N (.lst [])) (a := R) (o := .lst []))
    have et := upd_same (H := upd (upd H N (.lst [])) R (.lst [])) (a := t) (o := .tup [.str "", .str "", .ref N, .ref R])
    generalize upd (upd (upd H N (.lst [])) R (.lst [])) t (.tup [.str "", .str "", .ref N, .ref R]) = HA at sA eN eR et
    refine ⟨t, _, rfl, SqT.of et, rfl, _, _, rfl, _, _, rfl, _, _, rfl, _, _, rfl, rfl, ?_⟩
    refine ⟨.str (mk p), rfl, mk p, rfl, ?_⟩
    refine for_it walk_str (fun i σ HJ => ∃ (ys : List V) (y5 y6 : Option V), σ = [some (.str (mk p)), some (.str (mk (tkS (p.take i)))), some (.str (mk (puS (p.take i)))), some (.ref N), some (.ref R), y5, y6] ∧ Same H HJ ∧ HJ N = some (.lst (iV (pcS 0 (p.take i)))) ∧ HJ R = some (.lst ys) ∧ Rows HJ (p.take i) ys) ?_ (fun _ _ _ _ _ => trivial) ?_ ?_
    · exact ⟨[], none, none, rfl, sA, eN, eR, .nil⟩
    · rintro i x σ HJ HJ' hi ⟨ys, y5, y6, rfl, sJ, eN, eR, hy⟩ ⟨rfl, c, hc, rfl⟩
      obtain ⟨ts, cm⟩ := take_snoc hi hc
      rw [cs_mk] at ts cm
      have c16 := cp c cm
      obtain ⟨u1, u2, u3⟩ := letters c c16
      have hi' : i < p.length := by have : i < (mk p).length := hi; rwa [len_mk] at this
      have ltk : (p.take i).length ≤ 400 := by rw [List.length_take]; omega
      have hyl : ys.length ≤ 400 := by have := hy.length; omega
      have lpu : (puS (p.take i)).length ≤ 400 := Nat.le_trans (List.length_filter_le _ _) ltk
      have ltt : (tkS (p.take i)).length ≤ 400 := by unfold tkS; rw [List.length_map]; exact Nat.le_trans (List.length_filter_le _ _) ltk
      have lpc : (pcS 0 (p.take i)).length ≤ 400 := by rw [pcS_len]; exact ltt
      rw [ts, puS_snoc, tkS_snoc, pcS_end, Nat.zero_add]
      refine ⟨.str (sg c), rfl, c, _, rfl, rfl, _, rfl, ?_⟩
      rw [show decide (c ∈ (Str.ofString "abcdefgh").cps.toList) = decide (97 ≤ c) from in8 c16]
      by_cases hu : 97 ≤ c
      · rw [decide_eq_true hu, if_pos hu, if_pos hu, if_neg (show ¬ c < 97 by omega), List.append_nil, List.append_nil]
        refine iteT ⟨.str (mk (puS (p.take i))), rfl, .str (sg c), rfl, _, _, rfl, rfl, le_line (by rw [len_mk]; show _ + 1 ≤ _; omega), ?_⟩
        rw [app_sg]
        refine ⟨.ref R, rfl, .inl ⟨rfl, _, SqL.of eR⟩, .str (sg c), rfl, le_line (show 2 ≤ 100000 by decide), fun t nt => ?_⟩
        have eR' := same_new (o := .tup [.str "put", .str (sg c)]) nt _ _ eR
        have eN' := same_new (o := .tup [.str "put", .str (sg c)]) nt _ _ eN
        have hy' := hy.same (same_new (o := .tup [.str "put", .str (sg c)]) nt)
        refine ⟨R, _, _, rfl, rfl, eR', lt_line (by omega), ?_⟩
        refine ⟨ys ++ [.ref t], _, _, rfl, same_put (sJ.trans (same_new nt)) nR0, (upd_ne RN.symm).trans eN', upd_same, (hy'.snoc ⟨t, rfl, ?_⟩).put eR'⟩
        rw [upd_same, low_put hu, if_pos hu]
      · rw [decide_eq_false hu, if_neg hu, if_neg hu, if_pos (show c < 97 by omega), List.append_nil]
        refine iteF ⟨.str (mk (tkS (p.take i))), rfl, .str (sg c), rfl, ⟨_, rfl⟩, sg c, rfl, rfl, line1, ?_⟩
        rw [u3]
        refine ⟨_, _, rfl, rfl, le_line (by rw [len_mk]; show _ + 1 ≤ _; omega), ?_⟩
        rw [app_sg]
        refine ⟨.ref N, rfl, .inl ⟨rfl, _, SqL.of eN⟩, .str (mk (puS (p.take i))), rfl, mk (puS (p.take i)), rfl, le_line (by rw [len_mk]; omega), N, _, _, rfl, rfl, eN, lt_line (by rw [iV_len]; omega), ?_⟩
        have eR2 : upd HJ' N (.lst (iV (pcS 0 (p.take i)) ++ [.int ((mk (puS (p.take i))).length : Nat)])) R = some (.lst ys) := (upd_ne RN).trans eR
        have eN2 : upd HJ' N (.lst (iV (pcS 0 (p.take i)) ++ [.int ((mk (puS (p.take i))).length : Nat)])) N = some (.lst (iV (pcS 0 (p.take i) ++ [(puS (p.take i)).length]))) := by rw [upd_same, len_mk, iV_snoc]
        have hy2 := hy.put (o := .lst (iV (pcS 0 (p.take i)) ++ [.int ((mk (puS (p.take i))).length : Nat)])) eN
        have sJ2 := same_put (o := .lst (iV (pcS 0 (p.take i)) ++ [.int ((mk (puS (p.take i))).length : Nat)])) sJ nN
        generalize upd HJ' N (.lst (iV (pcS 0 (p.take i)) ++ [.int ((mk (puS (p.take i))).length : Nat)])) = HK at eR2 eN2 hy2 sJ2
        refine ⟨.ref R, rfl, .inl ⟨rfl, _, SqL.of eR2⟩, .str (sg c), rfl, ⟨_, rfl⟩, sg c, rfl, rfl, line1, ?_⟩
        rw [u3]
        refine ⟨le_line (show 2 ≤ 100000 by decide), fun t nt => ?_⟩
        have eR' := same_new (o := .tup [.str "take", .str (sg (lowC c))]) nt _ _ eR2
        have eN' := same_new (o := .tup [.str "take", .str (sg (lowC c))]) nt _ _ eN2
        have hy' := hy2.same (same_new (o := .tup [.str "take", .str (sg (lowC c))]) nt)
        refine ⟨R, _, _, rfl, rfl, eR', lt_line (by omega), ?_⟩
        refine ⟨ys ++ [.ref t], _, _, rfl, same_put (sJ2.trans (same_new nt)) nR0, (upd_ne RN.symm).trans eN', upd_same, (hy'.snoc ⟨t, rfl, ?_⟩).put eR'⟩
        rw [upd_same, if_neg hu]
    · rintro σ HJ ⟨ys, y5, y6, rfl, sJ, eN, eR, hy⟩
      rw [List.take_of_length_le (by show p.length ≤ (mk p).length; rw [len_mk]; exact Nat.le_refl _)] at eN hy ⊢
      have shI : SeqAt.shaped (.list ((pcS 0 p).map fun j => PyData.int (j : Nat))) = true := shaped_ints _
      have shR := rows_sh cp
      refine ⟨.str (mk p), rfl, p, rfl, lp, cp, fun H1 s1 => ⟨.str (mk (tkS p)), rfl, rfl, _, rfl, ?_⟩⟩
      rw [decide_eq_true rfl]
      refine iteF ⟨.str (mk p), rfl, p, rfl, lp, cp, fun H2 s2 => ⟨.str (mk (puS p)), rfl, rfl, _, rfl, ?_⟩⟩
      rw [decide_eq_true rfl]
      refine iteF ⟨.str (mk p), rfl, p, rfl, lp, cp, fun H3 o s3 no eo => ⟨.ref N, rfl, _, _, .lst (SqL.of eo) (dp_iV _), .lst (SqL.of (s3 _ _ (s2 _ _ (s1 _ _ eN)))) (dp_iV _), shI, shI, _, rfl, ?_⟩⟩
      rw [eqv_sh shI]
      have s4 := s1.trans (s2.trans s3)
      refine iteF ?_
      refine ⟨.str (mk p), rfl, fun _ _ => True, p, rfl, lp, cp, fun _ _ => trivial, fun H5 zs s5 hz D nD => ?_⟩
      have s6 := s5.trans (same_new (o := .lst zs) nD)
      refine ⟨.ref R, rfl, _, _, .lst (SqL.of upd_same) (rows_dp (hz.same (same_new nD))), .lst (SqL.of (s6 _ _ (s4 _ _ eR))) (rows_dp (hy.same (s4.trans s6))), shR, shR, _, rfl, ?_⟩
      rw [eqv_sh shR]
      refine ⟨.str (mk p), rfl, fun _ _ => True, p, rfl, lp, cp, fun _ _ => trivial, fun H7 zs2 s7 hz2 D2 nD2 => ?_⟩
      have s8 := s7.trans (same_new (o := .lst zs2) nD2)
      refine ⟨.ref R, rfl, _, _, .lst (SqL.of upd_same) (rows_dp (hz2.same (same_new nD2))), .lst (SqL.of (s8 _ _ (s6 _ _ (s4 _ _ eR)))) (rows_dp (hy.same (s4.trans (s6.trans s8)))), shR, shR, ?_⟩
      rw [eqv_sh shR]
      exact q _ (sJ.trans (s4.trans (s6.trans s8)))
end
end E03

set_option Elab.async false
set_option linter.all false
set_option maxRecDepth 100000
set_option maxHeartbeats 4000000
namespace E03
open Own PySem PySem.Spec PyProof.Rows L2 Exn Mth Vld Gn StX
section
variable {P : Program} {w : World} {K : PySem.W.Frag} {mg : Str → Option Value} {base : Heap} {a : Ad}
theorem take_min {α : Type} (xs : List α) (k : Nat) : xs.take (min k xs.length) = xs.take k := by
  rcases Nat.le_total k xs.length with h | h
  · rw [Nat.min_eq_left h]
  · rw [Nat.min_eq_right h, List.take_length, List.take_of_length_le h]
theorem cutV_to {xs : List V} {k : Nat} : cutV xs none (some (k : Int)) = xs.take k := by
  unfold cutV
  rw [HT.sIx_none, HT.sIx_nat, List.drop_zero, Nat.sub_zero, take_min]
theorem cutV_fromI (xs : List V) (k : Nat) : cutV xs (some ((k : Nat) : Int)) none = xs.drop k := by
  unfold cutV
  rw [HT.sIx_none, HT.sIx_nat]
  rcases Nat.le_total k xs.length with h | h
  · rw [Nat.min_eq_left h, List.take_of_length_le (by rw [List.length_drop]; exact Nat.le_refl _)]
  · rw [Nat.min_eq_right h, List.drop_length, List.drop_eq_nil_of_le h, List.take_nil]
theorem join_flat (zs : List (List Nat)) : Txt.join "" (zs.map mk) = mk zs.flatten := by
  have core : ∀ zs : List (List Nat), cs (Str.join "" (zs.map mk)) = zs.flatten := by
    intro zs
    induction zs with
    | nil => rfl
    | cons z zs ih =>
      cases zs with
      | nil =>
        show cs (mk z) = _
        rw [cs_mk]
        simp
      | cons y zs =>
        show cs (mk z ++ "" ++ Str.join "" ((y :: zs).map mk)) = _
        have e : ∀ x y : Str, cs (x ++ y) = cs x ++ cs y := fun x y => Array.toList_append
        rw [e, e, cs_mk, ih]
        rw [show (z :: y :: zs).flatten = z ++ (y :: zs).flatten from rfl]
        show (z ++ []) ++ (y :: zs).flatten = z ++ (y :: zs).flatten
        rw [List.append_nil]
  refine str_cs ?_
  show cs (Builtin.Str.glued "" (zs.map mk)) = _
  rw [PySem.StrLaws.glued_eq_join]
  exact core zs
def txs (zs : List (List Nat)) : List V := (zs.map mk).map V.str
theorem txs_len (zs : List (List Nat)) : (txs zs).length = zs.length := by unfold txs; rw [List.length_map, List.length_map]
theorem flat_len {m : Nat} : ∀ {zs : List (List Nat)}, (∀ z ∈ zs, z.length ≤ m) → zs.flatten.length ≤ zs.length * m
  | [], _ => by simp
  | z :: zs, h => by
    have h1 := h z List.mem_cons_self
    have h2 := flat_len (zs := zs) fun y hy => h y (List.mem_cons_of_mem _ hy)
    rw [List.flatten_cons, List.length_append, List.length_cons, Nat.add_mul]
    omega
def Good (z : List Nat) : Prop := z.length ≤ 400 ∧ ∀ c ∈ z, c ∈ st16
theorem Good.ok {z : List Nat} (h : Good z) : okS (mk z) "abcdefghABCDEFGH" = true := okS_mk h.1 h.2
theorem said_good {H : Hp} {zs : List (List Nat)} (h : ∀ z ∈ zs, Good z) (l : zs.flatten.length ≤ 400) : Said K H (txs zs) (.str (mk zs.flatten)) := by
  rw [← join_flat]
  refine .good rfl (fun z hz => ?_) (by rw [join_flat, len_mk]; exact l)
  obtain ⟨y, hy, rfl⟩ := List.mem_map.mp hz
  exact (h y hy).ok
theorem said_limit {H : Hp} {zs : List (List Nat)} (h : ∀ z ∈ zs, Good z) (l : 400 < zs.flatten.length) : Said K H (txs zs) (.list [.str "limit", .int 400, .bool true]) := by
  refine .limit (zs := zs.map mk) rfl (fun z hz => ?_) (by rw [join_flat, len_mk]; exact l)
  obtain ⟨y, hy, rfl⟩ := List.mem_map.mp hz
  exact (h y hy).ok
theorem txs_any {H : Hp} {zs : List (List Nat)} (h : ∀ z ∈ zs, Good z) : ∀ x ∈ txs zs, ∃ t, ∀ H', Same H H' → AnyV K H' x t := by
  intro x hx
  obtain ⟨z, hz, rfl⟩ := List.mem_map.mp hx
  obtain ⟨y, hy, rfl⟩ := List.mem_map.mp hz
  exact ⟨_, fun H' _ => .str _ (by rw [len_mk]; have := (h y hy).1; omega)⟩
/-- values that are no programs -/
def odds : List V := [.non, .str "i", .int 5, .str (Txt.mul "a" 401)]
theorem odd_no : ∀ v ∈ odds, okV v "abcdefghABCDEFGH" = false := by
  intro v hv
  unfold odds at hv
  simp only [List.mem_cons, List.not_mem_nil, or_false] at hv
  rcases hv with rfl | rfl | rfl | rfl
  · rfl
  · decide +kernel
  · rfl
  · decide +kernel
theorem eqV_odd {z : List Nat} (h : Good z) : ∀ v ∈ odds, eqV (.str (mk z)) v = false := by
  intro v hv
  have no := odd_no v hv
  unfold odds at hv
  simp only [List.mem_cons, List.not_mem_nil, or_false] at hv
  have key : ∀ x : Str, okV (.str x) "abcdefghABCDEFGH" = false → eqV (.str (mk z)) (.str x) = false := fun x hx => by
    cases e : eqV (.str (mk z)) (.str x) with
    | false => rfl
    | true =>
      have : mk z = x := by simpa [eqV] using e
      rw [← this] at hx
      rw [show okV (.str (mk z)) "abcdefghABCDEFGH" = true from h.ok] at hx
      cases hx
  rcases hv with rfl | rfl | rfl | rfl
  · rfl
  · exact key _ no
  · rfl
  · exact key _ no
theorem str_sh {z : Str} (h : PyData.strOk z = true) : SeqAt.shaped (.str z) = true := by
  unfold SeqAt.shaped
  simp [PyData.canLay0, PyData.depth, h]
theorem pool_keep {H H' : Hp} {p : Addr} (h : Pool H p) (s : Same H H') : Pool H' p := by
  obtain ⟨n, m, hp, r⟩ := h
  exact ⟨n, m, s _ _ hp, r⟩
theorem txs_flat (zs : List (List Nat)) : (txs zs).all flatV = true := List.all_eq_true.mpr fun x hx => by
  obtain ⟨z, _, rfl⟩ := List.mem_map.mp hx
  rfl
/-- a list with an odd value among programs, cut to three: what join says -/
theorem said_odd {H : Hp} {zs : List (List Nat)} {v : V} {z : Str} {k : Nat} (gz : ∀ z ∈ zs, Good z) (l3 : zs.length ≤ 3) (hk : k ≤ zs.length) (hv : v ∈ odds) (r : Vv K H v z) (hin : inV v ((((txs zs).take k ++ [v]) ++ (txs zs).drop k).take 3) = true) :
    Said K H ((((txs zs).take k ++ [v]) ++ (txs zs).drop k).take 3) (.list [.str "program", .str z]) := by
  have lt : ((txs zs).take k).length = k := by rw [List.length_take, txs_len]; omega
  have ok : ∀ y ∈ txs zs, okV y "abcdefghABCDEFGH" = true := fun y hy => by
    obtain ⟨u, hu, rfl⟩ := List.mem_map.mp hy
    obtain ⟨t, ht, rfl⟩ := List.mem_map.mp hu
    exact (gz t ht).ok
  by_cases h3 : k = 3
  · exfalso
    have e : ((((txs zs).take k ++ [v]) ++ (txs zs).drop k).take 3) = (txs zs).take k := by
      rw [List.append_assoc, List.take_append_of_le_length (by omega), ← h3, List.take_take, Nat.min_self]
    rw [e] at hin
    unfold inV at hin
    obtain ⟨y, hy, ey⟩ := List.any_eq_true.mp hin
    obtain ⟨u, hu, rfl⟩ := List.mem_map.mp (List.mem_of_mem_take hy)
    obtain ⟨t, ht, rfl⟩ := List.mem_map.mp hu
    rw [eqV_odd (gz t ht) v hv] at ey
    cases ey
  · refine .bad (i := k) ?_ (fun j hj y hy => ?_) (odd_no v hv) r
    · rw [List.getElem?_take_of_lt (by omega), List.append_assoc, List.getElem?_append_right (by omega), lt, Nat.sub_self]
      rfl
    · rw [List.getElem?_take_of_lt (by omega), List.append_assoc, List.getElem?_append_left (by omega)] at hy
      exact ok y (List.mem_of_mem_take (List.mem_of_getElem? hy))
theorem odd_ok {H : Hp} : ∀ v ∈ odds, (∃ z, Vv K H v z) ∧ okV v "abcdefghABCDEFGH" = false ∧ flatV v = true := by
  intro v hv
  unfold odds at hv
  simp only [List.mem_cons, List.not_mem_nil, or_false] at hv
  rcases hv with rfl | rfl | rfl | rfl
  · exact ⟨⟨_, vv_non⟩, rfl, rfl⟩
  · exact ⟨⟨_, vv_str (by decide +kernel) (by decide +kernel)⟩, by decide +kernel, rfl⟩
  · exact ⟨⟨_, vv_flat (t := .type "int") (d := .int 5) (fun H' s => .base (.int 5)) (kit_ty (by decide +kernel)) (fun z h => nomatch h) (fun H' s => .int 5) (by decide +kernel) (by decide +kernel) (by decide +kernel) (by decide +kernel) (by decide +kernel)⟩, rfl, rfl⟩
  · exact ⟨⟨_, vv_str (by decide +kernel) (by decide +kernel)⟩, by decide +kernel, rfl⟩
def sp_law (K : PySem.W.Frag) : Sp := fun vs H Q _ => ∃ (s : Addr) (ns : List Int), vs = [.ref s] ∧ SqL K H s (ns.map V.int) ∧ ns.length ≤ 63 ∧ ∀ H', Q (.bl true) H'
theorem ok_law (T : Txt K mg a) (hdd : Hd K a) : FnG P w K mg base CX0 10 a.f_law a.d_law ["_law_script"] (sp_law K) := by
  have G_Lpool := ok_Lpool (P := P) (w := w) (base := base) T
  have G_Ltake := ok_Ltake (P := P) (w := w) (base := base) T
  have G_Lprogram := ok_Lprogram (P := P) (w := w) (base := base) T
  have G_Lright := ok_Lright (P := P) (w := w) (base := base) T
  have G_Lsaid := ok_Lsaid (P := P) (w := w) (base := base) T hdd
  have G_put_counts := ok_put_counts (P := P) (w := w) (base := base) T
  have G_takes := ok_takes (P := P) (w := w) (base := base) T
  have G_puts := ok_puts (P := P) (w := w) (base := base) T
  refine Fun_okG T.F_law sc_law (fun vs H Q E h => ?_) (fun cdv A outer s H vs Q E hg hr hh => ?_)
  · obtain ⟨s, ns, rfl, _⟩ := h
    rfl
  · obtain ⟨sc, ns, rfl, hS, hns, q⟩ := hh
    refine ⟨_, (pss_cons (ps_for PassesOwn.never rfl (pi_range1 (by rfl) T.z_range (pa_cons (pe_callB (call_max2 rfl) (by rfl) T.z_max (by decide +kernel) (pa_cons pe_int (pa_cons (pe_callB (call_min2 rfl) (by rfl) T.z_min (by decide +kernel) (pa_cons pe_int (pa_cons (pe_callB call_len_seq (by rfl) T.z_len (by decide +kernel) (pa_cons (pv 0) pa_nil)) pa_nil))) pa_nil))) pa_nil)) (pg_name (i := 1) sc_law.nd rfl (Or.inl rfl))
        (pss_cons (ps_set (i := 2) sc_law.nd rfl (Or.inr rfl) (pe_call G_Lpool (hr.mono (by decide)) (by rfl) T.g_Lpool T.F_Lpool.kp T.b_Lpool .nil pass0 (pa_cons (pv 0) (pa_cons (pv 1) pa_nil))))
        (pss_cons (ps_setLc (i := 3) (own := [("_law_turn", 10)]) (g := gName 10) (by rfl) sc_law.nd rfl rfl (sw_true rfl rfl rfl (by decide +kernel)) (pi_range1 (by rfl) T.z_range (pa_cons (pe_call G_Ltake (hr.mono (by decide)) (by rfl) T.g_Ltake T.F_Ltake.kp T.b_Ltake .nil pass0 (pa_cons (pv 2) (pa_cons pe_int pa_nil))) pa_nil)) (blkOk_by (own := [("_law_turn", 10)]) (N := N_law) (sc := defScope s_law) (by decide +kernel)) (fun _ _ _ _ _ => pg_name (i := 10) sc_law.nd rfl (Or.inl rfl)) (fun _ _ _ _ _ => pts_nil) (fun _ _ _ _ _ => (pe_call G_Lprogram (hr.mono (by decide)) (by rfl) T.g_Lprogram T.F_Lprogram.kp T.b_Lprogram .nil pass0 (pa_cons (pv 2) (pa_cons pe_int (pa_cons (pe_op op_add pe_int (pe_call G_Ltake (hr.mono (by decide)) (by rfl) T.g_Ltake T.F_Ltake.kp T.b_Ltake .nil pass0 (pa_cons (pv 2) (pa_cons pe_int pa_nil)))) pa_nil))))))
        (pss_cons (ps_for PassesOwn.never rfl (pi_list (pe_op op_cat (pv 3) (pe_lst (pa_cons pe_str (pa_cons pe_str pa_nil))))) (pg_name (i := 4) sc_law.nd rfl (Or.inl rfl))
          (pss_one (ps_if (pt_not (pt_val (pe_call G_Lright (hr.mono (by decide)) (by rfl) T.g_Lright T.F_Lright.kp T.b_Lright .nil pass0 (pa_cons (pv 4) pa_nil))))
            (pss_one (ps_ret pe_bl))
            pss_nil)))
        (pss_cons (ps_if (pt_cmpR (op_neD hr.units) (pe_callG G_Lsaid hg (hr.mono (by decide)) (by rfl) T.g_Lsaid T.F_Lsaid.kp T.b_Lsaid pass0 (pa_cons (pv 3) pa_nil)) (pe_join pe_str (pv 3)) (nomark _))
          (pss_one (ps_ret pe_bl))
          pss_nil)
        (pss_cons (ps_for PassesOwn.never rfl (pi_list (pe_lst (pa_cons pe_non (pa_cons pe_str (pa_cons pe_int (pa_cons (pe_op op_mulS pe_str pe_int) pa_nil)))))) (pg_name (i := 5) sc_law.nd rfl (Or.inl rfl))
          (pss_cons (ps_set (i := 6) sc_law.nd rfl (Or.inl rfl) (pe_call G_Ltake (hr.mono (by decide)) (by rfl) T.g_Ltake T.F_Ltake.kp T.b_Ltake .nil pass0 (pa_cons (pv 2) (pa_cons (pe_op op_add (pe_callB call_len_seq (by rfl) T.z_len (by decide +kernel) (pa_cons (pv 3) pa_nil)) pe_int) pa_nil))))
          (pss_cons (ps_set (i := 7) sc_law.nd rfl (Or.inl rfl) (pe_slice sl_list (pe_op op_cat (pe_op op_cat (pe_slice sl_list (pv 3) po_none (po_some (pv 6))) (pe_lst (pa_cons (pv 5) pa_nil))) (pe_slice sl_list (pv 3) (po_some (pv 6)) po_none)) po_none (po_some pe_int)))
          (pss_one (ps_if (PW.pt (pw_and (pt_cmpR (show OpR _ _ (rIn K false) from op_in_seq) (pv 5) (pv 7) (by rfl)) (pw_and1 (pt_cmpR (op_neD hr.units) (pe_callG G_Lsaid hg (hr.mono (by decide)) (by rfl) T.g_Lsaid T.F_Lsaid.kp T.b_Lsaid pass0 (pa_cons (pv 7) pa_nil)) (pe_lst (pa_cons pe_str (pa_cons (pe_callB (call_reprR hg hr) (by rfl) T.z_repr (by decide +kernel) (pa_cons (pv 5) pa_nil)) pa_nil))) (nomark _)))))
            (pss_one (ps_ret pe_bl))
            pss_nil)))))
        (pss_cons (ps_set (i := 8) sc_law.nd rfl (Or.inl rfl) (pe_call G_Ltake (hr.mono (by decide)) (by rfl) T.g_Ltake T.F_Ltake.kp T.b_Ltake .nil pass0 (pa_cons (pv 2) (pa_cons pe_int pa_nil))))
        (pss_cons (ps_if (pt_cmpR (op_neD hr.units) (pe_callG G_Lsaid hg (hr.mono (by decide)) (by rfl) T.g_Lsaid T.F_Lsaid.kp T.b_Lsaid pass0 (pa_cons (pe_lst (pa_cons (pe_op op_mulS pe_str (pv 8)) (pa_cons (pe_op op_mulS pe_str (pe_op op_sub pe_int (pv 8))) pa_nil))) pa_nil)) (pe_op op_add_str (pe_op op_mulS pe_str (pv 8)) (pe_op op_mulS pe_str (pe_op op_sub pe_int (pv 8)))) (nomark _))
          (pss_one (ps_ret pe_bl))
          pss_nil)
        (pss_one (ps_if (pt_cmpR (op_neD hr.units) (pe_callG G_Lsaid hg (hr.mono (by decide)) (by rfl) T.g_Lsaid T.F_Lsaid.kp T.b_Lsaid pass0 (pa_cons (pe_lst (pa_cons (pe_op op_mulS pe_str (pv 8)) (pa_cons (pe_op op_mulS pe_str (pe_op op_sub pe_int (pv 8))) (pa_cons pe_str pa_nil)))) pa_nil)) (pe_lst (pa_cons pe_str (pa_cons pe_int (pa_cons pe_bl pa_nil)))) (nomark _))
          (pss_one (ps_ret pe_bl))
          pss_nil))))))))))
      (pss_cons (ps_set (i := 9) sc_law.nd rfl (Or.inl rfl) (pe_callK0 (E := fun _ _ _ => False) G_put_counts (hr.mono (by decide)) (by rfl) T.g_put_counts T.F_put_counts.kp T.kb_put_counts (passes_call takes0 fun _ _ _ _ h => h) (pk_cons pe_str pk_nil)))
      (pss_cons (ps_expr (pe_bm PySem.F.plainAttrs_list PySem.F.slot_list_append PySem.F.type_list_append mt_append (pv 9) (pa_cons pe_int pa_nil)))
      (pss_one (ps_ret (pe_and (pe_cmpR (op_eqD hr.units) (pe_callS G_put_counts (hr.mono (by decide)) (by rfl) T.g_put_counts T.F_put_counts.kp T.b_put_counts (fun σ => passAt takes0 σ) (pa_cons pe_str pa_nil)) (pe_lst (pa_cons pe_int pa_nil)) (nomark _)) (pe_and (pe_cmpR op_eq (pe_callK0 (E := fun _ _ _ => False) G_takes (hr.mono (by decide)) (by rfl) T.g_takes T.F_takes.kp T.kb_takes (passes_call takes0 fun _ _ _ _ h => h) (pk_cons pe_str pk_nil)) pe_str (nomark _)) (pe_one (pe_cmpR op_eq (pe_callK0 (E := fun _ _ _ => False) G_puts (hr.mono (by decide)) (by rfl) T.g_puts T.F_puts.kp T.kb_puts (passes_call takes0 fun _ _ _ _ h => h) (pk_cons pe_str pk_nil)) pe_str (nomark _)))))))))), ?_⟩
    refine ⟨.ref sc, rfl, sc, _, rfl, .inl hS, _, _, rfl, _, _, rfl, _, rfl, ?_, ?_, for_it walk_range (fun i σ H3 => ∃ y1 y2 y3 y4 y5 y6 y7 y8 y10 : Option V, σ = [some (.ref sc), y1, y2, y3, y4, y5, y6, y7, y8, none, y10] ∧ Same H H3) ?_ (fun _ _ _ _ _ => trivial) ?_ ?_⟩
    · split <;> omega
    · rw [List.length_map]
      split
      · split <;> omega
      · omega
    · exact ⟨_, _, _, _, _, _, _, _, _, rfl, Same.refl _⟩
    · rintro i x σ H6 H6' hi ⟨y1, y2, y3, y4, y5, y6, y7, y8, y10, rfl, sm0⟩ ⟨rfl, rfl⟩
      have hi15 : i < 15 := by
        rw [List.length_map] at hi
        split at hi
        · split at hi <;> omega
        · omega
      refine ⟨.ref sc, rfl, .int (0 + (i : Nat)), rfl, sc, 0 + (i : Nat), ns, rfl, sm0.seq hS, by omega, by omega, by omega, fun H7 p s7 np hP7 => ?_⟩
      have np0 : H p = none := sm0.free np
      refine ⟨.ref p, rfl, p, 4, rfl, hP7, by decide, by decide, fun n9 m9 d h1 h2 h3 h4 h5 => ?_⟩
      have hP_9 : Pool (upd H7 p (.lst [.int n9, .int m9])) p := ⟨n9, m9, upd_same, h1, h2, h3⟩
      have b_9 : But p H7 (upd H7 p (.lst [.int n9, .int m9])) := But.refl.put
      generalize upd H7 p (.lst [.int n9, .int m9]) = HA at hP_9 b_9
      refine ⟨d, rfl, by omega, by omega, fun D nD => ?_⟩
      have Dp : D ≠ p := fun e => by obtain ⟨n, m, hp, _⟩ := hP_9; rw [e, hp] at nD; cases nD
      refine lc_it walk_range (fun i HD => ∃ zs : List (List Nat), Pool HD p ∧ But p HA HD ∧ HD D = some (.lst (txs zs)) ∧ zs.length = i ∧ ∀ z ∈ zs, z.length ≤ 60 ∧ ∀ c ∈ z, c ∈ st16) ?_ (fun _ _ _ _ => trivial) ?_ ?_
      · obtain ⟨n, m, hp, r⟩ := hP_9
        exact ⟨[], ⟨n, m, (upd_ne Dp.symm).trans hp, r⟩, But.refl.new nD, upd_same, rfl, fun z h => nomatch h⟩
      · rintro j x HD HD' hj ⟨zs, hPD, bD, eD, lz, hz⟩ ⟨rfl, rfl⟩
        refine ⟨rfl, .ref p, rfl, .ref p, rfl, p, 8, rfl, hPD, by decide, by decide, fun n2 m2 e g1 g2 g3 g4 g5 => ⟨1, e, rfl, rfl, ?_⟩⟩
        have hP2 : Pool (upd HD' p (.lst [.int n2, .int m2])) p := ⟨n2, m2, upd_same, g1, g2, g3⟩
        refine ⟨p, 60, 1 + e, rfl, hP2, by decide, by decide, by omega, by omega, fun H2 z hP3 b3 lz' cz => ?_⟩
        have eD2 := b3 _ _ Dp ((upd_ne Dp).trans eD)
        refine ⟨_, eD2, lt_line (by rw [txs_len]; omega), zs ++ [z], ?_, ((bD.put).trans b3).new nD, by rw [upd_same]; unfold txs; rw [List.map_append, List.map_append]; rfl, by rw [List.length_append, lz]; rfl, fun y hy => ?_⟩
        · obtain ⟨n, m, hp, r⟩ := hP3
          exact ⟨n, m, (upd_ne Dp.symm).trans hp, r⟩
        · rcases List.mem_append.mp hy with h | h
          · exact hz y h
          · rw [List.mem_singleton.mp h]
            exact ⟨by omega, cz⟩
      rintro HB ⟨zs, hPB, bB, eB, lB, hz⟩
      have lB : zs.length ≤ 3 := by omega
      have gz : ∀ z ∈ zs, Good z := fun z h => ⟨by have := (hz z h).1; omega, (hz z h).2⟩
      have bB := b_9.trans bB
      have fl : zs.flatten.length ≤ 180 := by
        have := flat_len (m := 60) fun z h => (hz z h).1
        omega
      have chF : ∀ c ∈ zs.flatten, c ∈ st16 := fun c hc => by
        obtain ⟨z, h1, h2⟩ := List.mem_flatten.mp hc
        exact (gz z h1).2 c h2
      clear b_9 hP_9 h1 h2 h3 h4 h5 nD
      have e0 : ("" : Str) = mk [] := by decide +kernel
      have eH : ("Hh" : Str) = mk [72, 104] := by decide +kernel
      have e2 : txs zs ++ [.str "", .str "Hh"] = txs (zs ++ [[], [72, 104]]) := by
        rw [e0, eH]
        unfold txs
        rw [List.map_append, List.map_append]
        rfl
      refine ⟨.ref D, rfl, le_line (show 2 ≤ 100000 by decide), fun X nX => ?_⟩
      have sX := same_new (o := .lst [.str "", .str "Hh"]) nX
      refine ⟨D, X, _, _, rfl, rfl, sX _ _ eB, upd_same, le_line (by rw [txs_len]; show _ + 2 ≤ _; omega), fun W nW => ?_⟩
      rw [e2]
      have sW := sX.trans (same_new (o := .lst (txs (zs ++ [[], [72, 104]]))) nW)
      have eW := upd_same (H := upd HB X (.lst [.str "", .str "Hh"])) (a := W) (o := .lst (txs (zs ++ [[], [72, 104]])))
      generalize upd (upd HB X (.lst [.str "", .str "Hh"])) W (.lst (txs (zs ++ [[], [72, 104]]))) = HC at sW eW
      have gz2 : ∀ z ∈ zs ++ [[], [72, 104]], Good z := fun z h => by
        rcases List.mem_append.mp h with h | h
        · exact gz z h
        · simp only [List.mem_cons, List.not_mem_nil, or_false] at h
          rcases h with rfl | rfl
          · exact ⟨by decide, fun c h => nomatch h⟩
          · exact ⟨by decide, by decide +kernel⟩
      refine ⟨W, rfl, ⟨_, SqL.of eW⟩, ?_⟩
      refine for_it (walk_list (xs := txs (zs ++ [[], [72, 104]]))) (fun j σ HJ => ∃ y4 : Option V, σ = [some (.ref sc), some (.int (0 + (i : Nat))), some (.ref p), some (.ref D), y4, y5, y6, y7, y8, none, y10] ∧ Same HC HJ) ?_ (fun j σ HJ _ hp => ?_) ?_ ?_
      · exact ⟨_, rfl, Same.refl _⟩
      · obtain ⟨_, _, sJ⟩ := hp
        exact SqL.of (sJ _ _ eW)
      · rintro j x σ HJ HJ' hj ⟨y4, rfl, sJ⟩ ⟨rfl, hx⟩
        obtain ⟨y, hy, rfl⟩ := List.mem_map.mp (List.mem_of_getElem? hx)
        obtain ⟨z, hz', rfl⟩ := List.mem_map.mp hy
        exact ⟨.str (mk z), rfl, z, rfl, (gz2 z hz').1, (gz2 z hz').2, fun HK sK => ⟨true, rfl, iteF ⟨_, rfl, sJ.trans sK⟩⟩⟩
      rintro σ HJ ⟨y4, rfl, sJ⟩
      have eJ := sJ _ _ (sW _ _ eB)
      have shF : SeqAt.shaped (.str (mk zs.flatten)) = true := by
        have : PyData.strOk (mk zs.flatten) = true := strOk_mk fun c hc => st16_lt (chF c hc)
        unfold SeqAt.shaped
        simp [PyData.canLay0, PyData.depth, this]
      refine ⟨.ref D, rfl, D, txs zs, _, rfl, eJ, by rw [txs_len]; exact lB, txs_any gz, said_good gz (by omega), fun HK r sK dp => ?_⟩
      refine ⟨⟨_, rfl⟩, .ref D, rfl, "", D, zs.map mk, rfl, rfl, .inl (SqL.of (sK _ _ eJ)), ?_, ?_⟩
      · rw [← join_len, join_flat, len_mk]
        show _ + _ * 0 ≤ 16777216
        omega
      rw [join_flat]
      refine ⟨_, _, dp, .str _, shF, shF, _, rfl, ?_⟩
      rw [eqv_sh shF]
      refine iteF ?_
      have mok : MulOk "a" 401 := mulOk (by decide) (by decide +kernel) (by decide) (by decide +kernel)
      refine ⟨_, _, rfl, rfl, mok, le_line (show 4 ≤ 100000 by decide), fun L nL => ?_⟩
      have hPK : Pool HK p := pool_keep hPB (sW.trans (sJ.trans sK))
      have Lp : L ≠ p := fun e => by obtain ⟨n, m, hp, _⟩ := hPK; rw [e, hp] at nL; cases nL
      have sL := same_new (o := .lst [.non, .str "i", .int 5, .str (Txt.mul "a" 401)]) nL
      have eL : upd HK L (.lst [.non, .str "i", .int 5, .str (Txt.mul "a" 401)]) L = some (.lst [.non, .str "i", .int 5, .str (Txt.mul "a" 401)]) := upd_same
      have hPL := pool_keep hPK sL
      have bL : But p H7 (upd HK L (.lst [.non, .str "i", .int 5, .str (Txt.mul "a" 401)])) := bB.trans fun b o _ e => sL _ _ (sK _ _ (sJ _ _ (sW _ _ e)))
      have eDL := sL _ _ (sK _ _ eJ)
      refine ⟨L, rfl, ⟨_, SqL.of upd_same⟩, ?_⟩
      generalize upd HK L (.lst [.non, .str "i", .int 5, .str (Txt.mul "a" 401)]) = HL at eL hPL bL eDL
      clear sL nL hPK sK dp
      have eL : HL L = some (.lst odds) := eL
      refine for_it (walk_list (xs := odds)) (fun j σ HM => ∃ y5 y6 y7 : Option V, σ = [some (.ref sc), some (.int (0 + (i : Nat))), some (.ref p), some (.ref D), y4, y5, y6, y7, y8, none, y10] ∧ Pool HM p ∧ But p HL HM) ?_ (fun j σ HM _ hp => ?_) ?_ ?_
      · exact ⟨_, _, _, rfl, hPL, But.refl⟩
      · obtain ⟨_, _, _, _, _, b⟩ := hp
        exact SqL.of (b _ _ Lp eL)
      · rintro j v σ HM HM' hj ⟨y5, y6, y7, rfl, hPM, bM⟩ ⟨rfl, hv⟩
        have hvo := List.mem_of_getElem? hv
        have eDM := bM _ _ Dp eDL
        refine ⟨.ref p, rfl, .ref D, rfl, D, _, rfl, .inl (SqL.of eDM), _, 1, rfl, rfl, p, _, rfl, hPM, by rw [txs_len]; omega, by rw [txs_len]; omega, fun n1 m1 d h1 h2 h3 h4 h5 => ?_⟩
        rw [txs_len] at h5
        obtain ⟨k, rfl⟩ : ∃ k : Nat, d = k := ⟨d.toNat, by omega⟩
        have lk : k ≤ zs.length := by omega
        have hPN : Pool (upd HM' p (.lst [.int n1, .int m1])) p := ⟨n1, m1, upd_same, h1, h2, h3⟩
        have bN : But p HL (upd HM' p (.lst [.int n1, .int m1])) := bM.put
        have eDN : (upd HM' p (.lst [.int n1, .int m1])) D = some (.lst (txs zs)) := (upd_ne Dp).trans eDM
        generalize upd HM' p (.lst [.int n1, .int m1]) = HN at hPN bN eDN
        have lt : ((txs zs).take k).length = k := by rw [List.length_take, txs_len]; omega
        have ld : ((txs zs).drop k).length ≤ 3 := by rw [List.length_drop, txs_len]; omega
        refine ⟨.ref D, rfl, .int (k : Nat), rfl, ((k : Nat) : Int), rfl, D, _, rfl, SqL.of eDN, fun C1 n1 => ?_⟩
        rw [cutV_to]
        have s1 := same_new (o := .lst ((txs zs).take k)) n1
        refine ⟨v, rfl, le_line (show 1 ≤ 100000 by decide), fun C2 n2 => ?_⟩
        have s2 := same_new (o := .lst [v]) n2
        refine ⟨C1, C2, _, _, rfl, rfl, s2 _ _ upd_same, upd_same, le_line (by show _ + 1 ≤ 100000; omega), fun C3 n3 => ?_⟩
        have s3 := same_new (o := .lst ((txs zs).take k ++ [v])) n3
        refine ⟨.ref D, rfl, .int (k : Nat), rfl, ((k : Nat) : Int), rfl, D, _, rfl, SqL.of (s3 _ _ (s2 _ _ (s1 _ _ eDN))), fun C4 n4 => ?_⟩
        rw [cutV_fromI]
        have s4 := same_new (o := .lst ((txs zs).drop k)) n4
        refine ⟨C3, C4, _, _, rfl, rfl, s4 _ _ upd_same, upd_same, le_line (by rw [List.length_append]; show _ + 1 + _ ≤ 100000; omega), fun C5 n5 => ?_⟩
        have s5 := same_new (o := .lst (((txs zs).take k ++ [v]) ++ (txs zs).drop k)) n5
        refine ⟨3, rfl, C5, _, rfl, SqL.of upd_same, fun B nB => ?_⟩
        rw [show (some (3 : Int)) = some (((3 : Nat) : Nat) : Int) from rfl, cutV_to]
        have sB := s1.trans (s2.trans (s3.trans (s4.trans (s5.trans (same_new (o := .lst ((((txs zs).take k ++ [v]) ++ (txs zs).drop k).take 3)) nB)))))
        have eB' : ∀ HZ : Hp, upd HZ B (.lst ((((txs zs).take k ++ [v]) ++ (txs zs).drop k).take 3)) B = some (.lst ((((txs zs).take k ++ [v]) ++ (txs zs).drop k).take 3)) := fun HZ => upd_same
        have eBB := eB' (upd (upd (upd (upd (upd HN C1 (.lst ((txs zs).take k))) C2 (.lst [v])) C3 (.lst ((txs zs).take k ++ [v]))) C4 (.lst ((txs zs).drop k))) C5 (.lst (((txs zs).take k ++ [v]) ++ (txs zs).drop k)))
        generalize upd (upd (upd (upd (upd (upd HN C1 (.lst ((txs zs).take k))) C2 (.lst [v])) C3 (.lst ((txs zs).take k ++ [v]))) C4 (.lst ((txs zs).drop k))) C5 (.lst (((txs zs).take k ++ [v]) ++ (txs zs).drop k))) B (.lst ((((txs zs).take k ++ [v]) ++ (txs zs).drop k).take 3)) = HR at sB eBB
        obtain ⟨⟨z, rv⟩, no, fv⟩ := odd_ok (K := K) (H := HR) v hvo
        have allf : ((((txs zs).take k ++ [v]) ++ (txs zs).drop k).take 3).all flatV = true := List.all_eq_true.mpr fun x hx => by
          have hx := List.mem_of_mem_take hx
          rcases List.mem_append.mp hx with hx | hx
          · rcases List.mem_append.mp hx with hx | hx
            · exact List.all_eq_true.mp (txs_flat zs) x (List.mem_of_mem_take hx)
            · rw [List.mem_singleton.mp hx]; exact fv
          · exact List.all_eq_true.mp (txs_flat zs) x (List.mem_of_mem_drop hx)
        refine ⟨v, rfl, .ref B, rfl, B, _, rfl, .inl (SqL.of eBB), fv, allf, _, rfl, ?_⟩
        have next : ∀ HZ, Same HR HZ → ∃ y5 y6 y7 : Option V, ([some (.ref sc), some (.int (0 + (i : Nat))), some (.ref p), some (.ref D), y4, some v, some (.int (k : Nat)), some (.ref B), y8, none, y10] : List (Option V)) = [some (.ref sc), some (.int (0 + (i : Nat))), some (.ref p), some (.ref D), y4, y5, y6, y7, y8, none, y10] ∧ Pool HZ p ∧ But p HL HZ := fun HZ sZ =>
          ⟨_, _, _, rfl, pool_keep hPN (sB.trans sZ), bN.trans fun b o _ e => sZ _ _ (sB _ _ e)⟩
        cases hin : inV v ((((txs zs).take k ++ [v]) ++ (txs zs).drop k).take 3) with
        | false => exact iteF (next HR (Same.refl _))
        | true =>
          refine iteT ⟨.ref B, rfl, B, _, _, rfl, eBB, List.length_take_le _ _, fun x hx => ?_, said_odd gz lB lk hvo rv hin, fun HS r sS dp => ?_⟩
          · have hx := List.mem_of_mem_take hx
            rcases List.mem_append.mp hx with hx | hx
            · rcases List.mem_append.mp hx with hx | hx
              · exact txs_any gz x (List.mem_of_mem_take hx)
              · rw [List.mem_singleton.mp hx]; exact rv.any
            · exact txs_any gz x (List.mem_of_mem_drop hx)
          · refine ⟨v, rfl, rv.rep HS sS _ ⟨le_line (show 2 ≤ 100000 by decide), fun o no => ?_⟩⟩
            have sh : SeqAt.shaped (.list [.str "program", .str z]) = true := list2_sh (by decide +kernel) rv.zok
            refine ⟨_, _, dp_same (same_new no) dp, .lst (SqL.of upd_same) (.cons (.str _) (.cons (.str _) .nil)), sh, sh, _, rfl, ?_⟩
            rw [eqv_sh sh]
            exact iteF (next _ (sS.trans (same_new no)))
      rintro σ HM ⟨y5, y6, y7, rfl, hPM, bM⟩
      refine ⟨.ref p, rfl, p, 401, rfl, hPM, by decide, by decide, fun n1 m1 d h1 h2 h3 h4 h5 => ?_⟩
      obtain ⟨k, rfl⟩ : ∃ k : Nat, d = k := ⟨d.toNat, by omega⟩
      have hk : k ≤ 400 := by omega
      have hPN : Pool (upd HM p (.lst [.int n1, .int m1])) p := ⟨n1, m1, upd_same, h1, h2, h3⟩
      have bN : But p HL (upd HM p (.lst [.int n1, .int m1])) := bM.put
      generalize upd HM p (.lst [.int n1, .int m1]) = HN at hPN bN
      have mkA : MulOk "a" ((k : Nat) : Int) := mulOk (by omega) (by decide +kernel) (by omega) (by show 1 * _ ≤ _; omega)
      have mkB : MulOk "B" (400 - ((k : Nat) : Int)) := mulOk (by omega) (by decide +kernel) (by omega) (by show 1 * _ ≤ _; omega)
      have eA : Txt.mul "a" ((k : Nat) : Int) = mk (List.replicate k 97) := mul_sg 97 k
      have eB' : Txt.mul "B" (400 - ((k : Nat) : Int)) = mk (List.replicate (400 - k) 66) := by
        rw [show (400 : Int) - ((k : Nat) : Int) = ((400 - k : Nat) : Int) by omega]
        exact mul_sg 66 (400 - k)
      have gA : Good (List.replicate k 97) := ⟨by rw [List.length_replicate]; exact hk, fun c hc => by rw [List.eq_of_mem_replicate hc]; decide +kernel⟩
      have gB : Good (List.replicate (400 - k) 66) := ⟨by rw [List.length_replicate]; omega, fun c hc => by rw [List.eq_of_mem_replicate hc]; decide +kernel⟩
      have g2 : ∀ z ∈ [List.replicate k 97, List.replicate (400 - k) 66], Good z := fun z hz => by
        simp only [List.mem_cons, List.not_mem_nil, or_false] at hz
        rcases hz with rfl | rfl
        · exact gA
        · exact gB
      have gc : Good [99] := ⟨by decide, by decide +kernel⟩
      have g3 : ∀ z ∈ [List.replicate k 97, List.replicate (400 - k) 66, [99]], Good z := fun z hz => by
        simp only [List.mem_cons, List.not_mem_nil, or_false] at hz
        rcases hz with rfl | rfl | rfl
        · exact gA
        · exact gB
        · exact gc
      have l2 : ([List.replicate k 97, List.replicate (400 - k) 66]).flatten.length ≤ 400 := by
        show (List.replicate k 97 ++ (List.replicate (400 - k) 66 ++ [])).length ≤ 400
        rw [List.append_nil, List.length_append, List.length_replicate, List.length_replicate]
        omega
      have l3 : 400 < ([List.replicate k 97, List.replicate (400 - k) 66, [99]]).flatten.length := by
        show 400 < (List.replicate k 97 ++ (List.replicate (400 - k) 66 ++ ([99] ++ []))).length
        rw [List.append_nil, List.length_append, List.length_append, List.length_replicate, List.length_replicate]
        show 400 < k + (400 - k + 1)
        omega
      have f2 : ([List.replicate k 97, List.replicate (400 - k) 66]).flatten = List.replicate k 97 ++ List.replicate (400 - k) 66 := by
        show List.replicate k 97 ++ (List.replicate (400 - k) 66 ++ []) = _
        rw [List.append_nil]
      have ec : ("c" : Str) = mk [99] := by decide +kernel
      have sh2 : SeqAt.shaped (.str (mk ([List.replicate k 97, List.replicate (400 - k) 66]).flatten)) = true := str_sh (strOk_mk fun c hc => by
        obtain ⟨z, h1, h2⟩ := List.mem_flatten.mp hc
        exact st16_lt ((g2 z h1).2 c h2))
      have sh3 : SeqAt.shaped (.list [.str "limit", .int 400, .bool true]) = true := by decide +kernel
      refine ⟨.int (k : Nat), rfl, _, _, rfl, rfl, mkA, .int (k : Nat), rfl, _, _, rfl, rfl, _, _, rfl, rfl, mkB, le_line (show 2 ≤ 100000 by decide), fun M nM => ?_⟩
      rw [eA, eB']
      refine ⟨M, txs [List.replicate k 97, List.replicate (400 - k) 66], _, rfl, upd_same, (show 2 ≤ 3 by decide), txs_any g2, said_good g2 l2, fun HO r sO dp => ?_⟩
      have s1 := (same_new (o := .lst (txs [List.replicate k 97, List.replicate (400 - k) 66])) nM).trans sO
      refine ⟨.int (k : Nat), rfl, _, _, rfl, rfl, mkA, .int (k : Nat), rfl, _, _, rfl, rfl, _, _, rfl, rfl, mkB, _, _, rfl, rfl, ?_, ?_⟩
      · rw [eA, eB', len_mk, len_mk, List.length_replicate, List.length_replicate]
        exact le_line (by omega)
      rw [eA, eB', app_mk, ← f2]
      refine ⟨_, _, dp, .str _, sh2, sh2, _, rfl, ?_⟩
      rw [eqv_sh sh2]
      refine iteF ⟨.int (k : Nat), rfl, _, _, rfl, rfl, mkA, .int (k : Nat), rfl, _, _, rfl, rfl, _, _, rfl, rfl, mkB, le_line (show 3 ≤ 100000 by decide), fun M2 nM2 => ?_⟩
      rw [eA, eB', ec]
      refine ⟨M2, txs [List.replicate k 97, List.replicate (400 - k) 66, [99]], _, rfl, upd_same, (show 3 ≤ 3 by decide), txs_any g3, said_limit g3 l3, fun HU r2 sU dp2 => ⟨le_line (show 3 ≤ 100000 by decide), fun o no => ?_⟩⟩
      refine ⟨_, _, dp_same (same_new no) dp2, .lst (SqL.of upd_same) (.cons (.str _) (.cons (.int _) (.cons (.bl _) .nil))), sh3, sh3, _, rfl, ?_⟩
      rw [eqv_sh sh3]
      have s2 := s1.trans ((same_new (o := .lst (txs [List.replicate k 97, List.replicate (400 - k) 66, [99]])) nM2).trans (sU.trans (same_new (o := .lst [.str "limit", .int 400, .bl true]) no)))
      refine iteF ⟨_, _, _, _, _, _, _, _, _, rfl, sm0.trans fun b o hb => s2 _ _ ?_⟩
      have nbp : b ≠ p := ne_of_none hb np
      exact bN b o nbp (bL b o nbp (s7 _ _ hb))
    · rintro σ H5 ⟨y1, y2, y3, y4, y5, y6, y7, y8, y10, rfl, sm0⟩
      have eaA : (V.str "aA" : V) = .str (mk [97, 65]) := congrArg V.str (show ("aA" : Str) = mk [97, 65] by decide +kernel)
      have eAb : (V.str "Ab" : V) = .str (mk [65, 98]) := congrArg V.str (show ("Ab" : Str) = mk [65, 98] by decide +kernel)
      refine ⟨[97, 65], by rw [eaA]; rfl, by decide, by decide +kernel, fun H7 o s7 no eo => ?_⟩
      refine ⟨.ref o, rfl, .inl ⟨rfl, _, SqL.of eo⟩, o, _, _, rfl, rfl, eo, by decide +kernel, ?_⟩
      refine ⟨[97, 65], by rw [eaA], by decide, by decide +kernel, fun H8 o2 s8 no2 eo2 => ⟨le_line (show 1 ≤ 100000 by decide), fun o3 no3 => ?_⟩⟩
      have sh1 : SeqAt.shaped (.list [.int 1]) = true := by decide +kernel
      refine ⟨.list [.int 1], .list [.int 1], .lst (SqL.of (same_new no3 _ _ eo2)) (.cons (.int _) .nil), .lst (SqL.of upd_same) (.cons (.int _) .nil), sh1, sh1, _, rfl, ?_⟩
      rw [eqv_sh sh1]
      refine ⟨[97, 65], by rw [eaA]; rfl, by decide, by decide +kernel, fun H9 s9 => ⟨rfl, _, rfl, ?_⟩⟩
      rw [show decide (V.str (mk (tkS [97, 65])) = V.str "a") = true by decide +kernel]
      refine ⟨[65, 98], by rw [eAb]; rfl, by decide, by decide +kernel, fun H10 s10 => ⟨rfl, ?_⟩⟩
      rw [show decide (V.str (mk (puS [65, 98])) = V.str "b") = true by decide +kernel]
      exact q _
end
end E03

set_option Elab.async false
set_option linter.all false
set_option maxRecDepth 100000
set_option maxHeartbeats 0
namespace E03
open Own PySem PySem.Spec PyProof.Rows L2 Exn Mth Vld
def ch0 : Hk.Ch := fun K => (decide (PySem.W.nsIn K mainGlobals "is_string_of" = some (some (.ref (He.ga K "is_string_of")))) && (Hk.fnB K (He.ga K "is_string_of") "is_string_of" && (Hk.clN K (He.ga K "is_string_of") && Hk.dfI K (He.ga K "is_string_of") 400)))
def ch1 : Hk.Ch := fun K => (decide (PySem.W.nsIn K mainGlobals "is_program" = some (some (.ref (He.ga K "is_program")))) && (Hk.fnB K (He.ga K "is_program") "is_program" && (Hk.clN K (He.ga K "is_program") && Hk.dfN K (He.ga K "is_program"))))
def ch2 : Hk.Ch := fun K => (decide (PySem.W.nsIn K mainGlobals "require_program" = some (some (.ref (He.ga K "require_program")))) && (Hk.fnB K (He.ga K "require_program") "require_program" && (Hk.clN K (He.ga K "require_program") && Hk.dfN K (He.ga K "require_program"))))
def ch3 : Hk.Ch := fun K => (decide (PySem.W.nsIn K mainGlobals "take_items" = some (some (.ref (He.ga K "take_items")))) && (Hk.fnB K (He.ga K "take_items") "take_items" && (Hk.clN K (He.ga K "take_items") && Hk.dfN K (He.ga K "take_items"))))
def ch4 : Hk.Ch := fun K => (decide (PySem.W.nsIn K mainGlobals "put_items" = some (some (.ref (He.ga K "put_items")))) && (Hk.fnB K (He.ga K "put_items") "put_items" && (Hk.clN K (He.ga K "put_items") && Hk.dfN K (He.ga K "put_items"))))
def ch5 : Hk.Ch := fun K => (decide (PySem.W.nsIn K mainGlobals "counts_before_takes" = some (some (.ref (He.ga K "counts_before_takes")))) && (Hk.fnB K (He.ga K "counts_before_takes") "counts_before_takes" && (Hk.clN K (He.ga K "counts_before_takes") && Hk.dfN K (He.ga K "counts_before_takes"))))
def ch6 : Hk.Ch := fun K => (decide (PySem.W.nsIn K mainGlobals "takes" = some (some (.ref (He.ga K "takes")))) && (Hk.fnB K (He.ga K "takes") "takes" && (Hk.clN K (He.ga K "takes") && Hk.dfN K (He.ga K "takes"))))
def ch7 : Hk.Ch := fun K => (decide (PySem.W.nsIn K mainGlobals "puts" = some (some (.ref (He.ga K "puts")))) && (Hk.fnB K (He.ga K "puts") "puts" && (Hk.clN K (He.ga K "puts") && Hk.dfN K (He.ga K "puts"))))
def ch8 : Hk.Ch := fun K => (decide (PySem.W.nsIn K mainGlobals "put_counts" = some (some (.ref (He.ga K "put_counts")))) && (Hk.fnB K (He.ga K "put_counts") "put_counts" && (Hk.clN K (He.ga K "put_counts") && Hk.dfN K (He.ga K "put_counts"))))
def ch9 : Hk.Ch := fun K => (decide (PySem.W.nsIn K mainGlobals "steps" = some (some (.ref (He.ga K "steps")))) && (Hk.fnB K (He.ga K "steps") "steps" && (Hk.clN K (He.ga K "steps") && Hk.dfN K (He.ga K "steps"))))
def ch10 : Hk.Ch := fun K => (decide (PySem.W.nsIn K mainGlobals "join" = some (some (.ref (He.ga K "join")))) && (Hk.fnB K (He.ga K "join") "join" && (Hk.clN K (He.ga K "join") && Hk.dfN K (He.ga K "join"))))
def ch11 : Hk.Ch := fun K => (decide (PySem.W.nsIn K mainGlobals "_law_pool" = some (some (.ref (He.ga K "_law_pool")))) && (Hk.fnB K (He.ga K "_law_pool") "_law_pool" && (Hk.clN K (He.ga K "_law_pool") && Hk.dfN K (He.ga K "_law_pool"))))
def ch12 : Hk.Ch := fun K => (decide (PySem.W.nsIn K mainGlobals "_law_take" = some (some (.ref (He.ga K "_law_take")))) && (Hk.fnB K (He.ga K "_law_take") "_law_take" && (Hk.clN K (He.ga K "_law_take") && Hk.dfN K (He.ga K "_law_take"))))
def ch13 : Hk.Ch := fun K => (decide (PySem.W.nsIn K mainGlobals "_law_program" = some (some (.ref (He.ga K "_law_program")))) && (Hk.fnB K (He.ga K "_law_program") "_law_program" && (Hk.clN K (He.ga K "_law_program") && Hk.dfN K (He.ga K "_law_program"))))
def ch14 : Hk.Ch := fun K => (decide (PySem.W.nsIn K mainGlobals "_law_said" = some (some (.ref (He.ga K "_law_said")))) && (Hk.fnB K (He.ga K "_law_said") "_law_said" && (Hk.clN K (He.ga K "_law_said") && Hk.dfN K (He.ga K "_law_said"))))
def ch15 : Hk.Ch := fun K => (decide (PySem.W.nsIn K mainGlobals "_law_right" = some (some (.ref (He.ga K "_law_right")))) && (Hk.fnB K (He.ga K "_law_right") "_law_right" && (Hk.clN K (He.ga K "_law_right") && Hk.dfN K (He.ga K "_law_right"))))
def ch16 : Hk.Ch := fun K => (decide (PySem.W.nsIn K mainGlobals "law" = some (some (.ref (He.ga K "law")))) && (Hk.fnB K (He.ga K "law") "law" && (Hk.clN K (He.ga K "law") && Hk.dfN K (He.ga K "law"))))
def ch17 : Hk.Ch := fun K => Hk.conI K "MAX_LENGTH" 400
def ch18 : Hk.Ch := fun K => Hk.conS K "STEPS" "abcdefghABCDEFGH"
def ch19 : Hk.Ch := fun K => decide (PySem.W.nsIn K mainGlobals "isinstance" = some none)
def ch20 : Hk.Ch := fun K => decide (PySem.W.nsIn K mainGlobals "str" = some none)
def ch21 : Hk.Ch := fun K => decide (PySem.W.nsIn K mainGlobals "len" = some none)
def ch22 : Hk.Ch := fun K => decide (PySem.W.nsIn K mainGlobals "max" = some none)
def ch23 : Hk.Ch := fun K => decide (PySem.W.nsIn K mainGlobals "int" = some none)
def ch24 : Hk.Ch := fun K => decide (PySem.W.nsIn K mainGlobals "range" = some none)
def ch25 : Hk.Ch := fun K => decide (PySem.W.nsIn K mainGlobals "repr" = some none)
def ch26 : Hk.Ch := fun K => decide (PySem.W.nsIn K mainGlobals "OverflowError" = some none)
def ch27 : Hk.Ch := fun K => decide (PySem.W.nsIn K mainGlobals "list" = some none)
def ch28 : Hk.Ch := fun K => decide (PySem.W.nsIn K mainGlobals "min" = some none)
def ch29 : Hk.Ch := fun K => decide (PySem.W.nsIn K mainGlobals "LeakError" = some (some (.ref (He.ga K "LeakError"))))
def ch30 : Hk.Ch := fun K => (decide (PySem.W.nsIn K mainGlobals "InvalidProgram" = some (some (.ref (He.ga K "InvalidProgram")))) && (decide (PySem.W.findIn K (.ref (He.ga K "InvalidProgram")) "__init__" = some (some (.ref (He.ma K (He.ga K "InvalidProgram") "__init__")))) && ((Hk.fnB K (He.ma K (He.ga K "InvalidProgram") "__init__") "InvalidProgram.__init__" && (Hk.clN K (He.ma K (He.ga K "InvalidProgram") "__init__") && (Hk.dfN K (He.ma K (He.ga K "InvalidProgram") "__init__") && Hk.kwN K (He.ma K (He.ga K "InvalidProgram") "__init__")))) && ecB K (He.ga K "InvalidProgram") (He.ma K (He.ga K "InvalidProgram") "__init__") "value" [.type "ValueError", .type "Exception", .type "BaseException", .type "object"] "ValueError.__new__")))
def ch31 : Hk.Ch := fun K => (decide (PySem.W.nsIn K mainGlobals "LimitExceeded" = some (some (.ref (He.ga K "LimitExceeded")))) && (decide (PySem.W.findIn K (.ref (He.ga K "LimitExceeded")) "__init__" = some (some (.ref (He.ma K (He.ga K "LimitExceeded") "__init__")))) && ((Hk.fnB K (He.ma K (He.ga K "LimitExceeded") "__init__") "LimitExceeded.__init__" && (Hk.clN K (He.ma K (He.ga K "LimitExceeded") "__init__") && (Hk.dfN K (He.ma K (He.ga K "LimitExceeded") "__init__") && Hk.kwN K (He.ma K (He.ga K "LimitExceeded") "__init__")))) && ecB K (He.ga K "LimitExceeded") (He.ma K (He.ga K "LimitExceeded") "__init__") "limit" [.type "OverflowError", .type "ArithmeticError", .type "Exception", .type "BaseException", .type "object"] "OverflowError.__new__")))
def ch32 : Hk.Ch := fun K => decide (PySem.W.specialIn K (.builtin "object.__class__") "__get__" = some (some (.builtin "getset_descriptor.__get__")))
def ch33 : Hk.Ch := fun K => decide (PySem.W.takesIn K (.builtin "object.__class__") = some true)
def ch34 : Hk.Ch := fun K => decide (PySem.W.exmOne K (.ref (He.ga K "InvalidProgram")) (.ref (He.ga K "InvalidProgram")) = some true)
def ch35 : Hk.Ch := fun K => decide (PySem.W.exmOne K (.ref (He.ga K "LimitExceeded")) (.ref (He.ga K "InvalidProgram")) = some false)
def ch36 : Hk.Ch := fun K => decide (PySem.W.exmOne K (.ref (He.ga K "LimitExceeded")) (.ref (He.ga K "LimitExceeded")) = some true)
def ch37 : Hk.Ch := fun K => decide (PySem.W.kitOne K (.ref (He.ga K "LimitExceeded")) (.type "OverflowError") = some true)
def cs0 : List Hk.Ch := [ch0, ch1, ch2, ch3, ch4, ch5, ch6, ch7, ch8, ch9, ch10, ch11, ch12, ch13, ch14, ch15, ch16, ch17, ch18, ch19, ch20, ch21, ch22, ch23, ch24, ch25, ch26, ch27, ch28, ch29]
def cs1 : List Hk.Ch := [ch30, ch31, ch32, ch33, ch34, ch35, ch36, ch37]
def cs_ : List Hk.Ch := cs0 ++ (cs1)
def fn0 : Hk.Fn := (fun K => (He.ga K "is_string_of"), Hk.exS "is_string_of" "is_string_of" s_is_string_of)
def fn1 : Hk.Fn := (fun K => (He.ga K "is_program"), Hk.exS "is_program" "is_program" s_is_program)
def fn2 : Hk.Fn := (fun K => (He.ga K "require_program"), Hk.exS "require_program" "require_program" s_require_program)
def fn3 : Hk.Fn := (fun K => (He.ga K "take_items"), Hk.exS "take_items" "take_items" s_take_items)
def fn4 : Hk.Fn := (fun K => (He.ga K "put_items"), Hk.exS "put_items" "put_items" s_put_items)
def fn5 : Hk.Fn := (fun K => (He.ga K "counts_before_takes"), Hk.exS "counts_before_takes" "counts_before_takes" s_counts_before_takes)
def fn6 : Hk.Fn := (fun K => (He.ga K "takes"), Hk.exS "takes" "takes" s_takes)
def fn7 : Hk.Fn := (fun K => (He.ga K "puts"), Hk.exS "puts" "puts" s_puts)
def fn8 : Hk.Fn := (fun K => (He.ga K "put_counts"), Hk.exS "put_counts" "put_counts" s_put_counts)
def fn9 : Hk.Fn := (fun K => (He.ga K "steps"), Hk.exS "steps" "steps" s_steps)
def fn10 : Hk.Fn := (fun K => (He.ga K "join"), Hk.exS "join" "join" s_join)
def fn11 : Hk.Fn := (fun K => (He.ga K "_law_pool"), Hk.exS "_law_pool" "_law_pool" s_Lpool)
def fn12 : Hk.Fn := (fun K => (He.ga K "_law_take"), Hk.exS "_law_take" "_law_take" s_Ltake)
def fn13 : Hk.Fn := (fun K => (He.ga K "_law_program"), Hk.exS "_law_program" "_law_program" s_Lprogram)
def fn14 : Hk.Fn := (fun K => (He.ga K "_law_said"), Hk.exS "_law_said" "_law_said" s_Lsaid)
def fn15 : Hk.Fn := (fun K => (He.ga K "_law_right"), Hk.exS "_law_right" "_law_right" s_Lright)
def fn16 : Hk.Fn := (fun K => (He.ga K "law"), Hk.exS "law" "law" s_law)
def fn17 : Hk.Fn := (fun K => (He.ma K (He.ga K "InvalidProgram") "__init__"), Hk.exS "__init__" "InvalidProgram.__init__" (inClass (topS 2) 0))
def fn18 : Hk.Fn := (fun K => (He.ma K (He.ga K "LimitExceeded") "__init__"), Hk.exS "__init__" "LimitExceeded.__init__" (inClass (topS 3) 0))
def fs0 : List Hk.Fn := [fn0, fn1, fn2, fn3, fn4, fn5, fn6, fn7, fn8, fn9, fn10, fn11, fn12, fn13, fn14, fn15, fn16, fn17, fn18]
def fs_ : List Hk.Fn := fs0
theorem txt_of {K : PySem.W.Frag} {h : Heap} {mg : Str → Option Value} (X : K.In h) (G : h.Ns mainGlobals mg) (c : Hk.Says cs_ fs_ K) : ∃ a, Txt K mg a ∧ Hd K a := by
  have g0 := c.ch 0 (f := ch0) rfl
  obtain ⟨g0_0, g0_1⟩ := He.ba g0
  have a1 := of_decide_eq_true g0_0
  obtain ⟨_, _, _, _, _, _, _, _, _, _, _, _, _, _, _, t1, l1, c1, k1⟩ := Hk.fn1i (c.fn 0 rfl) g0_1
  have g1 := c.ch 1 (f := ch1) rfl
  obtain ⟨g1_0, g1_1⟩ := He.ba g1
  have a2 := of_decide_eq_true g1_0
  obtain ⟨_, _, _, _, _, _, _, _, _, l2, c2, k2⟩ := Hk.fn0 (c.fn 1 rfl) g1_1
  have g2 := c.ch 2 (f := ch2) rfl
  obtain ⟨g2_0, g2_1⟩ := He.ba g2
  have a3 := of_decide_eq_true g2_0
  obtain ⟨_, _, _, _, _, _, _, _, _, l3, c3, k3⟩ := Hk.fn0 (c.fn 2 rfl) g2_1
  have g3 := c.ch 3 (f := ch3) rfl
  obtain ⟨g3_0, g3_1⟩ := He.ba g3
  have a4 := of_decide_eq_true g3_0
  obtain ⟨_, _, _, _, _, _, _, _, _, l4, c4, k4⟩ := Hk.fn0 (c.fn 3 rfl) g3_1
  have g4 := c.ch 4 (f := ch4) rfl
  obtain ⟨g4_0, g4_1⟩ := He.ba g4
  have a5 := of_decide_eq_true g4_0
  obtain ⟨_, _, _, _, _, _, _, _, _, l5, c5, k5⟩ := Hk.fn0 (c.fn 4 rfl) g4_1
  have g5 := c.ch 5 (f := ch5) rfl
  obtain ⟨g5_0, g5_1⟩ := He.ba g5
  have a6 := of_decide_eq_true g5_0
  obtain ⟨_, _, _, _, _, _, _, _, _, l6, c6, k6⟩ := Hk.fn0 (c.fn 5 rfl) g5_1
  have g6 := c.ch 6 (f := ch6) rfl
  obtain ⟨g6_0, g6_1⟩ := He.ba g6
  have a7 := of_decide_eq_true g6_0
  obtain ⟨_, _, _, _, _, _, _, _, _, l7, c7, k7⟩ := Hk.fn0 (c.fn 6 rfl) g6_1
  have g7 := c.ch 7 (f := ch7) rfl
  obtain ⟨g7_0, g7_1⟩ := He.ba g7
  have a8 := of_decide_eq_true g7_0
  obtain ⟨_, _, _, _, _, _, _, _, _, l8, c8, k8⟩ := Hk.fn0 (c.fn 7 rfl) g7_1
  have g8 := c.ch 8 (f := ch8) rfl
  obtain ⟨g8_0, g8_1⟩ := He.ba g8
  have a9 := of_decide_eq_true g8_0
  obtain ⟨_, _, _, _, _, _, _, _, _, l9, c9, k9⟩ := Hk.fn0 (c.fn 8 rfl) g8_1
  have g9 := c.ch 9 (f := ch9) rfl
  obtain ⟨g9_0, g9_1⟩ := He.ba g9
  have a10 := of_decide_eq_true g9_0
  obtain ⟨_, _, _, _, _, _, _, _, _, l10, c10, k10⟩ := Hk.fn0 (c.fn 9 rfl) g9_1
  have g10 := c.ch 10 (f := ch10) rfl
  obtain ⟨g10_0, g10_1⟩ := He.ba g10
  have a11 := of_decide_eq_true g10_0
  obtain ⟨_, _, _, _, _, _, _, _, _, l11, c11, k11⟩ := Hk.fn0 (c.fn 10 rfl) g10_1
  have g11 := c.ch 11 (f := ch11) rfl
  obtain ⟨g11_0, g11_1⟩ := He.ba g11
  have a12 := of_decide_eq_true g11_0
  obtain ⟨_, _, _, _, _, _, _, _, _, l12, c12, k12⟩ := Hk.fn0 (c.fn 11 rfl) g11_1
  have g12 := c.ch 12 (f := ch12) rfl
  obtain ⟨g12_0, g12_1⟩ := He.ba g12
  have a13 := of_decide_eq_true g12_0
  obtain ⟨_, _, _, _, _, _, _, _, _, l13, c13, k13⟩ := Hk.fn0 (c.fn 12 rfl) g12_1
  have g13 := c.ch 13 (f := ch13) rfl
  obtain ⟨g13_0, g13_1⟩ := He.ba g13
  have a14 := of_decide_eq_true g13_0
  obtain ⟨_, _, _, _, _, _, _, _, _, l14, c14, k14⟩ := Hk.fn0 (c.fn 13 rfl) g13_1
  have g14 := c.ch 14 (f := ch14) rfl
  obtain ⟨g14_0, g14_1⟩ := He.ba g14
  have a15 := of_decide_eq_true g14_0
  obtain ⟨_, _, _, _, _, _, _, _, _, l15, c15, k15⟩ := Hk.fn0 (c.fn 14 rfl) g14_1
  have g15 := c.ch 15 (f := ch15) rfl
  obtain ⟨g15_0, g15_1⟩ := He.ba g15
  have a16 := of_decide_eq_true g15_0
  obtain ⟨_, _, _, _, _, _, _, _, _, l16, c16, k16⟩ := Hk.fn0 (c.fn 15 rfl) g15_1
  have g16 := c.ch 16 (f := ch16) rfl
  obtain ⟨g16_0, g16_1⟩ := He.ba g16
  have a17 := of_decide_eq_true g16_0
  obtain ⟨_, _, _, _, _, _, _, _, _, l17, c17, k17⟩ := Hk.fn0 (c.fn 16 rfl) g16_1
  have g17 := c.ch 17 (f := ch17) rfl
  have g17_0 : Hk.conI K "MAX_LENGTH" 400 = true := g17
  obtain ⟨_, v_MAX_LENGTH⟩ := Hk.conI_ok g17_0
  have g18 := c.ch 18 (f := ch18) rfl
  have g18_0 : Hk.conS K "STEPS" "abcdefghABCDEFGH" = true := g18
  obtain ⟨_, v_STEPS⟩ := Hk.conS_ok g18_0
  have g19 := c.ch 19 (f := ch19) rfl
  have g19_0 : decide (PySem.W.nsIn K mainGlobals "isinstance" = some none) = true := g19
  have z_isinstance := of_decide_eq_true g19_0
  have g20 := c.ch 20 (f := ch20) rfl
  have g20_0 : decide (PySem.W.nsIn K mainGlobals "str" = some none) = true := g20
  have z_str := of_decide_eq_true g20_0
  have g21 := c.ch 21 (f := ch21) rfl
  have g21_0 : decide (PySem.W.nsIn K mainGlobals "len" = some none) = true := g21
  have z_len := of_decide_eq_true g21_0
  have g22 := c.ch 22 (f := ch22) rfl
  have g22_0 : decide (PySem.W.nsIn K mainGlobals "max" = some none) = true := g22
  have z_max := of_decide_eq_true g22_0
  have g23 := c.ch 23 (f := ch23) rfl
  have g23_0 : decide (PySem.W.nsIn K mainGlobals "int" = some none) = true := g23
  have z_int := of_decide_eq_true g23_0
  have g24 := c.ch 24 (f := ch24) rfl
  have g24_0 : decide (PySem.W.nsIn K mainGlobals "range" = some none) = true := g24
  have z_range := of_decide_eq_true g24_0
  have g25 := c.ch 25 (f := ch25) rfl
  have g25_0 : decide (PySem.W.nsIn K mainGlobals "repr" = some none) = true := g25
  have z_repr := of_decide_eq_true g25_0
  have g26 := c.ch 26 (f := ch26) rfl
  have g26_0 : decide (PySem.W.nsIn K mainGlobals "OverflowError" = some none) = true := g26
  have z_OverflowError := of_decide_eq_true g26_0
  have g27 := c.ch 27 (f := ch27) rfl
  have g27_0 : decide (PySem.W.nsIn K mainGlobals "list" = some none) = true := g27
  have z_list := of_decide_eq_true g27_0
  have g28 := c.ch 28 (f := ch28) rfl
  have g28_0 : decide (PySem.W.nsIn K mainGlobals "min" = some none) = true := g28
  have z_min := of_decide_eq_true g28_0
  have g29 := c.ch 29 (f := ch29) rfl
  have g29_0 : decide (PySem.W.nsIn K mainGlobals "LeakError" = some (some (.ref (He.ga K "LeakError")))) = true := g29
  have n_LeakError := of_decide_eq_true g29_0
  have g30 := c.ch 30 (f := ch30) rfl
  obtain ⟨g30_0, r30_0⟩ := He.ba g30
  obtain ⟨g30_1, r30_1⟩ := He.ba r30_0
  obtain ⟨g30_2, g30_3⟩ := He.ba r30_1
  have n_InvalidProgram := of_decide_eq_true g30_0
  have i_InvalidProgram := of_decide_eq_true g30_1
  obtain ⟨_, _, _, _, _, _, _, _, m_InvalidProgram, d_InvalidProgram⟩ := Hk.fnx (c.fn 17 rfl) g30_2
  have h_InvalidProgram := g30_3
  have g31 := c.ch 31 (f := ch31) rfl
  obtain ⟨g31_0, r31_0⟩ := He.ba g31
  obtain ⟨g31_1, r31_1⟩ := He.ba r31_0
  obtain ⟨g31_2, g31_3⟩ := He.ba r31_1
  have n_LimitExceeded := of_decide_eq_true g31_0
  have i_LimitExceeded := of_decide_eq_true g31_1
  obtain ⟨_, _, _, _, _, _, _, _, m_LimitExceeded, d_LimitExceeded⟩ := Hk.fnx (c.fn 18 rfl) g31_2
  have h_LimitExceeded := g31_3
  have g32 := c.ch 32 (f := ch32) rfl
  have g32_0 : decide (PySem.W.specialIn K (.builtin "object.__class__") "__get__" = some (some (.builtin "getset_descriptor.__get__"))) = true := g32
  have hd_hn := of_decide_eq_true g32_0
  have g33 := c.ch 33 (f := ch33) rfl
  have g33_0 : decide (PySem.W.takesIn K (.builtin "object.__class__") = some true) = true := g33
  have hd_hk := of_decide_eq_true g33_0
  have g34 := c.ch 34 (f := ch34) rfl
  have g34_0 : decide (PySem.W.exmOne K (.ref (He.ga K "InvalidProgram")) (.ref (He.ga K "InvalidProgram")) = some true) = true := g34
  have hd_x_InvalidProgram_InvalidProgram := of_decide_eq_true g34_0
  have g35 := c.ch 35 (f := ch35) rfl
  have g35_0 : decide (PySem.W.exmOne K (.ref (He.ga K "LimitExceeded")) (.ref (He.ga K "InvalidProgram")) = some false) = true := g35
  have hd_x_LimitExceeded_InvalidProgram := of_decide_eq_true g35_0
  have g36 := c.ch 36 (f := ch36) rfl
  have g36_0 : decide (PySem.W.exmOne K (.ref (He.ga K "LimitExceeded")) (.ref (He.ga K "LimitExceeded")) = some true) = true := g36
  have hd_x_LimitExceeded_LimitExceeded := of_decide_eq_true g36_0
  have g37 := c.ch 37 (f := ch37) rfl
  have g37_0 : decide (PySem.W.kitOne K (.ref (He.ga K "LimitExceeded")) (.type "OverflowError") = some true) = true := g37
  have hd_i_LimitExceeded_OverflowError := of_decide_eq_true g37_0
  exact ⟨_, txt_mk X G t1 a1 l1 c1 k1 a2 l2 c2 k2 a3 l3 c3 k3 a4 l4 c4 k4 a5 l5 c5 k5 a6 l6 c6 k6 a7 l7 c7 k7 a8 l8 c8 k8 a9 l9 c9 k9 a10 l10 c10 k10 a11 l11 c11 k11 a12 l12 c12 k12 a13 l13 c13 k13 a14 l14 c14 k14 a15 l15 c15 k15 a16 l16 c16 k16 a17 l17 c17 k17 v_MAX_LENGTH v_STEPS z_isinstance z_str z_len z_max z_int z_range z_repr z_OverflowError z_list z_min n_LeakError n_InvalidProgram i_InvalidProgram m_InvalidProgram d_InvalidProgram h_InvalidProgram n_LimitExceeded i_LimitExceeded m_LimitExceeded d_LimitExceeded h_LimitExceeded, ⟨hd_hn, hd_hk, hd_x_InvalidProgram_InvalidProgram, hd_x_LimitExceeded_InvalidProgram, hd_x_LimitExceeded_LimitExceeded, hd_i_LimitExceeded_OverflowError⟩⟩
def nm0 : List PySem.Str := ["__name__", "LeakError", "InvalidProgram", "LimitExceeded", "MAX_LENGTH", "is_string_of", "STEPS", "is_program", "require_program", "take_items", "put_items", "counts_before_takes", "takes", "puts", "put_counts", "steps", "join", "_law_pool", "_law_take", "_law_program", "_law_said", "_law_right"]
def nm_ : List PySem.Str := nm0
abbrev R_ : PySem.W.OpenRow := PySem.W.OpenLaw.row PySem.Challenge.rw_leakyqueue_k03_parts_of_programs
abbrev hk_ : PySem.W.Hook := Hk.hook 5 cs_ fs_
def ob_ (s : PySem.W.SharedT) : Hk.Al := Hk.obsX 5 cs_ fs_ (HandSHeadRun.getT s)
theorem ob_eq (s : PySem.W.SharedT) : ob_ s = hk_.obs s.abs := Hk.obsX_eq (HandSHeadRun.getT_eq s)
theorem run_ (w : World) : HandSHeadRun.RunEq R_ (PySem.W.view R_.prog [25]) hk_ ob_ 20000 nm_ w := by
  intro os
  kernel_rfl
-- IDX 25
theorem all_mk {l : PySem.W.OpenLaw} {w : World} {K : PySem.W.Frag} {mg : Str → Option Value} {fa : Addr} {a : Ad} (T : Txt K mg a) (hfa : mg "law" = some (.ref fa)) (hd : Hd K a) :
    ∃ fd : FuncData, (∀ (s : Shared) (v : Value), BindsTo s fd ⟨[v], []⟩ [("_law_script", v)]) ∧ ∀ base : Heap, K.In base → base.Ns mainGlobals mg → FnG l.prog w K mg base CX0 10 fa fd ["_law_script"] (sp_law K) := by
  have e := hfa.symm.trans T.g_law
  cases e
  refine ⟨a.d_law, fun s v => ?_, fun base _ _ => ok_law T hd⟩
  obtain ⟨oc, od, kV, doc, pm, an, cdv, ct, osl, hfd, lk, hcd⟩ := T.F_law.ex
  rw [hfd]
  exact .of_eq rfl
end E03
open PySem PySem.W PySem.Calls PyProof.Rows
set_option maxHeartbeats 0 in
theorem PySem.Challenge.cw_leakyqueue_k03_parts_of_programs_holds : PySem.Challenge.rw_leakyqueue_k03_parts_of_programs.Holds := by
  w_on; o_law
  refine HandSHeadRun.head_any (r := OpenLaw.row PySem.Challenge.rw_leakyqueue_k03_parts_of_programs) (q := view (OpenLaw.row PySem.Challenge.rw_leakyqueue_k03_parts_of_programs).prog [25]) (H := E03.hk_) (ob := E03.ob_) (M := 20000) (loose := E03.nm_) (d := HandSHeadRun.topDef (OpenLaw.row PySem.Challenge.rw_leakyqueue_k03_parts_of_programs).prog 25) (kwd := []) E03.ob_eq
    (by kernel_rfl) (fun s => by kernel_rfl) E03.run_ (by kernel_rfl) (by kernel_rfl) (by kernel_rfl) (by rfl) (by first | assumption | decide +kernel) (by decide +kernel) ⟨rfl, rfl, rfl, rfl, rfl, by decide +kernel⟩ ?hw ?hc
  case hw => w_witness2
  case hc =>
    refine Own.walk_GE (l := PySem.Challenge.rw_leakyqueue_k03_parts_of_programs) (n := 63) (k := 10) (x := "_law_script") (CX := fun _ => L2.CX0) rfl (by decide) (by kernel_rfl) ⟨rfl, by decide, by decide⟩ ?F (fun _ _ _ _ _ h => h)
    intro w mg fa h Y G hmg0
    obtain ⟨K, KX, c⟩ := Y
    have hmg : mg ("law" : PySem.Str) = some (.ref fa) := by
      have e : (HandSHeadRun.topDef (OpenLaw.row PySem.Challenge.rw_leakyqueue_k03_parts_of_programs).prog 25).name = ("law" : PySem.Str) := by kernel_rfl
      rw [← e]
      exact hmg0
    obtain ⟨a, T, hd⟩ := E03.txt_of KX G c
    obtain ⟨fd, hb, hF⟩ := E03.all_mk (l := PySem.Challenge.rw_leakyqueue_k03_parts_of_programs) (w := w) T hmg hd
    exact ⟨K, fd, E03.sp_law K, KX, hb, fun H a ns hl _ hS => ⟨a, ns, rfl, hS, hl, fun _ => rfl⟩, hF⟩
