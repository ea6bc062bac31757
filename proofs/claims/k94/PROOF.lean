import PyProof.Rows.All
import Wide.All
import OpenK.AllK
import Wide.FinOn
import HandS.ForMost
import HandS.Conv
import HandS.StrMore
import HandS.IsInst
import HandS.Walk
import KE.DataMinMax
import HandS.ForExc
import HandS.ExcField
import HandS.TryMany
import HandS.ExcValue
import KE.KExcInit
import KE.KExcIs
import HandS.GenList
import HandS.NoneIn
import HandS.Star
import HandS.ClsMeth
import HandS.Property
import HandS.MakeKw
import HandS.SlotsOwn
import HandS.Style
import PyProof.Rows.StrRev
import KE.KFmtOwn
import PyProof.InstEq
import KE.GoesMore
import HandS.Iter
import HandS.More
import HandS.SuiteRaise
import HandS.RaiseFrom
import HandS.ExcInitHot
import KE.KSuper
import HandS.Defaults
import HandS.FStr
import HandS.Steps
import HandS.Strs
import HandS.SetFor
import HandS.DictComp
import PyProof.NeKinds
import HandS.OwnEq
import HandS.CallSlots
import PyProof.ReprLen
import HandS.TryOnly
import KE.KStateDown
import HandS.Head0
import HandS.Head1
import HandS.Head2
import HandS.HeadEnd
import HandS.HeadHook1
import HandS.HeadHook2
import HandS.Codes
import HandS.Replace
import HandS.Flow
import PySem.Challenge.RW_leakyqueue_k94_whole_sessions_like_new_o
set_option Elab.async false
set_option linter.all false
set_option maxRecDepth 100000
set_option maxHeartbeats 4000000
namespace Own
open PySem PySem.Spec PyProof.Rows L2

section
variable {X : Cx} {k : Nat}
/-! repr of data, where no repr is under way -/
def rRepr (K : PySem.W.Frag) : List V → Hp → VK → Prop := fun xs H Q =>
  ∃ v d, xs = [v] ∧ Dp K H v d ∧ d.showable = true ∧ d.hasDict = false ∧ d.depth ≤ 60 ∧ d.shown.length ≤ sizeLine ∧ Q (.str d.shown) H
theorem call_reprD (hg : X.A.guards = some []) (hr : Room k X.A) : CallR X (.builtin "repr") (rRepr X.K) := by
  intro pins s σ H xs us Q I rl hh
  obtain ⟨v, d, rfl, hd, hs, hn, hdep, hsz, hq⟩ := hh
  obtain ⟨u, rfl, ru⟩ := vals1 rl
  have hun := hr.un
  obtain ⟨as, rd⟩ := Dp.reads I d v u hd ru
  cases hd with
  | non =>
    cases ru
    exact PySem.P.repr_of_none ⟨.str _, H, I.tok _, ⟨_, rfl⟩, hq⟩
  | bl b =>
    cases ru
    exact PySem.P.repr_of_bool ⟨.str _, H, I.tok _, ⟨_, rfl⟩, hq⟩
  | int i =>
    obtain ⟨t, rfl⟩ := ru
    exact PySem.P.repr_of_int (of_decide_eq_true hs) ⟨.str _, H, I.tok _, ⟨_, rfl⟩, hq⟩
  | str x =>
    obtain ⟨t, rfl⟩ := ru
    exact PySem.P.repr_of_str ⟨.str _, H, I.tok _, ⟨_, rfl⟩, hq⟩ hsz
  | lst h1 h2 =>
    cases ru
    exact repr_of_reads' rd hs (PyData.noDict_hsm hn) hg (by omega) (fun _ _ e => e)
      (fun h' u tk hk => ⟨.str _, H, I.kept hk, ⟨_, rfl⟩, hq⟩) hsz
  | tup h1 h2 =>
    cases ru
    exact repr_of_reads' rd hs (PyData.noDict_hsm hn) hg (by omega) (fun _ _ e => e)
      (fun h' u tk hk => ⟨.str _, H, I.kept hk, ⟨_, rfl⟩, hq⟩) hsz

/-! min of a list of alike data -/
theorem minD_mem (x : PyData) : ∀ ds : List PyData, PySem.W.minD x ds ∈ x :: ds := by
  intro ds
  unfold PySem.W.minD
  suffices h : ∀ (ds all : List PyData) (a : PyData), a ∈ all → (∀ y ∈ ds, y ∈ all) → ds.foldl (fun a y => if PySem.W.dataLt y a then y else a) a ∈ all from
    h ds (x :: ds) x (List.mem_cons_self ..) (fun y hy => List.mem_cons_of_mem _ hy)
  intro ds
  induction ds with
  | nil => intro all a ha _; exact ha
  | cons d ds ih =>
    intro all a ha hall
    rw [List.foldl_cons]
    refine ih all _ ?_ (fun y hy => hall y (List.mem_cons_of_mem _ hy))
    split
    · exact hall d (List.mem_cons_self ..)
    · exact ha
theorem DpAll.at {K : PySem.W.Frag} {H : Hp} : ∀ {vs : List V} {ds : List PyData} {i : Nat} {v : V}, DpAll K H vs ds → vs[i]? = some v → ∃ d, ds[i]? = some d ∧ Dp K H v d
  | _, _, _, _, .nil, e => by simp at e
  | _, _, 0, _, .cons h _, e => by simp at e; subst e; exact ⟨_, rfl, h⟩
  | _, _, i + 1, v, .cons _ t, e => by
    obtain ⟨d, h1, h2⟩ := DpAll.at (i := i) (v := v) t (by simpa using e)
    exact ⟨d, by simpa using h1, h2⟩
def rMinD (K : PySem.W.Frag) : List V → Hp → VK → Prop := fun xs H Q =>
  ∃ a vs x ds, xs = [.ref a] ∧ SqL K H a vs ∧ DpAll K H vs (x :: ds) ∧ PySem.W.AlikeAll (x :: ds) ∧ PyData.depthAll (x :: ds) ≤ 60 ∧
    ∀ (i : Nat) (v : V), vs[i]? = some v → (x :: ds)[i]? = some (PySem.W.minD x ds) → Q v H
theorem call_minD (hc : X.calm = true) (hr : Room k X.A) : CallR X (.builtin "min") (rMinD X.K) := by
  intro pins s σ H xs us Q I rl hh
  obtain ⟨a, vs, x, ds, rfl, hl, hd, hal, hdep, hq⟩ := hh
  obtain ⟨u, rfl, ru⟩ := vals1 rl
  cases ru
  have hun := hr.un
  obtain ⟨its, rv, pl, _⟩ := I.list hl
  obtain ⟨o, n, ho, hcl, hsl, hdt⟩ := pl
  obtain ⟨as, rd⟩ := Dp.readsAll I (x :: ds) vs its hd rv
  refine PySem.W.min_list_data (vs := its.toArray) (I.ok.hd hc) ⟨o, ho, hcl, n, hdt⟩ (by simpa using rd) hal (by omega) fun i v h' tk bs hv hrd hk => ?_
  have hv' : its[i]? = some v := by simpa using hv
  have hi : i < its.length := by
    rcases Nat.lt_or_ge i its.length with h | h
    · exact h
    · rw [List.getElem?_eq_none h] at hv'; cases hv'
  have hlen : vs.length = its.length := rv.length
  obtain ⟨w, hw⟩ : ∃ w, vs[i]? = some w := ⟨vs[i], List.getElem?_eq_getElem (by omega)⟩
  obtain ⟨v2, e2, rw2⟩ := rv.get hw
  rw [hv'] at e2
  cases e2
  obtain ⟨d, hd1, hd2⟩ := DpAll.at hd hw
  obtain ⟨cs, rdd⟩ := Dp.reads I d w v hd2 rw2
  have hmem : d ∈ x :: ds := List.mem_of_getElem? hd1
  have e : d = PySem.W.minD x ds := PySem.W.alike_unique d (PySem.W.minD x ds) v cs bs (hal.1 d hmem _ (minD_mem x ds)) (PySem.W.reads_keeps hk rdd) hrd
  rw [e] at hd1
  exact ⟨w, H, I.kept hk, rw2, hq i w hw hd1⟩

/-! list(text) -/
def sgV (z : Str) : List V := z.cps.toList.map fun c => V.str ⟨#[c]⟩
theorem vals_signs {z : Str} : ∀ (cs : List Nat) (its : List Value), cs.length = its.length → (∀ (j : Nat) (v : Value), its[j]? = some v → ∃ c u, cs[j]? = some c ∧ v = .str ⟨#[c]⟩ u) → Vals (cs.map fun c => V.str ⟨#[c]⟩) its
  | [], [], _, _ => .nil
  | c :: cs, v :: its, hl, h => by
    obtain ⟨c', u, e1, e2⟩ := h 0 v rfl
    have e1' : c = c' := by simpa using e1
    subst e1'
    refine .cons ⟨u, e2⟩ (vals_signs (z := z) cs its (by simpa using hl) fun j w hw => ?_)
    have := h (j + 1) w (by simpa using hw)
    simpa using this
  | [], _ :: _, hl, _ => by simp at hl
  | _ :: _, [], hl, _ => by simp at hl
theorem call_list_str (hc : X.calm = true) : CallR X (.type "list") (fun xs H Q => ∃ z : Str, xs = [.str z] ∧ z.cps.size ≤ sizeLine ∧ ∀ p, H p = none → Q (.ref p) (upd H p (.lst (sgV z)))) := by
  intro pins s σ H xs us Q I rl hh
  obtain ⟨z, rfl, hz, hq⟩ := hh
  obtain ⟨u, rfl, t, rfl⟩ := vals1 rl
  refine PySem.call_list_str (I.ok.hd hc) z t (fun h' tk acc c' hk hS hacc => ?_) hz
  have hf : H s.heap.objs.size = none := I.hok.fresh (Nat.le_refl _)
  have hv : Vals (sgV z) acc.toList := vals_signs (z := z) z.cps.toList acc.toList (by simp [hacc.1]) fun j v hv => by
    obtain ⟨c, u, h1, h2⟩ := hacc.2 j v (by simpa using hv)
    exact ⟨c, u, by simpa using h1, h2⟩
  have hlen : (sgV z).length ≤ sizeLine := by
    unfold sgV
    rw [List.length_map, Array.length_toList]
    exact hz
  exact ⟨.ref _, upd H _ (.lst (sgV z)), I.laid hk (Nat.le_refl _) ⟨hlen, acc.toList, c', hv, by simpa using hS⟩, rfl, hq _ hf⟩

/-! f(k = v, ..), nothing by position -/
theorem pe_callK0 {CX : CXT} {f : Addr} {fd : FuncData} {ps ks : List Str} {sp : Sp} {E : XK} {x : Str} {p pos : Pos} {kws : List Keyword} {tk : TA} {g : List Value → List Value → List Value} {gV : List V → List V → List V}
    (F : FnOk X.prog X.w X.K X.mg X.base CX k f fd ps sp) (hr : Room k X.A) (hg : Gl X x) (hm : X.mg x = some (.ref f)) (hk : PySem.W.keepIn X.K (.ref f) = true) (hb : KBinds X.K fd ps ks g gV) (hx : Passes CX X E) (hkw : PK X kws tk)
    (hal : (backToKw pos (keywordEach kws X.env)).all (·.1.isSome) = true := by rfl) (hks : (backToKw pos (keywordEach kws X.env)).filterMap (·.1) = ks := by rfl) (hdg : (x == ("__debug__" : Str)) = false := by decide)
    (hst : ((backTo pos (starEach [] X.env)).any (·.1) || (backToKw pos (keywordEach kws X.env)).any (·.1.isNone)) = false := by rfl) :
    PE X (.Call (.Name x p) [] kws pos) (tCallK sp gV E tNil tk) := by
  refine ⟨fun pins s σ H Q I q => wpAny_Call_Name_kw (ld_glob I hg hm ?_ hdg)⟩
  refine PySem.W.callWith_KW0 (h₀ := X.base) I.ok.mod.kin hk hal (thn (hkw.run pos pins s σ H _ I q) ?_) hst
  rintro ws s2 ⟨zs, H2, I2, rz, q2⟩
  refine ⟨I2.kIn, ?_⟩
  rw [hks]
  exact run_fnk (us := []) (vs := []) F hr hb hx I2 .nil rz q2
def sw {α : Type} : List α → List α → List α
  | [], [a, b] => [b, a]
  | _, _ => []
theorem sw_rel : ∀ {vs : List V} {us : List Value} {zs : List V} {ws : List Value}, Vals vs us → Vals zs ws → Vals (sw vs zs) (sw us ws)
  | _, _, _, _, .nil, .nil => .nil
  | _, _, _, _, .nil, .cons _ .nil => .nil
  | _, _, _, _, .nil, .cons a (.cons b .nil) => .cons b (.cons a .nil)
  | _, _, _, _, .nil, .cons _ (.cons _ (.cons _ _)) => .nil
  | _, _, _, _, .cons _ _, .nil => .nil
  | _, _, _, _, .cons _ _, .cons _ _ => .nil
theorem kb_sw {K : PySem.W.Frag} {fd : FuncData} {p1 p2 k1 k2 : Str} (h : ∀ (s : Shared) (a b : Value), BindsTo s fd ⟨[], [(k1, a), (k2, b)]⟩ [(p1, b), (p2, a)]) : KBinds K fd [p1, p2] [k1, k2] sw sw where
  to := fun s us ws _ hl => by
    match us, ws, hl with
    | [], [a, b], _ => exact h s a b
    | [], [], hl => cases hl
    | [], [_], hl => cases hl
    | [], _ :: _ :: _ :: _, hl => cases hl
    | _ :: _, _, hl => cases hl
  rel := sw_rel
end
/-! a def's promise where no repr is under way -/
structure FnG (P : Program) (w : World) (K : PySem.W.Frag) (mg : Str → Option Value) (base : Heap) (CX : CXT) (k : Nat) (f : Addr) (fd : FuncData) (ps : List Str) (sp : Sp) : Prop where
  lenG : ∀ vs H Q E, sp vs H Q E → vs.length = ps.length
  runG : ∀ (A : Around) (out : List Env) (s : Shared) (H : Hp) (ar : Args) (us : List Value) (vs : List V) (Q : VK) (E : XK), A.guards = some [] → Room k A → Env0 P w K mg base A out s H →
    BindsTo s fd ar (ps.zip us) → Vals vs us → sp vs H Q E → codeAny (model P w) A (.call (.ref f) ar) (CR CX out P w H s Q E) s
section
variable {P : Program} {w : World} {K : PySem.W.Frag} {mg : Str → Option Value} {base : Heap} {CX : CXT} {k : Nat} {f : Addr} {fd : FuncData} {ps : List Str} {sp : Sp}
theorem FnG.of (F : FnOk P w K mg base CX k f fd ps sp) : FnG P w K mg base CX k f fd ps sp :=
  ⟨F.len, fun A out s H ar us vs Q E _ hr he hb hv hs => F.run A out s H ar us vs Q E hr he hb hv hs⟩
theorem FnG.mono {j : Nat} (F : FnG P w K mg base CX j f fd ps sp) (h : j ≤ k) : FnG P w K mg base CX k f fd ps sp :=
  ⟨F.lenG, fun A out s H ar us vs Q E hg hr => F.runG A out s H ar us vs Q E hg (hr.mono h)⟩
/-- by its body -/
theorem fnG_of {name qual : Str} {params : Arguments} {body : List Stmt} {scope : Scope} {dV kV doc pm cdv ct oc : Value} {an od : Option Addr} {osl : Array (Option Value)} {N : List Str}
    (lk : K.lookup f = some ⟨oc, od, .func (PySem.W.fnOf name qual params body scope dV kV doc pm an cdv ct), osl⟩) (hcd : PySem.W.codeIn K cdv qual = true) (S : FnScope N ps scope) (len : ∀ vs H Q E, sp vs H Q E → vs.length = ps.length)
    (hbody : ∀ (A : Around) (out : List Env) (s : Shared) (H : Hp) (vs : List V) (Q : VK) (E : XK), (A.deeper (envOfC qual scope s.heap.objs.size f cdv)).guards = some [] → Room k (A.deeper (envOfC qual scope s.heap.objs.size f cdv)) → sp vs H Q E →
      ∃ t, PSs (cxOf CX P w K mg base N qual scope f cdv A out s H E) body t ∧ t { nx := fun _ H' => Q .non H', rt := Q } (start N vs) H) :
    FnG P w K mg base CX (k + 1) f (PySem.W.fnOf name qual params body scope dV kV doc pm an cdv ct) ps sp := by
  constructor
  · exact len
  intro A out s H ar us vs Q E hg hr e0 hb rv hsp
  have keeps : ∀ b o, base.get? b = some o → s.heap.get? b = some o := fun b o e => (e0.bs b o e).1
  have KX : K.In s.heap := e0.mod.kin.keeps keeps
  have kinds : ∀ y ∈ ps.zip us, scope.names.lookup y.1 = some .local ∨
      (scope.names.lookup y.1 = some .cell ∧ ((cellsFrom (s.heap.objs.size + 1) scope.names []).lookup y.1).isSome = true) := by
    rintro ⟨n, v⟩ hy
    exact (S.par n (List.of_mem_zip hy).1).imp id fun q => ⟨q, PySem.W.cellsFrom_some _ _ _ (.inl q)⟩
  refine codeAny_call_function hr.depth (KX _ _ lk) rfl S.co S.gen rfl (PySem.W.codeRec_of KX hcd) (hb _ _ _ _ (wpAny_newFunctionEnv_cells S.kind kinds ?_))
  rintro env rfl s1 x
  refine ⟨(e0.mod.nolimit.keeps keeps).keeps x.toInCall.keep, codeAny_func ?_⟩
  obtain ⟨t, ht, hq⟩ := hbody A out s H vs Q E hg (hr.deeper _) hsp
  have I := inv_start (CX := CX) (E := E) S hr.hd e0 (len _ _ _ _ hsp) rv x
  refine wpAny_mono (ht.run [] s1 (start N vs) H _ I hq) ?_ fun e s' hs => hs
  rintro (u | _ | _ | u) s' hs
  all_goals first
    | (obtain ⟨σ', H', J, q⟩ := hs; exact ⟨.non, H', J.os, J.bare, J.base, J.hok, rfl, q⟩)
    | (obtain ⟨v, σ', H', J, rr, q⟩ := hs; exact ⟨v, H', J.os, J.bare, J.base, J.hok, rr, q⟩)
    | (obtain ⟨_, _, _, q⟩ := hs; exact False.elim q)
theorem Fun_okG {x qual : Str} {st : Stmt} {N : List Str} (F : Fun K x qual st f fd) (S : FnScope N ps (defScope st)) (len : ∀ vs H Q E, sp vs H Q E → vs.length = ps.length)
    (hbody : ∀ (cdv : Value) (A : Around) (out : List Env) (s : Shared) (H : Hp) (vs : List V) (Q : VK) (E : XK), (A.deeper (envOfC qual (defScope st) s.heap.objs.size f cdv)).guards = some [] → Room k (A.deeper (envOfC qual (defScope st) s.heap.objs.size f cdv)) → sp vs H Q E →
      ∃ t, PSs (cxOf CX0 P w K mg base N qual (defScope st) f cdv A out s H E).nox (defBody st) t ∧ t { nx := fun _ H' => Q .non H', rt := Q } (start N vs) H) :
    FnG P w K mg base CX0 (k + 1) f fd ps sp := by
  obtain ⟨oc, od, kV, doc, pm, an, cdv, ct, osl, rfl, lk, hcd⟩ := F.ex
  exact fnG_of lk hcd S len fun A out s H vs Q E hg hr hsp => let ⟨t, h, q⟩ := hbody cdv A out s H vs Q E hg hr hsp; ⟨t, h.nox, q⟩
end
/-! the law's end -/
theorem law_callG {P : Program} {w : World} {K : PySem.W.Frag} {mg mb : Str → Option Value} {CX : CXT} {k : Nat} {fa a : Addr} {fd : FuncData} {x : Str} {sp : Sp} {s1 : Shared} {vs : List Value} {ns : List Int}
    (KX : K.In s1.heap) (hns : s1.heap.Ns mainGlobals mg) (hb : s1.heap.Ns builtinsNs mb) (hbb : ∀ x : Str, x ≠ "__name__" → mb x = bootBuiltins x) (hlim : s1.heap.NoLimit) (hgen : s1.gens = #[])
    (ha : s1.heap.get? a = some { cls := .type "list", data := .seq vs.toArray }) (hi : IntsAre vs ns) (hl : ns.length ≤ sizeLine) (hr : Room k callerA)
    (F : ∀ base : Heap, K.In base → base.Ns mainGlobals mg → FnG P w K mg base CX k fa fd [x] sp) (hbind : ∀ (s : Shared) (u : Value), BindsTo s fd ⟨[u], []⟩ [(x, u)])
    (hsp : ∀ H : Hp, Only H → SqL K H a (ns.map V.int) → sp [.ref a] H (fun v _ => v = .bl true) fun _ _ _ => False) (hCX : ∀ H e s', CX [] H s1 (fun _ _ _ => False) e s' → False) :
    codeAny (model P w) callerA (.call (.ref fa) ⟨[.ref a], []⟩) (fun r s' => r = .ok (.ret (.bool true)) ∧ OldK s1.heap s'.heap ∧ s'.os = s1.os ∧ AllBare s'.gens) s1 := by
  have rv := vals_ints hi
  have core : ∀ H : Hp, Only H → SqL K H a (ns.map V.int) → HOk P w H s1.heap → (∀ b, H b ≠ none → b = a ∧ K.lookup a = none) →
      codeAny (model P w) callerA (.call (.ref fa) ⟨[.ref a], []⟩) (fun r s' => r = .ok (.ret (.bool true)) ∧ OldK s1.heap s'.heap ∧ s'.os = s1.os ∧ AllBare s'.gens) s1 := by
    intro H hO hS hok hA
    have off : ∀ {b : Addr} {o : Obj} {es : Array DictEntry} {ep : Nat}, s1.heap.get? b = some o → o.data = .dict es ep → H b = none := by
      intro b o es ep e d
      rcases Option.eq_none_or_eq_some (H b) with q | ⟨u, q⟩
      · exact q
      · obtain ⟨e', _⟩ := hA b (by simp [q])
        subst e'
        rw [ha] at e
        cases e
        cases d
    have nsK : ∀ {b : Addr} {m : Str → Option Value}, s1.heap.Ns b m → (hidT s1.heap H).Ns b m := by
      rintro b m ⟨o, es, ep, e, d, r⟩
      exact ⟨o, es, ep, hidT_get e (off e d), d, r⟩
    have KB : K.In (hidT s1.heap H) := by
      intro b o e
      refine hidT_get (KX b o e) ?_
      rcases Option.eq_none_or_eq_some (H b) with q | ⟨u, q⟩
      · exact q
      · obtain ⟨e', kn⟩ := hA b (by simp [q])
        subst e'
        rw [kn] at e
        cases e
    obtain ⟨mc, l1, l2⟩ := hlim
    have md : Mod K mg (hidT s1.heap H) := ⟨KB, nsK hns, ⟨mb, nsK hb, hbb⟩, mc, nsK l1, l2⟩
    have e0 : Env0 P w K mg (hidT s1.heap H) callerA [] s1 H :=
      { frames := rfl, mod := md, bs := fun b o e => of_hidT e, bsz := Nat.le_of_eq (hidT_size _ _), funs := trivial, frf := fun b hb => (by cases hb), hok := hok, bare := .of_eq hgen }
    have run := (F _ KB (nsK hns)).runG callerA [] s1 H ⟨[.ref a], []⟩ [.ref a] [.ref a] _ _ rfl hr e0 (hbind s1 (.ref a)) (.cons rfl .nil) (hsp H hO hS)
    refine codeAny_mono run ?_
    rintro (e | _ | _ | _ | u) s' hh
    all_goals first
      | exact (hCX H e s' hh).elim
      | exact False.elim hh
      | skip
    obtain ⟨v, H', os, bare, un, hok', r', q⟩ := hh
    obtain rfl : v = .bl true := q
    obtain rfl : u = Value.bool true := r'
    refine ⟨rfl, OldK.of_keep fun b o e => ?_, os, bare⟩
    rcases hO b with z | ⟨ob, xs, z⟩
    · exact un.keep b o e z (fun y => by cases y) (fun y => by cases y)
    · have g1 := (hok b _ z).1
      have g2 := (hok' b _ (un.frzs b ob _ z)).1
      rw [e] at g1
      cases g1
      exact g2
  have hv : (ns.map V.int).length ≤ sizeLine := by rw [List.length_map]; exact hl
  rcases Option.eq_none_or_eq_some (K.lookup a) with kn | ⟨o, kn⟩
  · refine core (fun b => if b = a then some (.frz { cls := .type "list", data := .seq vs.toArray } (.lst (ns.map V.int))) else none) ?_ (.inl (.inr ⟨_, if_pos rfl⟩)) ?_ ?_
    · intro b
      by_cases hb : b = a
      · exact .inr ⟨_, _, if_pos hb⟩
      · exact .inl (if_neg hb)
    · intro b u z
      by_cases hb : b = a
      · subst hb
        have z' := (if_pos rfl).symm.trans z
        cases z'
        exact ⟨ha, hv, vs, _, rv, ha⟩
      · have z' := (if_neg hb).symm.trans z
        cases z'
    · intro b z
      by_cases hb : b = a
      · exact ⟨hb, kn⟩
      · exact absurd (if_neg hb) z
  · have e := KX a o kn
    rw [ha] at e
    cases e
    refine core (fun _ => none) (fun _ => .inl rfl) (.inr ⟨_, vs.toArray, _, kn, rfl, rfl, rfl, ?_, by simpa using rv⟩) (fun b u z => by cases z) (fun b z => absurd rfl z)
    rw [List.size_toArray, hi.length]
    exact hl
theorem walk_G {l : PySem.W.OpenLaw} {n k : Nat} {q : Program} {loose : List Str} {XP : (Str → Option Value) → Heap → Prop} {YP : World → Heap → Prop} {d : DefRec} {K : Params → PySem.W.Frag} {CX : World → CXT} {sp : World → Sp} {x : Str}
    (hn : l.most = some n) (hn2 : n ≤ sizeLine) (hdf : d.params.defaults = []) (hr : Room k callerA) (hY : ∀ (w : World) (h : Heap), YP w h → (K w.params).In h)
    (F : ∀ (w : World) (mg : Str → Option Value) (fa : Addr) (h : Heap), (K w.params).In h → h.Ns mainGlobals mg → mg d.name = some (.ref fa) →
      ∃ fd : FuncData, (∀ (s : Shared) (u : Value), BindsTo s fd ⟨[u], []⟩ [(x, u)]) ∧ ∀ base : Heap, (K w.params).In base → base.Ns mainGlobals mg → FnG l.prog w (K w.params) mg base (CX w) k fa fd [x] (sp w))
    (hsp : ∀ (w : World) (H : Hp) (a : Addr) (ns : List Int), ns.length ≤ n → Only H → SqL (K w.params) H a (ns.map V.int) → sp w [.ref a] H (fun v _ => v = .bl true) fun _ _ _ => False)
    (hCX : ∀ (w : World) (H : Hp) (s : Shared) (e : Value) (s' : Shared), CX w [] H s (fun _ _ _ => False) e s' → False) :
    PySem.W.WalkO q loose XP YP l.row.toRowW d [] (fun f vs => PySem.call f vs) := by
  apply Att.attach_call hn hdf
  intro w s0 s1 mg mb fa o pm cd doc a vs ns G Y _ _ _ hmg hobj hints hlen hgen
  obtain ⟨fd, hb, hF⟩ := F w mg fa _ (hY w _ Y) G.T.g hmg
  exact law_callG (hY w _ Y) G.T.g G.T.b G.T.builtins G.T.nolimit hgen hobj hints (Nat.le_trans hlen hn2) hr hF hb (fun H => hsp w H a ns hlen) fun H e s' => hCX w H s1 e s'
end Own

set_option Elab.async false
set_option linter.all false
set_option maxRecDepth 100000
set_option maxHeartbeats 4000000
namespace Mth
/-! the earliest places of a part in a word (w: the rest of the word from o on) -/
def emb : List Nat → List Nat → Nat → List Nat
  | [], _, _ => []
  | _ :: _, [], _ => []
  | c :: p, x :: w, o => if x = c then o :: emb p w (o + 1) else emb (c :: p) w (o + 1)
theorem emb_nil (w : List Nat) (o : Nat) : emb [] w o = [] := by cases w <;> rfl
theorem emb_none' : ∀ (p : List Nat) (o : Nat), emb p [] o = []
  | [], _ => rfl
  | _ :: _, _ => rfl
theorem emb_yes {c : Nat} {p w : List Nat} {o : Nat} : emb (c :: p) (c :: w) o = o :: emb p w (o + 1) := by
  rw [emb, if_pos rfl]
theorem emb_no {c x : Nat} {p w : List Nat} {o : Nat} (h : x ≠ c) : emb (c :: p) (x :: w) o = emb (c :: p) w (o + 1) := by
  rw [emb, if_neg h]
theorem emb_le : ∀ (w p : List Nat) (o : Nat), (emb p w o).length ≤ p.length
  | [], p, o => by rw [emb_none']; exact Nat.zero_le _
  | x :: w, [], o => by rw [emb_nil]; exact Nat.zero_le _
  | x :: w, c :: p, o => by
    by_cases h : x = c
    · subst h
      rw [emb_yes]
      have := emb_le w p (o + 1)
      simp only [List.length_cons]
      omega
    · rw [emb_no h]
      exact emb_le w (c :: p) (o + 1)
theorem emb_skip (c : Nat) (p : List Nat) (w : List Nat) : ∀ (n o : Nat), (∀ v, o ≤ v → v < o + n → w[v]? ≠ some c) → o + n ≤ w.length → emb (c :: p) (w.drop o) o = emb (c :: p) (w.drop (o + n)) (o + n)
  | 0, o, _, _ => rfl
  | n + 1, o, h, hl => by
    have ho : o < w.length := by omega
    rw [List.drop_eq_getElem_cons ho, emb_no (by
      have := h o (Nat.le_refl _) (by omega)
      rw [List.getElem?_eq_getElem ho] at this
      exact fun e => this (by rw [e])), emb_skip c p w n (o + 1) (fun v h1 h2 => h v (by omega) (by omega)) (by omega)]
    rw [show o + 1 + n = o + (n + 1) by omega]
theorem emb_step {c : Nat} {p w : List Nat} {o k : Nat} (hk : w[k]? = some c) (hok : o ≤ k) (hn : ∀ v, o ≤ v → v < k → w[v]? ≠ some c) : emb (c :: p) (w.drop o) o = k :: emb p (w.drop (k + 1)) (k + 1) := by
  have hl : k < w.length := by
    rcases Nat.lt_or_ge k w.length with h | h
    · exact h
    · rw [List.getElem?_eq_none h] at hk; cases hk
  rw [emb_skip c p w (k - o) o (fun v h1 h2 => hn v h1 (by omega)) (by omega), show o + (k - o) = k by omega, List.drop_eq_getElem_cons hl]
  rw [List.getElem?_eq_getElem hl] at hk
  rw [Option.some.inj hk, emb_yes]
theorem emb_stop {c : Nat} {p w : List Nat} {o : Nat} (hn : ∀ v, o ≤ v → w[v]? ≠ some c) : emb (c :: p) (w.drop o) o = [] := by
  rcases Nat.lt_or_ge o w.length with h | h
  · rw [emb_skip c p w (w.length - o) o (fun v h1 _ => hn v h1) (by omega), show o + (w.length - o) = w.length by omega, List.drop_length, emb_none']
  · rw [List.drop_of_length_le h, emb_none']
theorem emb_take : ∀ (w p : List Nat) (o k : Nat), emb (p.take k) w o = (emb p w o).take k
  | [], p, o, k => by rw [emb_none', emb_none', List.take_nil]
  | x :: w, [], o, k => by rw [List.take_nil, emb_nil, List.take_nil]
  | x :: w, c :: p, o, 0 => by rw [List.take_zero, List.take_zero, emb_nil]
  | x :: w, c :: p, o, k + 1 => by
    rw [List.take_succ_cons]
    by_cases h : x = c
    · subst h
      rw [emb_yes, emb_yes, List.take_succ_cons, emb_take w p (o + 1) k]
    · rw [emb_no h, emb_no h, ← List.take_succ_cons, emb_take w (c :: p) (o + 1) (k + 1)]
/-! ascending places -/
def Asc : Nat → Nat → List Nat → Prop
  | _, _, [] => True
  | lo, hi, j :: r => lo ≤ j ∧ j < hi ∧ Asc (j + 1) hi r
theorem Asc.lower : ∀ {l : List Nat} {lo lo' hi : Nat}, Asc lo hi l → lo' ≤ lo → Asc lo' hi l
  | [], _, _, _, _, _ => trivial
  | _ :: _, _, _, _, ⟨h1, h2, h3⟩, h => ⟨Nat.le_trans h h1, h2, h3⟩
theorem Asc.mem : ∀ {l : List Nat} {lo hi j : Nat}, Asc lo hi l → j ∈ l → lo ≤ j ∧ j < hi
  | [], _, _, _, _, h => by cases h
  | i :: r, lo, hi, j, ⟨h1, h2, h3⟩, h => by
    rcases List.mem_cons.mp h with e | e
    · subst e; exact ⟨h1, h2⟩
    · have := Asc.mem h3 e
      exact ⟨by omega, this.2⟩
theorem emb_asc : ∀ (w p : List Nat) (o : Nat), Asc o (o + w.length) (emb p w o)
  | [], p, o => by rw [emb_none']; trivial
  | x :: w, [], o => by rw [emb_nil]; trivial
  | x :: w, c :: p, o => by
    have e : o + (x :: w).length = o + 1 + w.length := by simp only [List.length_cons]; omega
    by_cases h : x = c
    · subst h
      rw [emb_yes, e]
      exact ⟨Nat.le_refl _, by omega, emb_asc w p (o + 1)⟩
    · rw [emb_no h, e]
      exact (emb_asc w (c :: p) (o + 1)).lower (by omega)
theorem getD_cons {x : Nat} {w : List Nat} {j o : Nat} (h : o + 1 ≤ j) : (x :: w).getD (j - o) 0 = w.getD (j - (o + 1)) 0 := by
  rw [show j - o = (j - (o + 1)) + 1 by omega]
  rfl
theorem emb_reads : ∀ (w p : List Nat) (o : Nat), (emb p w o).map (fun j => w.getD (j - o) 0) = p.take (emb p w o).length
  | [], p, o => by rw [emb_none']; rfl
  | x :: w, [], o => by rw [emb_nil]; rfl
  | x :: w, c :: p, o => by
    by_cases h : x = c
    · subst h
      rw [emb_yes, List.map_cons, List.length_cons, List.take_succ_cons, ← emb_reads w p (o + 1)]
      congr 1
      · rw [Nat.sub_self]; rfl
      · refine List.map_congr_left fun j hj => ?_
        exact getD_cons ((emb_asc w p (o + 1)).mem hj).1
    · rw [emb_no h, ← emb_reads w (c :: p) (o + 1)]
      refine List.map_congr_left fun j hj => ?_
      exact getD_cons ((emb_asc w (c :: p) (o + 1)).mem hj).1
/-! place by place no greater -/
def Leq : List Nat → List Nat → Prop
  | [], [] => True
  | a :: l, b :: m => a ≤ b ∧ Leq l m
  | _, _ => False
theorem emb_least : ∀ (w p c : List Nat) (o : Nat), Asc o (o + w.length) c → c.map (fun j => w.getD (j - o) 0) = p → Leq (emb p w o) c
  | [], p, [], o, _, e => by subst e; trivial
  | [], p, j :: c, o, ⟨h1, h2, _⟩, _ => by simp only [List.length_nil] at h2; omega
  | x :: w, p, [], o, _, e => by subst e; rw [List.map_nil, emb_nil]; trivial
  | x :: w, p, j :: c, o, ⟨h1, h2, h3⟩, e => by
    have el : o + (x :: w).length = o + 1 + w.length := by simp only [List.length_cons]; omega
    rw [el] at h2 h3
    rw [List.map_cons] at e
    by_cases h : o + 1 ≤ j
    · have e2 : (j :: c).map (fun i => w.getD (i - (o + 1)) 0) = p := by
        rw [← e, List.map_cons, getD_cons h]
        congr 1
        refine List.map_congr_left fun i hi => ?_
        exact (getD_cons (by have := (h3.mem hi).1; omega)).symm
      have ih := emb_least w p (j :: c) (o + 1) ⟨h, h2, h3⟩ e2
      subst e
      by_cases hx : x = (x :: w).getD (j - o) 0
      · rw [← hx, emb_yes]
        refine ⟨h1, ?_⟩
        refine emb_least w _ c (o + 1) (h3.lower (by omega)) ?_
        refine List.map_congr_left fun i hi => ?_
        exact (getD_cons (by have := (h3.mem hi).1; omega)).symm
      · rw [emb_no hx]
        exact ih
    · have hj : j = o := by omega
      subst hj
      rw [Nat.sub_self] at e
      have e0 : (x :: w).getD 0 0 = x := rfl
      rw [e0] at e
      subst e
      rw [emb_yes]
      refine ⟨Nat.le_refl _, emb_least w _ c (j + 1) h3 ?_⟩
      refine List.map_congr_left fun i hi => ?_
      exact (getD_cons ((h3.mem hi).1)).symm
theorem Leq.len : ∀ {l m : List Nat}, Leq l m → l.length = m.length
  | [], [], _ => rfl
  | _ :: _, _ :: _, ⟨_, h⟩ => by rw [List.length_cons, List.length_cons, Leq.len h]
  | [], _ :: _, h => h.elim
  | _ :: _, [], h => h.elim
/-! all choices of places, as the law lists them -/
def least (c : List Nat) : Nat := match c.getLast? with | some j => j + 1 | none => 0
def ext (size : Nat) (c : List Nat) : List (List Nat) := (List.range' (least c) (size - least c)).map fun j => c ++ [j]
def ch (size : Nat) : Nat → List (List Nat)
  | 0 => [[]]
  | m + 1 => (ch size m).flatMap (ext size)
theorem ch_small : ∀ size < 9, ∀ m < 10, (ch size m).length ≤ 70 := by decide +kernel
theorem asc_snoc : ∀ {c : List Nat} {lo hi x : Nat}, Asc lo hi (c ++ [x]) ↔ Asc lo hi c ∧ (match c.getLast? with | some j => j + 1 | none => lo) ≤ x ∧ x < hi
  | [], lo, hi, x => by simp [Asc]
  | [j], lo, hi, x => by simp [Asc]; omega
  | j :: i :: r, lo, hi, x => by
    have ih := asc_snoc (c := i :: r) (lo := j + 1) (hi := hi) (x := x)
    have e : (j :: i :: r).getLast? = (i :: r).getLast? := List.getLast?_cons_cons
    have e2 : (i :: r).getLast? ≠ none := by simp
    rw [e]
    cases q : (i :: r).getLast? with
    | none => exact absurd q e2
    | some y =>
      rw [q] at ih
      show lo ≤ j ∧ j < hi ∧ Asc (j + 1) hi ((i :: r) ++ [x]) ↔ _
      rw [ih]
      show _ ↔ (lo ≤ j ∧ j < hi ∧ Asc (j + 1) hi (i :: r)) ∧ _
      constructor
      · rintro ⟨a, b, c, d, e⟩; exact ⟨⟨a, b, c⟩, d, e⟩
      · rintro ⟨⟨a, b, c⟩, d, e⟩; exact ⟨a, b, c, d, e⟩
theorem mem_ch (size : Nat) : ∀ (m : Nat) (c : List Nat), c ∈ ch size m ↔ c.length = m ∧ Asc 0 size c
  | 0, c => by
    rw [ch, List.mem_singleton]
    constructor
    · rintro rfl; exact ⟨rfl, trivial⟩
    · rintro ⟨h, _⟩; exact List.length_eq_zero_iff.mp h
  | m + 1, c => by
    rw [ch, List.mem_flatMap]
    constructor
    · rintro ⟨d, hd, hc⟩
      obtain ⟨h1, h2⟩ := (mem_ch size m d).mp hd
      obtain ⟨j, hj, rfl⟩ := List.mem_map.mp hc
      rw [List.mem_range'_1] at hj
      refine ⟨by simp [h1], asc_snoc.mpr ⟨h2, ?_, by omega⟩⟩
      exact hj.1
    · rintro ⟨h1, h2⟩
      have hne : c ≠ [] := by rintro rfl; cases h1
      have hc : c = c.dropLast ++ [c.getLast hne] := (List.dropLast_concat_getLast hne).symm
      rw [hc] at h2
      obtain ⟨a1, a2, a3⟩ := asc_snoc.mp h2
      refine ⟨c.dropLast, (mem_ch size m _).mpr ⟨by simp [h1], a1⟩, ?_⟩
      refine List.mem_map.mpr ⟨c.getLast hne, ?_, hc.symm⟩
      rw [List.mem_range'_1]
      exact ⟨a2, by have : least c.dropLast ≤ c.getLast hne := a2
                    omega⟩
/-! which of them read the part, and the least of these -/
def rdOf (w c : List Nat) : List Nat := c.map fun j => w.getD j 0
def fnd (p w : List Nat) : List (List Nat) := (ch w.length p.length).filter fun c => decide (rdOf w c = p)
def due (p w : List Nat) : Option (List Nat) := if (emb p w 0).length = p.length then some (emb p w 0) else none
theorem mem_fnd {p w c : List Nat} : c ∈ fnd p w ↔ Asc 0 w.length c ∧ rdOf w c = p := by
  unfold fnd
  rw [List.mem_filter, mem_ch, decide_eq_true_iff]
  constructor
  · rintro ⟨⟨_, h⟩, e⟩; exact ⟨h, e⟩
  · rintro ⟨h, e⟩
    refine ⟨⟨?_, h⟩, e⟩
    rw [← e]; simp [rdOf]
theorem emb_in_fnd {p w : List Nat} (h : (emb p w 0).length = p.length) : emb p w 0 ∈ fnd p w := by
  refine mem_fnd.mpr ⟨by have := emb_asc w p 0; rw [Nat.zero_add] at this; exact this, ?_⟩
  have := emb_reads w p 0
  rw [h, List.take_length] at this
  exact this
theorem fnd_leq {p w c : List Nat} (h : c ∈ fnd p w) : Leq (emb p w 0) c := by
  obtain ⟨h1, h2⟩ := mem_fnd.mp h
  exact emb_least w p c 0 (by rw [Nat.zero_add]; exact h1) h2
theorem fnd_nil {p w : List Nat} (h : (emb p w 0).length ≠ p.length) : fnd p w = [] := by
  cases q : fnd p w with
  | nil => rfl
  | cons c r =>
    have hc : c ∈ fnd p w := by rw [q]; exact List.mem_cons_self ..
    have e1 := (fnd_leq hc).len
    have e2 := (mem_fnd.mp hc).2
    exact absurd (by rw [e1, ← e2]; simp [rdOf]) h
theorem due_take {p w : List Nat} {k : Nat} (hk : k ≤ p.length) : (due (p.take k) w).isSome = decide (k ≤ (emb p w 0).length) := by
  unfold due
  rw [emb_take, List.length_take, List.length_take]
  have := emb_le w p 0
  by_cases h : k ≤ (emb p w 0).length
  · rw [if_pos (by omega), decide_eq_true h]; rfl
  · rw [if_neg (by omega), decide_eq_false h]; rfl
theorem emb_self : ∀ (w : List Nat) (o : Nat), emb w w o = List.range' o w.length
  | [], _ => rfl
  | x :: w, o => by rw [emb_yes, emb_self w (o + 1)]; rfl
end Mth

set_option Elab.async false
set_option linter.all false
set_option maxRecDepth 100000
set_option maxHeartbeats 4000000
namespace Mth
open PySem PySem.Spec PyProof.Rows L2
/-! data: lists of places, lists of signs -/
def iL (l : List Nat) : PyData := .list (l.map fun j => PyData.int (j : Nat))
def sL (l : List Nat) : PyData := .list (l.map fun c => PyData.str ⟨#[c]⟩)
theorem toks_leq : ∀ {g y : List Nat}, Leq g y → PyProof.Rows.lexLt PyProof.Rows.itemOrd (PySem.W.keyToksAll (y.map fun j => PyData.int (j : Nat))) (PySem.W.keyToksAll (g.map fun j => PyData.int (j : Nat))) = false ∧
    (g ≠ y → PyProof.Rows.lexLt PyProof.Rows.itemOrd (PySem.W.keyToksAll (g.map fun j => PyData.int (j : Nat))) (PySem.W.keyToksAll (y.map fun j => PyData.int (j : Nat))) = true)
  | [], [], _ => ⟨by decide +kernel, fun h => absurd rfl h⟩
  | a :: g, b :: y, ⟨h, r⟩ => by
    obtain ⟨i1, i2⟩ := toks_leq r
    rw [List.map_cons, List.map_cons]
    by_cases e : a = b
    · subst e
      have eq : PyData.eqv (.int (a : Nat)) (.int (a : Nat)) = true := by simp [PyData.eqv]
      rw [PySem.W.dataLt_all_yes rfl eq, PySem.W.dataLt_all_yes rfl eq]
      exact ⟨i1, fun hne => i2 fun z => hne (by rw [z])⟩
    · have e1 : PyData.eqv (.int (a : Nat)) (.int (b : Nat)) = false := by simp [PyData.eqv]; omega
      have e2 : PyData.eqv (.int (b : Nat)) (.int (a : Nat)) = false := by simp [PyData.eqv]; omega
      rw [PySem.W.dataLt_all_no rfl e1, PySem.W.dataLt_all_no rfl e2, PySem.W.dataLt_int, PySem.W.dataLt_int]
      exact ⟨decide_eq_false (by omega), fun _ => decide_eq_true (by omega)⟩
theorem lt_leq {g y : List Nat} (h : Leq g y) : PySem.W.dataLt (iL y) (iL g) = false ∧ (g ≠ y → PySem.W.dataLt (iL g) (iL y) = true) := by
  unfold iL
  rw [PySem.W.dataLt_list, PySem.W.dataLt_list]
  exact toks_leq h
theorem minD_eq {g : PyData} : ∀ (ds : List PyData) (x : PyData), g ∈ x :: ds → (∀ y ∈ x :: ds, PySem.W.dataLt y g = false) → (∀ a ∈ x :: ds, a ≠ g → PySem.W.dataLt g a = true) → PySem.W.minD x ds = g
  | [], x, h, _, _ => by
    rcases List.mem_cons.mp h with e | e
    · exact e.symm
    · cases e
  | d :: ds, x, h, h1, h2 => by
    show PySem.W.minD (if PySem.W.dataLt d x then d else x) ds = g
    have sub : ∀ y ∈ (if PySem.W.dataLt d x then d else x) :: ds, y ∈ x :: d :: ds := by
      intro y hy
      rcases List.mem_cons.mp hy with e | e
      · subst e
        split
        · exact List.mem_cons_of_mem _ (List.mem_cons_self ..)
        · exact List.mem_cons_self ..
      · exact List.mem_cons_of_mem _ (List.mem_cons_of_mem _ e)
    refine minD_eq ds _ ?_ (fun y hy => h1 y (sub y hy)) (fun a ha => h2 a (sub a ha))
    rcases List.mem_cons.mp h with e | e
    · subst e
      rw [if_neg (by rw [h1 d (by simp)]; exact Bool.false_ne_true)]
      exact List.mem_cons_self ..
    · rcases List.mem_cons.mp e with e | e
      · subst e
        by_cases hx : x = g
        · subst hx; split <;> exact List.mem_cons_self ..
        · rw [if_pos (h2 x (by simp) hx)]
          exact List.mem_cons_self ..
      · exact List.mem_cons_of_mem _ e
theorem ints_inj {l m : List Nat} (h : iL l = iL m) : l = m := by
  unfold iL at h
  have h' := PyData.list.inj h
  have : ∀ (l m : List Nat), l.map (fun j => PyData.int (j : Nat)) = m.map (fun j => PyData.int (j : Nat)) → l = m := by
    intro l
    induction l with
    | nil => intro m e; cases m with
      | nil => rfl
      | cons _ _ => simp at e
    | cons a l ih => intro m e; cases m with
      | nil => simp at e
      | cons b m =>
        rw [List.map_cons, List.map_cons] at e
        injection e with e1 e2
        injection e1 with e1
        rw [ih m e2, show a = b by omega]
  exact this l m h'
theorem min_due {p w : List Nat} {x : List Nat} {r : List (List Nat)} (h : fnd p w = x :: r) : PySem.W.minD (iL x) (r.map iL) = iL (emb p w 0) ∧ due p w = some (emb p w 0) := by
  have ne : (emb p w 0).length = p.length := by
    rcases Decidable.em ((emb p w 0).length = p.length) with e | e
    · exact e
    · rw [fnd_nil e] at h; cases h
  refine ⟨?_, by unfold due; rw [if_pos ne]⟩
  have mm : ∀ y ∈ iL x :: r.map iL, ∃ c ∈ fnd p w, y = iL c := by
    intro y hy
    rw [← List.map_cons, List.mem_map] at hy
    obtain ⟨c, hc, rfl⟩ := hy
    exact ⟨c, by rw [h]; exact hc, rfl⟩
  refine minD_eq _ _ ?_ (fun y hy => ?_) fun a ha hne => ?_
  · rw [← List.map_cons, ← h]
    exact List.mem_map.mpr ⟨_, emb_in_fnd ne, rfl⟩
  · obtain ⟨c, hc, rfl⟩ := mm y hy
    exact (lt_leq (fnd_leq hc)).1
  · obtain ⟨c, hc, rfl⟩ := mm a ha
    exact (lt_leq (fnd_leq hc)).2 fun e => hne (by rw [e])
theorem due_none {p w : List Nat} (h : fnd p w = []) : due p w = none := by
  unfold due
  rw [if_neg]
  intro e
  have := emb_in_fnd e
  rw [h] at this
  cases this
theorem depth_ints : ∀ l : List Nat, PyData.depthAll (l.map fun j => PyData.int (j : Nat)) = 0
  | [] => rfl
  | a :: l => by rw [List.map_cons, PyData.depthAll, depth_ints l]; rfl
theorem depth_sgs : ∀ l : List Nat, PyData.depthAll (l.map fun c => PyData.str ⟨#[c]⟩) = 0
  | [] => rfl
  | a :: l => by rw [List.map_cons, PyData.depthAll, depth_sgs l]; rfl
theorem depth_lists : ∀ ls : List (List Nat), PyData.depthAll (ls.map iL) ≤ 1
  | [] => by decide
  | l :: ls => by
    rw [List.map_cons, PyData.depthAll]
    have := depth_lists ls
    have e : (iL l).depth = 1 := by unfold iL; rw [PyData.depth, depth_ints]
    omega
theorem alike_ints : ∀ l m : List Nat, PySem.W.alikeAll (l.map fun j => PyData.int (j : Nat)) (m.map fun j => PyData.int (j : Nat)) = true
  | [], m => by rw [List.map_nil]; unfold PySem.W.alikeAll; cases m <;> rfl
  | a :: l, [] => by rw [List.map_nil, List.map_cons, PySem.W.alikeAll]
  | a :: l, b :: m => by rw [List.map_cons, List.map_cons, PySem.W.alikeAll, alike_ints l m]; rfl
theorem alike_lists (ls : List (List Nat)) : PySem.W.AlikeAll (ls.map iL) := by
  refine ⟨fun x hx y hy => ?_, fun x hx => ?_⟩
  · obtain ⟨l, _, rfl⟩ := List.mem_map.mp hx
    obtain ⟨m, _, rfl⟩ := List.mem_map.mp hy
    unfold iL
    rw [PySem.W.alike]
    exact alike_ints l m
  · obtain ⟨l, _, rfl⟩ := List.mem_map.mp hx
    intro e; cases e
theorem lay_ints : ∀ l : List Nat, PyData.canLayAll0 (l.map fun j => PyData.int (j : Nat)) = true
  | [] => rfl
  | a :: l => by rw [List.map_cons, PyData.canLayAll0, lay_ints l]; rfl
theorem lay_sgs : ∀ l : List Nat, (∀ c ∈ l, c < 1114112) → PyData.canLayAll0 (l.map fun c => PyData.str ⟨#[c]⟩) = true
  | [], _ => rfl
  | a :: l, h => by
    rw [List.map_cons, PyData.canLayAll0, lay_sgs l fun c hc => h c (List.mem_cons_of_mem _ hc), PyData.canLay0]
    have ha : a < 1114112 := h a (List.mem_cons_self ..)
    have : PyData.strOk ⟨#[a]⟩ = true := by
      unfold PyData.strOk
      simp
      exact ha
    rw [this]
    rfl
theorem shaped_ints (l : List Nat) : SeqAt.shaped (iL l) = true := by
  unfold SeqAt.shaped iL
  rw [PyData.canLay0, lay_ints, PyData.depth, depth_ints]
  rfl
theorem shaped_sgs {l : List Nat} (h : ∀ c ∈ l, c < 1114112) : SeqAt.shaped (sL l) = true := by
  unfold SeqAt.shaped sL
  rw [PyData.canLay0, lay_sgs l h, PyData.depth, depth_sgs]
  rfl
theorem lay_lists : ∀ ls : List (List Nat), PyData.canLayAll0 (ls.map iL) = true
  | [] => rfl
  | l :: ls => by
    rw [List.map_cons, PyData.canLayAll0, lay_lists ls]
    unfold iL
    rw [PyData.canLay0, lay_ints]
    rfl
theorem shaped_lists (ls : List (List Nat)) : SeqAt.shaped (.list (ls.map iL)) = true := by
  unfold SeqAt.shaped
  rw [PyData.canLay0, lay_lists, PyData.depth]
  have := depth_lists ls
  rw [Bool.true_and, decide_eq_true_iff]
  omega
theorem eqv_sgs : ∀ l m : List Nat, PyData.eqvAll (l.map fun c => PyData.str ⟨#[c]⟩) (m.map fun c => PyData.str ⟨#[c]⟩) = decide (l = m)
  | [], [] => rfl
  | [], b :: m => rfl
  | a :: l, [] => rfl
  | a :: l, b :: m => by
    rw [List.map_cons, List.map_cons, PyData.eqvAll, eqv_sgs l m, PyData.eqv]
    by_cases e : a = b
    · subst e; simp
    · have : ((⟨#[a]⟩ : Str) == ⟨#[b]⟩) = false := by
        rw [beq_eq_false_iff_ne]
        intro z
        injection z with z
        simp at z
        exact e z
      rw [this]; simp [e]
theorem eqv_ints : ∀ l m : List Nat, PyData.eqvAll (l.map fun j => PyData.int (j : Nat)) (m.map fun j => PyData.int (j : Nat)) = decide (l = m)
  | [], [] => rfl
  | [], b :: m => rfl
  | a :: l, [] => rfl
  | a :: l, b :: m => by
    rw [List.map_cons, List.map_cons, PyData.eqvAll, eqv_ints l m, PyData.eqv]
    by_cases e : a = b
    · subst e; simp
    · have : (((a : Nat) : Int) == ((b : Nat) : Int)) = false := by
        rw [beq_eq_false_iff_ne]; omega
      rw [this]; simp [e]
/-! what is shown -/
theorem show_ints : ∀ l : List Nat, (∀ j ∈ l, j < 10) → PyData.showableAll (l.map fun j => PyData.int (j : Nat)) = true ∧ ((PyData.shownAll (l.map fun j => PyData.int (j : Nat))).map (·.length)).sum = l.length ∧ (PyData.shownAll (l.map fun j => PyData.int (j : Nat))).length = l.length
  | [], _ => ⟨rfl, rfl, rfl⟩
  | a :: l, h => by
    obtain ⟨h1, h2, h3⟩ := show_ints l fun j hj => h j (List.mem_cons_of_mem _ hj)
    have ha : a < 10 := h a (List.mem_cons_self ..)
    have key : ∀ a < 10, (PyData.int ((a : Nat) : Int)).showable = true ∧ (PyData.int ((a : Nat) : Int)).shown.length = 1 := by decide +kernel
    obtain ⟨k1, k2⟩ := key a ha
    rw [List.map_cons, PyData.showableAll, h1, k1, PyData.shownAll, List.map_cons, List.sum_cons, h2, k2, List.length_cons, List.length_cons, h3]
    exact ⟨rfl, by omega, rfl⟩
theorem shown_ints {l : List Nat} (h : ∀ j ∈ l, j < 10) (hl : l.length ≤ 1000) : (iL l).showable = true ∧ (iL l).hasDict = false ∧ (iL l).depth ≤ 60 ∧ (iL l).shown.length ≤ sizeLine := by
  obtain ⟨h1, h2, h3⟩ := show_ints l h
  have nd : ∀ l : List Nat, PyData.hasDictAll (l.map fun j => PyData.int (j : Nat)) = false := by
    intro l
    induction l with
    | nil => rfl
    | cons a l ih => rw [List.map_cons, PyData.hasDictAll, ih]; rfl
  unfold iL
  rw [PyData.showable, h1, PyData.hasDict, nd, PyData.depth, depth_ints, PyData.shown]
  refine ⟨rfl, rfl, by decide, ?_⟩
  have := listText_len_le (PyData.shownAll (l.map fun j => PyData.int (j : Nat)))
  rw [h2, h3] at this
  rw [sizeLine_eq]
  omega
/-! a part of the letters is stripped away -/
theorem strip_all {z b : Str} (h : ∀ c ∈ z.cps.toList, c ∈ b.cps.toList) : Txt.stripChars z b = (⟨#[]⟩ : Str) := by
  unfold Txt.stripChars
  rw [PySem.W.stripBy_eq]
  unfold PySem.W.stripped
  have e : z.cps.toList.takeWhile b.cps.contains = z.cps.toList := by
    have : ∀ l : List Nat, (∀ c ∈ l, c ∈ b.cps.toList) → l.takeWhile b.cps.contains = l := by
      intro l
      induction l with
      | nil => intro _; rfl
      | cons a l ih =>
        intro hl
        have ha : b.cps.contains a = true := by simpa using hl a (List.mem_cons_self ..)
        rw [List.takeWhile_cons_of_pos ha, ih fun c hc => hl c (List.mem_cons_of_mem _ hc)]
    exact this _ h
  simp only [if_true, e]
  rw [Array.length_toList]
  unfold Builtin.Str.strSub
  simp [Str.length]
end Mth

set_option Elab.async false
set_option linter.all false
set_option maxRecDepth 100000
set_option maxHeartbeats 4000000
namespace Exn
open PySem PySem.W PySem.Calls PyProof.Rows PySem.HandSPX
/-! an own error class over any built-in error: def __init__(self, f): self.f = f -/
section
open Builtin Builtin.ObjectAttr
variable {prog : Program} {w : World} {A : Around} {E : Value → Shared → Prop} {R : Result → Shared → Prop} {hp : Heap} {g : Array GenState} {d : Drawn} {t : Nat} {os : OsState} {B : String} {bmB : List Value}
theorem osaB {K : Frag} {name : Str} {tk : Tok} {v : Value} {x C : Addr} {fv : Array Value} {cd : ClassData} (SF : StoreFacts B bmB "object.__setattr__" "object")
    (X : K.In hp) (hx : hp.get? x = some { cls := .ref C, data := .fields fv }) (ho : excOver K C bmB = true) (ht : takerIn K C name = some none) (hcd : clsIn K C = some cd) (hh : cd.hasDict = true)
    (hq : ∀ h' tk' dx, (∀ b o, b ≠ x → hp.get? b = some o → h'.get? b = some o) → hp.objs.size ≤ dx → dx ≠ x → h'.get? x = some { cls := .ref C, dict := some dx, data := .fields fv } → h'.Ns1 dx (fun y => if y = name then some v else none) →
      R (.ok (.ret .none)) ⟨h', g, d, tk', os⟩) : codeAny (model prog w) A (.call (.builtin "object.__setattr__") ⟨[.ref x, .str name tk, v], []⟩) R ⟨hp, g, d, t, os⟩ := by
  have xs : x ≠ hp.objs.size := Nat.ne_of_lt (Heap.lt_size hx)
  have hcls : Looks (model prog w) hp (classData C) cd := looks_clsIn X hcd
  refine osa_openX (s := ⟨hp, g, d, t, os⟩) (ox := { cls := .ref C, data := .fields fv }) (od := none) SF X ⟨hx, rfl, rfl, trivial⟩ ho ht fun b => ?_
  show wpAny _ _ (storeInOwnDict (.ref x) (.ref C) (.str name tk) name v b) _ _ _
  obtain ⟨nm, bs, mro, ns, qn, hd, sn, sb, ab, col, del⟩ := cd
  cases hh
  unfold storeInOwnDict ownDictForStores
  repeat (first | with_reducible refine store_in_new ?_ ?_ | with_reducible refine wpAny_loadPart_at hx ?_ | with_reducible refine hcls.at ?_ | wp_step)
  · exact ⟨_, #[], _, (Heap.get?_update_ne _ _ _ _ xs.symm).trans (Heap.get?_push_at rfl rfl), rfl, fun e he => absurd he (by simp), fun _ => rfl⟩
  · intro h' tk' hn' hs
    refine hq h' tk' hp.objs.size (fun b o hb hob => ?_) (Nat.le_refl _) xs.symm ?_ hn'
    · exact (hs.2 b (Nat.ne_of_lt (Heap.lt_size hob))).trans ((Heap.get?_update_ne _ _ _ _ hb).trans (Heap.get?_push_of_some _ hob))
    · exact (hs.2 x xs).trans (Heap.get?_update_self _ (Heap.get?_push_of_some _ hx) rfl)
end
def iA (f : Str) (p1 p2 : Pos) : Arguments := { posonlyargs := [], args := [{ arg := "self", annotation := none, pos := p1 }, { arg := f, annotation := none, pos := p2 }], vararg := none, kwonlyargs := [], kw_defaults := [], kwarg := none, defaults := [] }
def iB (f : Str) (q1 q2 q3 q4 : Pos) : List Stmt := [.Assign [.Attribute (.Name "self" q1) f q2] (.Name f q3) q4]
def iS (f : Str) (m : List (Str × Const)) : Scope := { kind := .function, names := [("self", .local), (f, .local)], isGenerator := false, isCoroutine := false, more := m }
end Exn

set_option Elab.async false
set_option linter.all false
set_option maxRecDepth 100000
set_option maxHeartbeats 4000000
namespace Exn
open PySem PySem.W PySem.Calls PyProof.Rows PySem.HandSPX
abbrev keyTail : List Value := [.type "KeyError", .type "LookupError", .type "Exception", .type "BaseException", .type "object"]
open PySem.F in
theorem storeKey : StoreFacts "KeyError" keyTail "object.__setattr__" "object" :=
  { mro := by kernel_rfl, slot := .of (owner := "object") (n := "__setattr__") (by rw [typeLookup_type, builtinLookup_eq_fast]; kernel_rfl) (by decide +kernel) (by decide +kernel) (by decide +kernel) (by first | exact .inl (by decide +kernel) | exact .inr (by decide +kernel)) (by rw [isSubtype_type]; kernel_rfl),
    entry := entry_object_sa, kind := by decide +kernel, split := by decide +kernel, hasOwner := by decide +kernel, args := fun a b c => by unfold argsOk; kernel_rfl, passes := fun self => by kernel_rfl }
/-! such a class called, by position or with keywords; the maker may be that of a base -/
section
variable {prog : Program} {w : World} {M : Model} {A : Around} {E : Value → Shared → Prop} {R : Result → Shared → Prop} {h : Heap} {g : Array GenState} {d : Drawn} {t : Nat} {os : OsState}
variable {nm q : Str} {C N : Addr} {bs bm bm0 : List Value} {hdct : Bool} {sn : List Str} {sub : List Value} {ab : Bool} {col : Option Bool} {dd : Option Addr} {k0 k1 k2 k3 k5 : Option Value} {B newId initId : String} {rest : List Value} {kw : List (Str × Value)}
/-- what the class's chain must say of the maker -/
structure Chain (bm : List Value) (B : String) : Prop where
  cB : bm.contains (.type B) = true
  cA : bm.contains (.type "AttributeError") = false
  cN : bm.contains (.type "NameError") = false
theorem checkNewX (F : ExcBaseFacts B newId initId bm0) (hT : Chain bm B) {Q : Unit → Shared → Prop}
    (hC : h.get? C = some (excClassObj nm q C N bs bm hdct sn sub ab col dd k0 k1 k2 k3 k5 newId)) (hq : Q () ⟨h, g, d, t, os⟩) : wpAny M A (checkBuiltinCall newId ⟨.ref C :: rest, kw⟩) Q E ⟨h, g, d, t, os⟩ := by
  have hcB : (Value.ref C :: bm).contains (.type B) = true := by rw [List.contains_cons, hT.cB, Bool.or_true]
  have hst := F.noStar
  simp only [checkBuiltinCall, F.newKind, F.newSplit, F.newRow]
  repeat (first | refine wpAny_loadPart_at hC ?_ | (refine wpAny_isSubtype_exc hC ?_; rw [hcB]) | refine wpAny_staticBase_exc hC ?_ | refine wpAny_madeBy_exc hC ?_ | simp only [bne_self_eq_false, Bool.false_eq_true, if_false] | wp_step)
  exact hq
theorem newX (F : ExcBaseFacts B newId initId bm0) (hT : Chain bm B) (hC : h.get? C = some (excClassObj nm q C N bs bm hdct sn sub ab col dd k0 k1 k2 k3 k5 newId)) (hrest : rest.length ≤ sizeLine)
    (hq : R (.ok (.ret (.ref (h.objs.size + 1)))) ⟨(h.push (W.kdv_tup rest)).push (excO C h.objs.size), g, d, t, os⟩) :
    codeAny (model prog w) A (.builtin newId ⟨.ref C :: rest, kw⟩) R ⟨h, g, d, t, os⟩ := by
  have hends := F.ends
  have cB : (Value.ref C :: bm).contains (.type B) = true := by rw [List.contains_cons, hT.cB, Bool.or_true]
  have cA : (Value.ref C :: bm).contains (.type "AttributeError") = false := by rw [List.contains_cons, hT.cA]; rfl
  have cN : (Value.ref C :: bm).contains (.type "NameError") = false := by rw [List.contains_cons, hT.cN]; rfl
  refine codeAny_builtinAt F.entry ?_
  unfold Builtin.«BaseException.__new__»
  refine PySem.wpAt_bind ?_
  show PySem.wpAt _ _ _ (stack >>= _) _ _ _
  refine PySem.wpAt_bind (PySem.wpAt_stack fun p below => PySem.wpAt_of_wpAny ?_)
  wp_walk
  refine PySem.wpAt_of_wpAny ?_
  rw [F.owner]
  repeat (first | with_reducible refine wpAny_madeHere_exc F.canon hC ?_ | with_reducible refine wpAny_loadPart_at hC ?_ | (with_reducible refine wpAny_isSubtype_exc hC ?_; first | rw [cB] | rw [cA] | rw [cN]) | wp_step)
  show R _ _
  rw [Heap.size_push]
  exact hq
theorem typeCallX (F : ExcBaseFacts B newId initId bm0) (hT : Chain bm B) {fI : Addr} {Q : Fin → Shared → Prop} (hC : h.get? C = some (excClassObj nm q C N bs bm hdct sn sub ab col dd k0 k1 k2 k3 k5 newId))
    (hi : W.Looks (model prog w) h (typeLookup (.ref C) "__init__") (some (.ref fI))) (hb : ∀ self, W.Looks (model prog w) h (bindSpecial (.ref fI) self) (.ref fI, [self])) (hrest : rest.length ≤ sizeLine)
    (hq : codeAny (model prog w) A (.call (.ref fI) ⟨.ref (h.objs.size + 1) :: rest, kw⟩) (fun r s' => match r with | .ok (.ret v) => v = .none ∧ Q (.done (.ret (.ref (h.objs.size + 1)))) s' | .ok _ => False | .error e => E e s')
      ⟨(h.push (W.kdv_tup rest)).push (excO C h.objs.size), g, d, t, os⟩) : wpAny (model prog w) A (Builtin.«type.__call__» ⟨.ref C :: rest, kw⟩) Q E ⟨h, g, d, t, os⟩ := by
  repeat (first | with_reducible refine wpAny_loadPart_at hC ?_ | with_reducible refine wpAny_madeBy_exc hC ?_ | wp_step)
  refine codeAny_call_builtin_code (Code.quiet_builtin _ F.quiet) (checkNewX F hT hC (newX F hT hC hrest ?_))
  show wpAny _ _ _ _ _ _
  have k : ∀ b o, h.get? b = some o → ((h.push (W.kdv_tup rest)).push (excO C h.objs.size)).get? b = some o := fun b o e => Heap.get?_push_of_some _ (Heap.get?_push_of_some _ e)
  have hC1 := k _ _ hC
  have hge : ((h.push (W.kdv_tup rest)).push (excO C h.objs.size)).get? (h.objs.size + 1) = some (excO C h.objs.size) := by heap_get
  have cC : (Value.ref C :: bm).contains (.ref C) = true := by simp
  have i1 := hi.keeps k
  have b1 := (hb (.ref (h.objs.size + 1))).keeps k
  unfold isInstance
  repeat (first | with_reducible refine wpAny_loadPart_at hge ?_ | (with_reducible refine wpAny_isSubtype_exc hC1 ?_; rw [cC]) | wp_step)
  show wpAny _ _ (typeLookup (.ref C) _) _ _ _
  refine i1.at (wpAny_holding (wpAny_bind (b1.at (wpAny_bind (wpAny_call (codeAny_mono hq fun r s' z => ?_))))))
  rcases r with e | (v | _ | _ | _) <;> first | exact z | exact z.elim | skip
  obtain ⟨rfl, z⟩ := z
  first | exact wpAny_pure (wpAny_pure z) | (wp_walk; exact z)
theorem callX (F : ExcBaseFacts B newId initId bm0) (hT : Chain bm B) {fI : Addr} (hC : h.get? C = some (excClassObj nm q C N bs bm hdct sn sub ab col dd k0 k1 k2 k3 k5 newId))
    (hi : W.Looks (model prog w) h (typeLookup (.ref C) "__init__") (some (.ref fI))) (hb : ∀ self, W.Looks (model prog w) h (bindSpecial (.ref fI) self) (.ref fI, [self])) (hrest : rest.length ≤ sizeLine)
    (hq : codeAny (model prog w) (A.under (.builtin "type.__call__" ⟨.ref C :: rest, kw⟩)) (.call (.ref fI) ⟨.ref (h.objs.size + 1) :: rest, kw⟩) (W.InitBack (h.objs.size + 1) R)
      ⟨(h.push (W.kdv_tup rest)).push (excO C h.objs.size), g, d, t, os⟩) : codeAny (model prog w) A (.call (.ref C) ⟨rest, kw⟩) R ⟨h, g, d, t, os⟩ := by
  have f1 := tc_lookup
  have f2 := tc_bind (.ref C)
  have hTy : (⟨h, g, d, t, os⟩ : Shared).TypeIs (.ref C) "type" := ⟨_, hC, rfl⟩
  refine codeAny_of_tree ?_
  show wpAny _ _ (callAny (.ref C) _) _ _ _
  repeat (any_goals (first | assumption | with_reducible refine wpAny_loadPart_at hC ?_ | wp_step))
  refine ⟨rfl, codeAny_call_builtin_at (Code.quiet_builtin _ (by decide +kernel)) entry_typeCall (wpAny_check_type_call_sub hC (typeCallX F hT hC hi hb hrest ?_))⟩
  exact codeAny_mono hq fun r s' z => by rcases r with e | (v | _ | _ | _) <;> exact z
end
end Exn

set_option Elab.async false
set_option linter.all false
set_option maxRecDepth 100000
set_option maxHeartbeats 4000000
namespace Exn
open PySem PySem.Spec PyProof.Rows L2
/-! an own error held as a value: at a, of the class at C, its dict at d -/
def ExV (C d a : Addr) : HO := .ext fun h => ∃ t1 : Addr, h.get? a = some { cls := .ref C, dict := some d, data := .fields #[.ref t1, .none, .none, .none, .bool false, .none] }
theorem exV_ok {P : Program} {w : World} {H : Hp} {h : Heap} {a C d t1 : Addr} (e : h.get? a = some { cls := .ref C, dict := some d, data := .fields #[.ref t1, .none, .none, .none, .bool false, .none] }) : ObjOk P w H h a (ExV C d a) :=
  ⟨⟨t1, e⟩, ⟨_, e⟩, fun _ _ ⟨t, z⟩ k => ⟨t, k _ z⟩⟩
/-- what its class must say, for a field f to be read and for isinstance -/
structure Xv (K : PySem.W.Frag) (C : Addr) : Prop where
  ga : PySem.W.findIn K (.ref C) "__getattribute__" = some (some (.builtin "BaseException.__getattribute__"))
  gg : PySem.W.findIn K (.ref C) "__getattr__" = some none
  exC : PySem.W.subIn K (.ref C) (.type "BaseException") = some true
  hdC : PySem.W.hasDictIn K C = true
  ha : PySem.W.findIn K (.ref C) "__class__" = some (some (.builtin "object.__class__"))
  hm : PySem.W.mroIn K C (.type "object") = some true
  hn : PySem.W.specialIn K (.builtin "object.__class__") "__get__" = some (some (.builtin "getset_descriptor.__get__"))
  ht : PySem.W.takesIn K (.builtin "object.__class__") = some true
/-- an error made as a value: its dict at d, itself at a, both new -/
def tMkVg (f : Str) (C : Addr) (ta : TA) : TE := fun σ H Q => ta σ H fun vs H1 => ∃ v, vs = [v] ∧ ∀ d a, H1 d = none → H1 a = none → a ≠ d → Q (.ref a) (upd (upd H1 d (.xd [(f, v)])) a (ExV C d a))
open PySem.W in
/-- these facts, asked at once -/
def ecB (K : PySem.W.Frag) (C fI : Addr) (f : Str) (bmB : List Value) (newId : String) : Bool :=
  excInitIn K C bmB newId && (excOver K C bmB && (hasDictIn K C && (decide (findIn K (.ref C) "__setattr__" = some (some (.builtin "object.__setattr__"))) && (decide (findIn K (.ref C) "__getattribute__" = some (some (.builtin "BaseException.__getattribute__"))) && (decide (findIn K (.ref C) "__getattr__" = some none) &&
    (decide (findIn K (.ref C) f = some none) && (decide (takerIn K C f = some none) && (decide (typeIn K (.ref fI) = some (.type "function")) && (keepIn K (.ref C) && (decide (subIn K (.ref C) (.type "BaseException") = some true) && (decide (typeIn K (.ref C) = some (.type "type")) &&
      (decide (findIn K (.ref C) "__class__" = some (some (.builtin "object.__class__"))) && decide (mroIn K C (.type "object") = some true)))))))))))))
theorem xv_of {K : PySem.W.Frag} {C fI : Addr} {f : Str} {bmB : List Value} {newId : String} (h : ecB K C fI f bmB newId = true) (hn : PySem.W.specialIn K (.builtin "object.__class__") "__get__" = some (some (.builtin "getset_descriptor.__get__"))) (ht : PySem.W.takesIn K (.builtin "object.__class__") = some true) :
    Xv K C ∧ PySem.W.findIn K (.ref C) f = some none := by
  unfold ecB at h
  simp only [Bool.and_eq_true, decide_eq_true_eq] at h
  obtain ⟨_, _, h3, _, h5, h6, h7, _, _, _, h11, _, h13, h14⟩ := h
  exact ⟨⟨h5, h6, h11, h3, h13, h14, hn, ht⟩, h7⟩
section
variable {X : Cx}
theorem exV_inst {pins : List (Addr × Obj)} {σ : L2.St} {H : Hp} {s : Shared} {a C d : Addr} {fs : List (Str × V)} (I : Inv X pins σ H s) (ea : H a = some (ExV C d a)) (ed : H d = some (.xd fs)) :
    ∃ (ox od : Obj) (mA : Str → Option Value), PySem.W.InstAt s.heap a ox C (some od) ∧ (∀ n, PySem.W.lookIn n od = some (mA n)) ∧ ∀ f, RelO (fs.lookup f) (mA f) := by
  obtain ⟨⟨t1, ha⟩, _⟩ := (show ObjOk X.prog X.w H s.heap a (ExV C d a) from I.hok a _ ea)
  obtain ⟨mA, hns, hr⟩ := (show ObjOk X.prog X.w H s.heap d (.xd fs) from I.hok d _ ed)
  obtain ⟨od, ho, hl⟩ := lookIn_ns hns
  exact ⟨_, od, mA, ⟨ha, rfl, rfl, ho⟩, hl, hr⟩
def tAttrV (K : PySem.W.Frag) (f : Str) (te : TE) : TE := fun σ H Q => te σ H fun x H1 => ∃ (a C d : Addr) (fs : List (Str × V)) (v : V), x = .ref a ∧ H1 a = some (ExV C d a) ∧ H1 d = some (.xd fs) ∧ fs.lookup f = some v ∧ Xv K C ∧ PySem.W.findIn K (.ref C) f = some none ∧ Q v H1
theorem pe_attrV {e : Expr} {te : TE} {pos : Pos} {f : Str} (he : PE X e te) (hb : attributeBase e f X.env (eval e X.env) = eval e X.env := by rfl) : PE X (.Attribute e f pos) (tAttrV X.K f te) := by
  refine ⟨fun pins s σ H Q I h => attr_of hb (thn (he.run pins s σ H _ I h) ?_)⟩
  rintro u s1 ⟨x, H1, I1, rx, a, C, d, fs, v, rfl, ea, ed, l, T, hno, q⟩
  obtain rfl : u = Value.ref a := rx
  obtain ⟨ox, od, mA, J, hl, hr⟩ := exV_inst I1 ea ed
  obtain ⟨u, hu, ru⟩ := RelO.some_of (v := v) (o := mA f) (by rw [← l]; exact hr f)
  exact HandSPX.exc_get I1.kIn J T.ga T.gg T.exC (PySem.W.findObj_own T.hdC hno rfl (by rw [hl, hu])) (handed_of ru) ⟨v, H1, I1.tok _, ru, q⟩
def rIsV (K : PySem.W.Frag) : List V → Hp → VK → Prop := fun xs H Q => ∃ (a C d : Addr) (fs : List (Str × V)) (c : V) (u : Value) (b : Bool), xs = [.ref a, c] ∧ ClsV c u ∧ H a = some (ExV C d a) ∧ H d = some (.xd fs) ∧ Xv K C ∧ PySem.W.kitOne K (.ref C) u = some b ∧ Q (.bl b) H
theorem call_isV : CallR X (.builtin "isinstance") (rIsV X.K) := by
  intro pins s σ H xs us Q I r h
  obtain ⟨a, C, d, fs, c, u, b, rfl, kc, ea, ed, T, e, q⟩ := h
  obtain ⟨u1, u2, rfl, r1, r2⟩ := vals2 r
  obtain rfl : u1 = Value.ref a := r1
  have e2 := kc.eq r2
  subst e2
  obtain ⟨ox, od, mA, J, _, _⟩ := exV_inst I ea ed
  obtain ⟨cd, hcd, _⟩ := PySem.W.any_some T.hdC
  exact PySem.W.kia_one (PySem.W.kitx_exc (by rw [hcd]; rfl) T.ga T.gg T.exC T.ha T.hn T.ht T.hm) I.kIn J e (fun z => nomatch z) fun tk => ⟨.bl b, H, I.tok tk, rfl, q⟩
end
end Exn
/-! the field value -/
namespace Exn
open PySem PySem.W PySem.Calls PyProof.Rows PySem.HandSPX
/-- what the written part says of such a class: its name, its place C, its __init__ at fI -/
structure Ecl_value (K : Frag) (mg : Str → Option Value) (nm qual : Str) (B Bm newId initId : String) (bmB bm0 : List Value) (C fI : Addr) : Prop where
  fb : ExcBaseFacts Bm newId initId bm0
  ch : Chain bmB Bm
  sf : StoreFacts B bmB "object.__setattr__" "object"
  gC : mg nm = some (.ref C)
  ini : excInitIn K C bmB newId = true
  ovr : excOver K C bmB = true
  hdC : hasDictIn K C = true
  sa : findIn K (.ref C) "__setattr__" = some (some (.builtin "object.__setattr__"))
  ga : findIn K (.ref C) "__getattribute__" = some (some (.builtin "BaseException.__getattribute__"))
  gg : findIn K (.ref C) "__getattr__" = some none
  noN : findIn K (.ref C) "value" = some none
  tk : takerIn K C "value" = some none
  iC : findIn K (.ref C) "__init__" = some (some (.ref fI))
  tC : typeIn K (.ref fI) = some (.type "function")
  kC : keepIn K (.ref C) = true
  exC : subIn K (.ref C) (.type "BaseException") = some true
  tyC : typeIn K (.ref C) = some (.type "type")
  fn : ∃ (oc : Value) (od : Option Addr) (doc pm : Value) (an : Option Addr) (cdv ct : Value) (osl : Array (Option Value)) (p1 p2 q1 q2 q3 q4 : Pos),
    K.lookup fI = some ⟨oc, od, .func (fnOf "__init__" qual (iA "value" p1 p2) (iB "value" q1 q2 q3 q4) (iS "value" []) .none .none doc pm an cdv ct), osl⟩ ∧ codeIn K cdv qual = true
theorem ecl_value {K : Frag} {mg : Str → Option Value} {nm qual : Str} {B Bm newId initId : String} {bmB bm0 : List Value} {C fI : Addr} (fb : ExcBaseFacts Bm newId initId bm0) (ch : Chain bmB Bm) (sf : StoreFacts B bmB "object.__setattr__" "object") (gC : mg nm = some (.ref C))
    (h : ecB K C fI "value" bmB newId = true) (iC : findIn K (.ref C) "__init__" = some (some (.ref fI))) {oc : Value} {od : Option Addr} {doc pm : Value} {an : Option Addr} {cdv ct : Value} {osl : Array (Option Value)} {p1 p2 q1 q2 q3 q4 : Pos}
    (l : K.lookup fI = some ⟨oc, od, .func (fnOf "__init__" qual (iA "value" p1 p2) (iB "value" q1 q2 q3 q4) (iS "value" []) .none .none doc pm an cdv ct), osl⟩) (c : codeIn K cdv qual = true) : Ecl_value K mg nm qual B Bm newId initId bmB bm0 C fI := by
  unfold ecB at h
  simp only [Bool.and_eq_true, decide_eq_true_eq] at h
  obtain ⟨h1, h2, h3, h4, h5, h6, h7, h8, h9, h10, h11, h12, _⟩ := h
  exact ⟨fb, ch, sf, gC, h1, h2, h3, h4, h5, h6, h7, h8, iC, h9, h10, h11, h12, ⟨oc, od, doc, pm, an, cdv, ct, osl, p1, p2, q1, q2, q3, q4, l, c⟩⟩
/-- an error just made: at e, its dict at d, the field in it -/
structure Made_value (h h' : Heap) (e C d : Addr) (v : Value) : Prop where
  keep : ∀ b o, h.get? b = some o → h'.get? b = some o
  new : h.objs.size ≤ e
  obj : ∃ t1 : Addr, h'.get? e = some { cls := .ref C, dict := some d, data := .fields #[.ref t1, .none, .none, .none, .bool false, .none] }
  dbig : h.objs.size ≤ d
  dne : d ≠ e
  ns : h'.Ns1 d (fun y => if y = "value" then some v else none)
section
variable {prog : Program} {w : World} {A : Around} {E : Value → Shared → Prop} {R : Result → Shared → Prop} {s : Shared} {K : Frag} {mg : Str → Option Value} {nm qual : Str} {B Bm newId initId : String} {bmB bm0 : List Value} {C fI : Addr}
theorem init_value (T : Ecl_value K mg nm qual B Bm newId initId bmB bm0 C fI) {x t0 : Addr} {v : Value} {ar : Args} (X : K.In s.heap) (hlim : s.heap.NoLimit) (hx : s.heap.get? x = some (excO C t0)) (hroom : A.depth < recursionLimit)
    (hbind : ∀ doc pm an cdv ct p1 p2 q1 q2 q3 q4 s', BindsTo s' (fnOf "__init__" qual (iA "value" p1 p2) (iB "value" q1 q2 q3 q4) (iS "value" []) .none .none doc pm an cdv ct) ar [("self", .ref x), ("value", v)])
    (hq : ∀ h' tk dx, (∀ b o, b ≠ x → s.heap.get? b = some o → h'.get? b = some o) → h'.get? x = some { cls := .ref C, dict := some dx, data := .fields #[.ref t0, .none, .none, .none, .bool false, .none] } → s.heap.objs.size ≤ dx → dx ≠ x →
      h'.Ns1 dx (fun y => if y = "value" then some v else none) → R (.ok (.ret .none)) { s with heap := h', toks := tk }) :
    codeAny (model prog w) A (.call (.ref fI) ar) R s := by
  obtain ⟨oc, od, doc, pm, an, cdv, ct, osl, p1, p2, q1, q2, q3, q4, ho, hcd⟩ := T.fn
  obtain ⟨cd, hcl, hhd⟩ := any_some T.hdC
  refine Att.call_fn (binds := [("self", .ref x), ("value", v)]) X hlim ho hcd hroom (hbind _ _ _ _ _ _ _ _ _ _ _ _) (by first | rfl | decide | with_unfolding_all rfl) (fun s₁ IC => ?_) rfl rfl rfl
  obtain ⟨h₁, tk₁, rfl⟩ := IC.toInCall.same
  have k := IC.toInCall.keep
  have hn := IC.toInCall.ns
  have X₁ : K.In h₁ := X.keeps k
  show wpAny _ _ (execs _ _) _ _ _
  refine wpAny_execs_cons (plainObj_wpAny_Assign_Attribute ?_)
  refine wpAny_Name (wpAny_loadName_local rfl rfl hn (v := v) (by first | rfl | with_unfolding_all rfl | kernel_rfl) ?_) (by decide)
  refine wpAny_Name (wpAny_loadName_local rfl rfl hn (v := .ref x) (by first | rfl | with_unfolding_all rfl | kernel_rfl) ?_) (by decide)
  refine set_plain X₁ (ox := excO C t0) (od := none) ⟨k _ _ hx, rfl, rfl, trivial⟩ T.sa (osaB T.sf X₁ (k _ _ hx) T.ovr T.tk hcl hhd fun h₃ tk₃ dx k₃ dn dne hx₃ hn₃ => ?_)
  show wpAny _ _ (execs _ _) _ _ _
  exact wpAny_execs_nil (hq h₃ tk₃ dx (fun b o hb e => k₃ b o hb (k b o e)) hx₃ (Nat.le_of_lt (Nat.lt_of_lt_of_le hn.lt dn)) dne hn₃)
theorem made_value (T : Ecl_value K mg nm qual B Bm newId initId bmB bm0 C fI) {v : Value} {rest : List Value} {kw : List (Str × Value)} (X : K.In s.heap) (hlim : s.heap.NoLimit) (hroom : A.depth + 1 < recursionLimit) (how : (rest = [v] ∧ kw = []) ∨ (rest = [] ∧ kw = [(("value" : Str), v)]))
    (hq : ∀ h' tk e d, Made_value s.heap h' e C d v → R (.ok (.ret (.ref e))) { s with heap := h', toks := tk }) :
    codeAny (model prog w) A (.call (.ref C) ⟨rest, kw⟩) R s := by
  obtain ⟨nm', N, q, bs, bm, hd, sn, sub, ab, col, dd, k0, k1, k2, k3, k5, hC, hbm⟩ := excInit_of X T.ini
  obtain ⟨hp, g, dr, tk, os⟩ := s
  have k : ∀ b o, hp.get? b = some o → ((hp.push (kdv_tup rest)).push (excO C hp.objs.size)).get? b = some o := fun b o e => Heap.get?_push_of_some _ (Heap.get?_push_of_some _ e)
  have hget : ((hp.push (kdv_tup rest)).push (excO C hp.objs.size)).get? (hp.objs.size + 1) = some (excO C hp.objs.size) := by heap_get
  have chn : Chain bm Bm := ⟨by rw [hbm]; exact T.ch.cB, by rw [hbm]; exact T.ch.cA, by rw [hbm]; exact T.ch.cN⟩
  have hsz : rest.length ≤ sizeLine := by rcases how with ⟨rfl, _⟩ | ⟨rfl, _⟩ <;> (rw [sizeLine_eq]; simp)
  refine callX T.fb chn hC (looks_findIn X T.iC) (fun self => bind_fn X self T.tC) hsz ?_
  refine init_value (s := ⟨(hp.push (kdv_tup rest)).push (excO C hp.objs.size), g, dr, tk, os⟩) (v := v) T (X.keeps k) (hlim.keeps k) hget (show A.depth + 1 < recursionLimit from hroom) ?_ fun h' tk' dx k' hx dn dne hns => ?_
  · rcases how with ⟨rfl, rfl⟩ | ⟨rfl, rfl⟩
    · exact fun _ _ _ _ _ _ _ _ _ _ _ _ => BindsTo.of_eq (by first | rfl | with_unfolding_all rfl)
    · exact fun _ _ _ _ _ _ _ _ _ _ _ _ => BindsTo.of_eq (by first | rfl | with_unfolding_all rfl)
  have old : ∀ b o, hp.get? b = some o → h'.get? b = some o := fun b o e => k' b o (Nat.ne_of_lt (Nat.lt_succ_of_lt (Heap.lt_size e))) (k b o e)
  have z : hp.objs.size + 1 + 1 ≤ dx := by
    have q := dn
    rw [Heap.size_push, Heap.size_push] at q
    exact q
  exact ⟨rfl, hq h' tk' (hp.objs.size + 1) dx ⟨old, Nat.le_succ _, ⟨_, hx⟩, (show hp.objs.size ≤ dx by omega), dne, hns⟩⟩
end
end Exn
namespace Exn
open PySem PySem.Spec PyProof.Rows L2
theorem relO_value {v : V} {v' : Value} (r : RelV v v') (f : Str) : RelO (List.lookup f [(("value" : Str), v)]) (if f = "value" then some v' else none) := by
  by_cases hw : f = "value"
  · subst hw
    rw [if_pos rfl, show List.lookup ("value" : Str) [(("value" : Str), v)] = some v by simp [List.lookup]]
    exact r
  · have qw : (f == ("value" : Str)) = false := by simpa using hw
    rw [if_neg hw, show List.lookup f [(("value" : Str), v)] = none by simp [List.lookup, qw]]
    trivial
section
variable {X : Cx} {nm qual : Str} {B Bm newId initId : String} {bmB bm0 : List Value} {C fI : Addr}
/-- the making of the error that is raised at once -/
def tMk_value (C : Addr) (ta : TA) : L2.St → Hp → XK → Prop := fun σ H Q => ta σ H fun vs H1 => ∃ v, vs = [v] ∧ ∀ d, H1 d = none → Q (.ref C) (some d) (upd H1 d (.xd [(("value" : Str), v)]))
theorem pmk_value {a : Expr} {ta : TA} {p pos : Pos} {k : Nat} (T : Ecl_value X.K X.mg nm qual B Bm newId initId bmB bm0 C fI) (hr : Room k X.A) (ha : PA X [a] ta) (hg : Gl X nm) (hdb : (nm == ("__debug__" : Str)) = false := by decide)
    (he : starEach (a :: []) X.env = (false, eval a X.env) :: starEach [] X.env := by rfl) (hpl : (backTo pos (starEach [] X.env)).any (·.1) = false := by rfl) :
    PMk X (.Call (.Name nm p) [a] [] pos) (tMk_value C ta) := by
  intro pins s σ H Q I h
  refine wpAny_Call_Name_kw (ld_glob I hg T.gC ?_ hdb)
  refine PySem.W.callWith_K (h₀ := X.base) I.ok.mod.kin T.kC (thn (ha.run pos pins s σ H _ I h) ?_) he hpl
  rintro us s1 ⟨vs, H1, I1, r1, v, rfl, q1⟩
  obtain ⟨v', rfl, rv⟩ := vals1 r1
  refine ⟨I1.kIn, ?_⟩
  have hlim := I1.nolimit
  have hdp := hr.dp
  obtain ⟨hp, g, dr, tk, os⟩ := s1
  refine wpAny_call (made_value T I1.kIn hlim (by omega) (.inl ⟨rfl, rfl⟩) fun h' tk' e d M => ?_)
  show MkP X pins σ Q (.ref e) ⟨h', g, dr, tk', os⟩
  obtain ⟨t1, hoe⟩ := M.obj
  have hns := M.ns
  obtain ⟨G', g1, g2⟩ := restrict h' fun b => decide (b ≠ e)
  have gk : ∀ b, b ≠ e → G'.get? b = h'.get? b := fun b hb => g1 b (decide_eq_true hb)
  have ge : G'.get? e = none := g2 e (by simp)
  have old : ∀ b o, hp.get? b = some o → G'.get? b = some o := fun b o q => (gk b (Nat.ne_of_lt (Nat.lt_of_lt_of_le (Heap.lt_size q) M.new))).trans (M.keep b o q)
  have ob : ObjOk X.prog X.w (upd H1 d (.xd [(("value" : Str), v)])) G' d (.xd [(("value" : Str), v)]) := ⟨_, hns.at (fun o q => (gk d M.dne).trans q), fun f => relO_value rv f⟩
  have J : Inv X pins σ (upd H1 d (.xd [(("value" : Str), v)])) ⟨G', g, dr, tk', os⟩ := I1.laid (t' := tk') old M.dbig ob
  refine ⟨e, _, _, ⟨G', g, dr, tk', os⟩, _, .ref C, some d, rfl, J, fun b o q => ?_, ge, hoe, ⟨rfl, rfl⟩, rfl, rfl, ?_, rfl, I1.bare, raises_own T.exC T.tyC, q1 d (I1.hok.fresh M.dbig)⟩
  · by_cases hb : b = e
    · have q' : G'.get? b = some o := q
      rw [hb, ge] at q'
      cases q'
    · exact (gk b hb).symm.trans q
  · rw [upd_ne (Ne.symm M.dne)]
    exact I1.hok.fresh M.new
/-- the error as a value -/
abbrev tMkV_value (C : Addr) (ta : TA) : TE := tMkVg "value" C ta
theorem mkV_value {pins : List (Addr × Obj)} {s : Shared} {σ : L2.St} {H : Hp} {Q : VK} {v : V} {v' : Value} {rest : List Value} {kw : List (Str × Value)} {k : Nat} (T : Ecl_value X.K X.mg nm qual B Bm newId initId bmB bm0 C fI) (hr : Room k X.A) (I : Inv X pins σ H s) (rv : RelV v v')
    (how : (rest = [v'] ∧ kw = []) ∨ (rest = [] ∧ kw = [(("value" : Str), v')])) (q : ∀ d a, H d = none → H a = none → a ≠ d → Q (.ref a) (upd (upd H d (.xd [(("value" : Str), v)])) a (ExV C d a))) :
    wpAny (model X.prog X.w) X.A (call (.ref C) rest kw) (EP X pins σ Q) X.xe s := by
  have hlim := I.nolimit
  have hdp := hr.dp
  obtain ⟨hp, g, dr, tk, os⟩ := s
  refine wpAny_call (made_value T I.kIn hlim (by omega) how fun h' tk' e d M => ?_)
  obtain ⟨t1, hoe⟩ := M.obj
  obtain ⟨G', g1, g2⟩ := restrict h' fun b => decide (b ≠ e)
  have gk : ∀ b, b ≠ e → G'.get? b = h'.get? b := fun b hb => g1 b (decide_eq_true hb)
  have ge : G'.get? e = none := g2 e (by simp)
  have old : ∀ b o, hp.get? b = some o → G'.get? b = some o := fun b o z => (gk b (Nat.ne_of_lt (Nat.lt_of_lt_of_le (Heap.lt_size z) M.new))).trans (M.keep b o z)
  have J : Inv X pins σ (upd H d (.xd [(("value" : Str), v)])) ⟨G', g, dr, tk', os⟩ := I.laid (t' := tk') old M.dbig ⟨_, M.ns.at (fun o z => (gk d M.dne).trans z), fun f => relO_value rv f⟩
  have nHe : H e = none := I.hok.fresh M.new
  have nHe2 : (upd H d (.xd [(("value" : Str), v)])) e = none := by rw [upd_ne (Ne.symm M.dne)]; exact nHe
  have sub : ∀ b u, G'.get? b = some u → h'.get? b = some u := fun b o z => by
    by_cases hb : b = e
    · rw [hb, ge] at z; cases z
    · exact (gk b hb).symm.trans z
  exact ⟨.ref e, _, J.laidN (t' := tk') sub ge nHe2 (exV_ok hoe), rfl, q d e (I.hok.fresh M.dbig) nHe (Ne.symm M.dne)⟩
theorem pe_mkV_value {a : Expr} {ta : TA} {p pos : Pos} {k : Nat} (T : Ecl_value X.K X.mg nm qual B Bm newId initId bmB bm0 C fI) (hr : Room k X.A) (ha : PA X [a] ta) (hg : Gl X nm) (hdb : (nm == ("__debug__" : Str)) = false := by decide)
    (he : starEach (a :: []) X.env = (false, eval a X.env) :: starEach [] X.env := by rfl) (hpl : (backTo pos (starEach [] X.env)).any (·.1) = false := by rfl) : PE X (.Call (.Name nm p) [a] [] pos) (tMkV_value C ta) := by
  refine ⟨fun pins s σ H Q I h => wpAny_Call_Name_kw (ld_glob I hg T.gC ?_ hdb)⟩
  refine PySem.W.callWith_K (h₀ := X.base) I.ok.mod.kin T.kC (thn (ha.run pos pins s σ H _ I h) ?_) he hpl
  rintro us s1 ⟨vs, H1, I1, r1, v, rfl, q1⟩
  obtain ⟨v', rfl, rv⟩ := vals1 r1
  exact ⟨I1.kIn, mkV_value T hr I1 rv (.inl ⟨rfl, rfl⟩) q1⟩
theorem pe_mkK_value {kws : List Keyword} {tk : TA} {p pos : Pos} {k : Nat} (T : Ecl_value X.K X.mg nm qual B Bm newId initId bmB bm0 C fI) (hr : Room k X.A) (hkw : PK X kws tk) (hg : Gl X nm) (hdb : (nm == ("__debug__" : Str)) = false := by decide)
    (hal : (backToKw pos (keywordEach kws X.env)).all (·.1.isSome) = true := by rfl) (hks : (backToKw pos (keywordEach kws X.env)).filterMap (·.1) = [("value" : Str)] := by rfl)
    (hst : ((backTo pos (starEach [] X.env)).any (·.1) || (backToKw pos (keywordEach kws X.env)).any (·.1.isNone)) = false := by rfl) : PE X (.Call (.Name nm p) [] kws pos) (tMkV_value C tk) := by
  refine ⟨fun pins s σ H Q I h => wpAny_Call_Name_kw (ld_glob I hg T.gC ?_ hdb)⟩
  refine PySem.W.callWith_KW0 (h₀ := X.base) I.ok.mod.kin T.kC hal (thn (hkw.run pos pins s σ H _ I h) ?_) hst
  rintro us s1 ⟨vs, H1, I1, r1, v, rfl, q1⟩
  obtain ⟨v', rfl, rv⟩ := vals1 r1
  refine ⟨I1.kIn, ?_⟩
  rw [hks]
  exact mkV_value T hr I1 rv (.inr ⟨rfl, rfl⟩) q1
end
end Exn
/-! the field index -/
namespace Exn
open PySem PySem.W PySem.Calls PyProof.Rows PySem.HandSPX
/-- what the written part says of such a class: its name, its place C, its __init__ at fI -/
structure Ecl_index (K : Frag) (mg : Str → Option Value) (nm qual : Str) (B Bm newId initId : String) (bmB bm0 : List Value) (C fI : Addr) : Prop where
  fb : ExcBaseFacts Bm newId initId bm0
  ch : Chain bmB Bm
  sf : StoreFacts B bmB "object.__setattr__" "object"
  gC : mg nm = some (.ref C)
  ini : excInitIn K C bmB newId = true
  ovr : excOver K C bmB = true
  hdC : hasDictIn K C = true
  sa : findIn K (.ref C) "__setattr__" = some (some (.builtin "object.__setattr__"))
  ga : findIn K (.ref C) "__getattribute__" = some (some (.builtin "BaseException.__getattribute__"))
  gg : findIn K (.ref C) "__getattr__" = some none
  noN : findIn K (.ref C) "index" = some none
  tk : takerIn K C "index" = some none
  iC : findIn K (.ref C) "__init__" = some (some (.ref fI))
  tC : typeIn K (.ref fI) = some (.type "function")
  kC : keepIn K (.ref C) = true
  exC : subIn K (.ref C) (.type "BaseException") = some true
  tyC : typeIn K (.ref C) = some (.type "type")
  fn : ∃ (oc : Value) (od : Option Addr) (doc pm : Value) (an : Option Addr) (cdv ct : Value) (osl : Array (Option Value)) (p1 p2 q1 q2 q3 q4 : Pos),
    K.lookup fI = some ⟨oc, od, .func (fnOf "__init__" qual (iA "index" p1 p2) (iB "index" q1 q2 q3 q4) (iS "index" []) .none .none doc pm an cdv ct), osl⟩ ∧ codeIn K cdv qual = true
theorem ecl_index {K : Frag} {mg : Str → Option Value} {nm qual : Str} {B Bm newId initId : String} {bmB bm0 : List Value} {C fI : Addr} (fb : ExcBaseFacts Bm newId initId bm0) (ch : Chain bmB Bm) (sf : StoreFacts B bmB "object.__setattr__" "object") (gC : mg nm = some (.ref C))
    (h : ecB K C fI "index" bmB newId = true) (iC : findIn K (.ref C) "__init__" = some (some (.ref fI))) {oc : Value} {od : Option Addr} {doc pm : Value} {an : Option Addr} {cdv ct : Value} {osl : Array (Option Value)} {p1 p2 q1 q2 q3 q4 : Pos}
    (l : K.lookup fI = some ⟨oc, od, .func (fnOf "__init__" qual (iA "index" p1 p2) (iB "index" q1 q2 q3 q4) (iS "index" []) .none .none doc pm an cdv ct), osl⟩) (c : codeIn K cdv qual = true) : Ecl_index K mg nm qual B Bm newId initId bmB bm0 C fI := by
  unfold ecB at h
  simp only [Bool.and_eq_true, decide_eq_true_eq] at h
  obtain ⟨h1, h2, h3, h4, h5, h6, h7, h8, h9, h10, h11, h12, _⟩ := h
  exact ⟨fb, ch, sf, gC, h1, h2, h3, h4, h5, h6, h7, h8, iC, h9, h10, h11, h12, ⟨oc, od, doc, pm, an, cdv, ct, osl, p1, p2, q1, q2, q3, q4, l, c⟩⟩
/-- an error just made: at e, its dict at d, the field in it -/
structure Made_index (h h' : Heap) (e C d : Addr) (v : Value) : Prop where
  keep : ∀ b o, h.get? b = some o → h'.get? b = some o
  new : h.objs.size ≤ e
  obj : ∃ t1 : Addr, h'.get? e = some { cls := .ref C, dict := some d, data := .fields #[.ref t1, .none, .none, .none, .bool false, .none] }
  dbig : h.objs.size ≤ d
  dne : d ≠ e
  ns : h'.Ns1 d (fun y => if y = "index" then some v else none)
section
variable {prog : Program} {w : World} {A : Around} {E : Value → Shared → Prop} {R : Result → Shared → Prop} {s : Shared} {K : Frag} {mg : Str → Option Value} {nm qual : Str} {B Bm newId initId : String} {bmB bm0 : List Value} {C fI : Addr}
theorem init_index (T : Ecl_index K mg nm qual B Bm newId initId bmB bm0 C fI) {x t0 : Addr} {v : Value} {ar : Args} (X : K.In s.heap) (hlim : s.heap.NoLimit) (hx : s.heap.get? x = some (excO C t0)) (hroom : A.depth < recursionLimit)
    (hbind : ∀ doc pm an cdv ct p1 p2 q1 q2 q3 q4 s', BindsTo s' (fnOf "__init__" qual (iA "index" p1 p2) (iB "index" q1 q2 q3 q4) (iS "index" []) .none .none doc pm an cdv ct) ar [("self", .ref x), ("index", v)])
    (hq : ∀ h' tk dx, (∀ b o, b ≠ x → s.heap.get? b = some o → h'.get? b = some o) → h'.get? x = some { cls := .ref C, dict := some dx, data := .fields #[.ref t0, .none, .none, .none, .bool false, .none] } → s.heap.objs.size ≤ dx → dx ≠ x →
      h'.Ns1 dx (fun y => if y = "index" then some v else none) → R (.ok (.ret .none)) { s with heap := h', toks := tk }) :
    codeAny (model prog w) A (.call (.ref fI) ar) R s := by
  obtain ⟨oc, od, doc, pm, an, cdv, ct, osl, p1, p2, q1, q2, q3, q4, ho, hcd⟩ := T.fn
  obtain ⟨cd, hcl, hhd⟩ := any_some T.hdC
  refine Att.call_fn (binds := [("self", .ref x), ("index", v)]) X hlim ho hcd hroom (hbind _ _ _ _ _ _ _ _ _ _ _ _) (by first | rfl | decide | with_unfolding_all rfl) (fun s₁ IC => ?_) rfl rfl rfl
  obtain ⟨h₁, tk₁, rfl⟩ := IC.toInCall.same
  have k := IC.toInCall.keep
  have hn := IC.toInCall.ns
  have X₁ : K.In h₁ := X.keeps k
  show wpAny _ _ (execs _ _) _ _ _
  refine wpAny_execs_cons (plainObj_wpAny_Assign_Attribute ?_)
  refine wpAny_Name (wpAny_loadName_local rfl rfl hn (v := v) (by first | rfl | with_unfolding_all rfl | kernel_rfl) ?_) (by decide)
  refine wpAny_Name (wpAny_loadName_local rfl rfl hn (v := .ref x) (by first | rfl | with_unfolding_all rfl | kernel_rfl) ?_) (by decide)
  refine set_plain X₁ (ox := excO C t0) (od := none) ⟨k _ _ hx, rfl, rfl, trivial⟩ T.sa (osaB T.sf X₁ (k _ _ hx) T.ovr T.tk hcl hhd fun h₃ tk₃ dx k₃ dn dne hx₃ hn₃ => ?_)
  show wpAny _ _ (execs _ _) _ _ _
  exact wpAny_execs_nil (hq h₃ tk₃ dx (fun b o hb e => k₃ b o hb (k b o e)) hx₃ (Nat.le_of_lt (Nat.lt_of_lt_of_le hn.lt dn)) dne hn₃)
theorem made_index (T : Ecl_index K mg nm qual B Bm newId initId bmB bm0 C fI) {v : Value} {rest : List Value} {kw : List (Str × Value)} (X : K.In s.heap) (hlim : s.heap.NoLimit) (hroom : A.depth + 1 < recursionLimit) (how : (rest = [v] ∧ kw = []) ∨ (rest = [] ∧ kw = [(("index" : Str), v)]))
    (hq : ∀ h' tk e d, Made_index s.heap h' e C d v → R (.ok (.ret (.ref e))) { s with heap := h', toks := tk }) :
    codeAny (model prog w) A (.call (.ref C) ⟨rest, kw⟩) R s := by
  obtain ⟨nm', N, q, bs, bm, hd, sn, sub, ab, col, dd, k0, k1, k2, k3, k5, hC, hbm⟩ := excInit_of X T.ini
  obtain ⟨hp, g, dr, tk, os⟩ := s
  have k : ∀ b o, hp.get? b = some o → ((hp.push (kdv_tup rest)).push (excO C hp.objs.size)).get? b = some o := fun b o e => Heap.get?_push_of_some _ (Heap.get?_push_of_some _ e)
  have hget : ((hp.push (kdv_tup rest)).push (excO C hp.objs.size)).get? (hp.objs.size + 1) = some (excO C hp.objs.size) := by heap_get
  have chn : Chain bm Bm := ⟨by rw [hbm]; exact T.ch.cB, by rw [hbm]; exact T.ch.cA, by rw [hbm]; exact T.ch.cN⟩
  have hsz : rest.length ≤ sizeLine := by rcases how with ⟨rfl, _⟩ | ⟨rfl, _⟩ <;> (rw [sizeLine_eq]; simp)
  refine callX T.fb chn hC (looks_findIn X T.iC) (fun self => bind_fn X self T.tC) hsz ?_
  refine init_index (s := ⟨(hp.push (kdv_tup rest)).push (excO C hp.objs.size), g, dr, tk, os⟩) (v := v) T (X.keeps k) (hlim.keeps k) hget (show A.depth + 1 < recursionLimit from hroom) ?_ fun h' tk' dx k' hx dn dne hns => ?_
  · rcases how with ⟨rfl, rfl⟩ | ⟨rfl, rfl⟩
    · exact fun _ _ _ _ _ _ _ _ _ _ _ _ => BindsTo.of_eq (by first | rfl | with_unfolding_all rfl)
    · exact fun _ _ _ _ _ _ _ _ _ _ _ _ => BindsTo.of_eq (by first | rfl | with_unfolding_all rfl)
  have old : ∀ b o, hp.get? b = some o → h'.get? b = some o := fun b o e => k' b o (Nat.ne_of_lt (Nat.lt_succ_of_lt (Heap.lt_size e))) (k b o e)
  have z : hp.objs.size + 1 + 1 ≤ dx := by
    have q := dn
    rw [Heap.size_push, Heap.size_push] at q
    exact q
  exact ⟨rfl, hq h' tk' (hp.objs.size + 1) dx ⟨old, Nat.le_succ _, ⟨_, hx⟩, (show hp.objs.size ≤ dx by omega), dne, hns⟩⟩
end
end Exn
namespace Exn
open PySem PySem.Spec PyProof.Rows L2
theorem relO_index {v : V} {v' : Value} (r : RelV v v') (f : Str) : RelO (List.lookup f [(("index" : Str), v)]) (if f = "index" then some v' else none) := by
  by_cases hw : f = "index"
  · subst hw
    rw [if_pos rfl, show List.lookup ("index" : Str) [(("index" : Str), v)] = some v by simp [List.lookup]]
    exact r
  · have qw : (f == ("index" : Str)) = false := by simpa using hw
    rw [if_neg hw, show List.lookup f [(("index" : Str), v)] = none by simp [List.lookup, qw]]
    trivial
section
variable {X : Cx} {nm qual : Str} {B Bm newId initId : String} {bmB bm0 : List Value} {C fI : Addr}
/-- the making of the error that is raised at once -/
def tMk_index (C : Addr) (ta : TA) : L2.St → Hp → XK → Prop := fun σ H Q => ta σ H fun vs H1 => ∃ v, vs = [v] ∧ ∀ d, H1 d = none → Q (.ref C) (some d) (upd H1 d (.xd [(("index" : Str), v)]))
theorem pmk_index {a : Expr} {ta : TA} {p pos : Pos} {k : Nat} (T : Ecl_index X.K X.mg nm qual B Bm newId initId bmB bm0 C fI) (hr : Room k X.A) (ha : PA X [a] ta) (hg : Gl X nm) (hdb : (nm == ("__debug__" : Str)) = false := by decide)
    (he : starEach (a :: []) X.env = (false, eval a X.env) :: starEach [] X.env := by rfl) (hpl : (backTo pos (starEach [] X.env)).any (·.1) = false := by rfl) :
    PMk X (.Call (.Name nm p) [a] [] pos) (tMk_index C ta) := by
  intro pins s σ H Q I h
  refine wpAny_Call_Name_kw (ld_glob I hg T.gC ?_ hdb)
  refine PySem.W.callWith_K (h₀ := X.base) I.ok.mod.kin T.kC (thn (ha.run pos pins s σ H _ I h) ?_) he hpl
  rintro us s1 ⟨vs, H1, I1, r1, v, rfl, q1⟩
  obtain ⟨v', rfl, rv⟩ := vals1 r1
  refine ⟨I1.kIn, ?_⟩
  have hlim := I1.nolimit
  have hdp := hr.dp
  obtain ⟨hp, g, dr, tk, os⟩ := s1
  refine wpAny_call (made_index T I1.kIn hlim (by omega) (.inl ⟨rfl, rfl⟩) fun h' tk' e d M => ?_)
  show MkP X pins σ Q (.ref e) ⟨h', g, dr, tk', os⟩
  obtain ⟨t1, hoe⟩ := M.obj
  have hns := M.ns
  obtain ⟨G', g1, g2⟩ := restrict h' fun b => decide (b ≠ e)
  have gk : ∀ b, b ≠ e → G'.get? b = h'.get? b := fun b hb => g1 b (decide_eq_true hb)
  have ge : G'.get? e = none := g2 e (by simp)
  have old : ∀ b o, hp.get? b = some o → G'.get? b = some o := fun b o q => (gk b (Nat.ne_of_lt (Nat.lt_of_lt_of_le (Heap.lt_size q) M.new))).trans (M.keep b o q)
  have ob : ObjOk X.prog X.w (upd H1 d (.xd [(("index" : Str), v)])) G' d (.xd [(("index" : Str), v)]) := ⟨_, hns.at (fun o q => (gk d M.dne).trans q), fun f => relO_index rv f⟩
  have J : Inv X pins σ (upd H1 d (.xd [(("index" : Str), v)])) ⟨G', g, dr, tk', os⟩ := I1.laid (t' := tk') old M.dbig ob
  refine ⟨e, _, _, ⟨G', g, dr, tk', os⟩, _, .ref C, some d, rfl, J, fun b o q => ?_, ge, hoe, ⟨rfl, rfl⟩, rfl, rfl, ?_, rfl, I1.bare, raises_own T.exC T.tyC, q1 d (I1.hok.fresh M.dbig)⟩
  · by_cases hb : b = e
    · have q' : G'.get? b = some o := q
      rw [hb, ge] at q'
      cases q'
    · exact (gk b hb).symm.trans q
  · rw [upd_ne (Ne.symm M.dne)]
    exact I1.hok.fresh M.new
/-- the error as a value -/
abbrev tMkV_index (C : Addr) (ta : TA) : TE := tMkVg "index" C ta
theorem mkV_index {pins : List (Addr × Obj)} {s : Shared} {σ : L2.St} {H : Hp} {Q : VK} {v : V} {v' : Value} {rest : List Value} {kw : List (Str × Value)} {k : Nat} (T : Ecl_index X.K X.mg nm qual B Bm newId initId bmB bm0 C fI) (hr : Room k X.A) (I : Inv X pins σ H s) (rv : RelV v v')
    (how : (rest = [v'] ∧ kw = []) ∨ (rest = [] ∧ kw = [(("index" : Str), v')])) (q : ∀ d a, H d = none → H a = none → a ≠ d → Q (.ref a) (upd (upd H d (.xd [(("index" : Str), v)])) a (ExV C d a))) :
    wpAny (model X.prog X.w) X.A (call (.ref C) rest kw) (EP X pins σ Q) X.xe s := by
  have hlim := I.nolimit
  have hdp := hr.dp
  obtain ⟨hp, g, dr, tk, os⟩ := s
  refine wpAny_call (made_index T I.kIn hlim (by omega) how fun h' tk' e d M => ?_)
  obtain ⟨t1, hoe⟩ := M.obj
  obtain ⟨G', g1, g2⟩ := restrict h' fun b => decide (b ≠ e)
  have gk : ∀ b, b ≠ e → G'.get? b = h'.get? b := fun b hb => g1 b (decide_eq_true hb)
  have ge : G'.get? e = none := g2 e (by simp)
  have old : ∀ b o, hp.get? b = some o → G'.get? b = some o := fun b o z => (gk b (Nat.ne_of_lt (Nat.lt_of_lt_of_le (Heap.lt_size z) M.new))).trans (M.keep b o z)
  have J : Inv X pins σ (upd H d (.xd [(("index" : Str), v)])) ⟨G', g, dr, tk', os⟩ := I.laid (t' := tk') old M.dbig ⟨_, M.ns.at (fun o z => (gk d M.dne).trans z), fun f => relO_index rv f⟩
  have nHe : H e = none := I.hok.fresh M.new
  have nHe2 : (upd H d (.xd [(("index" : Str), v)])) e = none := by rw [upd_ne (Ne.symm M.dne)]; exact nHe
  have sub : ∀ b u, G'.get? b = some u → h'.get? b = some u := fun b o z => by
    by_cases hb : b = e
    · rw [hb, ge] at z; cases z
    · exact (gk b hb).symm.trans z
  exact ⟨.ref e, _, J.laidN (t' := tk') sub ge nHe2 (exV_ok hoe), rfl, q d e (I.hok.fresh M.dbig) nHe (Ne.symm M.dne)⟩
theorem pe_mkV_index {a : Expr} {ta : TA} {p pos : Pos} {k : Nat} (T : Ecl_index X.K X.mg nm qual B Bm newId initId bmB bm0 C fI) (hr : Room k X.A) (ha : PA X [a] ta) (hg : Gl X nm) (hdb : (nm == ("__debug__" : Str)) = false := by decide)
    (he : starEach (a :: []) X.env = (false, eval a X.env) :: starEach [] X.env := by rfl) (hpl : (backTo pos (starEach [] X.env)).any (·.1) = false := by rfl) : PE X (.Call (.Name nm p) [a] [] pos) (tMkV_index C ta) := by
  refine ⟨fun pins s σ H Q I h => wpAny_Call_Name_kw (ld_glob I hg T.gC ?_ hdb)⟩
  refine PySem.W.callWith_K (h₀ := X.base) I.ok.mod.kin T.kC (thn (ha.run pos pins s σ H _ I h) ?_) he hpl
  rintro us s1 ⟨vs, H1, I1, r1, v, rfl, q1⟩
  obtain ⟨v', rfl, rv⟩ := vals1 r1
  exact ⟨I1.kIn, mkV_index T hr I1 rv (.inl ⟨rfl, rfl⟩) q1⟩
theorem pe_mkK_index {kws : List Keyword} {tk : TA} {p pos : Pos} {k : Nat} (T : Ecl_index X.K X.mg nm qual B Bm newId initId bmB bm0 C fI) (hr : Room k X.A) (hkw : PK X kws tk) (hg : Gl X nm) (hdb : (nm == ("__debug__" : Str)) = false := by decide)
    (hal : (backToKw pos (keywordEach kws X.env)).all (·.1.isSome) = true := by rfl) (hks : (backToKw pos (keywordEach kws X.env)).filterMap (·.1) = [("index" : Str)] := by rfl)
    (hst : ((backTo pos (starEach [] X.env)).any (·.1) || (backToKw pos (keywordEach kws X.env)).any (·.1.isNone)) = false := by rfl) : PE X (.Call (.Name nm p) [] kws pos) (tMkV_index C tk) := by
  refine ⟨fun pins s σ H Q I h => wpAny_Call_Name_kw (ld_glob I hg T.gC ?_ hdb)⟩
  refine PySem.W.callWith_KW0 (h₀ := X.base) I.ok.mod.kin T.kC hal (thn (hkw.run pos pins s σ H _ I h) ?_) hst
  rintro us s1 ⟨vs, H1, I1, r1, v, rfl, q1⟩
  obtain ⟨v', rfl, rv⟩ := vals1 r1
  refine ⟨I1.kIn, ?_⟩
  rw [hks]
  exact mkV_index T hr I1 rv (.inr ⟨rfl, rfl⟩) q1
end
end Exn
/-! the field name -/
namespace Exn
open PySem PySem.W PySem.Calls PyProof.Rows PySem.HandSPX
/-- what the written part says of such a class: its name, its place C, its __init__ at fI -/
structure Ecl_name (K : Frag) (mg : Str → Option Value) (nm qual : Str) (B Bm newId initId : String) (bmB bm0 : List Value) (C fI : Addr) : Prop where
  fb : ExcBaseFacts Bm newId initId bm0
  ch : Chain bmB Bm
  sf : StoreFacts B bmB "object.__setattr__" "object"
  gC : mg nm = some (.ref C)
  ini : excInitIn K C bmB newId = true
  ovr : excOver K C bmB = true
  hdC : hasDictIn K C = true
  sa : findIn K (.ref C) "__setattr__" = some (some (.builtin "object.__setattr__"))
  ga : findIn K (.ref C) "__getattribute__" = some (some (.builtin "BaseException.__getattribute__"))
  gg : findIn K (.ref C) "__getattr__" = some none
  noN : findIn K (.ref C) "name" = some none
  tk : takerIn K C "name" = some none
  iC : findIn K (.ref C) "__init__" = some (some (.ref fI))
  tC : typeIn K (.ref fI) = some (.type "function")
  kC : keepIn K (.ref C) = true
  exC : subIn K (.ref C) (.type "BaseException") = some true
  tyC : typeIn K (.ref C) = some (.type "type")
  fn : ∃ (oc : Value) (od : Option Addr) (doc pm : Value) (an : Option Addr) (cdv ct : Value) (osl : Array (Option Value)) (p1 p2 q1 q2 q3 q4 : Pos),
    K.lookup fI = some ⟨oc, od, .func (fnOf "__init__" qual (iA "name" p1 p2) (iB "name" q1 q2 q3 q4) (iS "name" []) .none .none doc pm an cdv ct), osl⟩ ∧ codeIn K cdv qual = true
theorem ecl_name {K : Frag} {mg : Str → Option Value} {nm qual : Str} {B Bm newId initId : String} {bmB bm0 : List Value} {C fI : Addr} (fb : ExcBaseFacts Bm newId initId bm0) (ch : Chain bmB Bm) (sf : StoreFacts B bmB "object.__setattr__" "object") (gC : mg nm = some (.ref C))
    (h : ecB K C fI "name" bmB newId = true) (iC : findIn K (.ref C) "__init__" = some (some (.ref fI))) {oc : Value} {od : Option Addr} {doc pm : Value} {an : Option Addr} {cdv ct : Value} {osl : Array (Option Value)} {p1 p2 q1 q2 q3 q4 : Pos}
    (l : K.lookup fI = some ⟨oc, od, .func (fnOf "__init__" qual (iA "name" p1 p2) (iB "name" q1 q2 q3 q4) (iS "name" []) .none .none doc pm an cdv ct), osl⟩) (c : codeIn K cdv qual = true) : Ecl_name K mg nm qual B Bm newId initId bmB bm0 C fI := by
  unfold ecB at h
  simp only [Bool.and_eq_true, decide_eq_true_eq] at h
  obtain ⟨h1, h2, h3, h4, h5, h6, h7, h8, h9, h10, h11, h12, _⟩ := h
  exact ⟨fb, ch, sf, gC, h1, h2, h3, h4, h5, h6, h7, h8, iC, h9, h10, h11, h12, ⟨oc, od, doc, pm, an, cdv, ct, osl, p1, p2, q1, q2, q3, q4, l, c⟩⟩
/-- an error just made: at e, its dict at d, the field in it -/
structure Made_name (h h' : Heap) (e C d : Addr) (v : Value) : Prop where
  keep : ∀ b o, h.get? b = some o → h'.get? b = some o
  new : h.objs.size ≤ e
  obj : ∃ t1 : Addr, h'.get? e = some { cls := .ref C, dict := some d, data := .fields #[.ref t1, .none, .none, .none, .bool false, .none] }
  dbig : h.objs.size ≤ d
  dne : d ≠ e
  ns : h'.Ns1 d (fun y => if y = "name" then some v else none)
section
variable {prog : Program} {w : World} {A : Around} {E : Value → Shared → Prop} {R : Result → Shared → Prop} {s : Shared} {K : Frag} {mg : Str → Option Value} {nm qual : Str} {B Bm newId initId : String} {bmB bm0 : List Value} {C fI : Addr}
theorem init_name (T : Ecl_name K mg nm qual B Bm newId initId bmB bm0 C fI) {x t0 : Addr} {v : Value} {ar : Args} (X : K.In s.heap) (hlim : s.heap.NoLimit) (hx : s.heap.get? x = some (excO C t0)) (hroom : A.depth < recursionLimit)
    (hbind : ∀ doc pm an cdv ct p1 p2 q1 q2 q3 q4 s', BindsTo s' (fnOf "__init__" qual (iA "name" p1 p2) (iB "name" q1 q2 q3 q4) (iS "name" []) .none .none doc pm an cdv ct) ar [("self", .ref x), ("name", v)])
    (hq : ∀ h' tk dx, (∀ b o, b ≠ x → s.heap.get? b = some o → h'.get? b = some o) → h'.get? x = some { cls := .ref C, dict := some dx, data := .fields #[.ref t0, .none, .none, .none, .bool false, .none] } → s.heap.objs.size ≤ dx → dx ≠ x →
      h'.Ns1 dx (fun y => if y = "name" then some v else none) → R (.ok (.ret .none)) { s with heap := h', toks := tk }) :
    codeAny (model prog w) A (.call (.ref fI) ar) R s := by
  obtain ⟨oc, od, doc, pm, an, cdv, ct, osl, p1, p2, q1, q2, q3, q4, ho, hcd⟩ := T.fn
  obtain ⟨cd, hcl, hhd⟩ := any_some T.hdC
  refine Att.call_fn (binds := [("self", .ref x), ("name", v)]) X hlim ho hcd hroom (hbind _ _ _ _ _ _ _ _ _ _ _ _) (by first | rfl | decide | with_unfolding_all rfl) (fun s₁ IC => ?_) rfl rfl rfl
  obtain ⟨h₁, tk₁, rfl⟩ := IC.toInCall.same
  have k := IC.toInCall.keep
  have hn := IC.toInCall.ns
  have X₁ : K.In h₁ := X.keeps k
  show wpAny _ _ (execs _ _) _ _ _
  refine wpAny_execs_cons (plainObj_wpAny_Assign_Attribute ?_)
  refine wpAny_Name (wpAny_loadName_local rfl rfl hn (v := v) (by first | rfl | with_unfolding_all rfl | kernel_rfl) ?_) (by decide)
  refine wpAny_Name (wpAny_loadName_local rfl rfl hn (v := .ref x) (by first | rfl | with_unfolding_all rfl | kernel_rfl) ?_) (by decide)
  refine set_plain X₁ (ox := excO C t0) (od := none) ⟨k _ _ hx, rfl, rfl, trivial⟩ T.sa (osaB T.sf X₁ (k _ _ hx) T.ovr T.tk hcl hhd fun h₃ tk₃ dx k₃ dn dne hx₃ hn₃ => ?_)
  show wpAny _ _ (execs _ _) _ _ _
  exact wpAny_execs_nil (hq h₃ tk₃ dx (fun b o hb e => k₃ b o hb (k b o e)) hx₃ (Nat.le_of_lt (Nat.lt_of_lt_of_le hn.lt dn)) dne hn₃)
theorem made_name (T : Ecl_name K mg nm qual B Bm newId initId bmB bm0 C fI) {v : Value} {rest : List Value} {kw : List (Str × Value)} (X : K.In s.heap) (hlim : s.heap.NoLimit) (hroom : A.depth + 1 < recursionLimit) (how : (rest = [v] ∧ kw = []) ∨ (rest = [] ∧ kw = [(("name" : Str), v)]))
    (hq : ∀ h' tk e d, Made_name s.heap h' e C d v → R (.ok (.ret (.ref e))) { s with heap := h', toks := tk }) :
    codeAny (model prog w) A (.call (.ref C) ⟨rest, kw⟩) R s := by
  obtain ⟨nm', N, q, bs, bm, hd, sn, sub, ab, col, dd, k0, k1, k2, k3, k5, hC, hbm⟩ := excInit_of X T.ini
  obtain ⟨hp, g, dr, tk, os⟩ := s
  have k : ∀ b o, hp.get? b = some o → ((hp.push (kdv_tup rest)).push (excO C hp.objs.size)).get? b = some o := fun b o e => Heap.get?_push_of_some _ (Heap.get?_push_of_some _ e)
  have hget : ((hp.push (kdv_tup rest)).push (excO C hp.objs.size)).get? (hp.objs.size + 1) = some (excO C hp.objs.size) := by heap_get
  have chn : Chain bm Bm := ⟨by rw [hbm]; exact T.ch.cB, by rw [hbm]; exact T.ch.cA, by rw [hbm]; exact T.ch.cN⟩
  have hsz : rest.length ≤ sizeLine := by rcases how with ⟨rfl, _⟩ | ⟨rfl, _⟩ <;> (rw [sizeLine_eq]; simp)
  refine callX T.fb chn hC (looks_findIn X T.iC) (fun self => bind_fn X self T.tC) hsz ?_
  refine init_name (s := ⟨(hp.push (kdv_tup rest)).push (excO C hp.objs.size), g, dr, tk, os⟩) (v := v) T (X.keeps k) (hlim.keeps k) hget (show A.depth + 1 < recursionLimit from hroom) ?_ fun h' tk' dx k' hx dn dne hns => ?_
  · rcases how with ⟨rfl, rfl⟩ | ⟨rfl, rfl⟩
    · exact fun _ _ _ _ _ _ _ _ _ _ _ _ => BindsTo.of_eq (by first | rfl | with_unfolding_all rfl)
    · exact fun _ _ _ _ _ _ _ _ _ _ _ _ => BindsTo.of_eq (by first | rfl | with_unfolding_all rfl)
  have old : ∀ b o, hp.get? b = some o → h'.get? b = some o := fun b o e => k' b o (Nat.ne_of_lt (Nat.lt_succ_of_lt (Heap.lt_size e))) (k b o e)
  have z : hp.objs.size + 1 + 1 ≤ dx := by
    have q := dn
    rw [Heap.size_push, Heap.size_push] at q
    exact q
  exact ⟨rfl, hq h' tk' (hp.objs.size + 1) dx ⟨old, Nat.le_succ _, ⟨_, hx⟩, (show hp.objs.size ≤ dx by omega), dne, hns⟩⟩
end
end Exn
namespace Exn
open PySem PySem.Spec PyProof.Rows L2
theorem relO_name {v : V} {v' : Value} (r : RelV v v') (f : Str) : RelO (List.lookup f [(("name" : Str), v)]) (if f = "name" then some v' else none) := by
  by_cases hw : f = "name"
  · subst hw
    rw [if_pos rfl, show List.lookup ("name" : Str) [(("name" : Str), v)] = some v by simp [List.lookup]]
    exact r
  · have qw : (f == ("name" : Str)) = false := by simpa using hw
    rw [if_neg hw, show List.lookup f [(("name" : Str), v)] = none by simp [List.lookup, qw]]
    trivial
section
variable {X : Cx} {nm qual : Str} {B Bm newId initId : String} {bmB bm0 : List Value} {C fI : Addr}
/-- the making of the error that is raised at once -/
def tMk_name (C : Addr) (ta : TA) : L2.St → Hp → XK → Prop := fun σ H Q => ta σ H fun vs H1 => ∃ v, vs = [v] ∧ ∀ d, H1 d = none → Q (.ref C) (some d) (upd H1 d (.xd [(("name" : Str), v)]))
theorem pmk_name {a : Expr} {ta : TA} {p pos : Pos} {k : Nat} (T : Ecl_name X.K X.mg nm qual B Bm newId initId bmB bm0 C fI) (hr : Room k X.A) (ha : PA X [a] ta) (hg : Gl X nm) (hdb : (nm == ("__debug__" : Str)) = false := by decide)
    (he : starEach (a :: []) X.env = (false, eval a X.env) :: starEach [] X.env := by rfl) (hpl : (backTo pos (starEach [] X.env)).any (·.1) = false := by rfl) :
    PMk X (.Call (.Name nm p) [a] [] pos) (tMk_name C ta) := by
  intro pins s σ H Q I h
  refine wpAny_Call_Name_kw (ld_glob I hg T.gC ?_ hdb)
  refine PySem.W.callWith_K (h₀ := X.base) I.ok.mod.kin T.kC (thn (ha.run pos pins s σ H _ I h) ?_) he hpl
  rintro us s1 ⟨vs, H1, I1, r1, v, rfl, q1⟩
  obtain ⟨v', rfl, rv⟩ := vals1 r1
  refine ⟨I1.kIn, ?_⟩
  have hlim := I1.nolimit
  have hdp := hr.dp
  obtain ⟨hp, g, dr, tk, os⟩ := s1
  refine wpAny_call (made_name T I1.kIn hlim (by omega) (.inl ⟨rfl, rfl⟩) fun h' tk' e d M => ?_)
  show MkP X pins σ Q (.ref e) ⟨h', g, dr, tk', os⟩
  obtain ⟨t1, hoe⟩ := M.obj
  have hns := M.ns
  obtain ⟨G', g1, g2⟩ := restrict h' fun b => decide (b ≠ e)
  have gk : ∀ b, b ≠ e → G'.get? b = h'.get? b := fun b hb => g1 b (decide_eq_true hb)
  have ge : G'.get? e = none := g2 e (by simp)
  have old : ∀ b o, hp.get? b = some o → G'.get? b = some o := fun b o q => (gk b (Nat.ne_of_lt (Nat.lt_of_lt_of_le (Heap.lt_size q) M.new))).trans (M.keep b o q)
  have ob : ObjOk X.prog X.w (upd H1 d (.xd [(("name" : Str), v)])) G' d (.xd [(("name" : Str), v)]) := ⟨_, hns.at (fun o q => (gk d M.dne).trans q), fun f => relO_name rv f⟩
  have J : Inv X pins σ (upd H1 d (.xd [(("name" : Str), v)])) ⟨G', g, dr, tk', os⟩ := I1.laid (t' := tk') old M.dbig ob
  refine ⟨e, _, _, ⟨G', g, dr, tk', os⟩, _, .ref C, some d, rfl, J, fun b o q => ?_, ge, hoe, ⟨rfl, rfl⟩, rfl, rfl, ?_, rfl, I1.bare, raises_own T.exC T.tyC, q1 d (I1.hok.fresh M.dbig)⟩
  · by_cases hb : b = e
    · have q' : G'.get? b = some o := q
      rw [hb, ge] at q'
      cases q'
    · exact (gk b hb).symm.trans q
  · rw [upd_ne (Ne.symm M.dne)]
    exact I1.hok.fresh M.new
/-- the error as a value -/
abbrev tMkV_name (C : Addr) (ta : TA) : TE := tMkVg "name" C ta
theorem mkV_name {pins : List (Addr × Obj)} {s : Shared} {σ : L2.St} {H : Hp} {Q : VK} {v : V} {v' : Value} {rest : List Value} {kw : List (Str × Value)} {k : Nat} (T : Ecl_name X.K X.mg nm qual B Bm newId initId bmB bm0 C fI) (hr : Room k X.A) (I : Inv X pins σ H s) (rv : RelV v v')
    (how : (rest = [v'] ∧ kw = []) ∨ (rest = [] ∧ kw = [(("name" : Str), v')])) (q : ∀ d a, H d = none → H a = none → a ≠ d → Q (.ref a) (upd (upd H d (.xd [(("name" : Str), v)])) a (ExV C d a))) :
    wpAny (model X.prog X.w) X.A (call (.ref C) rest kw) (EP X pins σ Q) X.xe s := by
  have hlim := I.nolimit
  have hdp := hr.dp
  obtain ⟨hp, g, dr, tk, os⟩ := s
  refine wpAny_call (made_name T I.kIn hlim (by omega) how fun h' tk' e d M => ?_)
  obtain ⟨t1, hoe⟩ := M.obj
  obtain ⟨G', g1, g2⟩ := restrict h' fun b => decide (b ≠ e)
  have gk : ∀ b, b ≠ e → G'.get? b = h'.get? b := fun b hb => g1 b (decide_eq_true hb)
  have ge : G'.get? e = none := g2 e (by simp)
  have old : ∀ b o, hp.get? b = some o → G'.get? b = some o := fun b o z => (gk b (Nat.ne_of_lt (Nat.lt_of_lt_of_le (Heap.lt_size z) M.new))).trans (M.keep b o z)
  have J : Inv X pins σ (upd H d (.xd [(("name" : Str), v)])) ⟨G', g, dr, tk', os⟩ := I.laid (t' := tk') old M.dbig ⟨_, M.ns.at (fun o z => (gk d M.dne).trans z), fun f => relO_name rv f⟩
  have nHe : H e = none := I.hok.fresh M.new
  have nHe2 : (upd H d (.xd [(("name" : Str), v)])) e = none := by rw [upd_ne (Ne.symm M.dne)]; exact nHe
  have sub : ∀ b u, G'.get? b = some u → h'.get? b = some u := fun b o z => by
    by_cases hb : b = e
    · rw [hb, ge] at z; cases z
    · exact (gk b hb).symm.trans z
  exact ⟨.ref e, _, J.laidN (t' := tk') sub ge nHe2 (exV_ok hoe), rfl, q d e (I.hok.fresh M.dbig) nHe (Ne.symm M.dne)⟩
theorem pe_mkV_name {a : Expr} {ta : TA} {p pos : Pos} {k : Nat} (T : Ecl_name X.K X.mg nm qual B Bm newId initId bmB bm0 C fI) (hr : Room k X.A) (ha : PA X [a] ta) (hg : Gl X nm) (hdb : (nm == ("__debug__" : Str)) = false := by decide)
    (he : starEach (a :: []) X.env = (false, eval a X.env) :: starEach [] X.env := by rfl) (hpl : (backTo pos (starEach [] X.env)).any (·.1) = false := by rfl) : PE X (.Call (.Name nm p) [a] [] pos) (tMkV_name C ta) := by
  refine ⟨fun pins s σ H Q I h => wpAny_Call_Name_kw (ld_glob I hg T.gC ?_ hdb)⟩
  refine PySem.W.callWith_K (h₀ := X.base) I.ok.mod.kin T.kC (thn (ha.run pos pins s σ H _ I h) ?_) he hpl
  rintro us s1 ⟨vs, H1, I1, r1, v, rfl, q1⟩
  obtain ⟨v', rfl, rv⟩ := vals1 r1
  exact ⟨I1.kIn, mkV_name T hr I1 rv (.inl ⟨rfl, rfl⟩) q1⟩
theorem pe_mkK_name {kws : List Keyword} {tk : TA} {p pos : Pos} {k : Nat} (T : Ecl_name X.K X.mg nm qual B Bm newId initId bmB bm0 C fI) (hr : Room k X.A) (hkw : PK X kws tk) (hg : Gl X nm) (hdb : (nm == ("__debug__" : Str)) = false := by decide)
    (hal : (backToKw pos (keywordEach kws X.env)).all (·.1.isSome) = true := by rfl) (hks : (backToKw pos (keywordEach kws X.env)).filterMap (·.1) = [("name" : Str)] := by rfl)
    (hst : ((backTo pos (starEach [] X.env)).any (·.1) || (backToKw pos (keywordEach kws X.env)).any (·.1.isNone)) = false := by rfl) : PE X (.Call (.Name nm p) [] kws pos) (tMkV_name C tk) := by
  refine ⟨fun pins s σ H Q I h => wpAny_Call_Name_kw (ld_glob I hg T.gC ?_ hdb)⟩
  refine PySem.W.callWith_KW0 (h₀ := X.base) I.ok.mod.kin T.kC hal (thn (hkw.run pos pins s σ H _ I h) ?_) hst
  rintro us s1 ⟨vs, H1, I1, r1, v, rfl, q1⟩
  obtain ⟨v', rfl, rv⟩ := vals1 r1
  refine ⟨I1.kIn, ?_⟩
  rw [hks]
  exact mkV_name T hr I1 rv (.inr ⟨rfl, rfl⟩) q1
end
end Exn
/-! the field item -/
namespace Exn
open PySem PySem.W PySem.Calls PyProof.Rows PySem.HandSPX
/-- what the written part says of such a class: its name, its place C, its __init__ at fI -/
structure Ecl_item (K : Frag) (mg : Str → Option Value) (nm qual : Str) (B Bm newId initId : String) (bmB bm0 : List Value) (C fI : Addr) : Prop where
  fb : ExcBaseFacts Bm newId initId bm0
  ch : Chain bmB Bm
  sf : StoreFacts B bmB "object.__setattr__" "object"
  gC : mg nm = some (.ref C)
  ini : excInitIn K C bmB newId = true
  ovr : excOver K C bmB = true
  hdC : hasDictIn K C = true
  sa : findIn K (.ref C) "__setattr__" = some (some (.builtin "object.__setattr__"))
  ga : findIn K (.ref C) "__getattribute__" = some (some (.builtin "BaseException.__getattribute__"))
  gg : findIn K (.ref C) "__getattr__" = some none
  noN : findIn K (.ref C) "item" = some none
  tk : takerIn K C "item" = some none
  iC : findIn K (.ref C) "__init__" = some (some (.ref fI))
  tC : typeIn K (.ref fI) = some (.type "function")
  kC : keepIn K (.ref C) = true
  exC : subIn K (.ref C) (.type "BaseException") = some true
  tyC : typeIn K (.ref C) = some (.type "type")
  fn : ∃ (oc : Value) (od : Option Addr) (doc pm : Value) (an : Option Addr) (cdv ct : Value) (osl : Array (Option Value)) (p1 p2 q1 q2 q3 q4 : Pos),
    K.lookup fI = some ⟨oc, od, .func (fnOf "__init__" qual (iA "item" p1 p2) (iB "item" q1 q2 q3 q4) (iS "item" []) .none .none doc pm an cdv ct), osl⟩ ∧ codeIn K cdv qual = true
theorem ecl_item {K : Frag} {mg : Str → Option Value} {nm qual : Str} {B Bm newId initId : String} {bmB bm0 : List Value} {C fI : Addr} (fb : ExcBaseFacts Bm newId initId bm0) (ch : Chain bmB Bm) (sf : StoreFacts B bmB "object.__setattr__" "object") (gC : mg nm = some (.ref C))
    (h : ecB K C fI "item" bmB newId = true) (iC : findIn K (.ref C) "__init__" = some (some (.ref fI))) {oc : Value} {od : Option Addr} {doc pm : Value} {an : Option Addr} {cdv ct : Value} {osl : Array (Option Value)} {p1 p2 q1 q2 q3 q4 : Pos}
    (l : K.lookup fI = some ⟨oc, od, .func (fnOf "__init__" qual (iA "item" p1 p2) (iB "item" q1 q2 q3 q4) (iS "item" []) .none .none doc pm an cdv ct), osl⟩) (c : codeIn K cdv qual = true) : Ecl_item K mg nm qual B Bm newId initId bmB bm0 C fI := by
  unfold ecB at h
  simp only [Bool.and_eq_true, decide_eq_true_eq] at h
  obtain ⟨h1, h2, h3, h4, h5, h6, h7, h8, h9, h10, h11, h12, _⟩ := h
  exact ⟨fb, ch, sf, gC, h1, h2, h3, h4, h5, h6, h7, h8, iC, h9, h10, h11, h12, ⟨oc, od, doc, pm, an, cdv, ct, osl, p1, p2, q1, q2, q3, q4, l, c⟩⟩
/-- an error just made: at e, its dict at d, the field in it -/
structure Made_item (h h' : Heap) (e C d : Addr) (v : Value) : Prop where
  keep : ∀ b o, h.get? b = some o → h'.get? b = some o
  new : h.objs.size ≤ e
  obj : ∃ t1 : Addr, h'.get? e = some { cls := .ref C, dict := some d, data := .fields #[.ref t1, .none, .none, .none, .bool false, .none] }
  dbig : h.objs.size ≤ d
  dne : d ≠ e
  ns : h'.Ns1 d (fun y => if y = "item" then some v else none)
section
variable {prog : Program} {w : World} {A : Around} {E : Value → Shared → Prop} {R : Result → Shared → Prop} {s : Shared} {K : Frag} {mg : Str → Option Value} {nm qual : Str} {B Bm newId initId : String} {bmB bm0 : List Value} {C fI : Addr}
theorem init_item (T : Ecl_item K mg nm qual B Bm newId initId bmB bm0 C fI) {x t0 : Addr} {v : Value} {ar : Args} (X : K.In s.heap) (hlim : s.heap.NoLimit) (hx : s.heap.get? x = some (excO C t0)) (hroom : A.depth < recursionLimit)
    (hbind : ∀ doc pm an cdv ct p1 p2 q1 q2 q3 q4 s', BindsTo s' (fnOf "__init__" qual (iA "item" p1 p2) (iB "item" q1 q2 q3 q4) (iS "item" []) .none .none doc pm an cdv ct) ar [("self", .ref x), ("item", v)])
    (hq : ∀ h' tk dx, (∀ b o, b ≠ x → s.heap.get? b = some o → h'.get? b = some o) → h'.get? x = some { cls := .ref C, dict := some dx, data := .fields #[.ref t0, .none, .none, .none, .bool false, .none] } → s.heap.objs.size ≤ dx → dx ≠ x →
      h'.Ns1 dx (fun y => if y = "item" then some v else none) → R (.ok (.ret .none)) { s with heap := h', toks := tk }) :
    codeAny (model prog w) A (.call (.ref fI) ar) R s := by
  obtain ⟨oc, od, doc, pm, an, cdv, ct, osl, p1, p2, q1, q2, q3, q4, ho, hcd⟩ := T.fn
  obtain ⟨cd, hcl, hhd⟩ := any_some T.hdC
  refine Att.call_fn (binds := [("self", .ref x), ("item", v)]) X hlim ho hcd hroom (hbind _ _ _ _ _ _ _ _ _ _ _ _) (by first | rfl | decide | with_unfolding_all rfl) (fun s₁ IC => ?_) rfl rfl rfl
  obtain ⟨h₁, tk₁, rfl⟩ := IC.toInCall.same
  have k := IC.toInCall.keep
  have hn := IC.toInCall.ns
  have X₁ : K.In h₁ := X.keeps k
  show wpAny _ _ (execs _ _) _ _ _
  refine wpAny_execs_cons (plainObj_wpAny_Assign_Attribute ?_)
  refine wpAny_Name (wpAny_loadName_local rfl rfl hn (v := v) (by first | rfl | with_unfolding_all rfl | kernel_rfl) ?_) (by decide)
  refine wpAny_Name (wpAny_loadName_local rfl rfl hn (v := .ref x) (by first | rfl | with_unfolding_all rfl | kernel_rfl) ?_) (by decide)
  refine set_plain X₁ (ox := excO C t0) (od := none) ⟨k _ _ hx, rfl, rfl, trivial⟩ T.sa (osaB T.sf X₁ (k _ _ hx) T.ovr T.tk hcl hhd fun h₃ tk₃ dx k₃ dn dne hx₃ hn₃ => ?_)
  show wpAny _ _ (execs _ _) _ _ _
  exact wpAny_execs_nil (hq h₃ tk₃ dx (fun b o hb e => k₃ b o hb (k b o e)) hx₃ (Nat.le_of_lt (Nat.lt_of_lt_of_le hn.lt dn)) dne hn₃)
theorem made_item (T : Ecl_item K mg nm qual B Bm newId initId bmB bm0 C fI) {v : Value} {rest : List Value} {kw : List (Str × Value)} (X : K.In s.heap) (hlim : s.heap.NoLimit) (hroom : A.depth + 1 < recursionLimit) (how : (rest = [v] ∧ kw = []) ∨ (rest = [] ∧ kw = [(("item" : Str), v)]))
    (hq : ∀ h' tk e d, Made_item s.heap h' e C d v → R (.ok (.ret (.ref e))) { s with heap := h', toks := tk }) :
    codeAny (model prog w) A (.call (.ref C) ⟨rest, kw⟩) R s := by
  obtain ⟨nm', N, q, bs, bm, hd, sn, sub, ab, col, dd, k0, k1, k2, k3, k5, hC, hbm⟩ := excInit_of X T.ini
  obtain ⟨hp, g, dr, tk, os⟩ := s
  have k : ∀ b o, hp.get? b = some o → ((hp.push (kdv_tup rest)).push (excO C hp.objs.size)).get? b = some o := fun b o e => Heap.get?_push_of_some _ (Heap.get?_push_of_some _ e)
  have hget : ((hp.push (kdv_tup rest)).push (excO C hp.objs.size)).get? (hp.objs.size + 1) = some (excO C hp.objs.size) := by heap_get
  have chn : Chain bm Bm := ⟨by rw [hbm]; exact T.ch.cB, by rw [hbm]; exact T.ch.cA, by rw [hbm]; exact T.ch.cN⟩
  have hsz : rest.length ≤ sizeLine := by rcases how with ⟨rfl, _⟩ | ⟨rfl, _⟩ <;> (rw [sizeLine_eq]; simp)
  refine callX T.fb chn hC (looks_findIn X T.iC) (fun self => bind_fn X self T.tC) hsz ?_
  refine init_item (s := ⟨(hp.push (kdv_tup rest)).push (excO C hp.objs.size), g, dr, tk, os⟩) (v := v) T (X.keeps k) (hlim.keeps k) hget (show A.depth + 1 < recursionLimit from hroom) ?_ fun h' tk' dx k' hx dn dne hns => ?_
  · rcases how with ⟨rfl, rfl⟩ | ⟨rfl, rfl⟩
    · exact fun _ _ _ _ _ _ _ _ _ _ _ _ => BindsTo.of_eq (by first | rfl | with_unfolding_all rfl)
    · exact fun _ _ _ _ _ _ _ _ _ _ _ _ => BindsTo.of_eq (by first | rfl | with_unfolding_all rfl)
  have old : ∀ b o, hp.get? b = some o → h'.get? b = some o := fun b o e => k' b o (Nat.ne_of_lt (Nat.lt_succ_of_lt (Heap.lt_size e))) (k b o e)
  have z : hp.objs.size + 1 + 1 ≤ dx := by
    have q := dn
    rw [Heap.size_push, Heap.size_push] at q
    exact q
  exact ⟨rfl, hq h' tk' (hp.objs.size + 1) dx ⟨old, Nat.le_succ _, ⟨_, hx⟩, (show hp.objs.size ≤ dx by omega), dne, hns⟩⟩
end
end Exn
namespace Exn
open PySem PySem.Spec PyProof.Rows L2
theorem relO_item {v : V} {v' : Value} (r : RelV v v') (f : Str) : RelO (List.lookup f [(("item" : Str), v)]) (if f = "item" then some v' else none) := by
  by_cases hw : f = "item"
  · subst hw
    rw [if_pos rfl, show List.lookup ("item" : Str) [(("item" : Str), v)] = some v by simp [List.lookup]]
    exact r
  · have qw : (f == ("item" : Str)) = false := by simpa using hw
    rw [if_neg hw, show List.lookup f [(("item" : Str), v)] = none by simp [List.lookup, qw]]
    trivial
section
variable {X : Cx} {nm qual : Str} {B Bm newId initId : String} {bmB bm0 : List Value} {C fI : Addr}
/-- the making of the error that is raised at once -/
def tMk_item (C : Addr) (ta : TA) : L2.St → Hp → XK → Prop := fun σ H Q => ta σ H fun vs H1 => ∃ v, vs = [v] ∧ ∀ d, H1 d = none → Q (.ref C) (some d) (upd H1 d (.xd [(("item" : Str), v)]))
theorem pmk_item {a : Expr} {ta : TA} {p pos : Pos} {k : Nat} (T : Ecl_item X.K X.mg nm qual B Bm newId initId bmB bm0 C fI) (hr : Room k X.A) (ha : PA X [a] ta) (hg : Gl X nm) (hdb : (nm == ("__debug__" : Str)) = false := by decide)
    (he : starEach (a :: []) X.env = (false, eval a X.env) :: starEach [] X.env := by rfl) (hpl : (backTo pos (starEach [] X.env)).any (·.1) = false := by rfl) :
    PMk X (.Call (.Name nm p) [a] [] pos) (tMk_item C ta) := by
  intro pins s σ H Q I h
  refine wpAny_Call_Name_kw (ld_glob I hg T.gC ?_ hdb)
  refine PySem.W.callWith_K (h₀ := X.base) I.ok.mod.kin T.kC (thn (ha.run pos pins s σ H _ I h) ?_) he hpl
  rintro us s1 ⟨vs, H1, I1, r1, v, rfl, q1⟩
  obtain ⟨v', rfl, rv⟩ := vals1 r1
  refine ⟨I1.kIn, ?_⟩
  have hlim := I1.nolimit
  have hdp := hr.dp
  obtain ⟨hp, g, dr, tk, os⟩ := s1
  refine wpAny_call (made_item T I1.kIn hlim (by omega) (.inl ⟨rfl, rfl⟩) fun h' tk' e d M => ?_)
  show MkP X pins σ Q (.ref e) ⟨h', g, dr, tk', os⟩
  obtain ⟨t1, hoe⟩ := M.obj
  have hns := M.ns
  obtain ⟨G', g1, g2⟩ := restrict h' fun b => decide (b ≠ e)
  have gk : ∀ b, b ≠ e → G'.get? b = h'.get? b := fun b hb => g1 b (decide_eq_true hb)
  have ge : G'.get? e = none := g2 e (by simp)
  have old : ∀ b o, hp.get? b = some o → G'.get? b = some o := fun b o q => (gk b (Nat.ne_of_lt (Nat.lt_of_lt_of_le (Heap.lt_size q) M.new))).trans (M.keep b o q)
  have ob : ObjOk X.prog X.w (upd H1 d (.xd [(("item" : Str), v)])) G' d (.xd [(("item" : Str), v)]) := ⟨_, hns.at (fun o q => (gk d M.dne).trans q), fun f => relO_item rv f⟩
  have J : Inv X pins σ (upd H1 d (.xd [(("item" : Str), v)])) ⟨G', g, dr, tk', os⟩ := I1.laid (t' := tk') old M.dbig ob
  refine ⟨e, _, _, ⟨G', g, dr, tk', os⟩, _, .ref C, some d, rfl, J, fun b o q => ?_, ge, hoe, ⟨rfl, rfl⟩, rfl, rfl, ?_, rfl, I1.bare, raises_own T.exC T.tyC, q1 d (I1.hok.fresh M.dbig)⟩
  · by_cases hb : b = e
    · have q' : G'.get? b = some o := q
      rw [hb, ge] at q'
      cases q'
    · exact (gk b hb).symm.trans q
  · rw [upd_ne (Ne.symm M.dne)]
    exact I1.hok.fresh M.new
/-- the error as a value -/
abbrev tMkV_item (C : Addr) (ta : TA) : TE := tMkVg "item" C ta
theorem mkV_item {pins : List (Addr × Obj)} {s : Shared} {σ : L2.St} {H : Hp} {Q : VK} {v : V} {v' : Value} {rest : List Value} {kw : List (Str × Value)} {k : Nat} (T : Ecl_item X.K X.mg nm qual B Bm newId initId bmB bm0 C fI) (hr : Room k X.A) (I : Inv X pins σ H s) (rv : RelV v v')
    (how : (rest = [v'] ∧ kw = []) ∨ (rest = [] ∧ kw = [(("item" : Str), v')])) (q : ∀ d a, H d = none → H a = none → a ≠ d → Q (.ref a) (upd (upd H d (.xd [(("item" : Str), v)])) a (ExV C d a))) :
    wpAny (model X.prog X.w) X.A (call (.ref C) rest kw) (EP X pins σ Q) X.xe s := by
  have hlim := I.nolimit
  have hdp := hr.dp
  obtain ⟨hp, g, dr, tk, os⟩ := s
  refine wpAny_call (made_item T I.kIn hlim (by omega) how fun h' tk' e d M => ?_)
  obtain ⟨t1, hoe⟩ := M.obj
  obtain ⟨G', g1, g2⟩ := restrict h' fun b => decide (b ≠ e)
  have gk : ∀ b, b ≠ e → G'.get? b = h'.get? b := fun b hb => g1 b (decide_eq_true hb)
  have ge : G'.get? e = none := g2 e (by simp)
  have old : ∀ b o, hp.get? b = some o → G'.get? b = some o := fun b o z => (gk b (Nat.ne_of_lt (Nat.lt_of_lt_of_le (Heap.lt_size z) M.new))).trans (M.keep b o z)
  have J : Inv X pins σ (upd H d (.xd [(("item" : Str), v)])) ⟨G', g, dr, tk', os⟩ := I.laid (t' := tk') old M.dbig ⟨_, M.ns.at (fun o z => (gk d M.dne).trans z), fun f => relO_item rv f⟩
  have nHe : H e = none := I.hok.fresh M.new
  have nHe2 : (upd H d (.xd [(("item" : Str), v)])) e = none := by rw [upd_ne (Ne.symm M.dne)]; exact nHe
  have sub : ∀ b u, G'.get? b = some u → h'.get? b = some u := fun b o z => by
    by_cases hb : b = e
    · rw [hb, ge] at z; cases z
    · exact (gk b hb).symm.trans z
  exact ⟨.ref e, _, J.laidN (t' := tk') sub ge nHe2 (exV_ok hoe), rfl, q d e (I.hok.fresh M.dbig) nHe (Ne.symm M.dne)⟩
theorem pe_mkV_item {a : Expr} {ta : TA} {p pos : Pos} {k : Nat} (T : Ecl_item X.K X.mg nm qual B Bm newId initId bmB bm0 C fI) (hr : Room k X.A) (ha : PA X [a] ta) (hg : Gl X nm) (hdb : (nm == ("__debug__" : Str)) = false := by decide)
    (he : starEach (a :: []) X.env = (false, eval a X.env) :: starEach [] X.env := by rfl) (hpl : (backTo pos (starEach [] X.env)).any (·.1) = false := by rfl) : PE X (.Call (.Name nm p) [a] [] pos) (tMkV_item C ta) := by
  refine ⟨fun pins s σ H Q I h => wpAny_Call_Name_kw (ld_glob I hg T.gC ?_ hdb)⟩
  refine PySem.W.callWith_K (h₀ := X.base) I.ok.mod.kin T.kC (thn (ha.run pos pins s σ H _ I h) ?_) he hpl
  rintro us s1 ⟨vs, H1, I1, r1, v, rfl, q1⟩
  obtain ⟨v', rfl, rv⟩ := vals1 r1
  exact ⟨I1.kIn, mkV_item T hr I1 rv (.inl ⟨rfl, rfl⟩) q1⟩
theorem pe_mkK_item {kws : List Keyword} {tk : TA} {p pos : Pos} {k : Nat} (T : Ecl_item X.K X.mg nm qual B Bm newId initId bmB bm0 C fI) (hr : Room k X.A) (hkw : PK X kws tk) (hg : Gl X nm) (hdb : (nm == ("__debug__" : Str)) = false := by decide)
    (hal : (backToKw pos (keywordEach kws X.env)).all (·.1.isSome) = true := by rfl) (hks : (backToKw pos (keywordEach kws X.env)).filterMap (·.1) = [("item" : Str)] := by rfl)
    (hst : ((backTo pos (starEach [] X.env)).any (·.1) || (backToKw pos (keywordEach kws X.env)).any (·.1.isNone)) = false := by rfl) : PE X (.Call (.Name nm p) [] kws pos) (tMkV_item C tk) := by
  refine ⟨fun pins s σ H Q I h => wpAny_Call_Name_kw (ld_glob I hg T.gC ?_ hdb)⟩
  refine PySem.W.callWith_KW0 (h₀ := X.base) I.ok.mod.kin T.kC hal (thn (hkw.run pos pins s σ H _ I h) ?_) hst
  rintro us s1 ⟨vs, H1, I1, r1, v, rfl, q1⟩
  obtain ⟨v', rfl, rv⟩ := vals1 r1
  refine ⟨I1.kIn, ?_⟩
  rw [hks]
  exact mkV_item T hr I1 rv (.inr ⟨rfl, rfl⟩) q1
end
end Exn
/-! the field limit -/
namespace Exn
open PySem PySem.W PySem.Calls PyProof.Rows PySem.HandSPX
/-- what the written part says of such a class: its name, its place C, its __init__ at fI -/
structure Ecl_limit (K : Frag) (mg : Str → Option Value) (nm qual : Str) (B Bm newId initId : String) (bmB bm0 : List Value) (C fI : Addr) : Prop where
  fb : ExcBaseFacts Bm newId initId bm0
  ch : Chain bmB Bm
  sf : StoreFacts B bmB "object.__setattr__" "object"
  gC : mg nm = some (.ref C)
  ini : excInitIn K C bmB newId = true
  ovr : excOver K C bmB = true
  hdC : hasDictIn K C = true
  sa : findIn K (.ref C) "__setattr__" = some (some (.builtin "object.__setattr__"))
  ga : findIn K (.ref C) "__getattribute__" = some (some (.builtin "BaseException.__getattribute__"))
  gg : findIn K (.ref C) "__getattr__" = some none
  noN : findIn K (.ref C) "limit" = some none
  tk : takerIn K C "limit" = some none
  iC : findIn K (.ref C) "__init__" = some (some (.ref fI))
  tC : typeIn K (.ref fI) = some (.type "function")
  kC : keepIn K (.ref C) = true
  exC : subIn K (.ref C) (.type "BaseException") = some true
  tyC : typeIn K (.ref C) = some (.type "type")
  fn : ∃ (oc : Value) (od : Option Addr) (doc pm : Value) (an : Option Addr) (cdv ct : Value) (osl : Array (Option Value)) (p1 p2 q1 q2 q3 q4 : Pos),
    K.lookup fI = some ⟨oc, od, .func (fnOf "__init__" qual (iA "limit" p1 p2) (iB "limit" q1 q2 q3 q4) (iS "limit" []) .none .none doc pm an cdv ct), osl⟩ ∧ codeIn K cdv qual = true
theorem ecl_limit {K : Frag} {mg : Str → Option Value} {nm qual : Str} {B Bm newId initId : String} {bmB bm0 : List Value} {C fI : Addr} (fb : ExcBaseFacts Bm newId initId bm0) (ch : Chain bmB Bm) (sf : StoreFacts B bmB "object.__setattr__" "object") (gC : mg nm = some (.ref C))
    (h : ecB K C fI "limit" bmB newId = true) (iC : findIn K (.ref C) "__init__" = some (some (.ref fI))) {oc : Value} {od : Option Addr} {doc pm : Value} {an : Option Addr} {cdv ct : Value} {osl : Array (Option Value)} {p1 p2 q1 q2 q3 q4 : Pos}
    (l : K.lookup fI = some ⟨oc, od, .func (fnOf "__init__" qual (iA "limit" p1 p2) (iB "limit" q1 q2 q3 q4) (iS "limit" []) .none .none doc pm an cdv ct), osl⟩) (c : codeIn K cdv qual = true) : Ecl_limit K mg nm qual B Bm newId initId bmB bm0 C fI := by
  unfold ecB at h
  simp only [Bool.and_eq_true, decide_eq_true_eq] at h
  obtain ⟨h1, h2, h3, h4, h5, h6, h7, h8, h9, h10, h11, h12, _⟩ := h
  exact ⟨fb, ch, sf, gC, h1, h2, h3, h4, h5, h6, h7, h8, iC, h9, h10, h11, h12, ⟨oc, od, doc, pm, an, cdv, ct, osl, p1, p2, q1, q2, q3, q4, l, c⟩⟩
/-- an error just made: at e, its dict at d, the field in it -/
structure Made_limit (h h' : Heap) (e C d : Addr) (v : Value) : Prop where
  keep : ∀ b o, h.get? b = some o → h'.get? b = some o
  new : h.objs.size ≤ e
  obj : ∃ t1 : Addr, h'.get? e = some { cls := .ref C, dict := some d, data := .fields #[.ref t1, .none, .none, .none, .bool false, .none] }
  dbig : h.objs.size ≤ d
  dne : d ≠ e
  ns : h'.Ns1 d (fun y => if y = "limit" then some v else none)
section
variable {prog : Program} {w : World} {A : Around} {E : Value → Shared → Prop} {R : Result → Shared → Prop} {s : Shared} {K : Frag} {mg : Str → Option Value} {nm qual : Str} {B Bm newId initId : String} {bmB bm0 : List Value} {C fI : Addr}
theorem init_limit (T : Ecl_limit K mg nm qual B Bm newId initId bmB bm0 C fI) {x t0 : Addr} {v : Value} {ar : Args} (X : K.In s.heap) (hlim : s.heap.NoLimit) (hx : s.heap.get? x = some (excO C t0)) (hroom : A.depth < recursionLimit)
    (hbind : ∀ doc pm an cdv ct p1 p2 q1 q2 q3 q4 s', BindsTo s' (fnOf "__init__" qual (iA "limit" p1 p2) (iB "limit" q1 q2 q3 q4) (iS "limit" []) .none .none doc pm an cdv ct) ar [("self", .ref x), ("limit", v)])
    (hq : ∀ h' tk dx, (∀ b o, b ≠ x → s.heap.get? b = some o → h'.get? b = some o) → h'.get? x = some { cls := .ref C, dict := some dx, data := .fields #[.ref t0, .none, .none, .none, .bool false, .none] } → s.heap.objs.size ≤ dx → dx ≠ x →
      h'.Ns1 dx (fun y => if y = "limit" then some v else none) → R (.ok (.ret .none)) { s with heap := h', toks := tk }) :
    codeAny (model prog w) A (.call (.ref fI) ar) R s := by
  obtain ⟨oc, od, doc, pm, an, cdv, ct, osl, p1, p2, q1, q2, q3, q4, ho, hcd⟩ := T.fn
  obtain ⟨cd, hcl, hhd⟩ := any_some T.hdC
  refine Att.call_fn (binds := [("self", .ref x), ("limit", v)]) X hlim ho hcd hroom (hbind _ _ _ _ _ _ _ _ _ _ _ _) (by first | rfl | decide | with_unfolding_all rfl) (fun s₁ IC => ?_) rfl rfl rfl
  obtain ⟨h₁, tk₁, rfl⟩ := IC.toInCall.same
  have k := IC.toInCall.keep
  have hn := IC.toInCall.ns
  have X₁ : K.In h₁ := X.keeps k
  show wpAny _ _ (execs _ _) _ _ _
  refine wpAny_execs_cons (plainObj_wpAny_Assign_Attribute ?_)
  refine wpAny_Name (wpAny_loadName_local rfl rfl hn (v := v) (by first | rfl | with_unfolding_all rfl | kernel_rfl) ?_) (by decide)
  refine wpAny_Name (wpAny_loadName_local rfl rfl hn (v := .ref x) (by first | rfl | with_unfolding_all rfl | kernel_rfl) ?_) (by decide)
  refine set_plain X₁ (ox := excO C t0) (od := none) ⟨k _ _ hx, rfl, rfl, trivial⟩ T.sa (osaB T.sf X₁ (k _ _ hx) T.ovr T.tk hcl hhd fun h₃ tk₃ dx k₃ dn dne hx₃ hn₃ => ?_)
  show wpAny _ _ (execs _ _) _ _ _
  exact wpAny_execs_nil (hq h₃ tk₃ dx (fun b o hb e => k₃ b o hb (k b o e)) hx₃ (Nat.le_of_lt (Nat.lt_of_lt_of_le hn.lt dn)) dne hn₃)
theorem made_limit (T : Ecl_limit K mg nm qual B Bm newId initId bmB bm0 C fI) {v : Value} {rest : List Value} {kw : List (Str × Value)} (X : K.In s.heap) (hlim : s.heap.NoLimit) (hroom : A.depth + 1 < recursionLimit) (how : (rest = [v] ∧ kw = []) ∨ (rest = [] ∧ kw = [(("limit" : Str), v)]))
    (hq : ∀ h' tk e d, Made_limit s.heap h' e C d v → R (.ok (.ret (.ref e))) { s with heap := h', toks := tk }) :
    codeAny (model prog w) A (.call (.ref C) ⟨rest, kw⟩) R s := by
  obtain ⟨nm', N, q, bs, bm, hd, sn, sub, ab, col, dd, k0, k1, k2, k3, k5, hC, hbm⟩ := excInit_of X T.ini
  obtain ⟨hp, g, dr, tk, os⟩ := s
  have k : ∀ b o, hp.get? b = some o → ((hp.push (kdv_tup rest)).push (excO C hp.objs.size)).get? b = some o := fun b o e => Heap.get?_push_of_some _ (Heap.get?_push_of_some _ e)
  have hget : ((hp.push (kdv_tup rest)).push (excO C hp.objs.size)).get? (hp.objs.size + 1) = some (excO C hp.objs.size) := by heap_get
  have chn : Chain bm Bm := ⟨by rw [hbm]; exact T.ch.cB, by rw [hbm]; exact T.ch.cA, by rw [hbm]; exact T.ch.cN⟩
  have hsz : rest.length ≤ sizeLine := by rcases how with ⟨rfl, _⟩ | ⟨rfl, _⟩ <;> (rw [sizeLine_eq]; simp)
  refine callX T.fb chn hC (looks_findIn X T.iC) (fun self => bind_fn X self T.tC) hsz ?_
  refine init_limit (s := ⟨(hp.push (kdv_tup rest)).push (excO C hp.objs.size), g, dr, tk, os⟩) (v := v) T (X.keeps k) (hlim.keeps k) hget (show A.depth + 1 < recursionLimit from hroom) ?_ fun h' tk' dx k' hx dn dne hns => ?_
  · rcases how with ⟨rfl, rfl⟩ | ⟨rfl, rfl⟩
    · exact fun _ _ _ _ _ _ _ _ _ _ _ _ => BindsTo.of_eq (by first | rfl | with_unfolding_all rfl)
    · exact fun _ _ _ _ _ _ _ _ _ _ _ _ => BindsTo.of_eq (by first | rfl | with_unfolding_all rfl)
  have old : ∀ b o, hp.get? b = some o → h'.get? b = some o := fun b o e => k' b o (Nat.ne_of_lt (Nat.lt_succ_of_lt (Heap.lt_size e))) (k b o e)
  have z : hp.objs.size + 1 + 1 ≤ dx := by
    have q := dn
    rw [Heap.size_push, Heap.size_push] at q
    exact q
  exact ⟨rfl, hq h' tk' (hp.objs.size + 1) dx ⟨old, Nat.le_succ _, ⟨_, hx⟩, (show hp.objs.size ≤ dx by omega), dne, hns⟩⟩
end
end Exn
namespace Exn
open PySem PySem.Spec PyProof.Rows L2
theorem relO_limit {v : V} {v' : Value} (r : RelV v v') (f : Str) : RelO (List.lookup f [(("limit" : Str), v)]) (if f = "limit" then some v' else none) := by
  by_cases hw : f = "limit"
  · subst hw
    rw [if_pos rfl, show List.lookup ("limit" : Str) [(("limit" : Str), v)] = some v by simp [List.lookup]]
    exact r
  · have qw : (f == ("limit" : Str)) = false := by simpa using hw
    rw [if_neg hw, show List.lookup f [(("limit" : Str), v)] = none by simp [List.lookup, qw]]
    trivial
section
variable {X : Cx} {nm qual : Str} {B Bm newId initId : String} {bmB bm0 : List Value} {C fI : Addr}
/-- the making of the error that is raised at once -/
def tMk_limit (C : Addr) (ta : TA) : L2.St → Hp → XK → Prop := fun σ H Q => ta σ H fun vs H1 => ∃ v, vs = [v] ∧ ∀ d, H1 d = none → Q (.ref C) (some d) (upd H1 d (.xd [(("limit" : Str), v)]))
theorem pmk_limit {a : Expr} {ta : TA} {p pos : Pos} {k : Nat} (T : Ecl_limit X.K X.mg nm qual B Bm newId initId bmB bm0 C fI) (hr : Room k X.A) (ha : PA X [a] ta) (hg : Gl X nm) (hdb : (nm == ("__debug__" : Str)) = false := by decide)
    (he : starEach (a :: []) X.env = (false, eval a X.env) :: starEach [] X.env := by rfl) (hpl : (backTo pos (starEach [] X.env)).any (·.1) = false := by rfl) :
    PMk X (.Call (.Name nm p) [a] [] pos) (tMk_limit C ta) := by
  intro pins s σ H Q I h
  refine wpAny_Call_Name_kw (ld_glob I hg T.gC ?_ hdb)
  refine PySem.W.callWith_K (h₀ := X.base) I.ok.mod.kin T.kC (thn (ha.run pos pins s σ H _ I h) ?_) he hpl
  rintro us s1 ⟨vs, H1, I1, r1, v, rfl, q1⟩
  obtain ⟨v', rfl, rv⟩ := vals1 r1
  refine ⟨I1.kIn, ?_⟩
  have hlim := I1.nolimit
  have hdp := hr.dp
  obtain ⟨hp, g, dr, tk, os⟩ := s1
  refine wpAny_call (made_limit T I1.kIn hlim (by omega) (.inl ⟨rfl, rfl⟩) fun h' tk' e d M => ?_)
  show MkP X pins σ Q (.ref e) ⟨h', g, dr, tk', os⟩
  obtain ⟨t1, hoe⟩ := M.obj
  have hns := M.ns
  obtain ⟨G', g1, g2⟩ := restrict h' fun b => decide (b ≠ e)
  have gk : ∀ b, b ≠ e → G'.get? b = h'.get? b := fun b hb => g1 b (decide_eq_true hb)
  have ge : G'.get? e = none := g2 e (by simp)
  have old : ∀ b o, hp.get? b = some o → G'.get? b = some o := fun b o q => (gk b (Nat.ne_of_lt (Nat.lt_of_lt_of_le (Heap.lt_size q) M.new))).trans (M.keep b o q)
  have ob : ObjOk X.prog X.w (upd H1 d (.xd [(("limit" : Str), v)])) G' d (.xd [(("limit" : Str), v)]) := ⟨_, hns.at (fun o q => (gk d M.dne).trans q), fun f => relO_limit rv f⟩
  have J : Inv X pins σ (upd H1 d (.xd [(("limit" : Str), v)])) ⟨G', g, dr, tk', os⟩ := I1.laid (t' := tk') old M.dbig ob
  refine ⟨e, _, _, ⟨G', g, dr, tk', os⟩, _, .ref C, some d, rfl, J, fun b o q => ?_, ge, hoe, ⟨rfl, rfl⟩, rfl, rfl, ?_, rfl, I1.bare, raises_own T.exC T.tyC, q1 d (I1.hok.fresh M.dbig)⟩
  · by_cases hb : b = e
    · have q' : G'.get? b = some o := q
      rw [hb, ge] at q'
      cases q'
    · exact (gk b hb).symm.trans q
  · rw [upd_ne (Ne.symm M.dne)]
    exact I1.hok.fresh M.new
/-- the error as a value -/
abbrev tMkV_limit (C : Addr) (ta : TA) : TE := tMkVg "limit" C ta
theorem mkV_limit {pins : List (Addr × Obj)} {s : Shared} {σ : L2.St} {H : Hp} {Q : VK} {v : V} {v' : Value} {rest : List Value} {kw : List (Str × Value)} {k : Nat} (T : Ecl_limit X.K X.mg nm qual B Bm newId initId bmB bm0 C fI) (hr : Room k X.A) (I : Inv X pins σ H s) (rv : RelV v v')
    (how : (rest = [v'] ∧ kw = []) ∨ (rest = [] ∧ kw = [(("limit" : Str), v')])) (q : ∀ d a, H d = none → H a = none → a ≠ d → Q (.ref a) (upd (upd H d (.xd [(("limit" : Str), v)])) a (ExV C d a))) :
    wpAny (model X.prog X.w) X.A (call (.ref C) rest kw) (EP X pins σ Q) X.xe s := by
  have hlim := I.nolimit
  have hdp := hr.dp
  obtain ⟨hp, g, dr, tk, os⟩ := s
  refine wpAny_call (made_limit T I.kIn hlim (by omega) how fun h' tk' e d M => ?_)
  obtain ⟨t1, hoe⟩ := M.obj
  obtain ⟨G', g1, g2⟩ := restrict h' fun b => decide (b ≠ e)
  have gk : ∀ b, b ≠ e → G'.get? b = h'.get? b := fun b hb => g1 b (decide_eq_true hb)
  have ge : G'.get? e = none := g2 e (by simp)
  have old : ∀ b o, hp.get? b = some o → G'.get? b = some o := fun b o z => (gk b (Nat.ne_of_lt (Nat.lt_of_lt_of_le (Heap.lt_size z) M.new))).trans (M.keep b o z)
  have J : Inv X pins σ (upd H d (.xd [(("limit" : Str), v)])) ⟨G', g, dr, tk', os⟩ := I.laid (t' := tk') old M.dbig ⟨_, M.ns.at (fun o z => (gk d M.dne).trans z), fun f => relO_limit rv f⟩
  have nHe : H e = none := I.hok.fresh M.new
  have nHe2 : (upd H d (.xd [(("limit" : Str), v)])) e = none := by rw [upd_ne (Ne.symm M.dne)]; exact nHe
  have sub : ∀ b u, G'.get? b = some u → h'.get? b = some u := fun b o z => by
    by_cases hb : b = e
    · rw [hb, ge] at z; cases z
    · exact (gk b hb).symm.trans z
  exact ⟨.ref e, _, J.laidN (t' := tk') sub ge nHe2 (exV_ok hoe), rfl, q d e (I.hok.fresh M.dbig) nHe (Ne.symm M.dne)⟩
theorem pe_mkV_limit {a : Expr} {ta : TA} {p pos : Pos} {k : Nat} (T : Ecl_limit X.K X.mg nm qual B Bm newId initId bmB bm0 C fI) (hr : Room k X.A) (ha : PA X [a] ta) (hg : Gl X nm) (hdb : (nm == ("__debug__" : Str)) = false := by decide)
    (he : starEach (a :: []) X.env = (false, eval a X.env) :: starEach [] X.env := by rfl) (hpl : (backTo pos (starEach [] X.env)).any (·.1) = false := by rfl) : PE X (.Call (.Name nm p) [a] [] pos) (tMkV_limit C ta) := by
  refine ⟨fun pins s σ H Q I h => wpAny_Call_Name_kw (ld_glob I hg T.gC ?_ hdb)⟩
  refine PySem.W.callWith_K (h₀ := X.base) I.ok.mod.kin T.kC (thn (ha.run pos pins s σ H _ I h) ?_) he hpl
  rintro us s1 ⟨vs, H1, I1, r1, v, rfl, q1⟩
  obtain ⟨v', rfl, rv⟩ := vals1 r1
  exact ⟨I1.kIn, mkV_limit T hr I1 rv (.inl ⟨rfl, rfl⟩) q1⟩
theorem pe_mkK_limit {kws : List Keyword} {tk : TA} {p pos : Pos} {k : Nat} (T : Ecl_limit X.K X.mg nm qual B Bm newId initId bmB bm0 C fI) (hr : Room k X.A) (hkw : PK X kws tk) (hg : Gl X nm) (hdb : (nm == ("__debug__" : Str)) = false := by decide)
    (hal : (backToKw pos (keywordEach kws X.env)).all (·.1.isSome) = true := by rfl) (hks : (backToKw pos (keywordEach kws X.env)).filterMap (·.1) = [("limit" : Str)] := by rfl)
    (hst : ((backTo pos (starEach [] X.env)).any (·.1) || (backToKw pos (keywordEach kws X.env)).any (·.1.isNone)) = false := by rfl) : PE X (.Call (.Name nm p) [] kws pos) (tMkV_limit C tk) := by
  refine ⟨fun pins s σ H Q I h => wpAny_Call_Name_kw (ld_glob I hg T.gC ?_ hdb)⟩
  refine PySem.W.callWith_KW0 (h₀ := X.base) I.ok.mod.kin T.kC hal (thn (hkw.run pos pins s σ H _ I h) ?_) hst
  rintro us s1 ⟨vs, H1, I1, r1, v, rfl, q1⟩
  obtain ⟨v', rfl, rv⟩ := vals1 r1
  refine ⟨I1.kIn, ?_⟩
  rw [hks]
  exact mkV_limit T hr I1 rv (.inr ⟨rfl, rfl⟩) q1
end
end Exn
/-! the field count -/
namespace Exn
open PySem PySem.W PySem.Calls PyProof.Rows PySem.HandSPX
/-- what the written part says of such a class: its name, its place C, its __init__ at fI -/
structure Ecl_count (K : Frag) (mg : Str → Option Value) (nm qual : Str) (B Bm newId initId : String) (bmB bm0 : List Value) (C fI : Addr) : Prop where
  fb : ExcBaseFacts Bm newId initId bm0
  ch : Chain bmB Bm
  sf : StoreFacts B bmB "object.__setattr__" "object"
  gC : mg nm = some (.ref C)
  ini : excInitIn K C bmB newId = true
  ovr : excOver K C bmB = true
  hdC : hasDictIn K C = true
  sa : findIn K (.ref C) "__setattr__" = some (some (.builtin "object.__setattr__"))
  ga : findIn K (.ref C) "__getattribute__" = some (some (.builtin "BaseException.__getattribute__"))
  gg : findIn K (.ref C) "__getattr__" = some none
  noN : findIn K (.ref C) "count" = some none
  tk : takerIn K C "count" = some none
  iC : findIn K (.ref C) "__init__" = some (some (.ref fI))
  tC : typeIn K (.ref fI) = some (.type "function")
  kC : keepIn K (.ref C) = true
  exC : subIn K (.ref C) (.type "BaseException") = some true
  tyC : typeIn K (.ref C) = some (.type "type")
  fn : ∃ (oc : Value) (od : Option Addr) (doc pm : Value) (an : Option Addr) (cdv ct : Value) (osl : Array (Option Value)) (p1 p2 q1 q2 q3 q4 : Pos),
    K.lookup fI = some ⟨oc, od, .func (fnOf "__init__" qual (iA "count" p1 p2) (iB "count" q1 q2 q3 q4) (iS "count" []) .none .none doc pm an cdv ct), osl⟩ ∧ codeIn K cdv qual = true
theorem ecl_count {K : Frag} {mg : Str → Option Value} {nm qual : Str} {B Bm newId initId : String} {bmB bm0 : List Value} {C fI : Addr} (fb : ExcBaseFacts Bm newId initId bm0) (ch : Chain bmB Bm) (sf : StoreFacts B bmB "object.__setattr__" "object") (gC : mg nm = some (.ref C))
    (h : ecB K C fI "count" bmB newId = true) (iC : findIn K (.ref C) "__init__" = some (some (.ref fI))) {oc : Value} {od : Option Addr} {doc pm : Value} {an : Option Addr} {cdv ct : Value} {osl : Array (Option Value)} {p1 p2 q1 q2 q3 q4 : Pos}
    (l : K.lookup fI = some ⟨oc, od, .func (fnOf "__init__" qual (iA "count" p1 p2) (iB "count" q1 q2 q3 q4) (iS "count" []) .none .none doc pm an cdv ct), osl⟩) (c : codeIn K cdv qual = true) : Ecl_count K mg nm qual B Bm newId initId bmB bm0 C fI := by
  unfold ecB at h
  simp only [Bool.and_eq_true, decide_eq_true_eq] at h
  obtain ⟨h1, h2, h3, h4, h5, h6, h7, h8, h9, h10, h11, h12, _⟩ := h
  exact ⟨fb, ch, sf, gC, h1, h2, h3, h4, h5, h6, h7, h8, iC, h9, h10, h11, h12, ⟨oc, od, doc, pm, an, cdv, ct, osl, p1, p2, q1, q2, q3, q4, l, c⟩⟩
/-- an error just made: at e, its dict at d, the field in it -/
structure Made_count (h h' : Heap) (e C d : Addr) (v : Value) : Prop where
  keep : ∀ b o, h.get? b = some o → h'.get? b = some o
  new : h.objs.size ≤ e
  obj : ∃ t1 : Addr, h'.get? e = some { cls := .ref C, dict := some d, data := .fields #[.ref t1, .none, .none, .none, .bool false, .none] }
  dbig : h.objs.size ≤ d
  dne : d ≠ e
  ns : h'.Ns1 d (fun y => if y = "count" then some v else none)
section
variable {prog : Program} {w : World} {A : Around} {E : Value → Shared → Prop} {R : Result → Shared → Prop} {s : Shared} {K : Frag} {mg : Str → Option Value} {nm qual : Str} {B Bm newId initId : String} {bmB bm0 : List Value} {C fI : Addr}
theorem init_count (T : Ecl_count K mg nm qual B Bm newId initId bmB bm0 C fI) {x t0 : Addr} {v : Value} {ar : Args} (X : K.In s.heap) (hlim : s.heap.NoLimit) (hx : s.heap.get? x = some (excO C t0)) (hroom : A.depth < recursionLimit)
    (hbind : ∀ doc pm an cdv ct p1 p2 q1 q2 q3 q4 s', BindsTo s' (fnOf "__init__" qual (iA "count" p1 p2) (iB "count" q1 q2 q3 q4) (iS "count" []) .none .none doc pm an cdv ct) ar [("self", .ref x), ("count", v)])
    (hq : ∀ h' tk dx, (∀ b o, b ≠ x → s.heap.get? b = some o → h'.get? b = some o) → h'.get? x = some { cls := .ref C, dict := some dx, data := .fields #[.ref t0, .none, .none, .none, .bool false, .none] } → s.heap.objs.size ≤ dx → dx ≠ x →
      h'.Ns1 dx (fun y => if y = "count" then some v else none) → R (.ok (.ret .none)) { s with heap := h', toks := tk }) :
    codeAny (model prog w) A (.call (.ref fI) ar) R s := by
  obtain ⟨oc, od, doc, pm, an, cdv, ct, osl, p1, p2, q1, q2, q3, q4, ho, hcd⟩ := T.fn
  obtain ⟨cd, hcl, hhd⟩ := any_some T.hdC
  refine Att.call_fn (binds := [("self", .ref x), ("count", v)]) X hlim ho hcd hroom (hbind _ _ _ _ _ _ _ _ _ _ _ _) (by first | rfl | decide | with_unfolding_all rfl) (fun s₁ IC => ?_) rfl rfl rfl
  obtain ⟨h₁, tk₁, rfl⟩ := IC.toInCall.same
  have k := IC.toInCall.keep
  have hn := IC.toInCall.ns
  have X₁ : K.In h₁ := X.keeps k
  show wpAny _ _ (execs _ _) _ _ _
  refine wpAny_execs_cons (plainObj_wpAny_Assign_Attribute ?_)
  refine wpAny_Name (wpAny_loadName_local rfl rfl hn (v := v) (by first | rfl | with_unfolding_all rfl | kernel_rfl) ?_) (by decide)
  refine wpAny_Name (wpAny_loadName_local rfl rfl hn (v := .ref x) (by first | rfl | with_unfolding_all rfl | kernel_rfl) ?_) (by decide)
  refine set_plain X₁ (ox := excO C t0) (od := none) ⟨k _ _ hx, rfl, rfl, trivial⟩ T.sa (osaB T.sf X₁ (k _ _ hx) T.ovr T.tk hcl hhd fun h₃ tk₃ dx k₃ dn dne hx₃ hn₃ => ?_)
  show wpAny _ _ (execs _ _) _ _ _
  exact wpAny_execs_nil (hq h₃ tk₃ dx (fun b o hb e => k₃ b o hb (k b o e)) hx₃ (Nat.le_of_lt (Nat.lt_of_lt_of_le hn.lt dn)) dne hn₃)
theorem made_count (T : Ecl_count K mg nm qual B Bm newId initId bmB bm0 C fI) {v : Value} {rest : List Value} {kw : List (Str × Value)} (X : K.In s.heap) (hlim : s.heap.NoLimit) (hroom : A.depth + 1 < recursionLimit) (how : (rest = [v] ∧ kw = []) ∨ (rest = [] ∧ kw = [(("count" : Str), v)]))
    (hq : ∀ h' tk e d, Made_count s.heap h' e C d v → R (.ok (.ret (.ref e))) { s with heap := h', toks := tk }) :
    codeAny (model prog w) A (.call (.ref C) ⟨rest, kw⟩) R s := by
  obtain ⟨nm', N, q, bs, bm, hd, sn, sub, ab, col, dd, k0, k1, k2, k3, k5, hC, hbm⟩ := excInit_of X T.ini
  obtain ⟨hp, g, dr, tk, os⟩ := s
  have k : ∀ b o, hp.get? b = some o → ((hp.push (kdv_tup rest)).push (excO C hp.objs.size)).get? b = some o := fun b o e => Heap.get?_push_of_some _ (Heap.get?_push_of_some _ e)
  have hget : ((hp.push (kdv_tup rest)).push (excO C hp.objs.size)).get? (hp.objs.size + 1) = some (excO C hp.objs.size) := by heap_get
  have chn : Chain bm Bm := ⟨by rw [hbm]; exact T.ch.cB, by rw [hbm]; exact T.ch.cA, by rw [hbm]; exact T.ch.cN⟩
  have hsz : rest.length ≤ sizeLine := by rcases how with ⟨rfl, _⟩ | ⟨rfl, _⟩ <;> (rw [sizeLine_eq]; simp)
  refine callX T.fb chn hC (looks_findIn X T.iC) (fun self => bind_fn X self T.tC) hsz ?_
  refine init_count (s := ⟨(hp.push (kdv_tup rest)).push (excO C hp.objs.size), g, dr, tk, os⟩) (v := v) T (X.keeps k) (hlim.keeps k) hget (show A.depth + 1 < recursionLimit from hroom) ?_ fun h' tk' dx k' hx dn dne hns => ?_
  · rcases how with ⟨rfl, rfl⟩ | ⟨rfl, rfl⟩
    · exact fun _ _ _ _ _ _ _ _ _ _ _ _ => BindsTo.of_eq (by first | rfl | with_unfolding_all rfl)
    · exact fun _ _ _ _ _ _ _ _ _ _ _ _ => BindsTo.of_eq (by first | rfl | with_unfolding_all rfl)
  have old : ∀ b o, hp.get? b = some o → h'.get? b = some o := fun b o e => k' b o (Nat.ne_of_lt (Nat.lt_succ_of_lt (Heap.lt_size e))) (k b o e)
  have z : hp.objs.size + 1 + 1 ≤ dx := by
    have q := dn
    rw [Heap.size_push, Heap.size_push] at q
    exact q
  exact ⟨rfl, hq h' tk' (hp.objs.size + 1) dx ⟨old, Nat.le_succ _, ⟨_, hx⟩, (show hp.objs.size ≤ dx by omega), dne, hns⟩⟩
end
end Exn
namespace Exn
open PySem PySem.Spec PyProof.Rows L2
theorem relO_count {v : V} {v' : Value} (r : RelV v v') (f : Str) : RelO (List.lookup f [(("count" : Str), v)]) (if f = "count" then some v' else none) := by
  by_cases hw : f = "count"
  · subst hw
    rw [if_pos rfl, show List.lookup ("count" : Str) [(("count" : Str), v)] = some v by simp [List.lookup]]
    exact r
  · have qw : (f == ("count" : Str)) = false := by simpa using hw
    rw [if_neg hw, show List.lookup f [(("count" : Str), v)] = none by simp [List.lookup, qw]]
    trivial
section
variable {X : Cx} {nm qual : Str} {B Bm newId initId : String} {bmB bm0 : List Value} {C fI : Addr}
/-- the making of the error that is raised at once -/
def tMk_count (C : Addr) (ta : TA) : L2.St → Hp → XK → Prop := fun σ H Q => ta σ H fun vs H1 => ∃ v, vs = [v] ∧ ∀ d, H1 d = none → Q (.ref C) (some d) (upd H1 d (.xd [(("count" : Str), v)]))
theorem pmk_count {a : Expr} {ta : TA} {p pos : Pos} {k : Nat} (T : Ecl_count X.K X.mg nm qual B Bm newId initId bmB bm0 C fI) (hr : Room k X.A) (ha : PA X [a] ta) (hg : Gl X nm) (hdb : (nm == ("__debug__" : Str)) = false := by decide)
    (he : starEach (a :: []) X.env = (false, eval a X.env) :: starEach [] X.env := by rfl) (hpl : (backTo pos (starEach [] X.env)).any (·.1) = false := by rfl) :
    PMk X (.Call (.Name nm p) [a] [] pos) (tMk_count C ta) := by
  intro pins s σ H Q I h
  refine wpAny_Call_Name_kw (ld_glob I hg T.gC ?_ hdb)
  refine PySem.W.callWith_K (h₀ := X.base) I.ok.mod.kin T.kC (thn (ha.run pos pins s σ H _ I h) ?_) he hpl
  rintro us s1 ⟨vs, H1, I1, r1, v, rfl, q1⟩
  obtain ⟨v', rfl, rv⟩ := vals1 r1
  refine ⟨I1.kIn, ?_⟩
  have hlim := I1.nolimit
  have hdp := hr.dp
  obtain ⟨hp, g, dr, tk, os⟩ := s1
  refine wpAny_call (made_count T I1.kIn hlim (by omega) (.inl ⟨rfl, rfl⟩) fun h' tk' e d M => ?_)
  show MkP X pins σ Q (.ref e) ⟨h', g, dr, tk', os⟩
  obtain ⟨t1, hoe⟩ := M.obj
  have hns := M.ns
  obtain ⟨G', g1, g2⟩ := restrict h' fun b => decide (b ≠ e)
  have gk : ∀ b, b ≠ e → G'.get? b = h'.get? b := fun b hb => g1 b (decide_eq_true hb)
  have ge : G'.get? e = none := g2 e (by simp)
  have old : ∀ b o, hp.get? b = some o → G'.get? b = some o := fun b o q => (gk b (Nat.ne_of_lt (Nat.lt_of_lt_of_le (Heap.lt_size q) M.new))).trans (M.keep b o q)
  have ob : ObjOk X.prog X.w (upd H1 d (.xd [(("count" : Str), v)])) G' d (.xd [(("count" : Str), v)]) := ⟨_, hns.at (fun o q => (gk d M.dne).trans q), fun f => relO_count rv f⟩
  have J : Inv X pins σ (upd H1 d (.xd [(("count" : Str), v)])) ⟨G', g, dr, tk', os⟩ := I1.laid (t' := tk') old M.dbig ob
  refine ⟨e, _, _, ⟨G', g, dr, tk', os⟩, _, .ref C, some d, rfl, J, fun b o q => ?_, ge, hoe, ⟨rfl, rfl⟩, rfl, rfl, ?_, rfl, I1.bare, raises_own T.exC T.tyC, q1 d (I1.hok.fresh M.dbig)⟩
  · by_cases hb : b = e
    · have q' : G'.get? b = some o := q
      rw [hb, ge] at q'
      cases q'
    · exact (gk b hb).symm.trans q
  · rw [upd_ne (Ne.symm M.dne)]
    exact I1.hok.fresh M.new
/-- the error as a value -/
abbrev tMkV_count (C : Addr) (ta : TA) : TE := tMkVg "count" C ta
theorem mkV_count {pins : List (Addr × Obj)} {s : Shared} {σ : L2.St} {H : Hp} {Q : VK} {v : V} {v' : Value} {rest : List Value} {kw : List (Str × Value)} {k : Nat} (T : Ecl_count X.K X.mg nm qual B Bm newId initId bmB bm0 C fI) (hr : Room k X.A) (I : Inv X pins σ H s) (rv : RelV v v')
    (how : (rest = [v'] ∧ kw = []) ∨ (rest = [] ∧ kw = [(("count" : Str), v')])) (q : ∀ d a, H d = none → H a = none → a ≠ d → Q (.ref a) (upd (upd H d (.xd [(("count" : Str), v)])) a (ExV C d a))) :
    wpAny (model X.prog X.w) X.A (call (.ref C) rest kw) (EP X pins σ Q) X.xe s := by
  have hlim := I.nolimit
  have hdp := hr.dp
  obtain ⟨hp, g, dr, tk, os⟩ := s
  refine wpAny_call (made_count T I.kIn hlim (by omega) how fun h' tk' e d M => ?_)
  obtain ⟨t1, hoe⟩ := M.obj
  obtain ⟨G', g1, g2⟩ := restrict h' fun b => decide (b ≠ e)
  have gk : ∀ b, b ≠ e → G'.get? b = h'.get? b := fun b hb => g1 b (decide_eq_true hb)
  have ge : G'.get? e = none := g2 e (by simp)
  have old : ∀ b o, hp.get? b = some o → G'.get? b = some o := fun b o z => (gk b (Nat.ne_of_lt (Nat.lt_of_lt_of_le (Heap.lt_size z) M.new))).trans (M.keep b o z)
  have J : Inv X pins σ (upd H d (.xd [(("count" : Str), v)])) ⟨G', g, dr, tk', os⟩ := I.laid (t' := tk') old M.dbig ⟨_, M.ns.at (fun o z => (gk d M.dne).trans z), fun f => relO_count rv f⟩
  have nHe : H e = none := I.hok.fresh M.new
  have nHe2 : (upd H d (.xd [(("count" : Str), v)])) e = none := by rw [upd_ne (Ne.symm M.dne)]; exact nHe
  have sub : ∀ b u, G'.get? b = some u → h'.get? b = some u := fun b o z => by
    by_cases hb : b = e
    · rw [hb, ge] at z; cases z
    · exact (gk b hb).symm.trans z
  exact ⟨.ref e, _, J.laidN (t' := tk') sub ge nHe2 (exV_ok hoe), rfl, q d e (I.hok.fresh M.dbig) nHe (Ne.symm M.dne)⟩
theorem pe_mkV_count {a : Expr} {ta : TA} {p pos : Pos} {k : Nat} (T : Ecl_count X.K X.mg nm qual B Bm newId initId bmB bm0 C fI) (hr : Room k X.A) (ha : PA X [a] ta) (hg : Gl X nm) (hdb : (nm == ("__debug__" : Str)) = false := by decide)
    (he : starEach (a :: []) X.env = (false, eval a X.env) :: starEach [] X.env := by rfl) (hpl : (backTo pos (starEach [] X.env)).any (·.1) = false := by rfl) : PE X (.Call (.Name nm p) [a] [] pos) (tMkV_count C ta) := by
  refine ⟨fun pins s σ H Q I h => wpAny_Call_Name_kw (ld_glob I hg T.gC ?_ hdb)⟩
  refine PySem.W.callWith_K (h₀ := X.base) I.ok.mod.kin T.kC (thn (ha.run pos pins s σ H _ I h) ?_) he hpl
  rintro us s1 ⟨vs, H1, I1, r1, v, rfl, q1⟩
  obtain ⟨v', rfl, rv⟩ := vals1 r1
  exact ⟨I1.kIn, mkV_count T hr I1 rv (.inl ⟨rfl, rfl⟩) q1⟩
theorem pe_mkK_count {kws : List Keyword} {tk : TA} {p pos : Pos} {k : Nat} (T : Ecl_count X.K X.mg nm qual B Bm newId initId bmB bm0 C fI) (hr : Room k X.A) (hkw : PK X kws tk) (hg : Gl X nm) (hdb : (nm == ("__debug__" : Str)) = false := by decide)
    (hal : (backToKw pos (keywordEach kws X.env)).all (·.1.isSome) = true := by rfl) (hks : (backToKw pos (keywordEach kws X.env)).filterMap (·.1) = [("count" : Str)] := by rfl)
    (hst : ((backTo pos (starEach [] X.env)).any (·.1) || (backToKw pos (keywordEach kws X.env)).any (·.1.isNone)) = false := by rfl) : PE X (.Call (.Name nm p) [] kws pos) (tMkV_count C tk) := by
  refine ⟨fun pins s σ H Q I h => wpAny_Call_Name_kw (ld_glob I hg T.gC ?_ hdb)⟩
  refine PySem.W.callWith_KW0 (h₀ := X.base) I.ok.mod.kin T.kC hal (thn (hkw.run pos pins s σ H _ I h) ?_) hst
  rintro us s1 ⟨vs, H1, I1, r1, v, rfl, q1⟩
  obtain ⟨v', rfl, rv⟩ := vals1 r1
  refine ⟨I1.kIn, ?_⟩
  rw [hks]
  exact mkV_count T hr I1 rv (.inr ⟨rfl, rfl⟩) q1
end
end Exn

set_option Elab.async false
set_option linter.all false
set_option maxRecDepth 100000
set_option maxHeartbeats 400000
/-! several clauses «except X as n» with one name n -/
namespace L2
open PySem PySem.Spec PyProof.Rows
def Ends.out (D : Ends) (i : Nat) : Ends := { nx := fun τ G => D.nx (τ.set i none) G, rt := D.rt, bk := fun τ G => D.bk (τ.set i none) G, ct := fun τ G => D.ct (τ.set i none) G }
abbrev Clz := List (Value × (Addr → Value → Option Addr → TS))
def wAll (K : PySem.W.Frag) (Wout : WX) (D : Ends) (i : Nat) : Clz → WX
  | [] => Wout
  | (c, ts) :: r => fun cls d τ G => ∃ b, PySem.W.exmOne K cls c = some b ∧ (b = true → ∀ q, G q = none → ts q cls d (D.out i) (τ.set i (some (.ref q))) G) ∧ (b = false → wAll K Wout D i r cls d τ G)
inductive HdAs (X : Cx) (n : Str) : List ExceptHandler → Clz → Prop
  | nil : HdAs X n [] []
  | cons {x : Str} {c : Value} {ts : Addr → Value → Option Addr → TS} {s0 : Stmt} {su : List Stmt} {p1 p2 : Pos} {hds : List ExceptHandler} {l : Clz} (hc : Names X x c)
      (run : ∀ (q : Addr) (oq : Obj) (cls : Value) (d : Option Addr) (pn : List (Addr × Obj)), Zc cls d oq → (∃ vs, oq.data = .fields vs) → PSs (X.suite q ((q, oq) :: pn)) (s0 :: su) (ts q cls d)) (r : HdAs X n hds l) : HdAs X n (.ExceptHandler (some (.Name x p1)) (some n) (s0 :: su) p2 :: hds) ((c, ts) :: l)
section
variable {X : Cx} {body : List Stmt} {hd0 : ExceptHandler} {hds : List ExceptHandler} {l : Clz} {pos : Pos} {tb : WX → TS} {Wout : WX} {i : Nat} {n : Str}
theorem ps_tryAs (hst : X.stack = X.env :: X.outer) (hfr : X.env.frame = some X.env.locals) (hnd : X.N.Nodup) (hin : X.N[i]? = some n) (hkn : X.env.kindOf n = some .local) (out : Takes X Wout)
    (hbd : ∀ (W : WX) (pn : List (Addr × Obj)) (xe : Value → Shared → Prop), Takes (X.tr pn xe) W → PassesOwn (model X.prog X.w) X.A X.env xe → PSs (X.tr pn xe) body (tb W)) (hall : HdAs X n (hd0 :: hds) l) :
    PS X (.Try body (hd0 :: hds) [] [] pos) (fun D τ G => tb (wAll X.K Wout D i l) D τ G) := by
  refine ⟨fun pins s τ G D I h => wpAny_Try_except ?_⟩
  have ok := I.ok
  have frames : X.A.frames = some (X.env :: X.outer) := by rw [ok.frames, hst]
  refine wpAny_mono ((hbd (wAll X.K Wout D i l) (X.pn ++ pins) _ (fun u s' got => ?C) PassesOwn.looking).run [] s τ G D (I.toTry _) h) (fun f s1 hsp => ?_) (fun e s1 he => he)
  case C =>
    obtain ⟨q, B, sI, pins', τ', G', cls, d, rfl, J', nb, up, sky, nq, os, bare, w⟩ := got
    have J : Inv X pins τ' G' sI := J'.ofTry ok
    rw [hst] at sky
    refine Sky.land Zc.steady frames hfr sky fun h3 fl up3 => ?_
    have J3 : Inv X pins τ' G' { s' with heap := h3 } := J.landed nb fl.1 (up.trans up3) os bare
    obtain ⟨oq, vq, eq3, zq, dq⟩ := fl.there
    have apart : q ∉ frs (X.env :: X.outer) := fun hm => by
      obtain ⟨_, o', e', hnf⟩ := fl.2.2.1.mem hm
      rw [eq3] at e'; cases e'; exact hnf _ dq
    have nL : q ≠ X.env.locals := fun z => apart (List.mem_filterMap.mpr ⟨X.env, List.mem_cons_self, by rw [hfr, z]⟩)
    have nF : q ∉ X.fs := fun hm => by obtain ⟨e, he, r⟩ := List.mem_filterMap.mp hm; exact apart (List.mem_filterMap.mpr ⟨e, List.mem_cons_of_mem _ he, r⟩)
    have S3 := J3.suite eq3 dq nq nL nF
    have each : ∀ {hs' : List ExceptHandler} {l' : Clz}, HdAs X n hs' l' → wAll X.K Wout D i l' cls d τ' G' → wpAny (model X.prog X.w) X.A (handleBy (.ref q) X.env hs') (SP X pins D) X.xe { s' with heap := h3 } := by
      intro hs' l' ha
      induction ha with
      | nil =>
        intro w
        obtain ⟨k1, k2, k3, oe, vs, T, oT, tt, e1, e2, e3, e4, e5⟩ := id fl
        refine wpAny_handleBy_nil ?_; unfold PySem.passOn; refine wpAny_bind (wpAny_field e1 e3 e4 ?_)
        rw [if_neg (by simp : ¬ ((Value.ref T == Value.none) = true))]
        have last : wpAny (model X.prog X.w) X.A (setFlight (.ref q) X.env.frame) (fun _ t => wpAny (model X.prog X.w) X.A (throw (.ref q) : Sem Flow) (SP X pins D) X.xe t) X.xe { s' with heap := h3 } := by
          rw [hfr]; refine HandSPX.setFlight_upZ fl fun h4 hh up4 => wpAny_throw (out _ _ ?_)
          exact ⟨q, B, sI, pins, τ', G', cls, d, rfl, J, nb, (up.trans up3).trans up4, .inr (.inr (by rw [hst]; exact hh)), nq, os, bare, w⟩
        first | exact wpAny_bind (wpAny_pure (wpAny_bind last)) | exact wpAny_bind last
      | @cons x c ts s0 su p1 p2 hds2 l2 hc run r ih =>
        intro w
        obtain ⟨b, hm, hyes, hno⟩ := w
        refine wpAny_handleBy_cons (codeAny_handlers_test ?_) (fun z => by cases z)
        have ty : PySem.W.Looks (model X.prog X.w) h3 (typeOf (.ref q)) cls := fun A Q E s k z => wpAny_typeOf_ref (k _ _ eq3) (by rw [zq.1]; exact z)
        have LM := PySem.W.exm_one (M := model X.prog X.w) J3.kIn ty hm
        have name : ∀ {Q : Value → Shared → Prop} {E : Value → Shared → Prop}, Q c { s' with heap := h3 } → wpAny (model X.prog X.w) (X.A.mark (some (.ref q))) (eval (.Name x p1) X.env) Q E { s' with heap := h3 } := fun {Q E} z => by
          rcases hc with ⟨g1, g2, g3 | ⟨g3, g4, g5⟩⟩
          · exact ld_glob (X := X.suite q ((q, oq) :: (X.pn ++ pins))) S3 g1 g3 z g2
          · exact ld_blt (X := X.suite q ((q, oq) :: (X.pn ++ pins))) S3 g1 g3 g4 z g5 g2
        refine name (LM.here ?_)
        cases b with
        | false => exact ih (hno rfl)
        | true =>
          refine codeAny_handlers_suite_as (HandSPX.lands_againZ fl fun h4 fl4 up4 => ?_)
          have J4 : Inv X pins τ' G' { s' with heap := h4 } := J.landed nb fl4.1 ((up.trans up3).trans up4) os bare
          obtain ⟨o4, v4, e4, z4, d4⟩ := fl4.there
          refine store_ok (X := X.suite q ((q, o4) :: (X.pn ++ pins))) (v := .ref q) (J4.suite e4 d4 nq nL nF) hnd hin (.inl hkn) rfl (fun s5 S5 => ?_) (.inr hkn)
          refine wpAny_mono ((run q o4 cls d (X.pn ++ pins) z4 ⟨_, d4⟩).run [] s5 _ G' _ S5 (hyes rfl q nq)) (fun f s6 hsp => ?_) (fun _ _ z => z.elim)
          have fin : ∀ {τ6 : St} {G6 : Hp} {Q : Shared → Prop}, Inv (X.suite q ((q, o4) :: (X.pn ++ pins))) [] τ6 G6 s6 → (∀ s7, Inv X pins (τ6.set i none) G6 s7 → Q s7) → wpAny (model X.prog X.w) X.A (do bindName X.env n .none; unbindBehindTheSuite X.env n p2) (fun _ s7 => Q s7) X.xe s6 :=
            fun {τ6 G6 Q} S6 z => gone_ok (S6.unsuite ok) hnd hin hkn z
          cases f with
          | ret u => obtain ⟨v6, τ6, G6, S6, r6, z6⟩ := hsp; exact fin S6 fun s7 J7 => ⟨_, _, _, J7, r6, z6⟩
          | next => obtain ⟨τ6, G6, S6, z6⟩ := hsp; exact fin S6 fun s7 J7 => ⟨_, _, J7, z6⟩
          | brk => obtain ⟨τ6, G6, S6, z6⟩ := hsp; exact fin S6 fun s7 J7 => ⟨_, _, J7, z6⟩
          | cont => obtain ⟨τ6, G6, S6, z6⟩ := hsp; exact fin S6 fun s7 J7 => ⟨_, _, J7, z6⟩
    exact each hall w
  cases f with
  | ret u => obtain ⟨v, τ6, G6, J6, r6, z6⟩ := hsp; exact ⟨v, τ6, G6, J6.ofTry ok, r6, z6⟩
  | next => obtain ⟨τ6, G6, J6, z6⟩ := hsp; exact wpAny_execs_nil ⟨τ6, G6, J6.ofTry ok, z6⟩
  | brk => obtain ⟨τ6, G6, J6, z6⟩ := hsp; exact ⟨τ6, G6, J6.ofTry ok, z6⟩
  | cont => obtain ⟨τ6, G6, J6, z6⟩ := hsp; exact ⟨τ6, G6, J6.ofTry ok, z6⟩
end
end L2
/-! the error that a suite holds: its fields, its classes -/
namespace Exn
open PySem PySem.Spec PyProof.Rows L2
section
variable {X : Cx} {q : Addr} {oq : Obj} {cls : Value} {d : Option Addr} {pn : List (Addr × Obj)}
theorem got_inst {pins : List (Addr × Obj)} {τ : L2.St} {G : Hp} {s : Shared} {C dd : Addr} {fs : List (Str × V)} (I : Inv (X.suite q ((q, oq) :: pn)) pins τ G s) (hz : Zc cls d oq) (hf : ∃ vs, oq.data = .fields vs) (hc : cls = .ref C) (hd : d = some dd) (ed : G dd = some (.xd fs)) :
    ∃ (od : Obj) (mA : Str → Option Value), PySem.W.InstAt s.heap q oq C (some od) ∧ (∀ n, PySem.W.lookIn n od = some (mA n)) ∧ ∀ f, RelO (fs.lookup f) (mA f) := by
  subst hc; subst hd
  obtain ⟨hq, _⟩ := I.pin (q, oq) (List.mem_append_left _ List.mem_cons_self)
  obtain ⟨vs, hv⟩ := hf
  obtain ⟨mA, hns, hr⟩ := (show ObjOk X.prog X.w G s.heap dd (.xd fs) from I.hok dd _ ed)
  obtain ⟨od, ho, hl⟩ := lookIn_ns hns
  exact ⟨od, mA, ⟨hq, hz.1, by unfold PySem.W.notCls; rw [hv] <;> rfl, by rw [hz.2]; exact ho⟩, hl, hr⟩
def tGot (K : PySem.W.Frag) (f : Str) (q : Addr) (cls : Value) (d : Option Addr) (te : TE) : TE := fun τ G Q => te τ G fun x G1 => x = .ref q ∧ ∃ (C dd : Addr) (fs : List (Str × V)) (v : V), cls = .ref C ∧ d = some dd ∧ G1 dd = some (.xd fs) ∧ fs.lookup f = some v ∧ Xv K C ∧ PySem.W.findIn K (.ref C) f = some none ∧ Q v G1
theorem pe_got {e : Expr} {te : TE} {pos : Pos} {f : Str} (hz : Zc cls d oq) (hf : ∃ vs, oq.data = .fields vs) (he : PE (X.suite q ((q, oq) :: pn)) e te) (hb : attributeBase e f X.env (eval e X.env) = eval e X.env := by rfl) : PE (X.suite q ((q, oq) :: pn)) (.Attribute e f pos) (tGot X.K f q cls d te) := by
  refine ⟨fun pins s τ G Q I h => attr_of hb (thn (he.run pins s τ G _ I h) ?_)⟩
  rintro u s1 ⟨x, G1, I1, rx, rfl, C, dd, fs, v, ec, ed, eg, l, T, hno, z⟩
  obtain rfl : u = Value.ref q := rx
  obtain ⟨od, mA, J, hl, hr⟩ := got_inst I1 hz hf ec ed eg
  obtain ⟨u, hu, ru⟩ := RelO.some_of (v := v) (o := mA f) (by rw [← l]; exact hr f)
  exact HandSPX.exc_get I1.kIn J T.ga T.gg T.exC (PySem.W.findObj_own T.hdC hno rfl (by rw [hl, hu])) (handed_of ru) ⟨v, G1, I1.tok _, ru, z⟩
def rIsGot (K : PySem.W.Frag) (q : Addr) (cls : Value) (d : Option Addr) : List V → Hp → VK → Prop := fun xs G Q => ∃ (C dd : Addr) (fs : List (Str × V)) (c : V) (u : Value) (b : Bool), xs = [.ref q, c] ∧ ClsV c u ∧ cls = .ref C ∧ d = some dd ∧ G dd = some (.xd fs) ∧ Xv K C ∧ PySem.W.kitOne K (.ref C) u = some b ∧ Q (.bl b) G
theorem call_isGot (hz : Zc cls d oq) (hf : ∃ vs, oq.data = .fields vs) : CallR (X.suite q ((q, oq) :: pn)) (.builtin "isinstance") (rIsGot X.K q cls d) := by
  intro pins s τ G xs us Q I r h
  obtain ⟨C, dd, fs, c, u, b, rfl, kc, ec, ed, eg, T, e, z⟩ := h
  obtain ⟨u1, u2, rfl, r1, r2⟩ := vals2 r
  obtain rfl : u1 = Value.ref q := r1
  have e2 := kc.eq r2
  subst e2
  obtain ⟨od, mA, J, _, _⟩ := got_inst I hz hf ec ed eg
  obtain ⟨cd, hcd, _⟩ := PySem.W.any_some T.hdC
  exact PySem.W.kia_one (PySem.W.kitx_exc (by rw [hcd]; rfl) T.ga T.gg T.exC T.ha T.hn T.ht T.hm) I.kIn J e (fun z => nomatch z) fun tk => ⟨.bl b, G, I.tok tk, rfl, z⟩
end
end Exn

set_option Elab.async false
set_option linter.all false
set_option maxRecDepth 100000
set_option maxHeartbeats 400000
/-! a for statement in a generator's body -/
namespace L2
open PySem PySem.Spec PyProof.Rows GenW
section
variable {M : Model} {A : Around} {R : GenEnd} {Y : Protocol} {n : Nat} {s₀ : Shared} {c : Code} {fs : List Frame} {s : Shared} {env : Env}
theorem seg_bindw {α β : Type} {m : Sem α} {f : α → Sem β} {K : β → Sem PySem.Fin} {H : Value → Sem PySem.Fin} {gd : Bool → Bool} {lv : List Value → List Value}
    (h : wpAny M (A.over c fs) m (fun a s' => Seg M A R Y n s₀ c ((f a).wrap K H gd lv) fs s') (fun x s' => Seg M A R Y n s₀ c (H x) fs s') s) : Seg M A R Y n s₀ c ((m >>= f).wrap K H gd lv) fs s := by
  rw [Sem.bind_eq_wrap', Sem.wrap_wrap]
  exact seg_wrap (wpAny_mono h (fun a s' h' => h') fun x s' h' => h')
variable {K : Flow → Sem PySem.Fin} {H : Value → Sem PySem.Fin} {gd : Bool → Bool} {lv : List Value → List Value}
theorem seg_For {target iter : Expr} {body orelse : List Stmt} {pos : Pos}
    (h : wpAny M (A.over c fs) (eval iter env) (fun x s1 => wpAny M (A.over c fs) (pyIter x) (fun it s2 => ∀ p, Seg M A R Y n s₀ (.forLoop target it body orelse env) (M.den (.forLoop target it body orelse env))
      (.ret (fun r => ((match r with | .ok f => (.pure f : Sem Flow) | .error e => .raise e).onRaise (cameBack env)).wrap K H gd lv) none (gd false) (lv []) c p [] :: fs) s2)
      (fun x s' => Seg M A R Y n s₀ c (H x) fs s') s1) (fun x s' => Seg M A R Y n s₀ c (H x) fs s') s) (hs : ∀ x, foldedSetIterable iter env x = pure x) :
    Seg M A R Y n s₀ c ((exec (.For target iter body orelse pos) env).wrap K H gd lv) fs s := by
  rw [exec_For]
  refine seg_bindw (wpAny_standAt (seg_bindw (wpAny_mono h (fun x s1 h1 => ?_) fun _ _ h' => h')))
  refine seg_bindw (wpAny_of_eq (hs x) (seg_bindw (wpAny_standAt (seg_bindw (wpAny_holding (wpAny_mono h1 (fun it s2 h2 => ?_) fun _ _ h' => h'))))))
  exact seg_call h2
end
section
variable {prog : Program} {w : World} {A : Around} {R : GenEnd} {Y : Protocol} {n : Nat} {s₀ : Shared} {fs : List Frame} {s : Shared} {env : Env}
/-- an exception that leaves the loop's code -/
abbrev EE (prog : Program) (w : World) (A : Around) (R : GenEnd) (Y : Protocol) (n : Nat) (s₀ : Shared) (c : Code) (env : Env) (fs : List Frame) (x : Value) (s' : Shared) : Prop :=
  Seg (model prog w) A R Y n s₀ c ((do noteFrame x env; theTreesLotGoes x : Sem Unit).wrap (fun _ => .raise x) .raise id id) fs s'
theorem seg_forLoop {target : Expr} {it : Value} {body : List Stmt}
    (h : wpAny (model prog w) (A.over (.forLoop target it body [] env) fs) (pyNext it) (fun r s1 => match r with
      | none => Seg (model prog w) A R Y n s₀ (.forLoop target it body [] env) (.pure (.again (.block [] env))) fs s1
      | some v => wpAny (model prog w) (A.over (.forLoop target it body [] env) fs) (letOwnedTupleGo target it v) (fun _ s2 => wpAny (model prog w) (A.over (.forLoop target it body [] env) fs) (assign target env v) (fun _ s3 =>
          Seg (model prog w) A R Y n s₀ (.forLoop target it body [] env) ((execs body env).wrap (fun f => match f with
            | .next => .pure (.again (.forLoop target it body [] env)) | .cont => .pure (.again (.forLoop target it body [] env)) | .brk => .pure (.done .next) | .ret v => .pure (.done (.ret v)))
            (fun e => (do noteFrame e env; theTreesLotGoes e : Sem Unit).wrap (fun _ => .raise e) .raise id id) id id) fs s3)
          (EE prog w A R Y n s₀ (.forLoop target it body [] env) env fs) s2) (EE prog w A R Y n s₀ (.forLoop target it body [] env) env fs) s1) (EE prog w A R Y n s₀ (.forLoop target it body [] env) env fs) s) :
    Seg (model prog w) A R Y n s₀ (.forLoop target it body [] env) ((model prog w).den (.forLoop target it body [] env)) fs s := by
  show Seg _ A R Y n s₀ _ ((forTurn target it body [] env).onRaise (fun x => do noteFrame x env; theTreesLotGoes x)) fs s
  have ee : ∀ x s', EE prog w A R Y n s₀ (.forLoop target it body [] env) env fs x s' → Seg (model prog w) A R Y n s₀ (.forLoop target it body [] env) ((do noteFrame x env; theTreesLotGoes x : Sem Unit).bind fun _ => (.raise x : Sem PySem.Fin)) fs s' := by
    intro x s' hx
    rw [Sem.bind_eq_wrap]
    exact hx
  rw [Sem.onRaise_eq_wrap]
  unfold forTurn
  refine seg_bindw (wpAny_standAt (seg_bindw (wpAny_onRaise (wpAny_mono h (fun r s1 h1 => ?_) fun x s' hx => wpAny_standAt (ee x s' hx)))))
  cases r with
  | none => exact h1
  | some v =>
    refine seg_bindw (wpAny_mono h1 (fun _ s2 h2 => seg_bindw (wpAny_mono h2 (fun _ s3 h3 => ?_) ee)) ee)
    rw [Sem.bind_eq_wrap', Sem.wrap_wrap]
    rw [Sem.wrap_congr (execs body env) _ _ (K' := fun f => match f with
            | .next => .pure (.again (.forLoop target it body [] env)) | .cont => .pure (.again (.forLoop target it body [] env)) | .brk => .pure (.done .next) | .ret v => .pure (.done (.ret v)))
      (H' := (fun e => (do noteFrame e env; theTreesLotGoes e : Sem Unit).wrap (fun _ => .raise e) .raise id id)) (fun f => by cases f <;> rfl)
      (fun e => by first | exact Sem.bind_eq_wrap _ _ | (show (do noteFrame e env; theTreesLotGoes e : Sem Unit).bind (fun _ => .raise e) = _; rw [Sem.bind_eq_wrap]))]
    exact h3
/-- the loop's end, without an else -/
theorem seg_noElse {c : Code} (h : Seg (model prog w) A R Y n s₀ (.block [] env) (.pure (.done .next)) fs s) : Seg (model prog w) A R Y n s₀ c (.pure (.again (.block [] env))) fs s := by
  refine seg_again rfl ?_
  exact h
end
section
variable {X : Cx} {tg : Expr}
def tGFor (wi : TI) (g : TG) (tb : TGn) : TGn := fun D ys σ H => wi σ H fun J H1 => ∃ W : Nat → Nat → List V → St → Hp → Prop, (∃ m, W 0 m ys σ H1) ∧ ∀ i m ys σ H, W i m ys σ H →
  (J.stop i H ∧ D.nx ys σ H) ∨ (J.go i H ∧ ∃ N : List V → St → Hp → Prop, (∀ ys' σ' H', N ys' σ' H' → ∃ m', m' < m ∧ W (i + 1) m' ys' σ' H') ∧ ∀ x H', J.yld i H x H' → g x σ H' fun σ2 H2 => tb { D with nx := N, ct := N, bk := D.nx } ys σ2 H2)
theorem fp_of {S b : Addr} {o1 o2 : Obj} {ip : List (Addr × Obj)} {H H' : Hp} (f : FpOk X ((S, o1) :: ip) H b) (hn : H' b = none) : FpOk X ((S, o2) :: ip) H' b := by
  refine ⟨hn, f.2.1, f.2.2.1, f.2.2.2.1, f.2.2.2.2.1, fun p hp => ?_⟩
  rcases List.mem_append.mp hp with h | h
  · exact f.2.2.2.2.2 p (List.mem_append_left _ h)
  · rcases List.mem_cons.mp h with h | h
    · rw [h]; exact f.2.2.2.2.2 (S, o1) (List.mem_append_right _ List.mem_cons_self)
    · exact f.2.2.2.2.2 p (List.mem_append_right _ (List.mem_cons_of_mem _ h))
theorem gs_for {iter : Expr} {body : List Stmt} {wi : TI} {g : TG} {tb : TGn} {pos : Pos} (hp : PassesOwn (model X.prog X.w) X.A X.env X.xe) (hc : X.calm = true) (hi : PI X tg iter wi) (hg : PG X tg g) (hb : GSs X body tb)
    (hs : ∀ x, foldedSetIterable iter X.env x = pure x := by intro _; rfl) : GS X (.For tg iter body [] pos) (tGFor wi g tb) := by
  refine ⟨fun A S ip R n ys s₀ c fs K J gd lv s σ H D gc hn k hI ht => ?_⟩
  obtain ⟨acc, cc, r, I⟩ := hI
  refine seg_For ?_ hs
  rw [gc.over]
  refine wpAny_mono (hi.run _ s σ H _ I ht) (fun v s1 h1 => wpAny_mono h1 (fun itv s2 h2 p => ?_) fun x s' hx => k.exc n s₀ x s' hx) fun x s' hx => k.exc n s₀ x s' hx
  obtain ⟨it, fp, tn, Jt, H2, rfl, I2, T, st2, f2, W, ⟨m0, w0⟩, turn⟩ := h2
  have gl := fun (kk : Result → Sem PySem.Fin) => gc_loop (k := kk) (c' := .forLoop tg (.ref it) body [] X.env) (l := lv []) (kp := []) (p := p) gc rfl rfl
  have ee : ∀ (n : Nat) (s₀ : Shared) (x : Value) (s' : Shared), X.xe x s' → EE X.prog X.w A R (GY X S) n s₀ (.forLoop tg (.ref it) body [] X.env) X.env
      (.ret (fun r => ((match r with | .ok f => (.pure f : Sem Flow) | .error e => .raise e).onRaise (cameBack X.env)).wrap K J gd lv) none (gd false) (lv []) c p [] :: fs) x s' := by
    intro n s₀ x s' hx
    refine seg_wrap ?_
    rw [(gl _).over]
    refine wpAny_bind (wpAny_mono (hp x s' hx) (fun _ t hcb => wpAny_theTreesLotGoes ?_) fun y t hcb => ?_)
    · exact seg_leaf (.error x) (seg_cameBack gc k hcb)
    · exact seg_leaf (.error y) (seg_cameBack gc k hcb)
  have loop : ∀ (m n i : Nat) (ys : List V) (s₀ s : Shared) (σ : St) (H : Hp), n + ys.length = sizeLine → W i m ys σ H → GI X S ip ys σ H s → tn i s.heap → (∀ b ∈ fp, H b = none) →
      Seg (model X.prog X.w) A R (GY X S) n s₀ (.forLoop tg (.ref it) body [] X.env) ((model X.prog X.w).den (.forLoop tg (.ref it) body [] X.env))
        (.ret (fun r => ((match r with | .ok f => (.pure f : Sem Flow) | .error e => .raise e).onRaise (cameBack X.env)).wrap K J gd lv) none (gd false) (lv []) c p [] :: fs) s := by
    intro m
    induction m using Nat.strongRecOn with
    | ind m ih =>
      intro n i ys s₀ s σ H hn w hI st fr
      obtain ⟨acc3, c3, r3, I3⟩ := hI
      have stat : ∀ {H' : Hp}, (∀ b ∈ fp, H' b = none) → ∀ b ∈ fp, FpOk X ((S, lstObj acc3 c3) :: ip) H' b := fun hn b hb => fp_of (f2 b hb) (hn b hb)
      refine seg_forLoop ?_
      rw [(gl _).over]
      rcases turn i m ys σ H w with ⟨stop, qn⟩ | ⟨go, N, hN, step⟩
      · refine wpAny_mono (T.done X rfl rfl rfl hc i _ s σ H X.xe I3 (stat fr) st stop) (fun rr t ht => ?_) (ee n s₀)
        obtain ⟨rfl, I4⟩ := ht
        exact seg_noElse (seg_leaf (.ok .next) (k.ok n ys s₀ t .next hn ⟨σ, H, ⟨acc3, c3, r3, I4⟩, qn⟩))
      · refine wpAny_mono (T.item X rfl rfl rfl hc i _ s σ H X.xe I3 (stat fr) st go) (fun rr t ht => ?_) (ee n s₀)
        obtain ⟨u, rfl, h4⟩ := ht
        refine wpAny_mono h4 (fun _ s5 h5 => ?_) (ee n s₀)
        obtain ⟨x, H5, I5, r5, y5, st5, fr5⟩ := h5
        have I5' := I5.pinned (stat fr5) (T.obj _ _ st5)
        refine wpAny_mono (hg.run _ s5 σ H5 x u _ I5' r5 (step x H5 y5)) (fun _ s6 h6 => ?_) (ee n s₀)
        obtain ⟨σ6, H6, I6, q6⟩ := h6
        have gb : GC X S (ip ++ pinsAt fp s5.heap) A (.forLoop tg (.ref it) body [] X.env) (.ret (fun r => ((match r with | .ok f => (.pure f : Sem Flow) | .error e => .raise e).onRaise (cameBack X.env)).wrap K J gd lv) none (gd false) (lv []) c p [] :: fs) id := by
          have g0 := gl (fun r => ((match r with | .ok f => (.pure f : Sem Flow) | .error e => .raise e).onRaise (cameBack X.env)).wrap K J gd lv)
          refine ⟨g0.pn, fun q hq => ?_, g0.apart, g0.over, g0.split, g0.guard, g0.gd⟩
          rcases List.mem_append.mp hq with hq | hq
          · exact g0.ip q hq
          · obtain ⟨hb, _⟩ := of_pinsAt hq
            exact fun z => (stat fr5 q.1 hb).2.2.2.2.2 (S, lstObj acc3 c3) (List.mem_append_right _ List.mem_cons_self) z.symm
        refine hb.run A S (ip ++ pinsAt fp s5.heap) R n ys s₀ _ _ _ _ id id s6 σ6 H6 { D with nx := N, ct := N, bk := D.nx } gb hn ⟨fun n' ys' s₀' s7 f hn' hs7 => ?_, fun n' s₀' x s7 hx => ee n' s₀' x s7 hx⟩ ⟨acc3, c3, r3, I6⟩ q6
        have drop : ∀ {σ7 : St} {H7 : Hp}, GI X S (ip ++ pinsAt fp s5.heap) ys' σ7 H7 s7 → GI X S ip ys' σ7 H7 s7 := fun ⟨acc7, c7, r7, I7⟩ => ⟨acc7, c7, r7, Inv.unpinned (pins := (S, lstObj acc7 c7) :: ip) I7⟩
        have more : ∀ {σ7 : St} {H7 : Hp}, GI X S (ip ++ pinsAt fp s5.heap) ys' σ7 H7 s7 → N ys' σ7 H7 → Seg (model X.prog X.w) A R (GY X S) n' s₀' (.forLoop tg (.ref it) body [] X.env) (.pure (.again (.forLoop tg (.ref it) body [] X.env)))
            (.ret (fun r => ((match r with | .ok f => (.pure f : Sem Flow) | .error e => .raise e).onRaise (cameBack X.env)).wrap K J gd lv) none (gd false) (lv []) c p [] :: fs) s7 := by
          intro σ7 H7 G7 n7
          obtain ⟨m', hm, w7⟩ := hN ys' σ7 H7 n7
          have pin7 : ∀ b o, b ∈ fp → s5.heap.get? b = some o → s7.heap.get? b = some o ∧ H7 b = none := fun b o hb e => by
            obtain ⟨acc7, c7, r7, I7⟩ := G7
            have := I7.pin (b, o) (List.mem_append_right _ (List.mem_cons_of_mem _ (List.mem_append_right _ (mem_pinsAt hb e))))
            exact ⟨this.1, this.2.1⟩
          refine seg_again rfl (ih m' hm n' (i + 1) ys' s₀' s7 σ7 H7 hn' w7 (drop G7) (T.keep _ _ _ st5 fun b hb o e => (pin7 b o hb e).1) fun b hb => ?_)
          obtain ⟨o, e, _⟩ := T.obj _ _ st5 b hb
          exact (pin7 b o hb e).2
        cases f with
        | next => obtain ⟨σ7, H7, G7, n7⟩ := hs7; exact more G7 n7
        | cont => obtain ⟨σ7, H7, G7, n7⟩ := hs7; exact more G7 n7
        | brk => obtain ⟨σ7, H7, G7, q7⟩ := hs7; exact seg_leaf (.ok .next) (k.ok n' ys' s₀' s7 .next hn' ⟨σ7, H7, drop G7, q7⟩)
        | ret v => obtain ⟨v7, σ7, H7, G7, rv7, q7⟩ := hs7; exact seg_leaf (.ok (.ret v)) (k.ok n' ys' s₀' s7 (.ret v) hn' ⟨v7, σ7, H7, drop G7, rv7, q7⟩)
  exact loop m0 n 0 ys s₀ s2 σ H2 hn w0 ⟨acc, cc, r, I2⟩ st2 fun b hb => (f2 b hb).1
end
theorem gfor_it {J : It} {n : Nat} {G : Hp → Prop} {Y : Nat → Hp → V → Hp → Prop} (w : Walk J n G Y) {g : TG} {tb : TGn} {D : GEnds} {ys : List V} {σ : St} {H : Hp} (Pv : Nat → List V → St → Hp → Prop) (h0 : Pv 0 ys σ H) (hG : ∀ i ys σ H, i ≤ n → Pv i ys σ H → G H)
    (hs : ∀ i x ys σ H H', i < n → Pv i ys σ H → Y i H x H' → g x σ H' fun σ2 H2 => tb { D with nx := Pv (i + 1), ct := Pv (i + 1), bk := D.nx } ys σ2 H2) (hd : ∀ ys σ H, Pv n ys σ H → D.nx ys σ H) :
    ∃ W : Nat → Nat → List V → St → Hp → Prop, (∃ m, W 0 m ys σ H) ∧ ∀ i m ys σ H, W i m ys σ H → (J.stop i H ∧ D.nx ys σ H) ∨ (J.go i H ∧ ∃ N : List V → St → Hp → Prop, (∀ ys' σ' H', N ys' σ' H' → ∃ m', m' < m ∧ W (i + 1) m' ys' σ' H') ∧ ∀ x H', J.yld i H x H' → g x σ H' fun σ2 H2 => tb { D with nx := N, ct := N, bk := D.nx } ys σ2 H2) := by
  refine ⟨fun i m ys σ H => m = n - i ∧ i ≤ n ∧ Pv i ys σ H, ⟨n, by simp, Nat.zero_le _, h0⟩, ?_⟩
  rintro i m ys σ H ⟨rfl, hi, p⟩
  rcases Nat.lt_or_ge i n with hlt | hge
  · exact .inr ⟨w.goes i H hlt (hG i ys σ H hi p), Pv (i + 1), fun ys' σ' H' p' => ⟨n - (i + 1), by omega, rfl, hlt, p'⟩, fun x H' y => hs i x ys σ H H' hlt p (w.yields i H x H' hlt (hG i ys σ H hi p) y)⟩
  · obtain rfl : i = n := by omega
    exact .inl ⟨w.stops H (hG i ys σ H hi p), hd ys σ H p⟩
end L2

set_option Elab.async false
set_option linter.all false
set_option maxRecDepth 100000
set_option maxHeartbeats 400000
/-! which values are words -/
namespace Vld
open PySem PySem.Spec PyProof.Rows L2 Own Mth
abbrev cs (z : Str) : List Nat := z.cps.toList
theorem le_line {n : Nat} (h : n ≤ 100000) : n ≤ sizeLine := by rw [sizeLine_eq]; omega
theorem lt_line {n : Nat} (h : n ≤ 100000) : n < sizeLine := by rw [sizeLine_eq]; omega
theorem len_cs (z : Str) : z.length = (cs z).length := by
  show z.cps.size = z.cps.toList.length
  rw [Array.length_toList]
theorem tw_lt {g : Nat → Bool} : ∀ {l : List Nat}, (∃ x ∈ l, g x = false) → (l.takeWhile g).length < l.length
  | [], h => by obtain ⟨x, hx, _⟩ := h; cases hx
  | a :: l, h => by
    cases ha : g a with
    | false => rw [List.takeWhile_cons_of_neg (by rw [ha]; exact Bool.false_ne_true)]; simp
    | true =>
      rw [List.takeWhile_cons_of_pos ha, List.length_cons, List.length_cons]
      obtain ⟨x, hx, hg⟩ := h
      rcases List.mem_cons.mp hx with e | e
      · rw [e, ha] at hg; cases hg
      · have := tw_lt (l := l) ⟨x, e, hg⟩
        omega
theorem tw_at {g : Nat → Bool} : ∀ {l : List Nat} (h : (l.takeWhile g).length < l.length), g (l[(l.takeWhile g).length]'h) = false
  | [], h => by simp at h
  | a :: l, h => by
    cases ha : g a with
    | false => simp only [List.takeWhile_cons_of_neg (show ¬ g a = true by rw [ha]; exact Bool.false_ne_true), List.length_nil, List.getElem_cons_zero]; exact ha
    | true =>
      have e : (a :: l).takeWhile g = a :: l.takeWhile g := List.takeWhile_cons_of_pos ha
      have h' : (l.takeWhile g).length < l.length := by rw [e] at h; simpa using h
      have := tw_at (l := l) h'
      simp only [e, List.length_cons, List.getElem_cons_succ]
      exact this
theorem strip_some {z b : Str} (h : ¬ ∀ c ∈ cs z, c ∈ cs b) : Txt.stripChars z b ≠ (⟨#[]⟩ : Str) := by
  unfold Txt.stripChars
  rw [PySem.W.stripBy_eq]
  unfold PySem.W.stripped
  have hex : ∃ x ∈ cs z, b.cps.contains x = false := by
    rcases Classical.em (∃ x ∈ cs z, b.cps.contains x = false) with q | q
    · exact q
    · exfalso
      refine h fun c hc => ?_
      cases e : b.cps.contains c with
      | true => simpa using e
      | false => exact absurd ⟨c, hc, e⟩ q
  have l1 : ((cs z).takeWhile b.cps.contains).length < (cs z).length := tw_lt hex
  have l2 : (((cs z).drop ((cs z).takeWhile b.cps.contains).length).reverse.takeWhile b.cps.contains).length < (cs z).length - ((cs z).takeWhile b.cps.contains).length := by
    have := tw_lt (g := b.cps.contains) (l := ((cs z).drop ((cs z).takeWhile b.cps.contains).length).reverse) ⟨_, List.mem_reverse.mpr (List.mem_of_getElem? (i := 0) (by rw [List.getElem?_drop, Nat.add_zero]; exact List.getElem?_eq_getElem l1)), tw_at l1⟩
    rwa [List.length_reverse, List.length_drop] at this
  simp only [if_true]
  intro e
  have e2 : (z.cps.extract ((cs z).takeWhile b.cps.contains).length (z.length - (((cs z).drop ((cs z).takeWhile b.cps.contains).length).reverse.takeWhile b.cps.contains).length)).size = 0 := by
    have := congrArg (fun s : Str => s.cps.size) e
    exact this
  rw [Array.size_extract] at e2
  have := len_cs z
  have hz : z.cps.size = (cs z).length := this
  rw [hz] at e2
  rw [this] at e2
  omega
/-- is z a word over the letters b -/
def okS (z b : Str) : Bool := decide (z.length ≤ 400) && (cs z).all fun c => (cs b).contains c
theorem okS_iff {z b : Str} : okS z b = true ↔ z.length ≤ 400 ∧ ∀ c ∈ cs z, c ∈ cs b := by
  unfold okS
  rw [Bool.and_eq_true, decide_eq_true_iff, List.all_eq_true]
  simp
theorem strip_dec (z b : Str) : decide (V.str (Txt.stripChars z b) = V.str "") = (cs z).all fun c => (cs b).contains c := by
  rcases Classical.em (∀ c ∈ cs z, c ∈ cs b) with h | h
  · rw [strip_all h, show ((cs z).all fun c => (cs b).contains c) = true from List.all_eq_true.mpr fun c hc => by simpa using h c hc]
    exact decide_eq_true rfl
  · rw [show ((cs z).all fun c => (cs b).contains c) = false from by
      rw [Bool.eq_false_iff]
      intro e
      exact h fun c hc => by simpa using List.all_eq_true.mp e c hc]
    refine decide_eq_false fun e => strip_some h ?_
    injection e
/-- any value that a caller hands -/
inductive AnyV (K : PySem.W.Frag) (H : Hp) : V → Value → Prop where
  | str (z : Str) (h : z.length ≤ 100000) : AnyV K H (.str z) (.type "str")
  | oth {v : V} {t : Value} (ty : TyX K H v t) (no : PySem.W.kitOne K t (.type "str") = some false) (ns : ∀ z, v ≠ .str z) : AnyV K H v t
def okV (v : V) (b : Str) : Bool := match v with
  | .str z => okS z b
  | _ => false
theorem okV_oth {v : V} {b : Str} (h : ∀ z, v ≠ .str z) : okV v b = false := by
  unfold okV
  split
  · exact absurd rfl (h _)
  · rfl
theorem AnyV.same {K : PySem.W.Frag} {H H' : Hp} {v : V} {t : Value} (h : AnyV K H v t) (hs : ∀ b o, H b = some o → H' b = some o) (st : ∀ {v : V} {t : Value}, TyX K H v t → TyX K H' v t) : AnyV K H' v t := by
  cases h with
  | str z h => exact .str z h
  | oth ty no ns => exact .oth (st ty) no ns
theorem okV_str {v : V} {b : Str} (h : okV v b = true) : ∃ z, v = .str z ∧ z.length ≤ 400 ∧ ∀ c ∈ cs z, c ∈ cs b := by
  unfold okV at h
  split at h
  · exact ⟨_, rfl, okS_iff.mp h⟩
  · cases h
end Vld

set_option Elab.async false
set_option linter.all false
set_option maxRecDepth 100000
set_option maxHeartbeats 400000
/-! calls of defs that show values, of defs with a star -/
namespace Own
open PySem PySem.Spec PyProof.Rows L2
section
variable {X : Cx} {CX : CXT} {k : Nat} {f : Addr} {fd : FuncData} {ps : List Str} {sp : Sp} {E : XK} {x : Str} {p pos : Pos} {e : Expr} {es : List Expr} {t : TA}
theorem pe_callG (F : FnG X.prog X.w X.K X.mg X.base CX k f fd ps sp) (hg0 : X.A.guards = some []) (hr : Room k X.A) (hg : Gl X x) (hm : X.mg x = some (.ref f)) (hk : PySem.W.keepIn X.K (.ref f) = true) (hb : Binds X.K fd ps []) (hx : Passes CX X E) (ha : PA X (e :: es) t)
    (hdb : (x == ("__debug__" : Str)) = false := by decide) (he : starEach (e :: es) X.env = (false, eval e X.env) :: starEach es X.env := by rfl) (hpl : (backTo pos (starEach es X.env)).any (·.1) = false := by rfl) : PE X (.Call (.Name x p) (e :: es) [] pos) (fun σ H Q => t σ H fun vs H1 => sp vs H1 Q E) := by
  refine ⟨fun pins s σ H Q I h => wpAny_Call_Name_kw (ld_glob I hg hm ?_ hdb)⟩
  refine PySem.W.callWith_K (h₀ := X.base) I.ok.mod.kin hk (thn (ha.run pos pins s σ H _ I h) fun us s1 ⟨vs, H1, I1, r, q⟩ => ⟨I1.kIn, ?_⟩) he hpl
  have hl : us.length = ps.length := by rw [← r.length]; exact F.lenG _ _ _ _ q
  refine wpAny_call (codeAny_mono (F.runG X.A X.stack s1 H1 ⟨us, []⟩ us vs Q E hg0 hr I1.env0 (by have := hb s1 us I1.kIn (by rw [List.append_nil]; exact hl); rwa [List.append_nil] at this) r q) fun rr s' hq => ?_)
  match rr, hq with
  | .error er, hq => exact hx pins σ H1 s1 er s' I1 hq
  | .ok (.ret u), hq => exact I1.after hq
  | .ok .next, hq => exact False.elim hq
  | .ok .brk, hq => exact False.elim hq
  | .ok .cont, hq => exact False.elim hq
theorem pe_callFR (F : FnR X.prog X.w X.K X.mg X.base CX k f sp) (hr : Room k X.A) (hg : Gl X x) (hm : X.mg x = some (.ref f)) (hk : PySem.W.keepIn X.K (.ref f) = true) (hx : Passes CX X E) (ha : PA X (e :: es) t)
    (hdb : (x == ("__debug__" : Str)) = false := by decide) (he : starEach (e :: es) X.env = (false, eval e X.env) :: starEach es X.env := by rfl) (hpl : (backTo pos (starEach es X.env)).any (·.1) = false := by rfl) : PE X (.Call (.Name x p) (e :: es) [] pos) (fun σ H Q => t σ H fun vs H1 => sp vs H1 Q E) := by
  refine ⟨fun pins s σ H Q I h => wpAny_Call_Name_kw (ld_glob I hg hm ?_ hdb)⟩
  refine PySem.W.callWith_K (h₀ := X.base) I.ok.mod.kin hk (thn (ha.run pos pins s σ H _ I h) fun us s1 ⟨vs, H1, I1, r, q⟩ => ⟨I1.kIn, ?_⟩) he hpl
  exact wpAny_call (run_fnR F hr hx I1 r q)
end
section
variable {X : Cx}
/-- repr by the room alone -/
theorem call_reprU (hg : X.A.guards = some []) (hun : X.A.units + 200 < cLine) : CallR X (.builtin "repr") (rRepr X.K) := by
  intro pins s σ H xs us Q I rl hh
  obtain ⟨v, d, rfl, hd, hs, hn, hdep, hsz, hq⟩ := hh
  obtain ⟨u, rfl, ru⟩ := vals1 rl
  obtain ⟨as, rd⟩ := Dp.reads I d v u hd ru
  cases hd with
  | non => cases ru; exact PySem.P.repr_of_none ⟨.str _, H, I.tok _, ⟨_, rfl⟩, hq⟩
  | bl b => cases ru; exact PySem.P.repr_of_bool ⟨.str _, H, I.tok _, ⟨_, rfl⟩, hq⟩
  | int i => obtain ⟨t, rfl⟩ := ru; exact PySem.P.repr_of_int (of_decide_eq_true hs) ⟨.str _, H, I.tok _, ⟨_, rfl⟩, hq⟩
  | str x => obtain ⟨t, rfl⟩ := ru; exact PySem.P.repr_of_str ⟨.str _, H, I.tok _, ⟨_, rfl⟩, hq⟩ hsz
  | lst h1 h2 => cases ru; exact repr_of_reads' rd hs (PyData.noDict_hsm hn) hg (by omega) (fun _ _ e => e) (fun h' u tk hk => ⟨.str _, H, I.kept hk, ⟨_, rfl⟩, hq⟩) hsz
  | tup h1 h2 => cases ru; exact repr_of_reads' rd hs (PyData.noDict_hsm hn) hg (by omega) (fun _ _ e => e) (fun h' u tk hk => ⟨.str _, H, I.kept hk, ⟨_, rfl⟩, hq⟩) hsz
def rReprR (K : PySem.W.Frag) : List V → Hp → VK → Prop := fun xs H Q => rRepr K xs H Q ∨ ∃ p, xs = [.ref p] ∧ H p = some (.dK []) ∧ Q (.str "{}") H
theorem kv_nil {vs : List (Key × Value)} (h : KV ([] : List (Key × V)) vs) : vs = [] := by cases h; rfl
theorem pairs_nil {P : Program} {w : World} {es : List DictEntry} (h : Pairs (mixKind P w) es []) : es = [] := by cases h; rfl
theorem call_reprRU (hg : X.A.guards = some []) (hun : X.A.units + 200 < cLine) : CallR X (.builtin "repr") (rReprR X.K) := by
  intro pins s σ H xs us Q I rl hh
  rcases hh with hh | ⟨p, rfl, hp, hq⟩
  · exact call_reprU hg hun pins s σ H xs us Q I rl hh
  · obtain ⟨u, rfl, ru⟩ := vals1 rl
    cases ru
    obtain ⟨_, hne, vs, kv, o, es, ep, ho, hex, hd, _, hps, _⟩ := (show ObjOk X.prog X.w H s.heap p (.dK []) from I.hok p _ hp)
    have e1 := kv_nil kv
    subst e1
    have e2 := pairs_nil hps
    have rd : Reads s.heap (.ref p) (.dict []) (p :: [] ++ []) := .dict ho hex.1 hd (by rw [e2]; exact .nil) (by rw [e2]; exact .nil)
    have hdp : (PyData.dict []).depth ≤ 5 := by decide +kernel
    refine repr_of_reads' rd (by decide +kernel) (fun _ hm => ?_) hg (by omega) (fun _ _ e => e) (fun h' u tk hk => ⟨.str _, H, I.kept hk, ⟨_, rfl⟩, hq⟩) (Vld.le_line (by decide +kernel))
    have : sysModules = p := by simpa using hm
    rw [this] at hne
    simp at hne
theorem call_reprR {k : Nat} (hg : X.A.guards = some []) (hr : Room k X.A) : CallR X (.builtin "repr") (rReprR X.K) := call_reprRU hg (by have := hr.un; omega)
end
theorem op_mulS {X : Cx} : OpR X (binaryOp .Mult) (fun x y H Q => ∃ z k, x = .str z ∧ y = .int k ∧ MulOk z k ∧ Q (.str (Txt.mul z k)) H) := by
  intro pins s σ H x y v u Q I rx ry h
  obtain ⟨z, k, rfl, rfl, hok, q⟩ := h
  obtain ⟨t, rfl⟩ := rx
  obtain ⟨t', rfl⟩ := ry
  exact SB.mul hok fun t' tk => ⟨.str (Txt.mul z k), H, I.tok _, ⟨_, rfl⟩, q⟩
end Own

set_option Elab.async false
set_option linter.all false
set_option maxRecDepth 100000
set_option maxHeartbeats 4000000
/-! what needs no text of a program -/
namespace Gn
open PySem PySem.Spec PyProof.Rows L2 Own Exn Mth Vld
theorem same_new {H : Hp} {p : Addr} {o : HO} (h : H p = none) : Same H (upd H p o) := fun b x e => by
  rw [upd_ne (ne_of_none e h)]
  exact e
theorem same_put {H H1 : Hp} {p : Addr} {o : HO} (s : Same H H1) (h : H p = none) : Same H (upd H1 p o) := fun b x e => by
  rw [upd_ne (ne_of_none e h)]
  exact s b x e
abbrev iV (l : List Nat) : List V := l.map fun j => V.int (j : Nat)
theorem iV_snoc (l : List Nat) (k : Nat) : iV (l ++ [k]) = iV l ++ [V.int (k : Nat)] := List.map_append
theorem iV_len (l : List Nat) : (iV l).length = l.length := List.length_map _
theorem getD_cs {z : Str} {v : Nat} (h : v < z.length) : (cs z)[v]? = some (z.cps.getD v 0) := by
  have h' : v < z.cps.size := h
  show z.cps.toList[v]? = _
  rw [Array.getElem?_toList, Array.getElem?_eq_getElem h', Array.getD, dif_pos h']
  rfl
abbrev sg (c : Nat) : Str := ⟨#[c]⟩
abbrev sV (l : List Nat) : List V := l.map fun c => V.str ⟨#[c]⟩
theorem sV_eq (l : List Nat) : sV l = (l.map sg).map V.str := by rw [List.map_map]; rfl
theorem sV_snoc (l : List Nat) (k : Nat) : sV (l ++ [k]) = sV l ++ [V.str ⟨#[k]⟩] := List.map_append
theorem sV_len (l : List Nat) : (sV l).length = l.length := List.length_map _
theorem join_signs : ∀ l : List Nat, cs (Txt.join "" (l.map sg)) = l := by
  intro l
  have : ∀ l : List Nat, cs (Str.join "" (l.map sg)) = l := by
    intro l
    induction l with
    | nil => rfl
    | cons a l ih =>
      cases l with
      | nil => rfl
      | cons b l =>
        show (sg a ++ "" ++ Str.join "" ((b :: l).map sg)).cps.toList = a :: b :: l
        have e : ∀ x y : Str, (x ++ y).cps.toList = x.cps.toList ++ y.cps.toList := fun x y => Array.toList_append
        rw [e, e]
        show ([a] ++ []) ++ cs (Str.join "" ((b :: l).map sg)) = _
        rw [ih]
        rfl
  show cs (Builtin.Str.glued "" (l.map sg)) = l
  rw [PySem.StrLaws.glued_eq_join]
  exact this l
theorem sum_ones : ∀ l : List Nat, ((l.map sg).map (·.length)).sum = l.length
  | [] => rfl
  | a :: l => by
    rw [List.map_cons, List.map_cons, List.sum_cons, sum_ones l, List.length_cons]
    show 1 + l.length = l.length + 1
    omega
def lowC (c : Nat) : Nat := if c < 97 then c + 32 else c
theorem letters : ∀ c ∈ cs "abcdefghABCDEFGH", Txt.isupper (sg c) = decide (c < 97) ∧ Txt.islower (sg c) = decide (97 ≤ c) ∧ Txt.lower (sg c) = sg (lowC c) := by decide +kernel
def tkS (l : List Nat) : List Nat := (l.filter fun c => decide (c < 97)).map lowC
def puS (l : List Nat) : List Nat := l.filter fun c => decide (97 ≤ c)
def pcS : Nat → List Nat → List Nat
  | _, [] => []
  | n, c :: l => if 97 ≤ c then pcS (n + 1) l else n :: pcS n l
theorem pcS_nil (n : Nat) : pcS n [] = [] := rfl
theorem pcS_cons (n c : Nat) (l : List Nat) : pcS n (c :: l) = if 97 ≤ c then pcS (n + 1) l else n :: pcS n l := rfl
theorem tkS_snoc (l : List Nat) (c : Nat) : tkS (l ++ [c]) = tkS l ++ (if c < 97 then [lowC c] else []) := by
  unfold tkS
  rw [List.filter_append, List.map_append]
  by_cases h : c < 97
  · simp [h]
  · simp [h]
theorem puS_snoc (l : List Nat) (c : Nat) : puS (l ++ [c]) = puS l ++ (if 97 ≤ c then [c] else []) := by
  unfold puS
  rw [List.filter_append]
  by_cases h : 97 ≤ c
  · simp [h]
  · simp [h]
theorem take_snoc {p : Str} {i c : Nat} (hi : i < p.length) (hc : p.cps[i]? = some c) : (cs p).take (i + 1) = (cs p).take i ++ [c] ∧ c ∈ cs p := by
  have h : (cs p)[i]? = some c := by
    show p.cps.toList[i]? = some c
    rw [Array.getElem?_toList]
    exact hc
  exact ⟨by rw [List.take_add_one, h]; rfl, List.mem_of_getElem? h⟩
theorem str_cs {x : Str} {l : List Nat} (h : cs x = l) : x = ⟨l.toArray⟩ := by
  cases x
  subst h
  rfl
theorem all_strs {b : Str} : ∀ xs : List V, (∀ x ∈ xs, okV x b = true) → ∃ zs : List Str, xs = zs.map V.str ∧ ∀ z ∈ zs, okS z b = true
  | [], _ => ⟨[], rfl, fun z hz => by cases hz⟩
  | x :: xs, h => by
    obtain ⟨zs, e, hz⟩ := all_strs xs fun y hy => h y (List.mem_cons_of_mem _ hy)
    have hx := h x (List.mem_cons_self ..)
    obtain ⟨z, rfl, _⟩ := okV_str hx
    refine ⟨z :: zs, by rw [e]; rfl, fun y hy => ?_⟩
    rcases List.mem_cons.mp hy with r | r
    · rw [r]; exact hx
    · exact hz y r
theorem sum_le : ∀ zs : List Str, (∀ z ∈ zs, z.length ≤ 400) → (zs.map (·.length)).sum ≤ 400 * zs.length
  | [], _ => by simp
  | z :: zs, h => by
    have h1 := h z (List.mem_cons_self ..)
    have h2 := sum_le zs fun y hy => h y (List.mem_cons_of_mem _ hy)
    rw [List.map_cons, List.sum_cons, List.length_cons]
    omega
theorem join_len (zs : List Str) : (Txt.join "" zs).length = (zs.map (·.length)).sum := by
  have core : ∀ zs : List Str, (Str.join "" zs).length = (zs.map (·.length)).sum := by
    intro zs
    induction zs with
    | nil => rfl
    | cons z zs ih =>
      cases zs with
      | nil => show z.length = z.length + 0; omega
      | cons y zs =>
        show (z ++ "" ++ Str.join "" (y :: zs)).cps.size = _
        have e : ∀ x y : Str, (x ++ y).cps.size = x.cps.size + y.cps.size := fun x y => Array.size_append
        rw [e, e, List.map_cons, List.sum_cons, ← ih]
        show z.cps.size + 0 + _ = z.cps.size + _
        rfl
  show (Builtin.Str.glued "" zs).length = _
  rw [PySem.StrLaws.glued_eq_join]
  exact core zs
def Pool (H : Hp) (p : Addr) : Prop := ∃ n m : Int, H p = some (.lst [.int n, .int m]) ∧ 0 ≤ n ∧ 0 ≤ m ∧ m < 2147483647
theorem cut_int (ns : List Int) (lo hi : Option Int) : ∃ l : List Int, cutV (ns.map V.int) lo hi = l.map V.int := by
  unfold cutV
  exact ⟨_, by rw [← List.map_drop, ← List.map_take]⟩
def But (p : Addr) (H H' : Hp) : Prop := ∀ b o, b ≠ p → H b = some o → H' b = some o
theorem But.trans {p : Addr} {H H1 H2 : Hp} (x : But p H H1) (y : But p H1 H2) : But p H H2 := fun b o n e => y b o n (x b o n e)
theorem But.refl {p : Addr} {H : Hp} : But p H H := fun _ _ _ e => e
theorem But.put {p : Addr} {H H1 : Hp} {o : HO} (x : But p H H1) : But p H (upd H1 p o) := fun b u n e => by rw [upd_ne n]; exact x b u n e
theorem But.new {p q : Addr} {H H1 : Hp} {o : HO} (x : But p H H1) (h : H q = none) : But p H (upd H1 q o) := fun b u n e => by
  rw [upd_ne (ne_of_none e h)]
  exact x b u n e
theorem But.same {p : Addr} {H H1 H2 : Hp} (s : Same H H1) (hp : H p = none) (x : But p H1 H2) : Same H H2 := fun b o e => x b o (ne_of_none e hp) (s b o e)
theorem cut_take {z : Str} (k : Nat) : cs (cutS z none (some (0 + (k : Nat)))) = (cs z).take k := by
  show (((cs z).drop (HT.sIx z.length 0 none)).take (HT.sIx z.length z.length (some (0 + (k : Nat))) - HT.sIx z.length 0 none)).toArray.toList = _
  rw [HT.sIx_none, show ((0 : Int) + (k : Nat)) = ((k : Nat) : Int) by omega, HT.sIx_nat, List.drop_zero, Nat.sub_zero]
  show (cs z).take (min k z.length) = _
  rw [len_cs, ← List.take_take, List.take_length]
theorem dp_signs {K : PySem.W.Frag} {H : Hp} : ∀ l : List Nat, DpAll K H (sV l) (l.map fun c => PyData.str ⟨#[c]⟩)
  | [] => .nil
  | a :: l => .cons (.str _) (dp_signs l)
theorem item16 {d k : Int} (h0 : 0 ≤ d) (h1 : d < 2 * k) (hk : k ≤ 8) : ∃ c, atI (cs (cutS "aAbBcCdDeEfFgGhH" none (some (2 * k)))) d = some c ∧ c ∈ cs "aAbBcCdDeEfFgGhH" := by
  obtain ⟨n, rfl⟩ : ∃ n : Nat, d = n := ⟨d.toNat, by omega⟩
  obtain ⟨j, hj⟩ : ∃ j : Nat, 2 * k = 0 + (j : Nat) := ⟨(2 * k).toNat, by omega⟩
  rw [hj, cut_take]
  have h16 : (cs "aAbBcCdDeEfFgGhH").length = 16 := by decide +kernel
  have hn : n < (cs "aAbBcCdDeEfFgGhH").length := by omega
  refine ⟨(cs "aAbBcCdDeEfFgGhH")[n], atI_nat ?_, List.getElem_mem hn⟩
  rw [List.getElem?_take_of_lt (by omega)]
  exact List.getElem?_eq_getElem hn
theorem cut_len {z : Str} {k : Int} (h : 0 ≤ k) : (cutS z none (some k)).length ≤ z.length := by
  obtain ⟨j, hj⟩ : ∃ j : Nat, k = 0 + (j : Nat) := ⟨k.toNat, by omega⟩
  rw [hj, len_cs, cut_take, List.length_take, len_cs]
  omega
abbrev abc : List Nat := cs "abcdefghABCDEFGHizI -1\n"
theorem quote2 (x : Str) : reprQuote x = 39 ∨ reprQuote x = 34 := by
  unfold reprQuote
  split
  · exact .inr rfl
  · exact .inl rfl
theorem rc_ok : ∀ q ∈ [39, 34], ∀ c ∈ abc, ∀ d ∈ Builtin.Str.reprChar q c, d < 1114112 := by decide +kernel
theorem fold_ok (q : Nat) (hq : q ∈ [39, 34]) : ∀ (l : List Nat) (acc : Array Nat), (∀ c ∈ l, c ∈ abc) → (∀ d ∈ acc.toList, d < 1114112) → ∀ d ∈ (l.foldl (fun out c => out ++ (Builtin.Str.reprChar q c).toArray) acc).toList, d < 1114112
  | [], acc, _, ha => ha
  | c :: l, acc, hl, ha => by
    rw [List.foldl_cons]
    refine fold_ok q hq l _ (fun x hx => hl x (List.mem_cons_of_mem _ hx)) fun d hd => ?_
    rw [Array.toList_append] at hd
    rcases List.mem_append.mp hd with h | h
    · exact ha d h
    · exact rc_ok q hq c (hl c (List.mem_cons_self ..)) d (by simpa using h)
theorem repr_ok {x : Str} (h : ∀ c ∈ cs x, c ∈ abc) : PyData.strOk (reprText x) = true := by
  have hq : reprQuote x ∈ [39, 34] := by rcases quote2 x with e | e <;> rw [e] <;> simp
  have hq' : reprQuote x < 1114112 := by rcases quote2 x with e | e <;> rw [e] <;> decide
  unfold PyData.strOk reprText
  rw [← Array.foldl_toList, Array.all_push, Bool.and_eq_true]
  refine ⟨?_, decide_eq_true hq'⟩
  rw [← Array.all_toList, List.all_eq_true]
  intro d hd
  have base : ∀ d ∈ (#[reprQuote x] : Array Nat).toList, d < 1114112 := by
    intro d hd
    have : d = reprQuote x := by simpa using hd
    rw [this]
    exact hq'
  exact decide_eq_true (fold_ok _ hq x.cps.toList #[reprQuote x] h base d hd)
theorem abc_lt : ∀ c ∈ abc, c < 1114112 := by decide +kernel
structure Vv (K : PySem.W.Frag) (H : Hp) (v : V) (z : Str) : Prop where
  any : ∃ t, ∀ H', Same H H' → AnyV K H' v t
  cp : ∀ x, v = .str x → ∀ c ∈ cs x, c < 1114112
  rep : ∀ H', Same H H' → ∀ Q : VK, Q (.str z) H' → rReprR K [v] H' Q
  zok : PyData.strOk z = true
theorem Vv.same {K : PySem.W.Frag} {H H' : Hp} {v : V} {z : Str} (h : Vv K H v z) (s : Same H H') : Vv K H' v z := by
  obtain ⟨⟨t, h1⟩, h2, h3, h4⟩ := h
  exact ⟨⟨t, fun H'' s' => h1 H'' (s.trans s')⟩, h2, fun H'' s' => h3 H'' (s.trans s'), h4⟩
theorem vv_str {K : PySem.W.Frag} {H : Hp} {x : Str} (hl : x.length ≤ 1000) (hc : ∀ c ∈ cs x, c ∈ abc) : Vv K H (.str x) (reprText x) := by
  refine ⟨⟨_, fun H' _ => .str x (by omega)⟩, fun y e c h => ?_, fun H' _ Q q => .inl ⟨_, .str x, rfl, .str x, rfl, rfl, (show 0 ≤ 60 by decide), ?_, q⟩, repr_ok hc⟩
  · cases e
    exact abc_lt c (hc c h)
  · have := PySem.StrLaws.reprText_len x fun c h => Nat.lt_of_lt_of_le (abc_lt c (hc c h)) (by decide)
    exact le_line (by show (reprText x).length ≤ 100000; omega)
theorem vv_flat {K : PySem.W.Frag} {H : Hp} {v : V} {t : Value} {d : PyData} (ty : ∀ H', Same H H' → TyX K H' v t) (no : PySem.W.kitOne K t (.type "str") = some false) (ns : ∀ z, v ≠ .str z) (dp : ∀ H', Same H H' → Dp K H' v d) (a1 : d.showable = true) (a2 : d.hasDict = false) (a3 : d.depth ≤ 60) (a4 : d.shown.length ≤ 100000)
    (a5 : PyData.strOk d.shown = true) : Vv K H v d.shown := ⟨⟨t, fun H' s => .oth (ty H' s) no ns⟩, fun x e => absurd e (ns x), fun H' s Q q => .inl ⟨v, d, rfl, dp H' s, a1, a2, a3, le_line a4, q⟩, a5⟩
theorem vv_dict {K : PySem.W.Frag} {H : Hp} {p : Addr} (hp : H p = some (.dK [])) : Vv K H (.ref p) "{}" :=
  ⟨⟨.type "dict", fun H' s => .oth (.base (.dK (s _ _ hp))) (kit_ty (by decide +kernel)) (fun z h => nomatch h)⟩, (fun x e => nomatch e), fun H' s Q q => .inr ⟨p, rfl, s _ _ hp, q⟩, by decide +kernel⟩
theorem vv_lst {K : PySem.W.Frag} {H : Hp} {p : Addr} (hp : H p = some (.lst [.str "a"])) : Vv K H (.ref p) (PyData.shown (.list [.str "a"])) :=
  vv_flat (t := .type "list") (fun H' s => .base (.lst (s _ _ hp))) (kit_ty (by decide +kernel)) (fun z h => nomatch h) (fun H' s => .lst (SqL.of (s _ _ hp)) (.cons (.str _) .nil)) (by decide +kernel) (by decide +kernel) (by decide +kernel) (by decide +kernel) (by decide +kernel)
theorem vv_tup {K : PySem.W.Frag} {H : Hp} {p : Addr} (hp : H p = some (.tup [.str "a"])) : Vv K H (.ref p) (PyData.shown (.tuple [.str "a"])) :=
  vv_flat (t := .type "tuple") (fun H' s => .base (.tup (s _ _ hp))) (kit_ty (by decide +kernel)) (fun z h => nomatch h) (fun H' s => .tup (SqT.of (s _ _ hp)) (.cons (.str _) .nil)) (by decide +kernel) (by decide +kernel) (by decide +kernel) (by decide +kernel) (by decide +kernel)
theorem vv_non {K : PySem.W.Frag} {H : Hp} : Vv K H .non (PyData.shown .none) :=
  vv_flat (t := .type "NoneType") (fun H' s => .base .non) (kit_ty (by decide +kernel)) (fun z h => nomatch h) (fun H' s => .non) (by decide +kernel) (by decide +kernel) (by decide +kernel) (by decide +kernel) (by decide +kernel)
theorem vv_zero {K : PySem.W.Frag} {H : Hp} : Vv K H (.int 0) (PyData.shown (.int 0)) :=
  vv_flat (t := .type "int") (fun H' s => .base (.int 0)) (kit_ty (by decide +kernel)) (fun z h => nomatch h) (fun H' s => .int 0) (by decide +kernel) (by decide +kernel) (by decide +kernel) (by decide +kernel) (by decide +kernel)
theorem vv_true {K : PySem.W.Frag} {H : Hp} : Vv K H (.bl true) (PyData.shown (.bool true)) :=
  vv_flat (t := .type "bool") (fun H' s => .base (.bl true)) (kit_ty (by decide +kernel)) (fun z h => nomatch h) (fun H' s => .bl true) (by decide +kernel) (by decide +kernel) (by decide +kernel) (by decide +kernel) (by decide +kernel)
theorem cut_mem {z : Str} {lo hi : Option Int} {c : Nat} (h : c ∈ cs (cutS z lo hi)) : c ∈ cs z := by
  have h' : c ∈ ((((cs z).drop (HT.sIx z.length 0 lo)).take (HT.sIx z.length z.length hi - HT.sIx z.length 0 lo)).toArray.toList) := h
  rw [List.toList_toArray] at h'
  exact List.mem_of_mem_drop (List.mem_of_mem_take h')
theorem cut_le (z : Str) (lo hi : Option Int) : (cutS z lo hi).length ≤ z.length := by
  rw [len_cs, len_cs z]
  show (((cs z).drop (HT.sIx z.length 0 lo)).take (HT.sIx z.length z.length hi - HT.sIx z.length 0 lo)).toArray.toList.length ≤ _
  rw [List.toList_toArray, List.length_take, List.length_drop]
  omega
theorem cs_app (x y : Str) : cs (x ++ y) = cs x ++ cs y := Array.toList_append
theorem len_app (x y : Str) : (x ++ y).length = x.length + y.length := Array.size_append
theorem lt_of_get {α : Type} {xs : List α} {n i : Nat} (hl : xs.length = n) (hi : i < n) : ∃ r, xs[i]? = some r := ⟨xs[i]'(by omega), List.getElem?_eq_getElem (by omega)⟩
theorem let16 : ∀ c ∈ cs "aAbBcCdDeEfFgGhH", c ∈ abc ∧ c ∈ cs "abcdefghABCDEFGH" := by decide +kernel
theorem let128 : ∀ c ∈ cs "abcdefghABCDEFGH", c < 128 ∧ lo1 c ∈ abc := by decide +kernel
theorem low_ok {z : Str} (hl : z.length ≤ 30) (h : ∀ c ∈ cs z, c ∈ cs "abcdefghABCDEFGH") : (Txt.lower z).length ≤ 90 ∧ ∀ c ∈ cs (Txt.lower z), c ∈ abc := by
  have h128 : ∀ c ∈ z.cps.toList, c < 128 := fun c hc => (let128 c (h c hc)).1
  rw [lower_ascii h128]
  refine ⟨?_, fun c hc => ?_⟩
  · show (z.cps.map lo1).size ≤ 90
    rw [Array.size_map]
    have : z.cps.size ≤ 30 := hl
    omega
  · have hc' : c ∈ (z.cps.map lo1).toList := hc
    rw [Array.toList_map] at hc'
    obtain ⟨b, hb, rfl⟩ := List.mem_map.mp hc'
    exact (let128 b (h b hb)).2
theorem mulOk1 {z : Str} {k : Int} (h1 : z.length = 1) (h2 : 1 ≤ k) (h3 : k ≤ 1000) : MulOk z k := by
  refine ⟨by rw [decide_eq_false (by omega), decide_eq_false (by omega)]; rfl, fun _ _ => ?_, fun _ _ => ?_⟩
  · rw [h1]
    have : (1 : Int) ≤ (2 ^ 63 - 1) / k := by
      rw [Int.le_ediv_iff_mul_le (by omega)]
      omega
    omega
  · rw [h1, Nat.one_mul]
    unfold Builtin.Str.tooLong
    exact decide_eq_false (by have := le_line (n := k.toNat) (by omega); omega)
theorem lk1 {f : Str} {v : V} : List.lookup f [(f, v)] = some v := by simp [List.lookup]
end Gn

set_option Elab.async false
set_option linter.all false
set_option maxRecDepth 100000
set_option maxHeartbeats 4000000
/-! texts as lists of signs -/
namespace Gn
open PySem PySem.Spec PyProof.Rows L2 Own Exn Mth Vld
abbrev mk (l : List Nat) : Str := ⟨l.toArray⟩
theorem cs_mk (l : List Nat) : cs (mk l) = l := List.toList_toArray
theorem mk_cs (z : Str) : mk (cs z) = z := (str_cs rfl).symm
theorem len_mk (l : List Nat) : (mk l).length = l.length := List.size_toArray
theorem app_mk (l m : List Nat) : (mk l) ++ (mk m) = mk (l ++ m) := by
  have h : cs (mk l ++ mk m) = l ++ m := by rw [cs_app, cs_mk, cs_mk]
  exact str_cs h
theorem sg_mk (c : Nat) : (⟨#[c]⟩ : Str) = mk [c] := rfl
theorem app_sg (l : List Nat) (c : Nat) : (mk l) ++ (sg c) = mk (l ++ [c]) := app_mk l [c]
theorem cut_from (l : List Nat) (k : Nat) : cutS (mk l) (some (k : Int)) none = mk (l.drop k) := by
  refine str_cs ?_
  show (((cs (mk l)).drop (HT.sIx (mk l).length 0 (some (k : Int)))).take (HT.sIx (mk l).length (mk l).length none - HT.sIx (mk l).length 0 (some (k : Int)))).toArray.toList = _
  rw [HT.sIx_none, HT.sIx_nat, List.toList_toArray, cs_mk, len_mk]
  rcases Nat.le_total k l.length with h | h
  · rw [Nat.min_eq_left h, List.take_of_length_le (by rw [List.length_drop]; exact Nat.le_refl _)]
  · rw [Nat.min_eq_right h, Nat.sub_self, List.take_zero, List.drop_of_length_le h]
theorem cut_to (l : List Nat) (k : Nat) : cutS (mk l) none (some (k : Int)) = mk (l.take k) := by
  refine str_cs ?_
  have := cut_take (z := mk l) k
  rw [show ((0 : Int) + (k : Nat)) = ((k : Nat) : Int) by omega] at this
  rw [this, cs_mk]
/-- the place of the first c -/
def fst? (c : Nat) : List Nat → Option Nat
  | [] => none
  | x :: l => if x = c then some 0 else (fst? c l).map (· + 1)
theorem fst_none {c : Nat} : ∀ {l : List Nat}, (∀ v, v < l.length → l[v]? ≠ some c) → fst? c l = none
  | [], _ => rfl
  | x :: l, h => by
    have h0 := h 0 (by simp)
    have : x ≠ c := fun e => h0 (by rw [e]; rfl)
    unfold fst?
    rw [if_neg this, fst_none (l := l) fun v hv => by have := h (v + 1) (by simpa using hv); simpa using this]
    rfl
theorem fst_some {c : Nat} : ∀ {l : List Nat} {k : Nat}, l[k]? = some c → (∀ v, v < k → l[v]? ≠ some c) → fst? c l = some k
  | [], k, h, _ => by simp at h
  | x :: l, 0, h, _ => by
    have : x = c := by simpa using h
    unfold fst?
    rw [if_pos this]
  | x :: l, k + 1, h, hn => by
    have h0 := hn 0 (by omega)
    have : x ≠ c := fun e => h0 (by rw [e]; rfl)
    unfold fst?
    rw [if_neg this, fst_some (l := l) (k := k) (by simpa using h) fun v hv => by have := hn (v + 1) (by omega); simpa using this]
    rfl
theorem fst_lt {c : Nat} : ∀ {l : List Nat} {k : Nat}, fst? c l = some k → k < l.length ∧ l[k]? = some c ∧ ∀ v, v < k → l[v]? ≠ some c
  | [], k, h => by simp [fst?] at h
  | x :: l, k, h => by
    unfold fst? at h
    by_cases e : x = c
    · rw [if_pos e] at h
      cases h
      exact ⟨by simp, by rw [e]; rfl, fun v hv => absurd hv (Nat.not_lt_zero _)⟩
    · rw [if_neg e] at h
      cases q : fst? c l with
      | none => rw [q] at h; cases h
      | some j =>
        rw [q] at h
        have h' : j + 1 = k := Option.some.inj h
        subst h'
        obtain ⟨h1, h2, h3⟩ := fst_lt q
        refine ⟨by rw [List.length_cons]; omega, by simpa using h2, fun v hv => ?_⟩
        cases v with
        | zero => simpa using e
        | succ v => have := h3 v (by omega); simpa using this
theorem fst_mem {c : Nat} : ∀ {l : List Nat}, fst? c l = none ↔ c ∉ l
  | [] => by simp [fst?]
  | x :: l => by
    unfold fst?
    by_cases e : x = c
    · rw [if_pos e]; simp [e]
    · rw [if_neg e]
      have := fst_mem (c := c) (l := l)
      simp only [Option.map_eq_none_iff, List.mem_cons, not_or]
      rw [this]
      exact ⟨fun h => ⟨fun q => e q.symm, h⟩, fun h => h.2⟩
def told (o : Option Nat) : Int := match o with
  | some k => (k : Nat)
  | none => -1
theorem find_mk (l : List Nat) (c : Nat) : Txt.find (mk l) ⟨#[c]⟩ = told (fst? c l) := by
  have e : Txt.find (mk l) ⟨#[c]⟩ = Txt.find3 (mk l) ⟨#[c]⟩ 0 := by
    unfold Txt.find Txt.find3
    rw [show fromIndex (mk l).length 0 = 0 from by unfold fromIndex; rw [if_neg (by omega)]; omega]
    rfl
  rw [e]
  have hfi : fromIndex (mk l).length (0 : Int) = 0 := by unfold fromIndex; rw [if_neg (by omega)]; omega
  rcases PySem.StrLaws.find3_spec (mk l) c 0 with ⟨hf, hn⟩ | ⟨k, hf, h1, h2, h3, h4⟩
  · rw [hf, fst_none fun v hv q => ?_]
    · rfl
    · rw [hfi] at hn
      have hv' : v < (mk l).length := by rw [len_mk]; exact hv
      have := getD_cs hv'
      rw [cs_mk, q] at this
      exact hn v (Nat.zero_le _) hv' (Option.some.inj this).symm
  · rw [hf, fst_some (k := k) (by have := getD_cs h2; rw [cs_mk] at this; rw [this, h3]) fun v hv q => ?_]
    · rfl
    · rw [hfi] at h4
      have hv' : v < (mk l).length := by omega
      have := getD_cs hv'
      rw [cs_mk, q] at this
      exact h4 v (Nat.zero_le _) hv (Option.some.inj this).symm
theorem index_mk (l : List Nat) (c : Nat) : Txt.index0 (mk l) ⟨#[c]⟩ = fst? c l := by
  have h := find_mk l c
  unfold Txt.find at h
  unfold Txt.index0
  cases e : Builtin.Str.occurrences (mk l) ⟨#[c]⟩ 0 (mk l).length 1 with
  | nil =>
    rw [e] at h
    cases q : fst? c l with
    | none => rfl
    | some k => rw [q] at h; have h' : (-1 : Int) = (k : Nat) := h; omega
  | cons i r =>
    rw [e] at h
    cases q : fst? c l with
    | none => rw [q] at h; have h' : ((i : Nat) : Int) = -1 := h; omega
    | some k =>
      rw [q] at h
      have h' : ((i : Nat) : Int) = (k : Nat) := h
      have : i = k := by omega
      rw [this]
      rfl
/-- the best result, step by step -/
def bst : List Nat → List Nat → Option (List Nat)
  | [], z => some z
  | c :: p, z => if 97 ≤ c then bst p (z ++ [c]) else match fst? (c + 32) z with
    | none => none
    | some k => bst p (z.drop (k + 1))
theorem bst_nil (z : List Nat) : bst [] z = some z := rfl
theorem bst_put {c : Nat} (h : 97 ≤ c) (p z : List Nat) : bst (c :: p) z = bst p (z ++ [c]) := by
  show (if 97 ≤ c then _ else _) = _
  rw [if_pos h]
theorem bst_take {c k : Nat} {z : List Nat} (h : ¬ 97 ≤ c) (e : fst? (c + 32) z = some k) (p : List Nat) : bst (c :: p) z = bst p (z.drop (k + 1)) := by
  show (if 97 ≤ c then _ else _) = _
  rw [if_neg h, e]
theorem bst_fail {c : Nat} {z : List Nat} (h : ¬ 97 ≤ c) (e : fst? (c + 32) z = none) (p : List Nat) : bst (c :: p) z = none := by
  show (if 97 ≤ c then _ else _) = _
  rw [if_neg h, e]
theorem drop_cons {l : List Nat} {i c : Nat} (h : l[i]? = some c) : l.drop i = c :: l.drop (i + 1) := by
  have hl : i < l.length := by
    rcases Nat.lt_or_ge i l.length with q | q
    · exact q
    · rw [List.getElem?_eq_none q] at h; cases h
  rw [List.drop_eq_getElem_cons hl]
  rw [List.getElem?_eq_getElem hl] at h
  rw [Option.some.inj h]
abbrev lo8 : List Nat := cs "abcdefgh"
abbrev st16 : List Nat := cs "abcdefghABCDEFGH"
theorem mem_lo8 : ∀ c, c ∈ lo8 ↔ 97 ≤ c ∧ c ≤ 104 := by
  intro c
  have e : lo8 = [97, 98, 99, 100, 101, 102, 103, 104] := by decide +kernel
  rw [e]
  simp only [List.mem_cons, List.not_mem_nil, or_false]
  omega
theorem mem_st16 : ∀ c, c ∈ st16 ↔ (97 ≤ c ∧ c ≤ 104) ∨ (65 ≤ c ∧ c ≤ 72) := by
  intro c
  have e : st16 = [97, 98, 99, 100, 101, 102, 103, 104, 65, 66, 67, 68, 69, 70, 71, 72] := by decide +kernel
  rw [e]
  simp only [List.mem_cons, List.not_mem_nil, or_false]
  omega
theorem bst_len : ∀ (p z r : List Nat), bst p z = some r → r.length ≤ z.length + p.length
  | [], z, r, h => by cases h; simp
  | c :: p, z, r, h => by
    by_cases hc : 97 ≤ c
    · rw [bst_put hc] at h
      have := bst_len p _ r h
      simp only [List.length_append, List.length_cons, List.length_nil] at this ⊢
      omega
    · cases e : fst? (c + 32) z with
      | none => rw [bst_fail hc e] at h; cases h
      | some k =>
        rw [bst_take hc e] at h
        have := bst_len p _ r h
        rw [List.length_drop] at this
        rw [List.length_cons]
        omega
theorem bst_mem : ∀ (p z r : List Nat), (∀ c ∈ p, c ∈ st16) → (∀ c ∈ z, c ∈ lo8) → bst p z = some r → ∀ c ∈ r, c ∈ lo8
  | [], z, r, _, hz, h => by cases h; exact hz
  | c :: p, z, r, hp, hz, h => by
    have hc16 := hp c (List.mem_cons_self ..)
    have hp' : ∀ c ∈ p, c ∈ st16 := fun x hx => hp x (List.mem_cons_of_mem _ hx)
    by_cases hc : 97 ≤ c
    · rw [bst_put hc] at h
      refine bst_mem p _ r hp' (fun x hx => ?_) h
      rcases List.mem_append.mp hx with q | q
      · exact hz x q
      · rw [List.mem_singleton.mp q, mem_lo8]
        rw [mem_st16] at hc16
        omega
    · cases e : fst? (c + 32) z with
      | none => rw [bst_fail hc e] at h; cases h
      | some k =>
        rw [bst_take hc e] at h
        exact bst_mem p _ r hp' (fun x hx => hz x (List.mem_of_mem_drop hx)) h
theorem app_tail {l : List Nat} {i c : Nat} (h : l[i]? = some c) : l.take (i + 1) = l.take i ++ [c] := by rw [List.take_add_one, h]; rfl
theorem str_at {p : Str} {i c : Nat} (hc : p.cps[i]? = some c) : (cs p)[i]? = some c := by
  show p.cps.toList[i]? = some c
  rw [Array.getElem?_toList]
  exact hc
end Gn

set_option Elab.async false
set_option linter.all false
set_option maxRecDepth 100000
set_option maxHeartbeats 4000000
/-! results -/
namespace Gn
open PySem PySem.Spec PyProof.Rows L2 Own Exn Mth Vld
/-- how many are lost before each step -/
def cnt : List Nat → List Nat → List Nat
  | [], _ => []
  | c :: p, z => if 97 ≤ c then 0 :: cnt p (z ++ [c]) else match fst? (c + 32) z with
    | none => []
    | some k => k :: cnt p (z.drop (k + 1))
theorem cnt_put {c : Nat} (h : 97 ≤ c) (p z : List Nat) : cnt (c :: p) z = 0 :: cnt p (z ++ [c]) := by
  show (if 97 ≤ c then _ else _) = _
  rw [if_pos h]
theorem cnt_take {c k : Nat} {z : List Nat} (h : ¬ 97 ≤ c) (e : fst? (c + 32) z = some k) (p : List Nat) : cnt (c :: p) z = k :: cnt p (z.drop (k + 1)) := by
  show (if 97 ≤ c then _ else _) = _
  rw [if_neg h, e]
theorem cnt_fail {c : Nat} {z : List Nat} (h : ¬ 97 ≤ c) (e : fst? (c + 32) z = none) (p : List Nat) : cnt (c :: p) z = [] := by
  show (if 97 ≤ c then _ else _) = _
  rw [if_neg h, e]
def oV : Option (List Nat) → V
  | none => .non
  | some r => .str (mk r)
theorem low_up {c : Nat} (h : ¬ 97 ≤ c) : lowC c = c + 32 := by
  unfold lowC
  rw [if_pos (by omega)]
theorem line1 : (1 : Nat) ≤ 5592405 := by decide
theorem iV_app (l m : List Nat) : iV (l ++ m) = iV l ++ iV m := List.map_append
end Gn
namespace Gn
open PySem PySem.Spec PyProof.Rows L2 Own Exn Mth Vld
def tooL : Option (List Nat) → Bool
  | some r => decide (400 < r.length)
  | none => false
end Gn

set_option Elab.async false
set_option linter.all false
set_option maxRecDepth 100000
set_option maxHeartbeats 4000000
/-! data in a heap that grows -/
namespace Gn
open PySem PySem.Spec PyProof.Rows L2 Own Exn Mth Vld
theorem same_tup {K : PySem.W.Frag} {H H' : Hp} {a : Addr} {xs : List V} (e : Same H H') (h : SqT K H a xs) : SqT K H' a xs := by
  rcases h with (h | ⟨o, h⟩) | h
  · exact .inl (.inl (e _ _ h))
  · exact .inl (.inr ⟨o, e _ _ h⟩)
  · exact .inr h
mutual
theorem dp_same {K : PySem.W.Frag} {H H' : Hp} (e : Same H H') : ∀ {v : V} {d : PyData}, Dp K H v d → Dp K H' v d
  | _, _, .non => .non
  | _, _, .bl b => .bl b
  | _, _, .int i => .int i
  | _, _, .str x => .str x
  | _, _, .lst h hs => .lst (e.seq h) (dpAll_same e hs)
  | _, _, .tup h hs => .tup (same_tup e h) (dpAll_same e hs)
theorem dpAll_same {K : PySem.W.Frag} {H H' : Hp} (e : Same H H') : ∀ {vs : List V} {ds : List PyData}, DpAll K H vs ds → DpAll K H' vs ds
  | _, _, .nil => .nil
  | _, _, .cons h hs => .cons (dp_same e h) (dpAll_same e hs)
end
theorem eqv_sh {d : PyData} (h : SeqAt.shaped d = true) : PyData.eqv d d = true := SeqAt.eqv_refl d (SeqAt.canLay_of_shaped h)
theorem strOk_of {z : Str} (h : ∀ c ∈ cs z, c < 1114112) : PyData.strOk z = true := by
  unfold PyData.strOk
  rw [← Array.all_toList, List.all_eq_true]
  intro d hd
  exact decide_eq_true (h d hd)
theorem lo8_lt {c : Nat} (h : c ∈ lo8) : c < 1114112 := by rw [mem_lo8] at h; omega
theorem st16_lt {c : Nat} (h : c ∈ st16) : c < 1114112 := by rw [mem_st16] at h; omega
theorem strOk_mk {l : List Nat} (h : ∀ c ∈ l, c < 1114112) : PyData.strOk (mk l) = true := strOk_of (by rw [cs_mk]; exact h)
theorem erase_map {α β : Type} (f : α → β) : ∀ (l : List α) (j : Nat), (l.map f).eraseIdx j = (l.eraseIdx j).map f
  | [], _ => rfl
  | _ :: _, 0 => rfl
  | x :: l, j + 1 => by
    show f x :: (l.map f).eraseIdx j = f x :: (l.eraseIdx j).map f
    rw [erase_map f l j]
def oD : Option (List Nat) → PyData
  | none => .none
  | some r => .str (mk r)
theorem dp_o {K : PySem.W.Frag} {H : Hp} (r : Option (List Nat)) : Dp K H (oV r) (oD r) := by
  cases r with
  | none => exact .non
  | some l => exact .str _
def limD : PyData := .list [.str "limit", .int 400, .bool true]
def dueD (r : Option (List Nat)) : PyData := if tooL r = true then limD else oD r
theorem oD_sh {r : Option (List Nat)} (h : ∀ l, r = some l → ∀ c ∈ l, c < 1114112) : SeqAt.shaped (oD r) = true := by
  cases r with
  | none => decide +kernel
  | some l =>
    have := strOk_mk (h l rfl)
    unfold oD SeqAt.shaped
    simp [PyData.canLay0, PyData.depth, this]
theorem dueD_sh {r : Option (List Nat)} (h : ∀ l, r = some l → ∀ c ∈ l, c < 1114112) : SeqAt.shaped (dueD r) = true := by
  unfold dueD
  split
  · decide +kernel
  · exact oD_sh h
theorem list2_sh {x : Str} {y : Str} (hx : PyData.strOk x = true) (hy : PyData.strOk y = true) : SeqAt.shaped (.list [.str x, .str y]) = true := by
  unfold SeqAt.shaped
  simp [PyData.canLay0, PyData.canLayAll0, PyData.depth, PyData.depthAll, hx, hy]
end Gn

set_option Elab.async false
set_option linter.all false
set_option maxRecDepth 100000
set_option maxHeartbeats 4000000
/-! texts repeated, in capitals -/
namespace Gn
open PySem PySem.Spec PyProof.Rows L2 Own Exn Mth Vld
theorem map_mk (l : List Nat) (f : Nat → Nat) : (⟨(mk l).cps.map f⟩ : Str) = mk (l.map f) := by
  refine str_cs ?_
  show ((mk l).cps.map f).toList = _
  rw [Array.toList_map]
theorem up_mk {l : List Nat} (h : ∀ c ∈ l, c ∈ lo8) : Txt.upper (mk l) = mk (l.map fun c => c - 32) := by
  rw [upper_ascii (x := mk l) fun c hc => by have := h c hc; rw [mem_lo8] at this; omega, map_mk]
  refine congrArg mk ?_
  refine List.map_congr_left fun c hc => ?_
  have := h c hc
  rw [mem_lo8] at this
  unfold up1
  rw [if_pos (by omega)]
theorem lo_mk {l : List Nat} (h : ∀ c ∈ l, c ∈ st16) : Txt.lower (mk l) = mk (l.map lowC) := by
  rw [lower_ascii (x := mk l) fun c hc => by have := h c hc; rw [mem_st16] at this; omega, map_mk]
  refine congrArg mk ?_
  refine List.map_congr_left fun c hc => ?_
  have := h c hc
  rw [mem_st16] at this
  unfold lo1 lowC
  by_cases q : c < 97
  · rw [if_pos (by omega), if_pos q]
  · rw [if_neg (by omega), if_neg q]
theorem fold_app (n : Nat) (a : Array Nat) : ∀ acc : Array Nat, ((List.replicate n a).foldl (· ++ ·) acc).toList = acc.toList ++ (List.replicate n a.toList).flatten := by
  induction n with
  | zero => intro acc; simp
  | succ n ih =>
    intro acc
    rw [List.replicate_succ, List.foldl_cons, ih, Array.toList_append, List.replicate_succ, List.flatten_cons, List.append_assoc]
theorem mul_mk (l : List Nat) (n : Nat) : Txt.mul (mk l) (n : Int) = mk (List.replicate n l).flatten := by
  unfold Txt.mul
  by_cases h0 : n = 0
  · subst h0
    rw [if_pos (by decide)]
    rfl
  rw [if_neg (by omega)]
  by_cases h1 : ((n : Int) == 1 || (mk l).length == 0) = true
  · rw [if_pos h1]
    rcases Bool.or_eq_true_iff.mp h1 with h | h
    · have : n = 1 := by have := eq_of_beq h; omega
      subst this
      simp
    · have hl : l.length = 0 := by have := eq_of_beq h; rw [len_mk] at this; exact this
      have : l = [] := List.length_eq_zero_iff.mp hl
      subst this
      simp
  · rw [if_neg h1]
    refine str_cs ?_
    show ((List.replicate (n : Int).toNat (mk l).cps).foldl (· ++ ·) #[]).toList = _
    rw [fold_app, Int.toNat_natCast]
    show [] ++ (List.replicate n (cs (mk l))).flatten = _
    rw [cs_mk, List.nil_append]
theorem mul_sg (c n : Nat) : Txt.mul (sg c) (n : Int) = mk (List.replicate n c) := by
  have := mul_mk [c] n
  rw [List.flatten_replicate_singleton] at this
  exact this
theorem mulOk {z : Str} {n : Int} (h0 : 0 ≤ n) (h1 : z.length ≤ 1000) (h2 : n ≤ 1000000000) (h : z.length * n.toNat ≤ 1000000) : MulOk z n := by
  refine ⟨by rw [decide_eq_false (by omega), decide_eq_false (by omega)]; rfl, fun a _ => ?_, fun _ _ => ?_⟩
  · have hz : (z.length : Int) ≤ (2 ^ 63 - 1) / n := by
      rw [Int.le_ediv_iff_mul_le (by omega)]
      have : (z.length : Int) * n ≤ 1000 * 1000000000 := Int.mul_le_mul (by omega) h2 h0 (by decide)
      omega
    omega
  · unfold Builtin.Str.tooLong
    exact decide_eq_false (by rw [show sizeLine = 5592405 * 3 + 1 from by rw [sizeLine_eq]] <;> omega)
theorem mem_rep {c x n : Nat} (h : x ∈ List.replicate n c) : x = c := (List.mem_replicate.mp h).2
theorem okS_mk {l : List Nat} {b : Str} (h1 : l.length ≤ 400) (h2 : ∀ c ∈ l, c ∈ cs b) : okS (mk l) b = true := okS_iff.mpr ⟨by rw [len_mk]; exact h1, by rw [cs_mk]; exact h2⟩
theorem any_ok {K : PySem.W.Frag} {H : Hp} {x b : Str} (h : okS x b = true) : AnyV K H (.str x) (.type "str") := .str x (by have := (okS_iff.mp h).1; omega)
theorem no_ok {x b : Str} {C : Prop} (h : okS x b = true) (e : okV (.str x) b = false) : C := by
  rw [show okV (.str x) b = true from h] at e
  cases e
theorem st16_of_lo8 {c : Nat} (h : c ∈ lo8) : c ∈ st16 := by rw [mem_lo8] at h; rw [mem_st16]; omega
theorem st16_of_up {c : Nat} (h : c ∈ lo8) : c - 32 ∈ st16 := by rw [mem_lo8] at h; rw [mem_st16]; omega
theorem st16_abc : ∀ c ∈ st16, c ∈ abc := by decide +kernel
theorem lo8_abc {c : Nat} (h : c ∈ lo8) : c ∈ abc := st16_abc c (st16_of_lo8 h)
theorem up_sg {c : Nat} (h : c ∈ lo8) : Txt.upper (sg c) = sg (c - 32) := up_mk (l := [c]) fun x hx => by rw [List.mem_singleton.mp hx]; exact h
end Gn

set_option Elab.async false
set_option linter.all false
set_option maxRecDepth 100000
set_option maxHeartbeats 4000000
/-! the core of a program -/
namespace Gn
open PySem PySem.Spec PyProof.Rows L2 Own Exn Mth Vld
/-- the place of the last c -/
def lst? (c : Nat) : List Nat → Option Nat
  | [] => none
  | x :: l => match lst? c l with
    | some j => some (j + 1)
    | none => if x = c then some 0 else none
theorem lst_none {c : Nat} : ∀ {l : List Nat}, (∀ i : Nat, l[i]? ≠ some c) → lst? c l = none
  | [], _ => rfl
  | x :: l, h => by
    have ih := lst_none (c := c) (l := l) fun i => by have := h (i + 1); simpa using this
    have h0 : x ≠ c := fun e => h 0 (by rw [e]; rfl)
    unfold lst?
    rw [ih]
    exact if_neg h0
theorem lst_some {c : Nat} : ∀ {l : List Nat} {k : Nat}, l[k]? = some c → (∀ i : Nat, k < i → l[i]? ≠ some c) → lst? c l = some k
  | [], k, h, _ => by simp at h
  | x :: l, 0, h, hn => by
    have ih := lst_none (c := c) (l := l) fun i => by have := hn (i + 1) (by omega); simpa using this
    have h0 : x = c := by simpa using h
    unfold lst?
    rw [ih]
    exact if_pos h0
  | x :: l, k + 1, h, hn => by
    have ih := lst_some (c := c) (l := l) (k := k) (by simpa using h) fun i hi => by have := hn (i + 1) (by omega); simpa using this
    unfold lst?
    rw [ih]
theorem last_upto (x y : Str) (n : Nat) : (Builtin.Str.lastOccurrence x y 0 n = none ∧ ∀ i, ¬ PySem.StrLaws.At x y n i) ∨ ∃ i, Builtin.Str.lastOccurrence x y 0 n = some i ∧ PySem.StrLaws.At x y n i ∧ ∀ k, i < k → ¬ PySem.StrLaws.At x y n k := by
  rw [PySem.StrLaws.last_eq]
  have key := PySem.StrLaws.last_run x y n (List.range' 0 (n + 1 - 0)) [] none (fun _ h => nomatch h) (fun _ h => nomatch h) (by simpa using List.pairwise_lt_range' (s := 0) (n := n + 1 - 0))
  have mem : ∀ i, PySem.StrLaws.At x y n i → i ∈ [] ++ List.range' 0 (n + 1 - 0) := fun i hi => by have := hi.1; simp [List.mem_range'] <;> omega
  cases hr : (forIn (List.range' 0 (n + 1 - 0)) none (PySem.StrLaws.lastBody x y n)).run with
  | none => rw [hr] at key; exact .inl ⟨rfl, fun i hi => key i (mem i hi) hi⟩
  | some a => rw [hr] at key; exact .inr ⟨a, rfl, key.1, fun k hk hA => key.2 k (mem k hA) hk hA⟩
theorem at_mk (W : List Nat) (c n i : Nat) (hn : n ≤ W.length) : PySem.StrLaws.At (mk W) ⟨#[c]⟩ n i ↔ (W.take n)[i]? = some c := by
  have h1 := PySem.StrLaws.subAt_one (mk W) c i
  have e1 : (⟨#[c]⟩ : Str).length = 1 := rfl
  have e2 : (mk W).cps.toList = W := cs_mk W
  rw [e2, e1, len_mk] at h1
  constructor
  · intro h
    have h2 : i + 1 ≤ n := h.1
    have h3 := h1.mp ⟨by omega, h.2⟩
    rw [List.getElem?_take_of_lt (by omega)]
    exact h3
  · intro h
    have hi : i < n := by
      rcases Nat.lt_or_ge i n with q | q
      · exact q
      · rw [List.getElem?_eq_none (by rw [List.length_take]; omega)] at h; cases h
    rw [List.getElem?_take_of_lt hi] at h
    exact ⟨hi, (h1.mpr h).2⟩
theorem rfind_mk (W : List Nat) (c n : Nat) : Txt.rfindIn (mk W) ⟨#[c]⟩ 0 (n : Int) = told (lst? c (W.take n)) := by
  have hfi : fromIndex (mk W).length (0 : Int) = 0 := by unfold fromIndex; rw [if_neg (by omega)]; omega
  have hti : toIndexW (mk W).length (n : Int) = min n W.length := by unfold toIndexW; rw [if_neg (by omega), len_mk]; omega
  unfold Txt.rfindIn
  rw [hfi, hti]
  have ht : W.take n = W.take (min n W.length) := by
    rcases Nat.le_total n W.length with h | h
    · rw [Nat.min_eq_left h]
    · rw [Nat.min_eq_right h, List.take_of_length_le h, List.take_length]
  rw [ht]
  have hle : min n W.length ≤ W.length := Nat.min_le_right _ _
  generalize min n W.length = m at hle
  rcases last_upto (mk W) ⟨#[c]⟩ m with ⟨h0, hn⟩ | ⟨i, h0, hi, hn⟩
  · rw [h0, lst_none fun i h => hn i ((at_mk W c m i hle).mpr h)]
    rfl
  · rw [h0, lst_some ((at_mk W c m i hle).mp hi) fun k hk h => hn k hk ((at_mk W c m k hle).mpr h)]
    rfl
/-- from the last take on, each take gets the latest put before it that no later take needs -/
def go (R W C : List Nat) : Nat → Nat → Nat
  | 0, _ => 0
  | k + 1, pl => match lst? (R.getD k 0) (W.take (min pl (C.getD k 0))) with
    | none => k + 1
    | some j => go R W C k j
theorem go_le (R W C : List Nat) : ∀ k pl, go R W C k pl ≤ k
  | 0, _ => Nat.le_refl _
  | k + 1, pl => by
    unfold go
    split
    · exact Nat.le_refl _
    · exact Nat.le_trans (go_le R W C k _) (Nat.le_succ _)
theorem go_stop {R W C : List Nat} {k pl : Nat} (h : lst? (R.getD k 0) (W.take (min pl (C.getD k 0))) = none) : go R W C (k + 1) pl = k + 1 := by
  unfold go
  rw [h]
theorem go_step {R W C : List Nat} {k pl j : Nat} (h : lst? (R.getD k 0) (W.take (min pl (C.getD k 0))) = some j) : go R W C (k + 1) pl = go R W C k j := by
  conv => lhs; unfold go
  rw [h]
theorem go_zero (R W C : List Nat) : ∀ k, go R W C k 0 = k
  | 0 => rfl
  | k + 1 => go_stop (by rw [Nat.zero_min, List.take_zero]; rfl)
/-- a put in front -/
theorem go_put (R W : List Nat) (c : Nat) : ∀ (k : Nat) (C : List Nat) (pl : Nat), k ≤ C.length → go R (c :: W) (C.map (· + 1)) k (pl + 1) = (if go R W C k pl = 0 then 0 else if R.getD (go R W C k pl - 1) 0 = c then go R W C k pl - 1 else go R W C k pl)
  | 0, C, pl, _ => rfl
  | k + 1, C, pl, hk => by
    have e1 : (C.map (· + 1)).getD k 0 = C.getD k 0 + 1 := by
      rw [List.getD_eq_getElem?_getD, List.getD_eq_getElem?_getD, List.getElem?_map, List.getElem?_eq_getElem (by omega)]
      rfl
    have e2 : (c :: W).take (min (pl + 1) (C.getD k 0 + 1)) = c :: W.take (min pl (C.getD k 0)) := by
      rw [show min (pl + 1) (C.getD k 0 + 1) = min pl (C.getD k 0) + 1 by omega, List.take_succ_cons]
    cases h : lst? (R.getD k 0) (W.take (min pl (C.getD k 0))) with
    | some j =>
      have h' : lst? (R.getD k 0) ((c :: W).take (min (pl + 1) ((C.map (· + 1)).getD k 0))) = some (j + 1) := by
        rw [e1, e2]
        show (match lst? (R.getD k 0) (W.take (min pl (C.getD k 0))) with | some j => some (j + 1) | none => _) = _
        rw [h]
      rw [go_step h', go_step h]
      exact go_put R W c k C j (by omega)
    | none =>
      rw [go_stop h, if_neg (by omega), Nat.add_sub_cancel]
      have h' : lst? (R.getD k 0) ((c :: W).take (min (pl + 1) ((C.map (· + 1)).getD k 0))) = (if c = R.getD k 0 then some 0 else none) := by
        rw [e1, e2]
        show (match lst? (R.getD k 0) (W.take (min pl (C.getD k 0))) with | some j => some (j + 1) | none => _) = _
        rw [h]
      by_cases q : c = R.getD k 0
      · rw [if_pos q] at h'
        rw [go_step h', go_zero, if_pos q.symm]
      · rw [if_neg q] at h'
        rw [go_stop h', if_neg fun z => q z.symm]
/-- a take in front -/
theorem go_take (R W C : List Nat) (r : Nat) : ∀ (k pl : Nat), go (r :: R) W (0 :: C) (k + 1) pl = go R W C k pl + 1
  | 0, pl => go_stop (by rw [show (0 :: C).getD 0 0 = 0 from rfl, Nat.min_zero, List.take_zero]; rfl)
  | k + 1, pl => by
    have e1 : (r :: R).getD (k + 1) 0 = R.getD k 0 := rfl
    have e2 : (0 :: C).getD (k + 1) 0 = C.getD k 0 := rfl
    cases h : lst? (R.getD k 0) (W.take (min pl (C.getD k 0))) with
    | none =>
      rw [go_stop h]
      exact go_stop (by rw [e1, e2]; exact h)
    | some j =>
      rw [go_step h, go_step (R := r :: R) (C := 0 :: C) (k := k + 1) (j := j) (by rw [e1, e2]; exact h)]
      exact go_take R W C r k j
/-- the takes that old items must serve -/
def pend : List Nat → List Nat
  | [] => []
  | c :: p => if 97 ≤ c then (if (pend p).getLast? = some c then (pend p).dropLast else pend p) else (c + 32) :: pend p
def coreN (p : List Nat) : Nat := go (tkS p) (puS p) (pcS 0 p) (tkS p).length (puS p).length
theorem tkS_put {c : Nat} (h : 97 ≤ c) (p : List Nat) : tkS (c :: p) = tkS p := by
  unfold tkS
  rw [List.filter_cons_of_neg (by simp; omega)]
theorem tkS_take {c : Nat} (h : ¬ 97 ≤ c) (p : List Nat) : tkS (c :: p) = (c + 32) :: tkS p := by
  unfold tkS
  rw [List.filter_cons_of_pos (by simp; omega), List.map_cons, low_up h]
theorem puS_put {c : Nat} (h : 97 ≤ c) (p : List Nat) : puS (c :: p) = c :: puS p := by
  unfold puS
  rw [List.filter_cons_of_pos (by simp; omega)]
theorem puS_take {c : Nat} (h : ¬ 97 ≤ c) (p : List Nat) : puS (c :: p) = puS p := by
  unfold puS
  rw [List.filter_cons_of_neg (by simp; omega)]
theorem pcS_succ : ∀ (p : List Nat) (n : Nat), pcS (n + 1) p = (pcS n p).map (· + 1)
  | [], _ => rfl
  | c :: p, n => by
    rw [pcS_cons, pcS_cons]
    split
    · exact pcS_succ p (n + 1)
    · rw [List.map_cons, pcS_succ p n]
theorem pcS_put {c : Nat} (h : 97 ≤ c) (p : List Nat) : pcS 0 (c :: p) = (pcS 0 p).map (· + 1) := by rw [pcS_cons, if_pos h]; exact pcS_succ p 0
theorem pcS_take {c : Nat} (h : ¬ 97 ≤ c) (p : List Nat) : pcS 0 (c :: p) = 0 :: pcS 0 p := by rw [pcS_cons, if_neg h]
theorem pcS_len : ∀ (p : List Nat) (n : Nat), (pcS n p).length = (tkS p).length
  | [], _ => rfl
  | c :: p, n => by
    rw [pcS_cons]
    split
    · rename_i h; rw [tkS_put h]; exact pcS_len p (n + 1)
    · rename_i h; rw [tkS_take h, List.length_cons, List.length_cons, pcS_len p n]
/-- the core's takes -/
theorem pend_core : ∀ p : List Nat, pend p = (tkS p).take (coreN p) ∧ coreN p ≤ (tkS p).length
  | [] => ⟨rfl, Nat.le_refl _⟩
  | c :: p => by
    obtain ⟨ih, hle⟩ := pend_core p
    have hl : (pend p).length = coreN p := by rw [ih, List.length_take]; omega
    by_cases h : 97 ≤ c
    · have e : pend (c :: p) = if (pend p).getLast? = some c then (pend p).dropLast else pend p := by
        show (if 97 ≤ c then _ else _) = _
        rw [if_pos h]
      have ec : coreN (c :: p) = (if coreN p = 0 then 0 else if (tkS p).getD (coreN p - 1) 0 = c then coreN p - 1 else coreN p) := by
        have := go_put (tkS p) (puS p) c (tkS p).length (pcS 0 p) (puS p).length (by rw [pcS_len]; exact Nat.le_refl _)
        unfold coreN
        rw [tkS_put h, puS_put h, pcS_put h, List.length_cons]
        exact this
      rw [e, ec, tkS_put h]
      by_cases h0 : coreN p = 0
      · rw [if_pos h0]
        have : pend p = [] := List.length_eq_zero_iff.mp (by omega)
        rw [this]
        exact ⟨rfl, Nat.zero_le _⟩
      rw [if_neg h0]
      have hg : (pend p).getLast? = some ((tkS p).getD (coreN p - 1) 0) := by
        rw [List.getLast?_eq_getElem?, hl, ih, List.getElem?_take_of_lt (by omega), List.getElem?_eq_getElem (by omega), List.getD_eq_getElem?_getD, List.getElem?_eq_getElem (by omega)]
        rfl
      by_cases q : (tkS p).getD (coreN p - 1) 0 = c
      · rw [if_pos q, if_pos (by rw [hg, q]), List.dropLast_eq_take, hl, ih, List.take_take, Nat.min_eq_left (by omega)]
        exact ⟨rfl, by omega⟩
      · rw [if_neg q, if_neg (by rw [hg]; intro z; exact q (Option.some.inj z))]
        exact ⟨ih, hle⟩
    · have e : pend (c :: p) = (c + 32) :: pend p := by
        show (if 97 ≤ c then _ else _) = _
        rw [if_neg h]
      have ec : coreN (c :: p) = coreN p + 1 := by
        unfold coreN
        rw [tkS_take h, puS_take h, pcS_take h, List.length_cons]
        exact go_take (tkS p) (puS p) (pcS 0 p) (c + 32) (tkS p).length (puS p).length
      rw [e, ec, tkS_take h, List.take_succ_cons, List.length_cons]
      exact ⟨by rw [ih], by omega⟩
theorem sub_snoc {u z : List Nat} {c : Nat} : List.Sublist u (z ++ [c]) ↔ List.Sublist (if u.getLast? = some c then u.dropLast else u) z := by
  rcases List.eq_nil_or_concat u with e | ⟨u', x, e⟩
  · subst e
    simp
  · subst e
    rw [List.concat_eq_append, List.getLast?_concat, List.dropLast_concat]
    by_cases h : x = c
    · subst h
      rw [if_pos rfl]
      exact ⟨fun s => by
        have := s.reverse
        simp only [List.reverse_append, List.reverse_cons, List.reverse_nil, List.nil_append, List.singleton_append] at this
        have := List.cons_sublist_cons.mp this
        simpa using this.reverse, fun s => s.append (List.Sublist.refl _)⟩
    · rw [if_neg fun q => h (Option.some.inj q)]
      constructor
      · intro s
        have := s.reverse
        simp only [List.reverse_append, List.reverse_cons, List.reverse_nil, List.nil_append, List.singleton_append] at this
        cases this with
        | cons _ s' => simpa using s'.reverse
        | cons_cons => exact absurd rfl h
      · intro s
        exact s.trans (List.sublist_append_left ..)
theorem sub_fst {u z : List Nat} {x k : Nat} (e : fst? x z = some k) : List.Sublist (x :: u) z ↔ List.Sublist u (z.drop (k + 1)) := by
  induction z generalizing k with
  | nil => simp [fst?] at e
  | cons y z ih =>
    unfold fst? at e
    by_cases h : y = x
    · rw [if_pos h] at e
      cases e
      rw [h, List.cons_sublist_cons]
      rfl
    · rw [if_neg h] at e
      cases q : fst? x z with
      | none => rw [q] at e; cases e
      | some j =>
        rw [q] at e
        have e' : j + 1 = k := Option.some.inj e
        subst e'
        rw [List.drop_succ_cons, ← ih q]
        constructor
        · intro s
          cases s with
          | cons _ s' => exact s'
          | cons_cons => exact absurd rfl h
        · intro s
          exact s.cons y
/-- a program succeeds where the core's takes are within -/
theorem bst_iff : ∀ (p z : List Nat), bst p z ≠ none ↔ List.Sublist (pend p) z
  | [], z => by
    constructor
    · intro _; exact List.nil_sublist z
    · intro _ h; cases h
  | c :: p, z => by
    by_cases h : 97 ≤ c
    · have e : pend (c :: p) = if (pend p).getLast? = some c then (pend p).dropLast else pend p := by
        show (if 97 ≤ c then _ else _) = _
        rw [if_pos h]
      rw [bst_put h, bst_iff p, sub_snoc, e]
    · have e : pend (c :: p) = (c + 32) :: pend p := by
        show (if 97 ≤ c then _ else _) = _
        rw [if_neg h]
      rw [e]
      cases q : fst? (c + 32) z with
      | none =>
        rw [bst_fail h q]
        constructor
        · intro z; exact absurd rfl z
        · intro s
          exact absurd (s.subset (List.mem_cons_self ..)) (fst_mem.mp q)
      | some k =>
        rw [bst_take h q, bst_iff p, sub_fst q]
theorem bst_prefix (p : List Nat) {m : Nat} (hm : m ≤ (tkS p).length) : bst p ((tkS p).take m) ≠ none ↔ coreN p ≤ m := by
  obtain ⟨e, hle⟩ := pend_core p
  rw [bst_iff, e]
  constructor
  · intro s
    have := s.length_le
    rw [List.length_take, List.length_take] at this
    omega
  · intro h
    exact (List.take_prefix_take_left h).sublist
end Gn

set_option Elab.async false
set_option linter.all false
set_option maxRecDepth 100000
set_option maxHeartbeats 4000000
/-! programs that commute -/
namespace Gn
open PySem PySem.Spec PyProof.Rows L2 Own Exn Mth Vld
def vlD (p : List Nat) : PyData := .tuple [.str (mk (tkS p)), .str (mk (puS p)), .int (coreN p : Nat)]
/-- do p and q commute -/
def comB (p q : List Nat) : Bool := decide (tkS (p ++ q) = tkS (q ++ p) ∧ puS (p ++ q) = puS (q ++ p) ∧ coreN (p ++ q) = coreN (q ++ p))
theorem tk_mem {p : List Nat} (h : ∀ c ∈ p, c ∈ st16) : ∀ c ∈ tkS p, c ∈ lo8 := by
  intro c hc
  unfold tkS at hc
  obtain ⟨x, hx, rfl⟩ := List.mem_map.mp hc
  obtain ⟨h1, h2⟩ := List.mem_filter.mp hx
  have h3 := h x h1
  rw [mem_st16] at h3
  have h4 : x < 97 := of_decide_eq_true h2
  rw [mem_lo8]
  unfold lowC
  rw [if_pos h4]
  omega
theorem pu_mem {p : List Nat} (h : ∀ c ∈ p, c ∈ st16) : ∀ c ∈ puS p, c ∈ lo8 := by
  intro c hc
  unfold puS at hc
  obtain ⟨h1, h2⟩ := List.mem_filter.mp hc
  have h3 := h c h1
  rw [mem_st16] at h3
  have h4 : 97 ≤ c := of_decide_eq_true h2
  rw [mem_lo8]
  omega
theorem vlD_sh {p : List Nat} (h : ∀ c ∈ p, c ∈ st16) : SeqAt.shaped (vlD p) = true := by
  have h1 := strOk_mk fun c hc => lo8_lt (tk_mem h c hc)
  have h2 := strOk_mk fun c hc => lo8_lt (pu_mem h c hc)
  unfold vlD SeqAt.shaped
  simp [PyData.canLay0, PyData.canLayAll0, PyData.depth, PyData.depthAll, h1, h2]
theorem mk_inj {l m : List Nat} (h : mk l = mk m) : l = m := by rw [← cs_mk l, h, cs_mk]
theorem vlD_eqv (p q : List Nat) : PyData.eqv (vlD p) (vlD q) = decide (tkS p = tkS q ∧ puS p = puS q ∧ coreN p = coreN q) := by
  have e : ∀ l m : List Nat, (mk l == mk m) = decide (l = m) := fun l m => by
    by_cases h : l = m
    · rw [decide_eq_true h, h]; exact beq_self_eq_true _
    · rw [decide_eq_false h]
      exact beq_eq_false_iff_ne.mpr fun z => h (mk_inj z)
  have e2 : (((coreN p : Nat) : Int) == ((coreN q : Nat) : Int)) = decide (coreN p = coreN q) := by
    by_cases h : coreN p = coreN q
    · rw [decide_eq_true h, h]; exact beq_self_eq_true _
    · rw [decide_eq_false h]
      exact beq_eq_false_iff_ne.mpr fun z => h (by omega)
  unfold vlD
  simp only [PyData.eqv, PyData.eqvAll, e, e2, Bool.and_true, Bool.decide_and]
theorem comB_pow (l : List Nat) : comB (List.replicate 2 l).flatten (List.replicate 3 l).flatten = true := by
  have e : (List.replicate 2 l).flatten ++ (List.replicate 3 l).flatten = (List.replicate 3 l).flatten ++ (List.replicate 2 l).flatten := by
    simp [List.replicate]
  unfold comB
  rw [e]
  exact decide_eq_true ⟨rfl, rfl, rfl⟩
theorem com1 : comB (List.replicate 400 97) (List.replicate 200 [97, 65]).flatten = true := by decide +kernel
theorem com2 : comB (List.replicate 400 97) (List.replicate 200 [98, 65]).flatten = false := by decide +kernel
theorem flat_mem {l : List Nat} {n x : Nat} (h : x ∈ (List.replicate n l).flatten) : x ∈ l := by
  obtain ⟨m, hm, hx⟩ := List.mem_flatten.mp h
  rw [(List.mem_replicate.mp hm).2] at hx
  exact hx
theorem flat_len (l : List Nat) (n : Nat) : (List.replicate n l).flatten.length = n * l.length := by simp
theorem b1 {K : PySem.W.Frag} (b : Bool) (H' : Hp) (Q : VK) (q : Q (.str (PyData.shown (.bool b))) H') : rReprR K [.bl b] H' Q := .inl ⟨_, .bool b, rfl, .bl b, by cases b <;> decide +kernel, by cases b <;> decide +kernel, by cases b <;> decide +kernel, le_line (by cases b <;> decide +kernel), q⟩
theorem comB_symm (p q : List Nat) : comB p q = comB q p := by
  unfold comB
  exact decide_eq_decide.mpr ⟨fun ⟨a, b, c⟩ => ⟨a.symm, b.symm, c.symm⟩, fun ⟨a, b, c⟩ => ⟨a.symm, b.symm, c.symm⟩⟩
theorem and_val {c e : Bool} {tb : TE} {σ : L2.St} {H : Hp} {Q : VK} (htb : ∀ Q' : VK, (∀ H', Same H H' → Q' (.bl e) H') → tb σ H Q') (q : ∀ H', Same H H' → Q (.bl (c && e)) H') : ∃ k, V.bl c = V.bl k ∧ (if k = true then tb σ H Q else Q (.bl false) H) := by
  cases c with
  | false => exact ⟨false, rfl, iteF (q H (Same.refl H))⟩
  | true => exact ⟨true, rfl, iteT (htb Q q)⟩
end Gn

set_option Elab.async false
set_option linter.all false
set_option maxRecDepth 100000
set_option maxHeartbeats 4000000
/-! own classes: made where an error may be raised, static methods, class methods -/
namespace Cmx
open PySem PySem.Spec PyProof.Rows L2 ClX
section
variable {X : Cx} {CX : CXT} {k i : Nat} {f C p g : Addr} {fd : FuncData} {ps ks : List Str} {sp : Sp} {E : L2.St → XK} {x m : Str} {mc : Value} {pp pos apos : Pos} {e o : Expr} {es : List Expr} {kws : List Keyword} {ta : TE} {t tk : TA}
theorem run_makeS {pins : List (Addr × Obj)} {σ : L2.St} {H : Hp} {s : Shared} {Q : VK} {us : List Value} {vs : List V} (M : Mk X.K C f) (F : FnOk X.prog X.w X.K X.mg X.base CX k f fd ps sp) (hr : Room (k + 1) X.A) (hb : Binds X.K fd ps [])
    (hx : PassesAt CX X σ (E σ)) (I : Inv X pins σ H s) (r : Vals vs us)
    (h : ∀ x dx, H x = none → H dx = none → dx ≠ x → sp (.ref x :: vs) (upd (upd H dx (.own x)) x (.ins C dx [])) (fun v H2 => v = .non ∧ Q (.ref x) H2) (E σ)) :
    wpAny (model X.prog X.w) X.A (call (.ref C) us) (EP X pins σ Q) X.xe s := by
  have hq := h (s.heap.objs.size + 1) s.heap.objs.size (I.hok.fresh (Nat.le_succ _)) (I.hok.fresh (Nat.le_refl _)) (Nat.ne_of_lt (Nat.lt_succ_self _))
  have I2 := Inv.made (C := C) I
  have r2 : Vals (V.ref (s.heap.objs.size + 1) :: vs) (Value.ref (s.heap.objs.size + 1) :: us) := .cons rfl r
  have hl : (Value.ref (s.heap.objs.size + 1) :: us ++ []).length = ps.length := by
    rw [List.append_nil]
    have e := r2.length
    rw [F.len _ _ _ _ hq] at e
    exact e.symm
  have b := hb _ (Value.ref (s.heap.objs.size + 1) :: us) I2.kIn hl
  rw [List.append_nil] at b
  refine wpAny_call (make_map (f := f) I.kIn M.makes M.init (beq_iff_eq.mp M.fn) (codeAny_mono (F.run _ X.stack _ _ ⟨Value.ref (s.heap.objs.size + 1) :: us, []⟩ (Value.ref (s.heap.objs.size + 1) :: us) _ _ (E σ) (hr.make C us [])
    (I2.env0.make C us []) b r2 hq) fun r s' hq' => ?_))
  cases r with
  | error e => exact hx pins _ _ e s' I2 hq'
  | ok fl =>
    cases fl with
    | ret u =>
      obtain ⟨v, H', I3, rv, ev, q3⟩ := I2.after hq'
      subst ev
      exact ⟨rv, ⟨V.ref (s.heap.objs.size + 1), H', I3, rfl, q3⟩⟩
    | next => exact False.elim hq'
    | brk => exact False.elim hq'
    | cont => exact False.elim hq'
def tMakeS (C : Addr) (sp : Sp) (E : L2.St → XK) (t : TA) : TE := fun σ H Q => t σ H fun vs H1 => ∀ x dx, H1 x = none → H1 dx = none → dx ≠ x → sp (.ref x :: vs) (upd (upd H1 dx (.own x)) x (.ins C dx [])) (fun v H2 => v = .non ∧ Q (.ref x) H2) (E σ)
theorem pe_makeS (M : Mk X.K C f) (F : FnOk X.prog X.w X.K X.mg X.base CX k f fd ps sp) (hr : Room (k + 1) X.A) (hg : Gl X x) (hm : X.mg x = some (.ref C)) (hb : Binds X.K fd ps []) (hx : ∀ σ, PassesAt CX X σ (E σ))
    (ha : PA X (e :: es) t) (hdb : (x == ("__debug__" : Str)) = false := by decide) (he : starEach (e :: es) X.env = (false, eval e X.env) :: starEach es X.env := by rfl) (hpl : (backTo pos (starEach es X.env)).any (·.1) = false := by rfl) :
    PE X (.Call (.Name x pp) (e :: es) [] pos) (tMakeS C sp E t) := by
  refine ⟨fun pins s σ H Q I h => ?_⟩
  refine wpAny_Call_Name_kw (ld_glob I hg hm ?_ hdb)
  refine PySem.W.callWith_K (h₀ := X.base) I.ok.mod.kin M.kp (thn (ha.run pos pins s σ H _ I h) fun us s1 ⟨vs, H1, I1, r, q⟩ => ⟨I1.kIn, ?_⟩) he hpl
  exact run_makeS M F hr hb (hx σ) I1 r q
/-- cls(..), the class in slot i -/
def tMakeL (i : Nat) (C : Addr) (sp : Sp) (E : L2.St → XK) (t : TA) : TE := fun σ H Q => σ[i]? = some (some (.ref C)) ∧ tMakeS C sp E t σ H Q
theorem pe_makeL (M : Mk X.K C f) (F : FnOk X.prog X.w X.K X.mg X.base CX k f fd ps sp) (hr : Room (k + 1) X.A) (hN : X.N[i]? = some x) (hv : Vis X.env.scope x) (hb : Binds X.K fd ps []) (hx : ∀ σ, PassesAt CX X σ (E σ))
    (ha : PA X (e :: es) t) (hdb : (x == ("__debug__" : Str)) = false := by decide) (hcd : (x == ("__classdict__" : Str)) = false := by decide) (he : starEach (e :: es) X.env = (false, eval e X.env) :: starEach es X.env := by rfl) (hpl : (backTo pos (starEach es X.env)).any (·.1) = false := by rfl) :
    PE X (.Call (.Name x pp) (e :: es) [] pos) (tMakeL i C sp E t) := by
  refine ⟨fun pins s σ H Q I h => ?_⟩
  obtain ⟨hs, ht⟩ := h
  refine wpAny_Call_Name_kw (thn ((pe_var (pos := pp) hN hv hdb hcd).run pins s σ H (fun v H1 => v = .ref C ∧ H1 = H) I ⟨.ref C, hs, rfl, rfl⟩) fun u s1 ⟨v, H1, I1, r1, q1⟩ => ?_)
  obtain ⟨rfl, rfl⟩ := q1
  cases r1
  refine PySem.W.callWith_K (h₀ := X.base) I.ok.mod.kin M.kp (thn (ha.run pos pins s1 σ _ _ I1 ht) fun us s2 ⟨vs, H2, I2, r, q⟩ => ⟨I2.kIn, ?_⟩) he hpl
  exact run_makeS M F hr hb (hx σ) I2 r q
/-- o.m(..) where what is raised is wished for at the slots -/
def tMethX (C : Addr) (m : Str) (sp : Sp) (E : L2.St → XK) (ta : TE) (t : TA) : TE := fun σ H Q => ta σ H fun x H1 => ∃ a dx fs, x = .ref a ∧ H1 a = some (.ins C dx fs) ∧ fs.lookup m = none ∧ t σ H1 fun vs H2 => sp (.ref a :: vs) H2 Q (E σ)
theorem pe_methX {pl : Sem Bool} (he : PE X o ta) (c : Cls X.K C) (hm : Meth X.K C m f) (F : FnOk X.prog X.w X.K X.mg X.base CX k f fd ps sp) (hr : Room k X.A) (hb : Binds X.K fd ps []) (hx : ∀ σ, PassesAt CX X σ (E σ)) (ha : PA X (e :: es) t)
    (hst : starEach (e :: es) X.env = (false, eval e X.env) :: starEach es X.env := by rfl) (hpl : (backTo pos (starEach es X.env)).any (·.1) = false := by rfl)
    (ht : eval (.Call (.Attribute o m apos) (e :: es) [] pos) X.env = (do
      let ov ← eval o X.env
      standAt apos.atName
      let (f, first) ← holding [ov] (getMethod ov m pl)
      callWith pos f first (backTo pos (starEach (e :: es) X.env)) (backToKw pos (keywordEach [] X.env))) := by rfl) :
    PE X (.Call (.Attribute o m apos) (e :: es) [] pos) (tMethX C m sp E ta t) := by
  refine ⟨fun pins s σ H Q I h => ?_⟩
  refine PySem.W.methodCall_KW (pl := pl) (thn (he.run pins s σ H _ I h) fun u s1 ⟨x, H1, I1, rx, a, dx, fs, ex, ea, l, q⟩ => ?_) ht
  subst ex
  obtain rfl : u = Value.ref a := rx
  refine getmeth_ok I1 ea c hm l ?_
  refine PySem.W.callWith_K (first := [.ref a]) (h₀ := X.base) I.ok.mod.kin hm.kp (thn (ha.run pos pins s1 σ H1 _ I1 q) fun us s2 ⟨vs, H2, I2, r, q2⟩ => ⟨I2.kIn, ?_⟩) hst hpl
  exact run_fnS (us := .ref a :: us) (vs := .ref a :: vs) F hr hb (hx σ) I2 (.cons rfl r) q2
theorem pe_methX0 {pl : Sem Bool} (he : PE X o ta) (c : Cls X.K C) (hm : Meth X.K C m f) (F : FnOk X.prog X.w X.K X.mg X.base CX k f fd ps sp) (hr : Room k X.A) (hb : Binds X.K fd ps []) (hx : ∀ σ, PassesAt CX X σ (E σ))
    (ht : eval (.Call (.Attribute o m apos) [] [] pos) X.env = (do
      let ov ← eval o X.env
      standAt apos.atName
      let (f, first) ← holding [ov] (getMethod ov m pl)
      callWith pos f first (backTo pos (starEach [] X.env)) (backToKw pos (keywordEach [] X.env))) := by rfl) :
    PE X (.Call (.Attribute o m apos) [] [] pos) (tMethX C m sp E ta tNil) := by
  refine ⟨fun pins s σ H Q I h => ?_⟩
  refine PySem.W.methodCall_KW (pl := pl) (thn (he.run pins s σ H _ I h) fun u s1 ⟨x, H1, I1, rx, a, dx, fs, ex, ea, l, q⟩ => ?_) ht
  subst ex
  obtain rfl : u = Value.ref a := rx
  refine getmeth_ok I1 ea c hm l ?_
  exact PySem.W.callWith_K0 (first := [.ref a]) I1.kIn hm.kp (run_fnS (us := [.ref a]) (vs := [.ref a]) F hr hb (hx σ) I1 (.cons rfl .nil) q)
/-- o.m(k = e, ..), the keywords in the order of the parameters behind the first -/
theorem pe_methXK {pl : Sem Bool} (he : PE X o ta) (c : Cls X.K C) (hm : Meth X.K C m f) (F : FnOk X.prog X.w X.K X.mg X.base CX k f fd ps sp) (hr : Room k X.A)
    (hb : ∀ (s : Shared) (x : Value) (us : List Value), X.K.In s.heap → (x :: us).length = ps.length → BindsTo s fd ⟨[x], ks.zip us⟩ (ps.zip (x :: us))) (hx : ∀ σ, PassesAt CX X σ (E σ)) (hkw : PK X kws tk)
    (hal : (backToKw pos (keywordEach kws X.env)).all (·.1.isSome) = true := by rfl) (hks : (backToKw pos (keywordEach kws X.env)).filterMap (·.1) = ks := by rfl)
    (hpl : ((backTo pos (starEach [] X.env)).any (·.1) || (backToKw pos (keywordEach kws X.env)).any (·.1.isNone)) = false := by rfl)
    (ht : eval (.Call (.Attribute o m apos) [] kws pos) X.env = (do
      let ov ← eval o X.env
      standAt apos.atName
      let (f, first) ← holding [ov] (getMethod ov m pl)
      callWith pos f first (backTo pos (starEach [] X.env)) (backToKw pos (keywordEach kws X.env))) := by rfl) :
    PE X (.Call (.Attribute o m apos) [] kws pos) (tMethX C m sp E ta tk) := by
  refine ⟨fun pins s σ H Q I h => ?_⟩
  refine PySem.W.methodCall_KW (pl := pl) (thn (he.run pins s σ H _ I h) fun u s1 ⟨x, H1, I1, rx, a, dx, fs, ex, ea, l, q⟩ => ?_) ht
  subst ex
  obtain rfl : u = Value.ref a := rx
  refine getmeth_ok I1 ea c hm l ?_
  refine PySem.W.callWith_KW0 (first := [.ref a]) (h₀ := X.base) I.ok.mod.kin hm.kp hal (thn (hkw.run pos pins s1 σ H1 _ I1 q) fun us s2 ⟨vs, H2, I2, rv, q2⟩ => ⟨I2.kIn, ?_⟩) hpl
  have hl : (Value.ref a :: us).length = ps.length := by
    have := (show Vals (V.ref a :: vs) (Value.ref a :: us) from .cons rfl rv).length
    rw [← this]
    exact F.len _ _ _ _ q2
  have b := hb s2 (.ref a) us I2.kIn hl
  rw [hks]
  refine wpAny_call (codeAny_mono (F.run X.A X.stack s2 H2 ⟨[.ref a], ks.zip us⟩ (.ref a :: us) (.ref a :: vs) Q (E σ) hr I2.env0 b (.cons rfl rv) q2) fun r s' hq => ?_)
  cases r with
  | error e => exact hx σ pins H2 s2 e s' I2 hq
  | ok fl =>
    cases fl with
    | ret u => exact I2.after hq
    | next => exact False.elim hq
    | brk => exact False.elim hq
    | cont => exact False.elim hq
/-- C.m is a static method: its record at p, its def at g -/
structure SMet (K : PySem.W.Frag) (C : Addr) (mc : Value) (m : Str) (p g : Addr) : Prop where
  at_ : PySem.W.findCls K (.ref C) mc m = some (.get (.builtin "staticmethod.__get__") (.ref p) .none (.ref C))
  rc : ∃ rest, PySem.W.recIn K p "staticmethod" = some (.ref g :: rest)
  kp : PySem.W.keepIn K (.ref g) = true
def tSMeth (C : Addr) (sp : Sp) (E : L2.St → XK) (ta : TE) (t : TA) : TE := fun σ H Q => ta σ H fun x H1 => x = .ref C ∧ t σ H1 fun vs H2 => sp vs H2 Q (E σ)
theorem pe_smeth {pl : Sem Bool} (he : PE X o ta) (r : CRead X.K C mc) (c : SMet X.K C mc m p g) (F : FnOk X.prog X.w X.K X.mg X.base CX k g fd ps sp) (hr : Room k X.A) (hb : Binds X.K fd ps []) (hx : ∀ σ, PassesAt CX X σ (E σ)) (ha : PA X (e :: es) t)
    (hst : starEach (e :: es) X.env = (false, eval e X.env) :: starEach es X.env := by rfl) (hpl : (backTo pos (starEach es X.env)).any (·.1) = false := by rfl)
    (ht : eval (.Call (.Attribute o m apos) (e :: es) [] pos) X.env = (do
      let ov ← eval o X.env
      standAt apos.atName
      let (f, first) ← holding [ov] (getMethod ov m pl)
      callWith pos f first (backTo pos (starEach (e :: es) X.env)) (backToKw pos (keywordEach [] X.env))) := by rfl) :
    PE X (.Call (.Attribute o m apos) (e :: es) [] pos) (tSMeth C sp E ta t) := by
  refine ⟨fun pins s σ H Q I h => ?_⟩
  refine PySem.W.methodCall_KW (pl := pl) (thn (he.run pins s σ H _ I h) fun u s1 ⟨x, H1, I1, rx, ex, q⟩ => ?_) ht
  subst ex
  obtain rfl : u = Value.ref C := rx
  obtain ⟨rest, hp⟩ := c.rc
  refine PySem.W.method_cls I1.kIn r.ga (PySem.W.cls_bind I1.kIn r.rd c.at_ (wpAny_call (PySem.W.sm_get (s := { s1 with toks := s1.toks + 1 }) I1.kIn hp (PySem.W.handed_on rfl ?_))))
  have I2 := I1.tok (s1.toks + 1)
  refine PySem.W.callWith_K (h₀ := X.base) I.ok.mod.kin c.kp (thn (ha.run pos pins _ σ H1 _ I2 q) fun us s2 ⟨vs, H2, I3, rv, q2⟩ => ⟨I3.kIn, ?_⟩) hst hpl
  exact run_fnS F hr hb (hx σ) I3 rv q2
/-- the call of a bound class method -/
theorem run_cmS {pins : List (Addr × Obj)} {σ : L2.St} {H : Hp} {s : Shared} {q : Addr} {Q : VK} {us : List Value} {vs : List V} (F : FnOk X.prog X.w X.K X.mg X.base CX k g fd ps sp) (hr : Room k X.A) (hb : Binds X.K fd ps []) (hx : PassesAt CX X σ (E σ)) (I : Inv X ((q, PySem.W.methodObj (.ref g) (.ref C)) :: pins) σ H s)
    (r : Vals vs us) (h : sp (.ref C :: vs) H Q (E σ)) : wpAny (model X.prog X.w) X.A (call (.ref q) us) (EP X pins σ Q) X.xe s := by
  have hl : (Value.ref C :: us).length = ps.length := by
    have := (show Vals (V.ref C :: vs) (Value.ref C :: us) from .cons rfl r).length
    rw [← this]
    exact F.len _ _ _ _ h
  have b := hb s (.ref C :: us) I.kIn (by rw [List.append_nil]; exact hl)
  rw [List.append_nil] at b
  have z : wpAny (model X.prog X.w) X.A (call (.ref q) us) (EP X ((q, PySem.W.methodObj (.ref g) (.ref C)) :: pins) σ Q) X.xe s := by
    refine wpAny_call (PySem.W.method_call (pin_at I) (codeAny_mono (F.run X.A X.stack s H ⟨.ref C :: us, []⟩ (.ref C :: us) (.ref C :: vs) Q (E σ) hr I.env0 b (.cons rfl r) h) fun r s' hq => ?_))
    cases r with
    | error e => exact hx _ H s e s' I hq
    | ok fl =>
      cases fl with
      | ret u => exact I.after hq
      | next => exact False.elim hq
      | brk => exact False.elim hq
      | cont => exact False.elim hq
  exact thn z fun _ _ y => unpinE y
def tCMethS (C : Addr) (sp : Sp) (E : L2.St → XK) (ta : TE) (t : TA) : TE := fun σ H Q => ta σ H fun x H1 => x = .ref C ∧ t σ H1 fun vs H2 => sp (.ref C :: vs) H2 Q (E σ)
theorem pe_cmethS {pl : Sem Bool} (he : PE X o ta) (r : CRead X.K C mc) (c : CMet X.K C mc m p g) (F : FnOk X.prog X.w X.K X.mg X.base CX k g fd ps sp) (hr : Room k X.A) (hb : Binds X.K fd ps []) (hx : ∀ σ, PassesAt CX X σ (E σ)) (ha : PA X (e :: es) t)
    (hst : starEach (e :: es) X.env = (false, eval e X.env) :: starEach es X.env := by rfl) (hpl : (backTo pos (starEach es X.env)).any (·.1) = false := by rfl)
    (ht : eval (.Call (.Attribute o m apos) (e :: es) [] pos) X.env = (do
      let ov ← eval o X.env
      standAt apos.atName
      let (f, first) ← holding [ov] (getMethod ov m pl)
      callWith pos f first (backTo pos (starEach (e :: es) X.env)) (backToKw pos (keywordEach [] X.env))) := by rfl) :
    PE X (.Call (.Attribute o m apos) (e :: es) [] pos) (tCMethS C sp E ta t) := by
  refine ⟨fun pins s σ H Q I h => ?_⟩
  refine PySem.W.methodCall_KW (pl := pl) (thn (he.run pins s σ H _ I h) fun u s1 ⟨x, H1, I1, rx, ex, q⟩ => ?_) ht
  subst ex
  obtain rfl : u = Value.ref C := rx
  refine getmethcm_ok I1 r c fun s2 I2 => ?_
  refine callwith_cm I2 (base_none I1 (Nat.le_refl _)) c.fi (thn (ha.run pos _ s2 σ H1 _ I2 q) fun us s3 ⟨vs, H2, I3, rv, q2⟩ => ⟨⟨pin_at I3, I3.kIn⟩, ?_⟩) hst hpl
  exact run_cmS F hr hb (hx σ) I3 rv q2
/-- C.m() -/
theorem pe_cmethS0 {pl : Sem Bool} (he : PE X o ta) (r : CRead X.K C mc) (c : CMet X.K C mc m p g) (F : FnOk X.prog X.w X.K X.mg X.base CX k g fd ps sp) (hr : Room k X.A) (hb : Binds X.K fd ps []) (hx : ∀ σ, PassesAt CX X σ (E σ))
    (ht : eval (.Call (.Attribute o m apos) [] [] pos) X.env = (do
      let ov ← eval o X.env
      standAt apos.atName
      let (f, first) ← holding [ov] (getMethod ov m pl)
      callWith pos f first (backTo pos (starEach [] X.env)) (backToKw pos (keywordEach [] X.env))) := by rfl) :
    PE X (.Call (.Attribute o m apos) [] [] pos) (tCMethS C sp E ta tNil) := by
  refine ⟨fun pins s σ H Q I h => ?_⟩
  refine PySem.W.methodCall_KW (pl := pl) (thn (he.run pins s σ H _ I h) fun u s1 ⟨x, H1, I1, rx, ex, q⟩ => ?_) ht
  subst ex
  obtain rfl : u = Value.ref C := rx
  refine getmethcm_ok I1 r c fun s2 I2 => ?_
  exact PySem.W.callWith_M0 (first := []) ⟨pin_at I2, I2.kIn⟩ c.fi (run_cmS (us := []) F hr hb (hx σ) I2 .nil q)
/-- C.m(k = e, ..), the keywords in the order of the parameters behind the first -/
theorem pe_cmethK {pl : Sem Bool} (he : PE X o ta) (r : CRead X.K C mc) (c : CMet X.K C mc m p g) (F : FnOk X.prog X.w X.K X.mg X.base CX k g fd ps sp) (hr : Room k X.A)
    (hb : ∀ (s : Shared) (us : List Value), X.K.In s.heap → (Value.ref C :: us).length = ps.length → BindsTo s fd ⟨[.ref C], ks.zip us⟩ (ps.zip (.ref C :: us))) (hx : ∀ σ, PassesAt CX X σ (E σ)) (hkw : PK X kws tk)
    (hal : (backToKw pos (keywordEach kws X.env)).all (·.1.isSome) = true := by rfl) (hks : (backToKw pos (keywordEach kws X.env)).filterMap (·.1) = ks := by rfl)
    (hpl : ((backTo pos (starEach [] X.env)).any (·.1) || (backToKw pos (keywordEach kws X.env)).any (·.1.isNone)) = false := by rfl)
    (ht : eval (.Call (.Attribute o m apos) [] kws pos) X.env = (do
      let ov ← eval o X.env
      standAt apos.atName
      let (f, first) ← holding [ov] (getMethod ov m pl)
      callWith pos f first (backTo pos (starEach [] X.env)) (backToKw pos (keywordEach kws X.env))) := by rfl) :
    PE X (.Call (.Attribute o m apos) [] kws pos) (tCMethS C sp E ta tk) := by
  refine ⟨fun pins s σ H Q I h => ?_⟩
  refine PySem.W.methodCall_KW (pl := pl) (thn (he.run pins s σ H _ I h) fun u s1 ⟨x, H1, I1, rx, ex, q⟩ => ?_) ht
  subst ex
  obtain rfl : u = Value.ref C := rx
  refine getmethcm_ok I1 r c fun s2 I2 => ?_
  refine PySem.W.callWith_of hpl (PySem.W.keeps_M c.fi) (evalArgs_kw2_nil hal (thn (hkw.run pos _ s2 σ H1 _ I2 q) fun us s3 ⟨vs, H2, I3, rv, q2⟩ => ⟨⟨pin_at I3, I3.kIn⟩, ?_⟩))
  have hl : (Value.ref C :: us).length = ps.length := by
    have := (show Vals (V.ref C :: vs) (Value.ref C :: us) from .cons rfl rv).length
    rw [← this]
    exact F.len _ _ _ _ q2
  have b := hb s3 us I3.kIn hl
  rw [hks]
  have z : wpAny (model X.prog X.w) X.A (call (.ref s1.heap.objs.size) [] (ks.zip us)) (EP X ((s1.heap.objs.size, PySem.W.methodObj (.ref g) (.ref C)) :: pins) σ Q) X.xe s3 := by
    refine wpAny_call (PySem.W.method_call (pin_at I3) (codeAny_mono (F.run X.A X.stack s3 H2 ⟨[.ref C], ks.zip us⟩ (.ref C :: us) (.ref C :: vs) Q (E σ) hr I3.env0 b (.cons rfl rv) q2) fun r s' hq => ?_))
    cases r with
    | error e => exact hx σ _ H2 s3 e s' I3 hq
    | ok fl =>
      cases fl with
      | ret u => exact I3.after hq
      | next => exact False.elim hq
      | brk => exact False.elim hq
      | cont => exact False.elim hq
  exact thn z fun _ _ y => unpinE y
end
section
open L2
variable {X : Cx} {body : List Stmt} {hd0 : ExceptHandler} {hds : List ExceptHandler} {l : Clz} {pos : Pos} {tb : WX → TS} {Wout : WX} {i : Nat} {n : Str}
def tTryAs (K : PySem.W.Frag) (Wout : WX) (i : Nat) (l : Clz) (tb : WX → TS) : TS := fun D τ G => tb (wAll K Wout D i l) D τ G
theorem ps_tryN (hst : X.stack = X.env :: X.outer) (hfr : X.env.frame = some X.env.locals) (hnd : X.N.Nodup) (hin : X.N[i]? = some n) (hkn : X.env.kindOf n = some .local) (out : Takes X Wout)
    (hbd : ∀ (W : WX) (pn : List (Addr × Obj)) (xe : Value → Shared → Prop), Takes (X.tr pn xe) W → PassesOwn (model X.prog X.w) X.A X.env xe → PSs (X.tr pn xe) body (tb W)) (hall : HdAs X n (hd0 :: hds) l) :
    PS X (.Try body (hd0 :: hds) [] [] pos) (tTryAs X.K Wout i l tb) := ps_tryAs hst hfr hnd hin hkn out hbd hall
end
end Cmx

set_option Elab.async false
set_option linter.all false
set_option maxRecDepth 100000
set_option maxHeartbeats 4000000
/-! effects -/
namespace Gn
open PySem PySem.Spec PyProof.Rows L2 Own Exn Mth Vld
theorem parts_len : ∀ p : List Nat, (tkS p).length + (puS p).length = p.length
  | [] => rfl
  | c :: p => by
    have ih := parts_len p
    by_cases h : 97 ≤ c
    · rw [tkS_put h, puS_put h, List.length_cons, List.length_cons]; omega
    · rw [tkS_take h, puS_take h, List.length_cons, List.length_cons]; omega
theorem empty_iff {l : List Nat} : (V.str (mk l) = V.str "") ↔ l = [] := by
  constructor
  · intro h
    injection h with h
    have := congrArg cs h
    rw [cs_mk] at this
    exact this
  · intro h
    rw [h]
    rfl
/-- what is left behind all takes -/
def aft : List Nat → List Nat → Option (List Nat)
  | [], q => some q
  | _ :: _, [] => none
  | c :: R, x :: q => if x = c then aft R q else aft (c :: R) q
theorem aft_nil (q : List Nat) : aft [] q = some q := by cases q <;> rfl
theorem aft_yes (c : Nat) (R q : List Nat) : aft (c :: R) (c :: q) = aft R q := by
  show (if c = c then _ else _) = _
  rw [if_pos rfl]
theorem aft_no {c x : Nat} (h : x ≠ c) (R q : List Nat) : aft (c :: R) (x :: q) = aft (c :: R) q := by
  show (if x = c then _ else _) = _
  rw [if_neg h]
theorem aft_fst (c : Nat) (R : List Nat) : ∀ z : List Nat, aft (c :: R) z = (match fst? c z with | none => none | some k => aft R (z.drop (k + 1)))
  | [] => rfl
  | x :: z => by
    by_cases h : x = c
    · subst h
      rw [aft_yes]
      have : fst? x (x :: z) = some 0 := by unfold fst?; rw [if_pos rfl]
      rw [this]
      rfl
    · rw [aft_no h, aft_fst c R z]
      have : fst? c (x :: z) = (fst? c z).map (· + 1) := by conv => lhs; unfold fst?; rw [if_neg h]
      rw [this]
      cases fst? c z <;> rfl
theorem fst_app {c k : Nat} {z w : List Nat} (h : fst? c z = some k) : fst? c (z ++ w) = some k := by
  obtain ⟨h1, h2, h3⟩ := fst_lt h
  exact fst_some (by rw [List.getElem?_append_left h1]; exact h2) fun v hv => by rw [List.getElem?_append_left (by omega)]; exact h3 v hv
theorem bst_aft : ∀ (p q r : List Nat), bst p q = some r → aft (tkS p) (q ++ puS p) = some r
  | [], q, r, h => by
    cases h
    show aft [] (q ++ []) = _
    rw [List.append_nil, aft_nil]
  | c :: p, q, r, h => by
    by_cases hc : 97 ≤ c
    · rw [bst_put hc] at h
      have := bst_aft p _ r h
      rw [tkS_put hc, puS_put hc]
      rw [List.append_assoc] at this
      exact this
    · cases e : fst? (c + 32) q with
      | none => rw [bst_fail hc e] at h; cases h
      | some k =>
        rw [bst_take hc e] at h
        have := bst_aft p _ r h
        rw [tkS_take hc, puS_take hc, aft_fst, fst_app e]
        show aft (tkS p) ((q ++ puS p).drop (k + 1)) = _
        rw [List.drop_append_of_le_length (by have := (fst_lt e).1; omega)]
        exact this
/-- just behind ascending places, counted from o -/
def endO (l : List Nat) (o : Nat) : Nat := match l.getLast? with
  | none => 0
  | some x => x + 1 - o
theorem emb_ge : ∀ (q R : List Nat) (o : Nat), ∀ x ∈ emb R q o, o ≤ x
  | q, [], o, x, h => by rw [emb_nil] at h; cases h
  | [], _ :: _, o, x, h => by rw [emb_none'] at h; cases h
  | y :: q, c :: R, o, x, h => by
    by_cases e : y = c
    · subst e
      rw [emb_yes] at h
      rcases List.mem_cons.mp h with g | g
      · omega
      · have := emb_ge q R (o + 1) x g; omega
    · rw [emb_no e] at h
      have := emb_ge q (c :: R) (o + 1) x h
      omega
theorem endO_cons (o : Nat) (l : List Nat) (h : ∀ x ∈ l, o + 1 ≤ x) : endO (o :: l) o = endO l (o + 1) + 1 := by
  unfold endO
  rcases List.eq_nil_or_concat l with e | ⟨l', x, e⟩
  · subst e
    show o + 1 - o = 0 + 1
    omega
  · subst e
    rw [List.concat_eq_append, ← List.cons_append, List.getLast?_concat, List.getLast?_concat]
    have := h x (by simp)
    show x + 1 - o = x + 1 - (o + 1) + 1
    omega
theorem endO_shift {l : List Nat} {o : Nat} (h0 : l ≠ []) (h : ∀ x ∈ l, o + 1 ≤ x) : endO l o = endO l (o + 1) + 1 := by
  unfold endO
  rcases List.eq_nil_or_concat l with e | ⟨l', x, e⟩
  · exact absurd e h0
  · subst e
    rw [List.concat_eq_append, List.getLast?_concat]
    have := h x (by simp)
    show x + 1 - o = x + 1 - (o + 1) + 1
    omega
theorem aft_all (w : List Nat) : ∀ (q R : List Nat) (o : Nat), (emb R q o).length = R.length → aft R (q ++ w) = some (q.drop (endO (emb R q o) o) ++ w)
  | q, [], o, _ => by rw [emb_nil, aft_nil]; rfl
  | [], c :: R, o, h => by rw [emb_none'] at h; cases h
  | x :: q, c :: R, o, h => by
    by_cases e : x = c
    · subst e
      rw [emb_yes] at h ⊢
      rw [endO_cons o _ fun y hy => emb_ge q R (o + 1) y hy, List.drop_succ_cons, List.cons_append, aft_yes]
      exact aft_all w q R (o + 1) (by simpa using h)
    · rw [emb_no e] at h ⊢
      have hne : emb (c :: R) q (o + 1) ≠ [] := fun z => by rw [z] at h; cases h
      rw [endO_shift hne fun y hy => emb_ge q (c :: R) (o + 1) y hy, List.drop_succ_cons, List.cons_append, aft_no e]
      exact aft_all w q (c :: R) (o + 1) h
theorem aft_part (w : List Nat) : ∀ (q R : List Nat) (o : Nat), (emb R q o).length < R.length → aft R (q ++ w) = aft (R.drop (emb R q o).length) w
  | q, [], o, h => by cases h
  | [], c :: R, o, h => by rw [emb_none']; rfl
  | x :: q, c :: R, o, h => by
    by_cases e : x = c
    · subst e
      rw [emb_yes] at h ⊢
      rw [List.cons_append, aft_yes, List.length_cons, List.drop_succ_cons]
      exact aft_part w q R (o + 1) (by simpa using h)
    · rw [emb_no e] at h ⊢
      rw [List.cons_append, aft_no e]
      exact aft_part w q (c :: R) (o + 1) h
theorem aft_some {R q r : List Nat} (h : aft R q = some r) : (emb R q 0).length = R.length ∧ r = q.drop (endO (emb R q 0) 0) := by
  have hle := emb_le q R 0
  rcases Nat.lt_or_ge (emb R q 0).length R.length with g | g
  · have := aft_part [] q R 0 g
    rw [List.append_nil, h] at this
    cases e : R.drop (emb R q 0).length with
    | nil =>
      have := congrArg List.length e
      rw [List.length_drop, List.length_nil] at this
      omega
    | cons c l =>
      rw [e] at this
      cases this
  · have e : (emb R q 0).length = R.length := by omega
    have := aft_all [] q R 0 e
    rw [List.append_nil, List.append_nil, h] at this
    exact ⟨e, Option.some.inj this⟩
theorem emb_sub : ∀ (q R : List Nat) (o : Nat), List.Sublist R q ↔ (emb R q o).length = R.length
  | q, [], o => by rw [emb_nil]; exact ⟨fun _ => rfl, fun _ => List.nil_sublist q⟩
  | [], c :: R, o => by
    rw [emb_none']
    constructor
    · intro h; cases h
    · intro h; cases h
  | x :: q, c :: R, o => by
    by_cases e : x = c
    · subst e
      rw [emb_yes, List.cons_sublist_cons, emb_sub q R (o + 1)]
      simp
    · rw [emb_no e, ← emb_sub q (c :: R) (o + 1)]
      constructor
      · intro s
        cases s with
        | cons _ s' => exact s'
        | cons_cons => exact absurd rfl e
      · intro s
        exact s.cons x
theorem take_sub {R q : List Nat} {k : Nat} (hk : k ≤ R.length) : List.Sublist (R.take k) q ↔ k ≤ (emb R q 0).length := by
  rw [emb_sub q (R.take k) 0, emb_take, List.length_take, List.length_take]
  omega
/-- the effect's result -/
def eres (R W : List Nat) (core : Nat) (q : List Nat) : Option (List Nat) :=
  if (emb R q 0).length < core then none else if (emb R q 0).length = R.length then some (q.drop (endO (emb R q 0) 0) ++ W) else some (W.drop (endO (emb (R.drop (emb R q 0).length) W 0) 0))
theorem eres_bst (p q : List Nat) : eres (tkS p) (puS p) (coreN p) q = bst p q := by
  obtain ⟨e, hle⟩ := pend_core p
  have key := bst_iff p q
  rw [e, take_sub hle] at key
  unfold eres
  cases h : bst p q with
  | none =>
    rw [if_pos]
    rcases Nat.lt_or_ge (emb (tkS p) q 0).length (coreN p) with g | g
    · exact g
    · exact absurd h (key.mpr g)
  | some r =>
    have g : coreN p ≤ (emb (tkS p) q 0).length := key.mp (by rw [h]; exact fun z => nomatch z)
    rw [if_neg (by omega)]
    have ha := bst_aft p q r h
    by_cases hl : (emb (tkS p) q 0).length = (tkS p).length
    · rw [if_pos hl, ← ha]
      exact (aft_all _ q (tkS p) 0 hl).symm
    · rw [if_neg hl]
      have := aft_part (puS p) q (tkS p) 0 (by have := emb_le q (tkS p) 0; omega)
      rw [ha] at this
      rw [(aft_some this.symm).2]
theorem bst_mono : ∀ (p z z' r : List Nat), List.Sublist z z' → bst p z = some r → ∃ r', bst p z' = some r' ∧ List.Sublist r r'
  | [], z, z', r, s, h => by cases h; exact ⟨z', rfl, s⟩
  | c :: p, z, z', r, s, h => by
    by_cases hc : 97 ≤ c
    · rw [bst_put hc] at h ⊢
      exact bst_mono p _ _ r (s.append (List.Sublist.refl _)) h
    · cases e : fst? (c + 32) z with
      | none => rw [bst_fail hc e] at h; cases h
      | some k =>
        rw [bst_take hc e] at h
        have s1 : List.Sublist ((c + 32) :: z.drop (k + 1)) z := (sub_fst e).mpr (List.Sublist.refl _)
        have s2 := s1.trans s
        cases e' : fst? (c + 32) z' with
        | none => exact absurd (s2.subset (List.mem_cons_self ..)) (fst_mem.mp e')
        | some k' =>
          rw [bst_take hc e']
          exact bst_mono p _ _ r ((sub_fst e').mp s2) h
/-- the takes behind the core are within the puts -/
theorem core_fits (p : List Nat) : (emb ((tkS p).drop (coreN p)) (puS p) 0).length = ((tkS p).drop (coreN p)).length := by
  obtain ⟨e, hle⟩ := pend_core p
  have h1 := (bst_prefix p hle).mpr (Nat.le_refl _)
  cases h : bst p ((tkS p).take (coreN p)) with
  | none => exact absurd h h1
  | some r =>
    have ha := bst_aft p _ r h
    have hk : (emb (tkS p) ((tkS p).take (coreN p)) 0).length = coreN p := by
      have a1 := (take_sub (q := (tkS p).take (coreN p)) hle).mp (List.Sublist.refl _)
      have a2 : List.Sublist ((tkS p).take (emb (tkS p) ((tkS p).take (coreN p)) 0).length) ((tkS p).take (coreN p)) := (take_sub (emb_le _ _ _)).mpr (Nat.le_refl _)
      have a3 := a2.length_le
      have a4 := emb_le ((tkS p).take (coreN p)) (tkS p) 0
      rw [List.length_take, List.length_take] at a3
      omega
    by_cases hl : coreN p < (tkS p).length
    · have := aft_part (puS p) _ (tkS p) 0 (by rw [hk]; exact hl)
      rw [ha, hk] at this
      exact (aft_some this.symm).1
    · rw [List.drop_of_length_le (by omega), emb_nil]
end Gn

set_option Elab.async false
set_option linter.all false
set_option maxRecDepth 100000
set_option maxHeartbeats 4000000
/-! queues that stay -/
namespace Gn
open PySem PySem.Spec PyProof.Rows L2 Own Exn Mth Vld
def wn (W : List Nat) (n : Nat) : List Nat := (List.replicate n W).flatten
def sfx (z : List Nat) (n : Nat) : List Nat := z.drop (z.length - n)
def fixB (p q : List Nat) : Bool := decide (bst p q = some q)
def cands (W : List Nat) (n : Nat) : List (List Nat) := (List.range (min n (wn W n).length + 1)).map (sfx (wn W n))
def unch (p : List Nat) (n : Nat) : List (List Nat) := (cands (puS p) n).filter (fixB p)
theorem wn_len (W : List Nat) (n : Nat) : (wn W n).length = n * W.length := by unfold wn; simp
theorem wn_front (W : List Nat) (n : Nat) : wn W (n + 1) = W ++ wn W n := by unfold wn; rw [List.replicate_succ, List.flatten_cons]
theorem wn_back (W : List Nat) : ∀ n : Nat, wn W (n + 1) = wn W n ++ W
  | 0 => by rw [wn_front]; show W ++ [] = [] ++ W; simp
  | n + 1 => by rw [wn_front, wn_back W n, ← List.append_assoc, ← wn_front, wn_back W n]
theorem sfx_of {x q : List Nat} : sfx (x ++ q) q.length = q := by
  unfold sfx
  rw [List.length_append, Nat.add_sub_cancel, List.drop_left]
theorem sfx_len {z : List Nat} {n : Nat} (h : n ≤ z.length) : (sfx z n).length = n := by unfold sfx; rw [List.length_drop]; omega
theorem tail_wn (W : List Nat) (hW : 1 ≤ W.length) : ∀ (n : Nat) (q : List Nat), q.length ≤ n → q = (q ++ W).drop W.length → ∃ x, wn W n = x ++ q
  | n, [], _, _ => ⟨wn W n, (List.append_nil _).symm⟩
  | 0, y :: q, h, _ => by simp at h
  | n + 1, y :: q, h, e => by
    by_cases hl : (y :: q).length ≤ W.length
    · refine ⟨wn W n ++ W.take (W.length - (y :: q).length), ?_⟩
      rw [List.drop_append, List.drop_of_length_le hl, List.nil_append] at e
      rw [wn_back, List.append_assoc]
      refine congrArg (wn W n ++ ·) ?_
      conv => lhs; rw [← List.take_append_drop (W.length - (y :: q).length) W]
      refine congrArg (W.take (W.length - (y :: q).length) ++ ·) e.symm
    · rw [List.drop_append_of_le_length (by omega)] at e
      have hl2 : ((y :: q).drop W.length).length ≤ n := by rw [List.length_drop]; omega
      obtain ⟨x, hx⟩ := tail_wn W hW n ((y :: q).drop W.length) hl2 (by rw [← e])
      refine ⟨x, ?_⟩
      rw [wn_back, hx, List.append_assoc, ← e]
theorem fix_tail {p q : List Nat} (h : bst p q = some q) (hp : p ≠ []) {n : Nat} (hn : q.length ≤ n) : q = sfx (wn (puS p) n) q.length ∧ q.length ≤ (wn (puS p) n).length := by
  have ha := bst_aft p q q h
  obtain ⟨h1, h2⟩ := aft_some ha
  have hx : ∃ x, wn (puS p) n = x ++ q := by
    by_cases hq : q = []
    · subst hq
      exact ⟨wn (puS p) n, (List.append_nil _).symm⟩
    have hq0 : 0 < q.length := by
      cases q with
      | nil => exact absurd rfl hq
      | cons a l => simp
    have hlen := congrArg List.length h2
    rw [List.length_drop, List.length_append] at hlen
    have hm : endO (emb (tkS p) (q ++ puS p) 0) 0 = (puS p).length := by omega
    have hpl := parts_len p
    have hW : 1 ≤ (puS p).length := by
      rcases Nat.lt_or_ge 0 (puS p).length with g | g
      · exact g
      · exfalso
        have hR : 1 ≤ (tkS p).length := by
          cases p with
          | nil => exact absurd rfl hp
          | cons a l => rw [List.length_cons] at hpl; omega
        have hne : emb (tkS p) (q ++ puS p) 0 ≠ [] := fun z => by rw [z] at h1; have := h1; simp at this; omega
        have : endO (emb (tkS p) (q ++ puS p) 0) 0 = endO (emb (tkS p) (q ++ puS p) 0) 0 := rfl
        rcases List.eq_nil_or_concat (emb (tkS p) (q ++ puS p) 0) with e | ⟨l, x, e⟩
        · exact hne e
        · rw [e, List.concat_eq_append] at hm
          unfold endO at hm
          rw [List.getLast?_concat] at hm
          have hm' : x + 1 - 0 = (puS p).length := hm
          omega
    rw [hm] at h2
    exact tail_wn (puS p) hW n q hn h2
  obtain ⟨x, hx⟩ := hx
  rw [hx]
  exact ⟨sfx_of.symm, by rw [List.length_append]; omega⟩
/-- all words of one length -/
def layer (L : List Nat) : Nat → List (List Nat)
  | 0 => [[]]
  | i + 1 => (layer L i).flatMap fun w => L.map fun c => w ++ [c]
def layers (L : List Nat) (k : Nat) : List (List Nat) := (List.range (k + 1)).flatMap (layer L)
theorem layer_mem (L : List Nat) : ∀ (i : Nat) (w : List Nat), w ∈ layer L i ↔ w.length = i ∧ ∀ c ∈ w, c ∈ L
  | 0, w => by
    show w ∈ [[]] ↔ _
    rw [List.mem_singleton]
    constructor
    · rintro rfl; exact ⟨rfl, fun c h => by cases h⟩
    · intro h; exact List.length_eq_zero_iff.mp h.1
  | i + 1, w => by
    show w ∈ (layer L i).flatMap _ ↔ _
    rw [List.mem_flatMap]
    constructor
    · rintro ⟨v, hv, hw⟩
      obtain ⟨c, hc, rfl⟩ := List.mem_map.mp hw
      obtain ⟨h1, h2⟩ := (layer_mem L i v).mp hv
      refine ⟨by rw [List.length_append, h1]; rfl, fun x hx => ?_⟩
      rcases List.mem_append.mp hx with g | g
      · exact h2 x g
      · rw [List.mem_singleton.mp g]; exact hc
    · rintro ⟨h1, h2⟩
      rcases List.eq_nil_or_concat w with e | ⟨v, c, e⟩
      · subst e; simp at h1
      · subst e
        rw [List.concat_eq_append] at h1 h2 ⊢
        refine ⟨v, (layer_mem L i v).mpr ⟨by rw [List.length_append] at h1; simpa using h1, fun x hx => h2 x (List.mem_append_left _ hx)⟩, List.mem_map.mpr ⟨c, h2 c (by simp), rfl⟩⟩
theorem layer_nodup {L : List Nat} (hL : L.Nodup) : ∀ i : Nat, (layer L i).Nodup
  | 0 => by show [[]].Nodup; simp
  | i + 1 => by
    show ((layer L i).flatMap fun w => L.map fun c => w ++ [c]).Nodup
    unfold List.Nodup
    rw [List.pairwise_flatMap]
    refine ⟨fun w _ => ?_, ?_⟩
    · refine List.Pairwise.map _ (fun c d h e => ?_) hL
      have := List.append_cancel_left e
      injection this with h1
      exact h h1
    · refine List.Pairwise.imp (fun {w v} h => ?_) (layer_nodup hL i)
      intro x hx y hy e
      obtain ⟨c, _, rfl⟩ := List.mem_map.mp hx
      obtain ⟨d, _, rfl⟩ := List.mem_map.mp hy
      have := List.append_inj_left' e rfl
      exact h this
theorem filter_one {α : Type} [DecidableEq α] {P : α → Bool} {c : α} : ∀ {l : List α}, l.Nodup → (∀ w ∈ l, P w = true → w = c) → (P c = true → c ∈ l) → l.filter P = if P c = true then [c] else []
  | [], _, _, h3 => by
    rw [if_neg fun h => by cases h3 h]
    rfl
  | w :: l, hn, h2, h3 => by
    have hn' := List.nodup_cons.mp hn
    by_cases e : w = c
    · subst e
      by_cases hP : P w = true
      · rw [List.filter_cons_of_pos hP, if_pos hP, List.filter_eq_nil_iff.mpr fun x hx hx' => ?_]
        have := h2 x (List.mem_cons_of_mem _ hx) hx'
        rw [this] at hx
        exact hn'.1 hx
      · rw [List.filter_cons_of_neg hP, if_neg hP, List.filter_eq_nil_iff.mpr fun x hx hx' => ?_]
        have := h2 x (List.mem_cons_of_mem _ hx) hx'
        rw [this] at hx'
        exact hP hx'
    · have hP : ¬ P w = true := fun h => e (h2 w (List.mem_cons_self ..) h)
      rw [List.filter_cons_of_neg hP]
      exact filter_one hn'.2 (fun x hx => h2 x (List.mem_cons_of_mem _ hx)) fun h => by
        rcases List.mem_cons.mp (h3 h) with g | g
        · exact absurd g.symm e
        · exact g
theorem filter_flat {α β : Type} (P : β → Bool) (f : α → List β) : ∀ l : List α, (l.flatMap f).filter P = l.flatMap fun a => (f a).filter P
  | [] => rfl
  | a :: l => by rw [List.flatMap_cons, List.filter_append, filter_flat P f l, List.flatMap_cons]
theorem filter_map1 {α : Type} (P : List Nat → Bool) (f : α → List Nat) : ∀ l : List α, (l.map f).filter P = l.flatMap fun a => if P (f a) = true then [f a] else []
  | [] => rfl
  | a :: l => by
    rw [List.map_cons, List.flatMap_cons, ← filter_map1 P f l]
    by_cases h : P (f a) = true
    · rw [List.filter_cons_of_pos h, if_pos h]; rfl
    · rw [List.filter_cons_of_neg h, if_neg h]; rfl
theorem flat_range {β : Type} (g : Nat → List β) {m n : Nat} (h : m ≤ n) (hg : ∀ i, m ≤ i → i < n → g i = []) : (List.range n).flatMap g = (List.range m).flatMap g := by
  have e0 := List.range'_append_1 (s := 0) (m := m) (n := n - m)
  rw [Nat.zero_add, show m + (n - m) = n by omega] at e0
  have h2 : (List.range' m (n - m)).flatMap g = [] := List.flatMap_eq_nil_iff.mpr fun i hi => by
    rw [List.mem_range'_1] at hi
    exact hg i (by omega) (by omega)
  rw [List.range_eq_range', List.range_eq_range', ← e0, List.flatMap_append, h2, List.append_nil]
theorem flat_congr {β : Type} {f g : Nat → List β} : ∀ l : List Nat, (∀ i ∈ l, f i = g i) → l.flatMap f = l.flatMap g
  | [], _ => rfl
  | a :: l, h => by rw [List.flatMap_cons, List.flatMap_cons, h a (List.mem_cons_self ..), flat_congr l fun i hi => h i (List.mem_cons_of_mem _ hi)]
theorem fixB_iff {p q : List Nat} : fixB p q = true ↔ bst p q = some q := by unfold fixB; rw [decide_eq_true_iff]
theorem due_unch {p L : List Nat} (hp : p ≠ []) (hL : L.Nodup) (hc : ∀ c ∈ puS p, c ∈ L) {s k : Nat} (hs : s ≤ k) : ((layers L k).filter fun w => decide (w.length ≤ s) && fixB p w) = unch p s := by
  unfold layers unch cands
  rw [filter_flat, filter_map1]
  have hW : ∀ i ≤ (wn (puS p) s).length, ∀ c ∈ sfx (wn (puS p) s) i, c ∈ L := fun i _ c h => by
    have h1 := List.mem_of_mem_drop h
    obtain ⟨m, hm, hx⟩ := List.mem_flatten.mp h1
    rw [(List.mem_replicate.mp hm).2] at hx
    exact hc c hx
  have empty : ∀ i, min s (wn (puS p) s).length + 1 ≤ i → i < k + 1 → ((layer L i).filter fun w => decide (w.length ≤ s) && fixB p w) = [] := by
    intro i h1 _
    refine List.filter_eq_nil_iff.mpr fun w hw hP => ?_
    obtain ⟨e1, _⟩ := (layer_mem L i w).mp hw
    obtain ⟨g1, g2⟩ := Bool.and_eq_true_iff.mp hP
    have g1' : w.length ≤ s := of_decide_eq_true g1
    have := (fix_tail (fixB_iff.mp g2) hp g1').2
    omega
  rw [flat_range _ (show min s (wn (puS p) s).length + 1 ≤ k + 1 by omega) empty]
  refine flat_congr _ fun i hi => ?_
  rw [List.mem_range] at hi
  have h1 : i ≤ s := by omega
  have h2 : i ≤ (wn (puS p) s).length := by omega
  have e : ((layer L i).filter fun w => decide (w.length ≤ s) && fixB p w) = (layer L i).filter (fixB p) := by
    refine List.filter_congr fun w hw => ?_
    obtain ⟨e1, _⟩ := (layer_mem L i w).mp hw
    rw [decide_eq_true (show w.length ≤ s by omega)]
    rfl
  rw [e]
  refine filter_one (layer_nodup hL i) (fun w hw hP => ?_) (fun hP => ?_)
  · obtain ⟨e1, _⟩ := (layer_mem L i w).mp hw
    have := (fix_tail (fixB_iff.mp hP) hp (n := s) (by omega)).1
    rw [e1] at this
    exact this
  · exact (layer_mem L i _).mpr ⟨sfx_len h2, hW i h2⟩
/-- one more repetition changes nothing -/
theorem unch_more (p : List Nat) : ((List.range (min 40 (wn (puS p) 41).length + 1)).map (sfx (wn (puS p) 41))).filter (fixB p) = unch p 40 := by
  unfold unch cands
  have hm : min 40 (wn (puS p) 41).length = min 40 (wn (puS p) 40).length := by
    rw [wn_len, wn_len]
    rcases Nat.eq_zero_or_pos (puS p).length with h | h
    · rw [h]
    · have h1 : 41 * 1 ≤ 41 * (puS p).length := Nat.mul_le_mul_left 41 h
      have h2 : 40 * 1 ≤ 40 * (puS p).length := Nat.mul_le_mul_left 40 h
      omega
  rw [hm]
  congr 1
  refine List.map_congr_left fun i hi => ?_
  rw [List.mem_range] at hi
  have h2 : i ≤ (wn (puS p) 40).length := by omega
  show sfx (wn (puS p) (40 + 1)) i = _
  rw [wn_front]
  unfold sfx
  rw [List.length_append, show (puS p).length + (wn (puS p) 40).length - i = (puS p).length + ((wn (puS p) 40).length - i) by omega, ← List.drop_drop, List.drop_left]
abbrev strV (ls : List (List Nat)) : List V := ls.map fun l => V.str (mk l)
theorem strV_snoc (ls : List (List Nat)) (l : List Nat) : strV (ls ++ [l]) = strV ls ++ [V.str (mk l)] := List.map_append
theorem strV_app (ls ms : List (List Nat)) : strV (ls ++ ms) = strV ls ++ strV ms := List.map_append
theorem strV_len (ls : List (List Nat)) : (strV ls).length = ls.length := List.length_map _
theorem strV_at {ls : List (List Nat)} {i : Nat} {x : V} (h : (strV ls)[i]? = some x) : ∃ l, ls[i]? = some l ∧ x = .str (mk l) := by
  rw [List.getElem?_map] at h
  cases e : ls[i]? with
  | none => rw [e] at h; cases h
  | some l => rw [e] at h; cases h; exact ⟨l, rfl, rfl⟩
def strD (ls : List (List Nat)) : PyData := .list (ls.map fun l => .str (mk l))
theorem strD_all {K : PySem.W.Frag} {H : Hp} : ∀ ls : List (List Nat), DpAll K H (strV ls) (ls.map fun l => PyData.str (mk l))
  | [] => .nil
  | l :: ls => .cons (.str _) (strD_all ls)
theorem strD_dp {K : PySem.W.Frag} {H : Hp} {o : Addr} {ls : List (List Nat)} (h : H o = some (.lst (strV ls))) : Dp K H (.ref o) (strD ls) := .lst (SqL.of h) (strD_all ls)
theorem strD_sh {ls : List (List Nat)} (h : ∀ l ∈ ls, ∀ c ∈ l, c < 1114112) : SeqAt.shaped (strD ls) = true := by
  have h1 : ∀ ls : List (List Nat), (∀ l ∈ ls, ∀ c ∈ l, c < 1114112) → PyData.canLayAll0 (ls.map fun l => PyData.str (mk l)) = true := by
    intro ls
    induction ls with
    | nil => intro _; rfl
    | cons l ls ih =>
      intro h
      show (PyData.canLay0 (.str (mk l)) && PyData.canLayAll0 (ls.map fun l => PyData.str (mk l))) = true
      rw [ih fun m hm => h m (List.mem_cons_of_mem _ hm), Bool.and_true]
      exact strOk_mk (h l (List.mem_cons_self ..))
  have h2 : ∀ ls : List (List Nat), PyData.depthAll (ls.map fun l => PyData.str (mk l)) ≤ 1 := by
    intro ls
    induction ls with
    | nil => decide +kernel
    | cons l ls ih =>
      have : PyData.depthAll (PyData.str (mk l) :: ls.map fun l => PyData.str (mk l)) = max (PyData.depth (.str (mk l))) (PyData.depthAll (ls.map fun l => PyData.str (mk l))) := by simp [PyData.depthAll]
      rw [List.map_cons, this]
      have : PyData.depth (.str (mk l)) ≤ 1 := by simp [PyData.depth]
      omega
  unfold SeqAt.shaped strD
  rw [Bool.and_eq_true]
  refine ⟨h1 ls h, decide_eq_true ?_⟩
  have : PyData.depth (.list (ls.map fun l => PyData.str (mk l))) ≤ PyData.depthAll (ls.map fun l => PyData.str (mk l)) + 1 := by simp [PyData.depth]
  have := h2 ls
  omega
theorem mk_iff {r : Option (List Nat)} {q : List Nat} : oV r = V.str (mk q) ↔ r = some q := by
  cases r with
  | none => exact ⟨(fun h => nomatch h), (fun h => nomatch h)⟩
  | some l =>
    constructor
    · intro h
      injection h with h
      rw [mk_inj h]
    · intro h
      cases h
      rfl
theorem layer_len (L : List Nat) : ∀ i : Nat, (layer L i).length = L.length ^ i
  | 0 => rfl
  | i + 1 => by
    show ((layer L i).flatMap fun w => L.map fun c => w ++ [c]).length = _
    rw [List.length_flatMap, Nat.pow_succ, ← layer_len L i]
    generalize layer L i = ls
    induction ls with
    | nil => simp
    | cons a l ih => rw [List.map_cons, List.sum_cons, ih, List.length_map, List.length_cons, Nat.succ_mul]; omega
theorem layers_succ (L : List Nat) (k : Nat) : layers L (k + 1) = layers L k ++ layer L (k + 1) := by
  unfold layers
  rw [List.range_succ, List.flatMap_append]
  simp
end Gn

set_option Elab.async false
set_option linter.all false
set_option maxRecDepth 100000
set_option maxHeartbeats 4000000
/-! own == of instances with a dict, against any value whose class is known -/
namespace Ows
open PySem PySem.Spec PyProof.Rows L2 ClX
section
variable {X : Cx} {CX : CXT} {k : Nat} {C g : Addr} {fd : FuncData} {ps : List Str} {sp : Sp} {E : XK}
def rOwnD (K : PySem.W.Frag) (C : Addr) (sp : Sp) (E : XK) : R2 := fun x y H Q => ∃ (a dx : Addr) (fs : List (Str × V)) (t : Value), x = .ref a ∧ H a = some (.ins C dx fs) ∧ TyX K H y t ∧ PySem.W.notFirst K C t = true ∧ sp [x, y] H Q E
theorem op_ownD {op : CmpOp} (hop : ∀ a b, compareOp op a b = richCompare op a b) (hs : PySem.W.findIn X.K (.ref C) (cmpInfo op).2.1 = some (some (.ref g))) (hf : PySem.W.isFn X.K (.ref g) = true) (F : FnR X.prog X.w X.K X.mg X.base CX k g sp)
    (hr : Room k X.A) (hx : Passes CX X E) : OpR X (compareOp op) (rOwnD X.K C sp E) := by
  intro pins s σ H x y v u Q I rx ry h
  obtain ⟨a, dx, fs, t, rfl, ha, hy, hn, q⟩ := h
  cases (show v = Value.ref a from rx)
  obtain ⟨mA, O, _⟩ := ins_get I.hok ha
  obtain ⟨od, J, _⟩ := O.look
  obtain ⟨Pp, Z, pz, _⟩ := kit_of I ry hy
  obtain ⟨m, hF⟩ := I.fr
  rw [hop]
  refine PySem.W.cmp_K (op := op) (tb := t) hr.units0 hF I.ok.mod.kin J (Z.ty _ _ I.kIn pz) hn hs hf ?_
  refine wpAny_mono (wpAny_call (SlX.run_at (us := [.ref a, u]) (ws := [.ref a, y]) F hr I.env0 hx I (.cons rfl (.cons ry .nil)) q)) (fun w s' z => ?_) fun _ _ x => x
  obtain ⟨z', H', I', rz, qz⟩ := z
  exact SlX.cmpback rz ⟨z', H', I', rz, qz⟩
end
end Ows

set_option Elab.async false
set_option linter.all false
set_option maxRecDepth 100000
set_option maxHeartbeats 4000000
/-! three values decide -/
namespace Gn
open PySem PySem.Spec PyProof.Rows L2 Own Exn Mth Vld
def effEq (p q : List Nat) : Prop := tkS p = tkS q ∧ puS p = puS q ∧ coreN p = coreN q
instance (p q : List Nat) : Decidable (effEq p q) := by unfold effEq; infer_instance
theorem eff_same {p q : List Nat} (h : effEq p q) (z : List Nat) : bst p z = bst q z := by
  rw [← eres_bst, ← eres_bst, h.1, h.2.1, h.2.2]
theorem bst_own {p r : List Nat} (h : bst p (tkS p) = some r) : r = (tkS p).drop (endO (emb (tkS p) (tkS p) 0) 0) ++ puS p := by
  have h1 := bst_aft p _ r h
  rw [aft_all (puS p) (tkS p) (tkS p) 0 ((emb_sub _ _ 0).mp (List.Sublist.refl _))] at h1
  injection h1 with h1
  exact h1.symm
theorem own_ok (p : List Nat) : bst p (tkS p) ≠ none := by
  have := (bst_prefix p (Nat.le_refl (tkS p).length)).mpr (pend_core p).2
  rw [List.take_length] at this
  exact this
theorem sep_core {p q : List Nat} (hR : tkS p = tkS q) (h : coreN p < coreN q) : bst p ((tkS p).take (coreN p)) ≠ bst q ((tkS p).take (coreN p)) := by
  have h1 := (bst_prefix p (pend_core p).2).mpr (Nat.le_refl _)
  have h2 : ¬ bst q ((tkS p).take (coreN p)) ≠ none := by
    rw [hR]
    intro h3
    have := (bst_prefix q (m := coreN p) (by have := (pend_core p).2; rw [hR] at this; exact this)).mp h3
    omega
  intro e
  rw [e] at h1
  exact h2 h1
theorem sep_puts {p q : List Nat} (hR : tkS p = tkS q) (h : puS p ≠ puS q) : bst p (tkS p) ≠ bst q (tkS p) := by
  intro e
  cases hp : bst p (tkS p) with
  | none => exact own_ok p hp
  | some r =>
    have h1 := bst_own hp
    rw [hp] at e
    rw [hR] at e
    have h2 := bst_own e.symm
    rw [h1, hR] at h2
    exact h (List.append_cancel_left h2)
theorem sep_takes {p q : List Nat} (c : Nat) (hR : tkS p ≠ tkS q) (hl : (tkS p).length ≤ (tkS q).length) (h1 : c ∉ tkS q) (h2 : c ∉ puS q) : bst p (tkS p ++ [c]) ≠ bst q (tkS p ++ [c]) := by
  intro e
  have hs : List.Sublist (pend p) (tkS p ++ [c]) := by
    rw [(pend_core p).1]
    exact (List.take_sublist _ _).trans (List.sublist_append_left _ _)
  cases hp : bst p (tkS p ++ [c]) with
  | none => exact (bst_iff p _).mpr hs hp
  | some r =>
    have a1 := bst_aft p _ r hp
    rw [List.append_assoc, aft_all ([c] ++ puS p) (tkS p) (tkS p) 0 ((emb_sub _ _ 0).mp (List.Sublist.refl _))] at a1
    injection a1 with a1
    have hc : c ∈ r := by rw [← a1]; simp
    rw [hp] at e
    have a2 := bst_aft q _ r e.symm
    have hn : ¬ List.Sublist (tkS q) (tkS p ++ [c]) := by
      intro hsub
      rw [sub_snoc] at hsub
      have hg : ¬ (tkS q).getLast? = some c := fun hg => h1 (List.mem_of_getLast? hg)
      rw [if_neg hg] at hsub
      exact hR (hsub.eq_of_length_le hl).symm
    have hlt : (emb (tkS q) (tkS p ++ [c]) 0).length < (tkS q).length := by
      have := (emb_sub (tkS p ++ [c]) (tkS q) 0)
      have hle : (emb (tkS q) (tkS p ++ [c]) 0).length ≤ (tkS q).length := emb_le _ _ _
      by_cases e1 : (emb (tkS q) (tkS p ++ [c]) 0).length = (tkS q).length
      · exact absurd (this.mpr e1) hn
      · omega
    rw [aft_part (puS q) _ _ 0 hlt] at a2
    obtain ⟨_, er⟩ := aft_some a2
    rw [er] at hc
    exact h2 (List.mem_of_mem_drop hc)
theorem three {p q L : List Nat} (c : Nat) (hc : c ∈ L) (hp : ∀ x ∈ tkS p, x ∈ L) (hq : ∀ x ∈ tkS q, x ∈ L) (p1 : c ∉ tkS p) (p2 : c ∉ puS p) (q1 : c ∉ tkS q) (q2 : c ∉ puS q)
    (h : ∀ z : List Nat, z.length ≤ 1 + min (tkS p).length (tkS q).length → (∀ x ∈ z, x ∈ L) → bst p z = bst q z) : effEq p q := by
  have hR : tkS p = tkS q := by
    by_cases e : tkS p = tkS q
    · exact e
    exfalso
    by_cases hl : (tkS p).length ≤ (tkS q).length
    · refine sep_takes c e hl q1 q2 (h _ ?_ fun x hx => ?_)
      · rw [List.length_append]
        show _ + 1 ≤ _
        omega
      · rcases List.mem_append.mp hx with g | g
        · exact hp x g
        · rw [List.mem_singleton.mp g]; exact hc
    · refine sep_takes c (fun g => e g.symm) (by omega) p1 p2 (h _ ?_ fun x hx => ?_).symm
      · rw [List.length_append]
        show _ + 1 ≤ _
        omega
      · rcases List.mem_append.mp hx with g | g
        · exact hq x g
        · rw [List.mem_singleton.mp g]; exact hc
  have lR : (tkS p).length = (tkS q).length := by rw [hR]
  refine ⟨hR, ?_, ?_⟩
  · by_cases e : puS p = puS q
    · exact e
    exact absurd (h _ (by omega) hp) (sep_puts hR e)
  · rcases Nat.lt_trichotomy (coreN p) (coreN q) with g | g | g
    · exact absurd (h _ (by rw [List.length_take]; omega) fun x hx => hp x (List.mem_of_mem_take hx)) (sep_core hR g)
    · exact g
    · exact absurd (h _ (by rw [List.length_take]; omega) fun x hx => hq x (List.mem_of_mem_take hx)).symm (sep_core hR.symm g)
def apart (p q w : List Nat) : Bool := !decide (bst p w = bst q w)
theorem due_three {p q L : List Nat} (c : Nat) (hc : c ∈ L) (hp : ∀ x ∈ tkS p, x ∈ L) (hq : ∀ x ∈ tkS q, x ∈ L) (p1 : c ∉ tkS p) (p2 : c ∉ puS p) (q1 : c ∉ tkS q) (q2 : c ∉ puS q) {s k : Nat} (hs : s = 1 + min (tkS p).length (tkS q).length) (hk : s ≤ k) :
    (((layers L k).filter fun w => decide (w.length ≤ s)).filter (apart p q) = []) ↔ effEq p q := by
  rw [List.filter_eq_nil_iff]
  constructor
  · intro h
    refine three c hc hp hq p1 p2 q1 q2 fun z hz hx => ?_
    have hm : z ∈ (layers L k).filter fun w => decide (w.length ≤ s) := by
      refine List.mem_filter.mpr ⟨?_, decide_eq_true (by omega)⟩
      unfold layers
      exact List.mem_flatMap.mpr ⟨z.length, List.mem_range.mpr (by omega), (layer_mem L _ z).mpr ⟨rfl, hx⟩⟩
    have := h z hm
    unfold apart at this
    by_cases e : bst p z = bst q z
    · exact e
    · rw [decide_eq_false e] at this
      exact absurd rfl this
  · intro h z _
    unfold apart
    rw [decide_eq_true (eff_same h z)]
    exact Bool.false_ne_true
end Gn

set_option Elab.async false
set_option linter.all false
set_option maxRecDepth 100000
set_option maxHeartbeats 4000000
/-! text[::-1]; own == -/
namespace Gn
open PySem PySem.Spec PyProof.Rows L2 Own Exn Mth Vld
section
variable {X : Cx}
theorem rev_pick (l : List Nat) : ((Builtin.Str.strSliceIndices none none (-1) (mk l).length).filterMap ((mk l).cps[·]?)).toArray = l.reverse.toArray := by
  rw [picked_rev, PySem.W.krv_range, List.filterMap_reverse]
  show ((List.range (mk l).cps.size).filterMap ((mk l).cps[·]?)).reverse.toArray = _
  rw [PySem.W.krv_all]
def tRevS (te : TE) : TE := fun σ H Q => te σ H fun x H1 => ∃ l : List Nat, x = .str (mk l) ∧ l.length ≤ sizeLine ∧ Q (.str (mk l.reverse)) H1
theorem pe_revS {e : Expr} {te : TE} {k : Nat} {p1 p2 p3 pos : Pos} (he : PE X e te) : PE X (.Subscript e (.Slice none none (some (.UnaryOp .USub (.Constant (.int 1) k p1) p2)) p3) pos) (tRevS te) := by
  refine ⟨fun pins s σ H Q I h => Subscript_ (thn (he.run pins s σ H _ I h) fun v s1 ⟨x, H1, I1, r1, q1⟩ => ?_)⟩
  obtain ⟨l, ex, hl, q⟩ := q1
  subst ex
  obtain ⟨t, rfl⟩ := r1
  have hst : PO X (some (.UnaryOp .USub (.Constant (.int 1) k p1) p2)) (tPart (tUn (rU fun i => .int (-i)) (tC (.int 1)))) := po_some (pe_un un_neg pe_int)
  refine wpAny_Slice (thn (po_none.run pins s1 σ H1 (fun o H2 => o = none ∧ H2 = H1) I1 ⟨rfl, rfl⟩) fun vl s2 ⟨l2, H2, I2, pl, el, e2⟩ => ?_)
  subst el e2
  refine thn (po_none.run pins s2 σ H2 (fun o H3 => o = none ∧ H3 = H2) I2 ⟨rfl, rfl⟩) fun vu s3 ⟨u, H3, I3, pu, eu, e3⟩ => ?_
  subst eu e3
  refine thn (hst.run pins s3 σ H3 (fun o H4 => o = some (-1) ∧ H4 = H3) I3 ⟨1, rfl, -1, rfl, rfl, rfl⟩) fun vs s4 ⟨o, H4, I4, ps, eo, e4⟩ => ?_
  subst eo e4
  have I5 : Inv X pins σ H4 { s4 with heap := s4.heap.push { cls := .type "slice", data := .fields #[vl, vu, vs] } } := I4.kept (t' := s4.toks) fun b ob q => Heap.get?_push_of_some _ q
  obtain ⟨a1, rfl, g1⟩ := IsPart.raw pl
  obtain ⟨a2, rfl, g2⟩ := IsPart.raw pu
  obtain ⟨a3, rfl, g3⟩ := IsPart.raw ps
  cases a1 with
  | some y => cases g1
  | none =>
  cases a2 with
  | some y => cases g2
  | none =>
  cases a3 with
  | none => cases g3
  | some y =>
  obtain ⟨i, tk⟩ := y
  have hi : i = -1 := by injection g3
  subst hi
  refine tail_any (ops := [.str (mk l) t, .ref s4.heap.objs.size]) (typeIs_str _ _ _) (F.slot_str_getitem.lookup) ?_ (by with_unfolding_all rfl)
  refine wpAny_getItem_str_slice (l := none) (u := none) (st := some (-1, tk)) ⟨_, Heap.get?_push_size _ rfl, rfl, rfl⟩ rfl ?_
  show Made.post (Made.str ⟨((Builtin.Str.strSliceIndices none none (-1) (mk l).length).filterMap ((mk l).cps[·]?)).toArray⟩) (EP X pins σ Q) _
  rw [rev_pick]
  exact ⟨(by rw [show (⟨l.reverse.toArray⟩ : Str).length = (mk l.reverse).length from rfl, len_mk, List.length_reverse]; exact hl), .str (mk l.reverse), H4, I5.tok _, ⟨_, rfl⟩, q⟩
end
end Gn

set_option Elab.async false
set_option linter.all false
set_option maxRecDepth 100000
set_option maxHeartbeats 4000000
/-! own != by way of object.__ne__ -/
namespace Nws
open PySem PySem.Spec PySem.W PyProof.Rows
section
variable {prog : Program} {w : World} {A : Around} {E : Value → Shared → Prop} {s : Shared} {K : Frag} {x C f L : Addr} {ox : Obj} {od : Option Obj} {h₀ : Heap} {m : Str → Option Value} {b tb : Value}
theorem ifBound_B {M : Model} {name : Str} {id : String} {args : List Value} {Q : Option Value → Shared → Prop} (X : K.In s.heap) (I : InstAt s.heap x ox C od) (hs : findIn K (.ref C) name = some (some (.builtin id)))
    (hb : ∀ self, bindSpecial (.builtin id) self = pure (.builtin id, [self])) (h : wpAny M A (call (.builtin id) (.ref x :: args)) (fun v => Q (some v)) E s) : wpAny M A (callSpecialIfBound? (.ref x) name args) Q E s := by
  unfold callSpecialIfBound? bindSpecialIfBound?
  refine wpAny_holding (wpAny_bind (wpAny_bind (wpAny_bind (I.type.here ((looks_findIn X hs).here ?_)))))
  refine wpAny_bind (wpAny_askSetting (wpAny_ite ?_))
  have fin : wpAny M A (call (.builtin id) ([.ref x] ++ args) >>= fun v => pure (some v)) Q E s := wpAny_bind (wpAny_mono h (fun v s' h' => wpAny_pure h') fun _ _ h' => h')
  split
  · exact wpAny_bind ((Looks.of_pure (hb _)).here (wpAny_pure (by exact fin)))
  · exact wpAny_tryCatch (wpAny_bind ((Looks.of_pure (hb _)).here (wpAny_pure (by exact fin))))
open Builtin in
theorem ne_entry {Q : Value → Shared → Prop} (hu : A.in1.units < cLine) (X : K.In s.heap) (I : InstAt s.heap x ox C od) (hm : mroIn K C (.type "object") = some true) (he : findIn K (.ref C) "__eq__" = some (some (.ref f))) (hf : isFn K (.ref f) = true)
    (h : wpAny (model prog w) A.in1 (call (.ref f) [.ref x, b]) (fun v s' => ∃ c, v = .bool c ∧ Q (.bool (!c)) s') E s) : wpAny (model prog w) A (call (.builtin "object.__ne__") [.ref x, b]) Q E s := by
  refine wpAny_call (codeAny_call_builtin PySem.F.slot_tuple_iterator_ne.plain PySem.F.cmpEntry_ne (check_slot (i := "object.__ne__") (owner := "object") (n := "__ne__") (by decide +kernel) (by decide +kernel) (I.type.andThen (looks_mroIn X hm)) (PySem.F.cmpArgs_ne _ _) ?_))
  unfold Builtin.«object.__ne__»
  refine wpAny_bind (m := slotArgs "__ne__" 1 _) (wpAny_pure ?_)
  refine wpAny_bind (m := cRoomFor _ _) (wpAny_cRoomFor hu ?_)
  refine wpAny_bind (m := callSpecialIfBound? (.ref x) (Str.ofString "__eq__") _) (ifBound_K X I he hf (wpAny_mono h (fun r s' hq => ?_) fun _ _ y => y))
  obtain ⟨c, rfl, hq⟩ := hq
  exact wpAny_bind (m := truthy (.bool c)) (wpAny_truthy_bool (wpAny_pure hq))
theorem cmp_ne {Q : Value → Shared → Prop} (hu : A.units < cLine) (hu1 : A.in1.units < cLine) (F : Fr h₀ L s.heap m) (X₀ : K.In h₀) (I : InstAt s.heap x ox C od) (hb : Looks (model prog w) s.heap (typeOf b) tb) (hn : notFirst K C tb = true)
    (hs : findIn K (.ref C) "__ne__" = some (some (.builtin "object.__ne__"))) (hm : mroIn K C (.type "object") = some true) (he : findIn K (.ref C) "__eq__" = some (some (.ref f))) (hf : isFn K (.ref f) = true)
    (h : wpAny (model prog w) A.in1 (call (.ref f) [.ref x, b]) (fun v s' => ∃ c, v = .bool c ∧ Q (.bool (!c)) s') E s) : wpAny (model prog w) A (richCompare .NotEq (.ref x) b) Q E s := by
  have X := X₀.keeps F.keep
  have one : wpAny (model prog w) A (tryCompare (.ref x) "__ne__" b) (fun r s' => ∃ v, r = some v ∧ Q v s') E s := by
    unfold tryCompare
    refine wpAny_bind (ifBound_B X I hs PySem.F.slot_tuple_iterator_ne.bind (ne_entry hu1 X I hm he hf (wpAny_mono h (fun v s' hv => ?_) fun _ _ e => e)))
    obtain ⟨c, rfl, hq⟩ := hv
    exact ⟨c, rfl, wpAny_pure ⟨_, rfl, hq⟩⟩
  unfold richCompare
  simp only [oneThing_ref]
  refine wpAny_holding (wpAny_bind (wpAny_cRoomFor hu ?_))
  refine wpAny_bind (I.type.here (wpAny_bind (hb.here ?_)))
  rw [PySem.cmpInfo_NotEq]
  split
  · rename_i q
    have e : subIn K tb (.ref C) = some false := by
      rcases Bool.or_eq_true_iff.mp hn with e | e
      · rw [beq_iff_eq.mp e] at q; simp at q
      · exact beq_iff_eq.mp e
    refine wpAny_bind ((looks_subIn X e).here ?_)
    simp only [Bool.false_eq_true, if_false]
    refine wpAny_bind (wpAny_mono one (fun r s' z => ?_) fun _ _ e => e)
    obtain ⟨v, rfl, hq⟩ := z
    exact wpAny_pure hq
  · refine wpAny_bind (wpAny_pure ?_)
    simp only [Bool.false_eq_true, if_false]
    refine wpAny_bind (wpAny_mono one (fun r s' z => ?_) fun _ _ e => e)
    obtain ⟨v, rfl, hq⟩ := z
    exact wpAny_pure hq
end
end Nws
namespace Ows
open PySem PySem.Spec PyProof.Rows L2 ClX
section
variable {X : Cx} {CX : CXT} {k : Nat} {C g : Addr} {sp : Sp} {E : XK}
def rNeOwn (K : PySem.W.Frag) (C : Addr) (sp : Sp) (E : XK) : R2 := fun x y H Q => ∃ (a dx : Addr) (fs : List (Str × V)) (t : Value), x = .ref a ∧ H a = some (.ins C dx fs) ∧ TyX K H y t ∧ PySem.W.notFirst K C t = true ∧ sp [x, y] H (fun z H' => ∃ b, z = .bl b ∧ Q (.bl (!b)) H') E
theorem op_neOwn (hs : PySem.W.findIn X.K (.ref C) "__ne__" = some (some (.builtin "object.__ne__"))) (hm : PySem.W.mroIn X.K C (.type "object") = some true) (he : PySem.W.findIn X.K (.ref C) "__eq__" = some (some (.ref g))) (hf : PySem.W.isFn X.K (.ref g) = true) (F : FnR X.prog X.w X.K X.mg X.base CX k g sp)
    (hr : Room (k + 1) X.A) (hx : Passes CX X E) : OpR X (compareOp .NotEq) (rNeOwn X.K C sp E) := by
  intro pins s σ H x y v u Q I rx ry h
  obtain ⟨a, dx, fs, t, rfl, ha, hy, hn, q⟩ := h
  cases (show v = Value.ref a from rx)
  obtain ⟨mA, O, _⟩ := ins_get I.hok ha
  obtain ⟨od, J, _⟩ := O.look
  obtain ⟨Pp, Z, pz, _⟩ := kit_of I ry hy
  obtain ⟨m, hF⟩ := I.fr
  show wpAny _ _ (richCompare .NotEq _ _) _ _ _
  have hr1 : Room k X.A.in1 := hr.in1
  refine Nws.cmp_ne (tb := t) hr.units0 hr1.units0 hF I.ok.mod.kin J (Z.ty _ _ I.kIn pz) hn hs hm he hf ?_
  refine wpAny_mono (wpAny_call (SlX.run_at (us := [.ref a, u]) (ws := [.ref a, y]) F hr1 I.env0.in1 hx I (.cons rfl (.cons ry .nil)) q)) (fun w s' z => ?_) fun _ _ x => x
  obtain ⟨z', H', I', rz, b, eb, qz⟩ := z
  subst eb
  cases (show w = Value.bool b from rz)
  exact ⟨b, rfl, .bl (!b), H', I', rfl, qz⟩
end
end Ows

set_option Elab.async false
set_option linter.all false
set_option maxRecDepth 100000
set_option maxHeartbeats 4000000
/-! enumerate of a tuple -/
namespace PySem
open AutoSeq1 (wpAny_loadPart')
theorem meets_enumerate_newT (l : Addr) (items : Array Value) (n : Nat) (dct : Option Addr) (sl : Array (Option Value)) :
    Meets (Builtin.«enumerate.__new__» ⟨[.type "enumerate", .ref l], []⟩) (fun _ R s => s.heap.get? l = some { cls := .type "tuple", dict := dct, data := .seq items n, slots := sl } ∧
      R (.ok (.ret (.ref (s.heap.push { cls := .type "tuple_iterator", data := .fields #[.ref l, .int 0 0] }).objs.size)))
        { s with heap := (s.heap.push { cls := .type "tuple_iterator", data := .fields #[.ref l, .int 0 0] }).push { cls := .type "enumerate", data := .fields #[.none, .bool false, .ref s.heap.objs.size, rawInt 0, .none, .none] } }) :=
  .of_wp fun prog w A R s h => by
    obtain ⟨hp, g, d, tk, os⟩ := s; obtain ⟨hl, h⟩ := h
    have hsub := sub_enumerate
    have hL : Heap.IsTuple (Shared.heap ⟨hp, g, d, tk, os⟩) l items := ⟨_, hl, rfl, n, rfl⟩
    wp_walk using wpAny_loadPart' hl
    refine wpAny_stack_any fun st => wpAny_pure ?_
    split
    · rename_i c _ _ _ _ _
      cases (c == Value.type "enumerate")
      · wp_walk using wpAny_loadPart' hl, wpAny_pyIter_tuple hL
        exact ⟨_, rfl, h⟩
      · wp_walk using wpAny_loadPart' hl, wpAny_pyIter_tuple hL
        exact ⟨_, rfl, h⟩
    · wp_walk using wpAny_loadPart' hl, wpAny_pyIter_tuple hL
      exact ⟨_, rfl, h⟩
theorem call_enumerate_tuple {prog : Program} {w : World} {A : Around} {E : Value → Shared → Prop} {s : Shared} {l : Addr} {items : Array Value} {Q : Value → Shared → Prop} (hL : s.heap.IsTuple l items)
    (h : ∀ h', IsEnum h' (s.heap.objs.size + 1) s.heap.objs.size 0 .none → h'.IsTupleIter s.heap.objs.size l 0 → h'.objs.size = s.heap.objs.size + 2 →
      (∀ b o, s.heap.get? b = some o → h'.get? b = some o) → Q (.ref (s.heap.objs.size + 1)) { s with heap := h' }) :
    wpAny (model prog w) A (call (.type "enumerate") [.ref l]) Q E s := by
  obtain ⟨⟨c, dct, dt, sl⟩, hl, hc, n, hd⟩ := hL
  replace hc : c = .type "tuple" := hc
  replace hd : dt = .seq items n := hd
  subst hc hd
  refine callType_new F.called_enumerate (by decide) (F.typeCall_enumerate_1 _) (F.newCall_enumerate_1 _) (fun obj => F.args_object_init_2 obj _) F.entry_enumerate_new
    (meets_enumerate_newT l items n dct sl) ⟨hl, ?_⟩
  have hz : (s.heap.push { cls := .type "tuple_iterator", data := .fields #[.ref l, .int 0 0] }).objs.size = s.heap.objs.size + 1 := Heap.size_push ..
  show _ ∧ _
  rw [hz]
  have he : IsEnum ((s.heap.push { cls := .type "tuple_iterator", data := .fields #[.ref l, .int 0 0] }).push
      { cls := .type "enumerate", data := .fields #[.none, .bool false, .ref s.heap.objs.size, rawInt 0, .none, .none] }) (s.heap.objs.size + 1) s.heap.objs.size 0 .none := by
    have := Heap.get?_push_size (s.heap.push { cls := .type "tuple_iterator", data := .fields #[.ref l, .int 0 0] })
      (o := { cls := .type "enumerate", data := .fields #[.none, .bool false, .ref s.heap.objs.size, rawInt 0, .none, .none] }) rfl
    rw [hz] at this; exact this
  refine ⟨⟨_, he, rfl⟩, h _ he ⟨_, Heap.get?_push_of_some _ (Heap.get?_push_size _ rfl), rfl, rfl⟩ (by rw [Heap.size_push, hz]) fun b o x => Heap.get?_push_of_some _ (Heap.get?_push_of_some _ x)⟩
end PySem
namespace L2
open PySem PySem.Spec PyProof.Rows
/-- the tuple at a, each item in a new pair -/
def IteT (K : PySem.W.Frag) (a : Addr) : It :=
  ⟨fun i H => ∃ (xs : List V) (x : V), SqT K H a xs ∧ xs[i]? = some x, fun i H v H' => ∃ T x, v = .ref T ∧ H T = none ∧ H' = upd H T (.tup [.int (i : Nat), x]) ∧ ∀ xs, SqT K H a xs → xs[i]? = some x, fun i H => ∃ xs : List V, SqT K H a xs ∧ xs.length = i⟩
/-- a text, each sign in a new pair -/
def IteS (z : Str) : It :=
  ⟨fun i _ => i < z.cps.size, fun i H v H' => ∃ T c, v = .ref T ∧ H T = none ∧ H' = upd H T (.tup [.int (i : Nat), .str ⟨#[c]⟩]) ∧ z.cps[i]? = some c, fun i _ => z.cps.size = i⟩
theorem turn_enumT {P : Program} {w : World} {K : PySem.W.Frag} {elts : List Expr} {kk : Nat} {tpos : Pos} (a e it : Addr) :
    Turn P w K (.Tuple elts kk tpos) (IteT K a) [e, it] e (fun i h => (∃ old, IsEnum h e it ((i : Nat) : Int) old) ∧ h.IsTupleIter it a i ∧ e ≠ it) where
  mem := by simp
  obj := fun i h st b hb => by
    obtain ⟨⟨old, he⟩, ⟨o, ho, hc, hd⟩, _⟩ := st
    have e' : b = e ∨ b = it := by simpa using hb
    rcases e' with z | z
    · rw [z]; exact ⟨_, he, fun v q => nomatch q⟩
    · rw [z]; exact ⟨o, ho, fun v q => by rw [hd] at q; cases q⟩
  keep := fun i h h' st k => let ⟨⟨old, he⟩, hi, hne⟩ := st; ⟨⟨old, k e (by simp) _ he⟩, hi.at fun o q => k it (by simp) o q, hne⟩
  item := by
    intro X hP hw hK hc i pins s σ H E I hf st hg
    subst hP hw hK
    obtain ⟨⟨old, he⟩, hit, hne⟩ := st
    obtain ⟨xs, x, hq, hx⟩ := hg
    obtain ⟨its, rv, p, hz⟩ := I.tuple hq
    obtain ⟨u, hu, ru⟩ := rv.get hx
    have hel : e < s.heap.objs.size := Heap.lt_size he
    have hil : it < s.heap.objs.size := by obtain ⟨_, q, _⟩ := hit; exact Heap.lt_size q
    have hai : a ≠ it := fun z => by
      obtain ⟨o1, q1, c1, _⟩ := p
      obtain ⟨o2, q2, c2, _⟩ := hit
      rw [z, q2] at q1
      cases q1
      rw [c2] at c1
      revert c1
      decide
    have hae : e ≠ a := fun z => by
      obtain ⟨o1, q1, c1, _⟩ := p
      have he' := he
      unfold IsEnum at he'
      rw [z, q1] at he'
      cases he'
      have c2 : Value.type "enumerate" = Value.type "tuple" := c1
      revert c2
      decide
    refine wpAny_pyNext_enum_itemD (Draws.tuple (A := X.A.in1) (I.ok.hd hc) it a hai its.toArray) he ⟨hit, p⟩ (by rw [List.size_toArray]; exact (List.getElem?_eq_some_iff.mp hu).1) hne (by simp; exact ⟨hne, hae⟩) fun x2 h' tk hx2 ho hst' hT hsz hk => ?_
    have hx3 : x2 = u := by
      have h1 : its[i]? = some x2 := by simpa using hx2
      rw [hu] at h1
      cases h1
      rfl
    subst hx3
    refine ⟨_, rfl, wpAny_letOwnedTupleGo_enum (s := { s with heap := h', toks := tk + 1 }) ho fun h'' he' sb => ?_⟩
    have hT2 : h''.get? s.heap.objs.size = some { cls := .type "tuple", data := .seq #[.int i tk, x2] } := (sb.2 _ (Nat.ne_of_gt hel)).trans hT
    have new : ObjOk X.prog X.w (upd H s.heap.objs.size (.tup [.int (i : Nat), x])) h'' s.heap.objs.size (.tup [.int (i : Nat), x]) :=
      ⟨by show 2 ≤ sizeLine; decide, [.int i tk, x2], .cons ⟨_, rfl⟩ (.cons ru .nil), ⟨_, hT2, rfl, _, rfl⟩⟩
    have I1 : Inv X pins σ (upd H s.heap.objs.size (.tup [.int (i : Nat), x])) { s with heap := h'', toks := tk + 1 } :=
      I.turnedNew (ch := [e, it]) (fun b ob hb q => (sb.2 b (fun z => hb (by simp [z]))).trans (hk b ob (fun z => hb (by simp [z])) (fun z => hb (by simp [z])) q)) hf (Nat.le_refl _) new
    refine ⟨.ref s.heap.objs.size, _, I1, rfl, ⟨_, x, rfl, I.hok.fresh (Nat.le_refl _), rfl, fun ys hy => by rw [I.tuple_inj hy hq]; exact hx⟩, ⟨⟨x2, ?_⟩, hst'.1.at fun o q => (sb.2 it (Ne.symm hne)).trans q, hne⟩, fun b hb => ?_⟩
    · have e1 : ((i + 1 : Nat) : Int) = (i : Int) + 1 := by omega
      rw [e1]; exact he'
    · have hb' : b < s.heap.objs.size := by
        have e' : b = e ∨ b = it := by simpa using hb
        rcases e' with z | z
        · rw [z]; exact hel
        · rw [z]; exact hil
      rw [upd_ne (Nat.ne_of_lt hb')]
      exact (hf b hb).1
  done := by
    intro X hP hw hK hc i pins s σ H E I hf st hg
    subst hP hw hK
    obtain ⟨⟨old, he⟩, hit, hne⟩ := st
    obtain ⟨xs, hq, hx⟩ := hg
    obtain ⟨its, rv, p, hz⟩ := I.tuple hq
    obtain ⟨f0, f1, f2, f3, f4, f5⟩ := hf it (by simp)
    have hl := rv.length
    have hai : a ≠ it := fun z => by
      obtain ⟨o1, q1, c1, _⟩ := p
      obtain ⟨o2, q2, c2, _⟩ := hit
      rw [z, q2] at q1
      cases q1
      rw [c2] at c1
      revert c1
      decide
    have hn : its.toArray.size = i := by rw [List.size_toArray]; omega
    refine wpAny_pyNext_enum_endD (Draws.tuple (A := X.A.in1) (I.ok.hd hc) it a hai its.toArray) he ⟨by rw [hn]; exact hit, p⟩ fun h' eb => ⟨rfl, I.turned (t' := s.toks) (fun b o hb q => eb b o hb q) f0 f1 f3 f4 f5⟩
  self := fun A i s Q E st h => let ⟨⟨_, he⟩, _⟩ := st; wpAny_pyIter_enum he h
def iEnumT (K : PySem.W.Frag) (ta : TA) : TI := fun σ H R => ta σ H fun vs H1 => ∃ a xs, vs = [.ref a] ∧ SqT K H1 a xs ∧ R (IteT K a) H1
theorem pi_enumT {X : Cx} {e : Expr} {ta : TA} {p pos tpos : Pos} {elts : List Expr} {kk : Nat} (hg : Gl X "enumerate") (hm : X.mg "enumerate" = none) (ha : PA X [e] ta) (hs : starEach [e] X.env = [(false, eval e X.env)] := by rfl) :
    PI X (.Tuple elts kk tpos) (.Call (.Name "enumerate" p) [e] [] pos) (iEnumT X.K ta) := by
  refine ⟨fun pins s σ H R I h => ?_⟩
  refine Call_ (ld_blt I hg hm boot_enumerate (PyProof.Rows.callWith_type1 (thn (ha.run pos pins s σ H _ I h) fun us s1 ⟨vs, H1, I1, r1, q1⟩ => ?_) hs rfl))
  obtain ⟨a, xs, ex, hq, q⟩ := q1
  subst ex
  cases r1 with
  | cons r rr =>
    cases rr
    cases r
    obtain ⟨its, rv, p', hz⟩ := I1.tuple hq
    refine call_enumerate_tuple p' fun h' he hit hsz hk => wpAny_pyIter_enum he ?_
    have I2 : Inv X pins σ H1 { s1 with heap := h' } := I1.kept (t' := s1.toks) hk
    refine ⟨s1.heap.objs.size + 1, [s1.heap.objs.size + 1, s1.heap.objs.size], _, _, H1, rfl, I2, turn_enumT a (s1.heap.objs.size + 1) s1.heap.objs.size, ⟨⟨.none, he⟩, hit, Nat.succ_ne_self _⟩, fun b hb => ?_, q⟩
    have e' : b = s1.heap.objs.size + 1 ∨ b = s1.heap.objs.size := by simpa using hb
    have hle : s1.heap.objs.size ≤ b := by
      rcases e' with z | z
      · rw [z]; exact Nat.le_add_right _ _
      · rw [z]; exact Nat.le_refl _
    exact I1.fpOk hle (I1.hok.fresh hle)
theorem walk_enumT {K : PySem.W.Frag} {a : Addr} {xs : List V} : Walk (IteT K a) xs.length (fun H => SqT K H a xs) (YPair (fun i => some (.int (i : Nat))) (fun i => xs[i]?)) := by
  refine ⟨fun i _ hi q => ⟨xs, xs[i], q, by simp [hi]⟩, fun _ q => ⟨xs, q, rfl⟩, fun i H v H' _ q y => ?_⟩
  obtain ⟨T, x, h1, h2, h3, h4⟩ := y
  exact ⟨T, .int (i : Nat), x, h1, h2, h3, rfl, h4 xs q⟩
theorem turn_enumS {P : Program} {w : World} {K : PySem.W.Frag} {elts : List Expr} {kk : Nat} {tpos : Pos} (z : Str) (t : Tok) (e it : Addr) :
    Turn P w K (.Tuple elts kk tpos) (IteS z) [e, it] e (fun i h => (∃ old, IsEnum h e it ((i : Nat) : Int) old) ∧ h.IsStrIter it (strIterType z) z t i ∧ e ≠ it) where
  mem := by simp
  obj := fun i h st b hb => by
    obtain ⟨⟨old, he⟩, ⟨o, ho, hc, hd⟩, _⟩ := st
    have e' : b = e ∨ b = it := by simpa using hb
    rcases e' with y | y
    · rw [y]; exact ⟨_, he, fun v q => nomatch q⟩
    · rw [y]; exact ⟨o, ho, fun v q => by rw [hd] at q; cases q⟩
  keep := fun i h h' st k => by
    obtain ⟨⟨old, he⟩, ⟨o, ho, r⟩, hne⟩ := st
    exact ⟨⟨old, k e (by simp) _ he⟩, ⟨o, k it (by simp) _ ho, r⟩, hne⟩
  item := by
    intro X hP hw hK hc i pins s σ H E I hf st hg
    subst hP hw hK
    obtain ⟨⟨old, he⟩, hit, hne⟩ := st
    have hel : e < s.heap.objs.size := Heap.lt_size he
    have hil : it < s.heap.objs.size := by obtain ⟨_, q, _⟩ := hit; exact Heap.lt_size q
    refine wpAny_pyNext_enum_itemD (Draws.text (A := X.A.in1) (I.ok.hd hc) it z t) he hit hg hne (by simp; exact hne) fun x2 h' tk hx2 ho hst' hT hsz hk => ?_
    obtain ⟨c, u, hcu, rfl⟩ := hx2
    refine ⟨_, rfl, wpAny_letOwnedTupleGo_enum (s := { s with heap := h', toks := tk + 1 }) ho fun h'' he' sb => ?_⟩
    have hT2 : h''.get? s.heap.objs.size = some { cls := .type "tuple", data := .seq #[.int i tk, .str ⟨#[c]⟩ u] } := (sb.2 _ (Nat.ne_of_gt hel)).trans hT
    have new : ObjOk X.prog X.w (upd H s.heap.objs.size (.tup [.int (i : Nat), .str ⟨#[c]⟩])) h'' s.heap.objs.size (.tup [.int (i : Nat), .str ⟨#[c]⟩]) :=
      ⟨by show 2 ≤ sizeLine; decide, [.int i tk, .str ⟨#[c]⟩ u], .cons ⟨_, rfl⟩ (.cons ⟨_, rfl⟩ .nil), ⟨_, hT2, rfl, _, rfl⟩⟩
    have I1 : Inv X pins σ (upd H s.heap.objs.size (.tup [.int (i : Nat), .str ⟨#[c]⟩])) { s with heap := h'', toks := tk + 1 } :=
      I.turnedNew (ch := [e, it]) (fun b ob hb q => (sb.2 b (fun z => hb (by simp [z]))).trans (hk b ob (fun z => hb (by simp [z])) (fun z => hb (by simp [z])) q)) hf (Nat.le_refl _) new
    refine ⟨.ref s.heap.objs.size, _, I1, rfl, ⟨_, c, rfl, I.hok.fresh (Nat.le_refl _), rfl, hcu⟩, ⟨⟨.str ⟨#[c]⟩ u, ?_⟩, ?_, hne⟩, fun b hb => ?_⟩
    · have e1 : ((i + 1 : Nat) : Int) = (i : Int) + 1 := by omega
      rw [e1]; exact he'
    · obtain ⟨o, q, r⟩ := hst'
      exact ⟨o, (sb.2 it (Ne.symm hne)).trans q, r⟩
    · have hb' : b < s.heap.objs.size := by
        have e' : b = e ∨ b = it := by simpa using hb
        rcases e' with y | y
        · rw [y]; exact hel
        · rw [y]; exact hil
      rw [upd_ne (Nat.ne_of_lt hb')]
      exact (hf b hb).1
  done := by
    intro X hP hw hK hc i pins s σ H E I hf st hg
    subst hP hw hK
    obtain ⟨⟨old, he⟩, hit, hne⟩ := st
    obtain ⟨f0, f1, f2, f3, f4, f5⟩ := hf it (by simp)
    have hn : z.cps.size = i := hg
    refine wpAny_pyNext_enum_endD (Draws.text (A := X.A.in1) (I.ok.hd hc) it z t) he (by rw [hn]; exact hit) fun h' eb => ⟨rfl, I.turned (t' := s.toks) (fun b o hb q => eb b o hb q) f0 f1 f3 f4 f5⟩
  self := fun A i s Q E st h => let ⟨⟨_, he⟩, _⟩ := st; wpAny_pyIter_enum he h
def iEnumS (ta : TA) : TI := fun σ H R => ta σ H fun vs H1 => ∃ z, vs = [.str z] ∧ R (IteS z) H1
theorem pi_enumS {X : Cx} {e : Expr} {ta : TA} {p pos tpos : Pos} {elts : List Expr} {kk : Nat} (hg : Gl X "enumerate") (hm : X.mg "enumerate" = none) (ha : PA X [e] ta) (hs : starEach [e] X.env = [(false, eval e X.env)] := by rfl) :
    PI X (.Tuple elts kk tpos) (.Call (.Name "enumerate" p) [e] [] pos) (iEnumS ta) := by
  refine ⟨fun pins s σ H R I h => ?_⟩
  refine Call_ (ld_blt I hg hm boot_enumerate (PyProof.Rows.callWith_type1 (thn (ha.run pos pins s σ H _ I h) fun us s1 ⟨vs, H1, I1, r1, q1⟩ => ?_) hs rfl))
  obtain ⟨z, ex, q⟩ := q1
  subst ex
  cases r1 with
  | cons r rr =>
    cases rr
    obtain ⟨t, rfl⟩ := r
    refine call_enumerate_str fun h' he hit hsz hk => wpAny_pyIter_enum he ?_
    have I2 : Inv X pins σ H1 { s1 with heap := h' } := I1.kept (t' := s1.toks) hk
    refine ⟨s1.heap.objs.size + 1, [s1.heap.objs.size + 1, s1.heap.objs.size], _, _, H1, rfl, I2, turn_enumS z t (s1.heap.objs.size + 1) s1.heap.objs.size, ⟨⟨.none, he⟩, hit, Nat.succ_ne_self _⟩, fun b hb => ?_, q⟩
    have e' : b = s1.heap.objs.size + 1 ∨ b = s1.heap.objs.size := by simpa using hb
    have hle : s1.heap.objs.size ≤ b := by
      rcases e' with y | y
      · rw [y]; exact Nat.le_add_right _ _
      · rw [y]; exact Nat.le_refl _
    exact I1.fpOk hle (I1.hok.fresh hle)
theorem walk_enumS {z : Str} : Walk (IteS z) z.cps.size (fun _ => True) (fun i H v H' => ∃ T c, v = .ref T ∧ H T = none ∧ H' = upd H T (.tup [.int (i : Nat), .str ⟨#[c]⟩]) ∧ z.cps[i]? = some c) :=
  ⟨fun i _ hi _ => hi, fun _ _ => rfl, fun i H v H' _ _ y => y⟩
end L2

set_option Elab.async false
set_option linter.all false
set_option maxRecDepth 100000
set_option maxHeartbeats 4000000
/-! composition: the core of joined programs -/
namespace Gn
open PySem PySem.Spec PyProof.Rows L2 Own Exn Mth Vld
theorem lst_spec (c : Nat) : ∀ l : List Nat, (lst? c l = none ∧ c ∉ l) ∨ ∃ a b, lst? c l = some a.length ∧ l = a ++ c :: b ∧ c ∉ b
  | [] => .inl ⟨rfl, fun h => nomatch h⟩
  | x :: l => by
    rcases lst_spec c l with ⟨e, h⟩ | ⟨a, b, e, h, h'⟩
    · by_cases hx : x = c
      · refine .inr ⟨[], l, ?_, by rw [hx]; rfl, h⟩
        show (match lst? c l with | some j => some (j + 1) | none => if x = c then some 0 else none) = _
        rw [e]
        show (if x = c then some 0 else none) = _
        rw [if_pos hx]
        rfl
      · refine .inl ⟨?_, fun hm => ?_⟩
        · show (match lst? c l with | some j => some (j + 1) | none => if x = c then some 0 else none) = _
          rw [e]
          show (if x = c then some 0 else none) = _
          rw [if_neg hx]
        · rcases List.mem_cons.mp hm with g | g
          · exact hx g.symm
          · exact h g
    · refine .inr ⟨x :: a, b, ?_, by rw [h]; rfl, h'⟩
      show (match lst? c l with | some j => some (j + 1) | none => if x = c then some 0 else none) = _
      rw [e]
      rfl
def unsG (U W : List Nat) : Nat → Nat → Nat
  | 0, _ => 0
  | k + 1, pl => match lst? (U.getD k 0) (W.take pl) with
    | none => k + 1
    | some j => unsG U W k j
def uns (U W : List Nat) : Nat := unsG U W U.length W.length
theorem unsG_stop {U W : List Nat} {k pl : Nat} (h : lst? (U.getD k 0) (W.take pl) = none) : unsG U W (k + 1) pl = k + 1 := by
  show (match lst? (U.getD k 0) (W.take pl) with | none => k + 1 | some j => unsG U W k j) = _
  rw [h]
theorem unsG_step {U W : List Nat} {k pl j : Nat} (h : lst? (U.getD k 0) (W.take pl) = some j) : unsG U W (k + 1) pl = unsG U W k j := by
  show (match lst? (U.getD k 0) (W.take pl) with | none => k + 1 | some j => unsG U W k j) = _
  rw [h]
theorem unsG_le (U W : List Nat) : ∀ k pl, unsG U W k pl ≤ k
  | 0, _ => Nat.le_refl _
  | k + 1, pl => by
    cases e : lst? (U.getD k 0) (W.take pl) with
    | none => rw [unsG_stop e]; exact Nat.le_refl _
    | some j => rw [unsG_step e]; exact Nat.le_succ_of_le (unsG_le U W k j)
theorem skip_sub {X : List Nat} {u : Nat} : ∀ (Y z : List Nat), u ∉ Y → (List.Sublist (X ++ [u]) (z ++ Y) ↔ List.Sublist (X ++ [u]) z)
  | [], z, _ => by rw [List.append_nil]
  | c :: Y, z, h => by
    rw [show z ++ c :: Y = (z ++ [c]) ++ Y by simp, skip_sub Y (z ++ [c]) (fun g => h (List.mem_cons_of_mem _ g)), sub_snoc, if_neg]
    intro g
    have e : u = c := by simpa using g
    exact h (by rw [e]; exact List.mem_cons_self ..)
theorem last_sub {X z : List Nat} {u : Nat} : List.Sublist (X ++ [u]) (z ++ [u]) ↔ List.Sublist X z := by
  rw [sub_snoc, if_pos (by simp)]
  simp
theorem uns_sub (U W z : List Nat) : ∀ k pl : Nat, k ≤ U.length → (List.Sublist (U.take k) (z ++ W.take pl) ↔ List.Sublist (U.take (unsG U W k pl)) z)
  | 0, pl, _ => by
    rw [show unsG U W 0 pl = 0 from rfl]
    exact ⟨fun _ => List.nil_sublist _, fun _ => List.nil_sublist _⟩
  | k + 1, pl, hk => by
    have hk1 : k < U.length := by omega
    have e1 : U.take (k + 1) = U.take k ++ [U.getD k 0] := by
      rw [List.take_add_one, List.getElem?_eq_getElem hk1, List.getD_eq_getElem?_getD, List.getElem?_eq_getElem hk1]
      rfl
    rcases lst_spec (U.getD k 0) (W.take pl) with ⟨e, h⟩ | ⟨a, b, e, h, h'⟩
    · rw [unsG_stop e, e1, skip_sub _ _ h]
    · rw [unsG_step e, e1, h, show z ++ (a ++ U.getD k 0 :: b) = ((z ++ a) ++ [U.getD k 0]) ++ b by simp, skip_sub _ _ h', last_sub]
      have hl : a.length ≤ pl := by
        have := congrArg List.length h
        rw [List.length_take, List.length_append] at this
        omega
      have ha : a = W.take a.length := by
        have := congrArg (List.take a.length) h
        rw [List.take_take, List.take_left' rfl, Nat.min_eq_left hl] at this
        exact this.symm
      have ih := uns_sub U W z k a.length (by omega)
      rw [← ha] at ih
      exact ih
theorem uns_iff (U W z : List Nat) : List.Sublist U (z ++ W) ↔ List.Sublist (U.take (uns U W)) z := by
  have := uns_sub U W z U.length W.length (Nat.le_refl _)
  rw [List.take_length, List.take_length] at this
  exact this
theorem uns_le (U W : List Nat) : uns U W ≤ U.length := unsG_le U W _ _
theorem bst_app : ∀ (p q z : List Nat), bst (p ++ q) z = (bst p z).bind (bst q)
  | [], q, z => rfl
  | c :: p, q, z => by
    show bst (c :: (p ++ q)) z = _
    by_cases h : 97 ≤ c
    · rw [bst_put h, bst_put h]
      exact bst_app p q _
    · cases e : fst? (c + 32) z with
      | none => rw [bst_fail h e, bst_fail h e]; rfl
      | some k => rw [bst_take h e, bst_take h e]; exact bst_app p q _
theorem aft_sub : ∀ (R u y : List Nat), List.Sublist (R ++ u) y ↔ ∃ r, aft R y = some r ∧ List.Sublist u r
  | [], u, y => by
    rw [aft_nil]
    exact ⟨fun h => ⟨y, rfl, h⟩, fun ⟨r, e, h⟩ => by cases e; exact h⟩
  | c :: R, u, y => by
    rw [aft_fst]
    cases e : fst? c y with
    | none =>
      refine ⟨fun h => ?_, fun ⟨r, e, _⟩ => nomatch e⟩
      have : c ∈ y := h.subset (List.mem_cons_self ..)
      exact absurd this (fst_mem.mp e)
    | some k =>
      show List.Sublist (c :: (R ++ u)) y ↔ _
      rw [sub_fst e]
      exact aft_sub R u _
theorem app_ok (p q z : List Nat) : bst (p ++ q) z ≠ none ↔ List.Sublist ((tkS p).take (coreN p)) z ∧ List.Sublist (tkS p ++ (tkS q).take (coreN q)) (z ++ puS p) := by
  rw [bst_app]
  have hp := bst_iff p z
  rw [(pend_core p).1] at hp
  rw [aft_sub]
  cases e : bst p z with
  | none =>
    constructor
    · intro h; exact absurd rfl h
    · intro h; exact absurd e (hp.mpr h.1)
  | some r =>
    have hq := bst_iff q r
    rw [(pend_core q).1] at hq
    have ha := bst_aft p z r e
    show bst q r ≠ none ↔ _
    rw [hq]
    constructor
    · intro h; exact ⟨hp.mp (by rw [e]; exact fun z => nomatch z), r, ha, h⟩
    · rintro ⟨_, r', e', h'⟩
      rw [ha] at e'
      cases e'
      exact h'
theorem tkS_app (p q : List Nat) : tkS (p ++ q) = tkS p ++ tkS q := by unfold tkS; rw [List.filter_append, List.map_append]
theorem puS_app (p q : List Nat) : puS (p ++ q) = puS p ++ puS q := by unfold puS; rw [List.filter_append]
theorem pre_eq {R : List Nat} {m n : Nat} (hm : m ≤ R.length) (hn : n ≤ R.length) (h : ∀ z, List.Sublist (R.take m) z ↔ List.Sublist (R.take n) z) : m = n := by
  have h1 := ((h (R.take n)).mpr (List.Sublist.refl _)).length_le
  have h2 := ((h (R.take m)).mp (List.Sublist.refl _)).length_le
  rw [List.length_take, List.length_take] at h1 h2
  omega
theorem pre_max {R z : List Nat} (m n : Nat) : (List.Sublist (R.take m) z ∧ List.Sublist (R.take n) z) ↔ List.Sublist (R.take (max m n)) z := by
  have mono : ∀ {a b : Nat}, a ≤ b → List.Sublist (R.take b) z → List.Sublist (R.take a) z := fun {a b} h s => by
    have e : R.take a = (R.take b).take a := by rw [List.take_take, Nat.min_eq_left h]
    rw [e]
    exact (List.take_sublist _ _).trans s
  constructor
  · rintro ⟨h1, h2⟩
    rcases Nat.le_total m n with h | h
    · rw [Nat.max_eq_right h]; exact h2
    · rw [Nat.max_eq_left h]; exact h1
  · intro h
    exact ⟨mono (Nat.le_max_left ..) h, mono (Nat.le_max_right ..) h⟩
def jcore (R W : List Nat) (k : Nat) (R' : List Nat) (k' : Nat) : Nat := max k (uns (R ++ R'.take k') W)
theorem core_app (p q : List Nat) : coreN (p ++ q) = jcore (tkS p) (puS p) (coreN p) (tkS q) (coreN q) := by
  obtain ⟨e, hle⟩ := pend_core (p ++ q)
  have hk := (pend_core p).2
  have hk' := (pend_core q).2
  have hu := uns_le (tkS p ++ (tkS q).take (coreN q)) (puS p)
  rw [List.length_append, List.length_take] at hu
  rw [tkS_app] at e hle
  have hj : jcore (tkS p) (puS p) (coreN p) (tkS q) (coreN q) ≤ (tkS p ++ tkS q).length := by
    unfold jcore
    rw [List.length_append]
    exact Nat.max_le.mpr ⟨by omega, by omega⟩
  refine pre_eq hle hj fun z => ?_
  rw [← e, ← bst_iff, app_ok, uns_iff]
  unfold jcore
  rw [← pre_max]
  have e1 : (tkS p).take (coreN p) = (tkS p ++ tkS q).take (coreN p) := by rw [List.take_append_of_le_length hk]
  have e2 : (tkS p ++ (tkS q).take (coreN q)).take (uns (tkS p ++ (tkS q).take (coreN q)) (puS p)) = (tkS p ++ tkS q).take (uns (tkS p ++ (tkS q).take (coreN q)) (puS p)) := by
    rw [List.take_append, List.take_append, List.take_take]
    congr 2
    omega
  rw [e1, e2]
end Gn

set_option Elab.async false
set_option linter.all false
set_option maxRecDepth 100000
set_option maxHeartbeats 4000000
/-! methods by a positional promise, errors at places -/
namespace Cmx
open PySem PySem.Spec PyProof.Rows L2 ClX
section
variable {X : Cx} {CX : CXT} {k : Nat} {f C : Addr} {sp : Sp} {E : L2.St → XK} {m : Str} {pos apos : Pos} {e o : Expr} {es : List Expr} {ta : TE} {t : TA}
theorem run_fnRS {pins : List (Addr × Obj)} {σ : L2.St} {H : Hp} {s : Shared} {Q : VK} {us : List Value} {vs : List V} (F : FnR X.prog X.w X.K X.mg X.base CX k f sp) (hr : Room k X.A) (hx : PassesAt CX X σ (E σ))
    (I : Inv X pins σ H s) (r : Vals vs us) (h : sp vs H Q (E σ)) : wpAny (model X.prog X.w) X.A (call (.ref f) us) (EP X pins σ Q) X.xe s := by
  refine wpAny_call (codeAny_mono (F X.A X.stack s H us vs Q (E σ) hr I.env0 r h) fun r s' hq => ?_)
  cases r with
  | error e => exact hx pins H s e s' I hq
  | ok fl =>
    cases fl with
    | ret u => exact I.after hq
    | next => exact False.elim hq
    | brk => exact False.elim hq
    | cont => exact False.elim hq
theorem pe_methRS {pl : Sem Bool} (he : PE X o ta) (c : Cls X.K C) (hm : Meth X.K C m f) (F : FnR X.prog X.w X.K X.mg X.base CX k f sp) (hr : Room k X.A) (hx : ∀ σ, PassesAt CX X σ (E σ)) (ha : PA X (e :: es) t)
    (hst : starEach (e :: es) X.env = (false, eval e X.env) :: starEach es X.env := by rfl) (hpl : (backTo pos (starEach es X.env)).any (·.1) = false := by rfl)
    (ht : eval (.Call (.Attribute o m apos) (e :: es) [] pos) X.env = (do
      let ov ← eval o X.env
      standAt apos.atName
      let (f, first) ← holding [ov] (getMethod ov m pl)
      callWith pos f first (backTo pos (starEach (e :: es) X.env)) (backToKw pos (keywordEach [] X.env))) := by rfl) :
    PE X (.Call (.Attribute o m apos) (e :: es) [] pos) (tMethX C m sp E ta t) := by
  refine ⟨fun pins s σ H Q I h => ?_⟩
  refine PySem.W.methodCall_KW (pl := pl) (thn (he.run pins s σ H _ I h) fun u s1 ⟨x, H1, I1, rx, a, dx, fs, ex, ea, l, q⟩ => ?_) ht
  subst ex
  obtain rfl : u = Value.ref a := rx
  refine getmeth_ok I1 ea c hm l ?_
  refine PySem.W.callWith_K (first := [.ref a]) (h₀ := X.base) I.ok.mod.kin hm.kp (thn (ha.run pos pins s1 σ H1 _ I1 q) fun us s2 ⟨vs, H2, I2, r, q2⟩ => ⟨I2.kIn, ?_⟩) hst hpl
  exact run_fnRS (us := .ref a :: us) (vs := .ref a :: vs) F hr (hx σ) I2 (.cons rfl r) q2
theorem pe_methRS0 {pl : Sem Bool} (he : PE X o ta) (c : Cls X.K C) (hm : Meth X.K C m f) (F : FnR X.prog X.w X.K X.mg X.base CX k f sp) (hr : Room k X.A) (hx : ∀ σ, PassesAt CX X σ (E σ))
    (ht : eval (.Call (.Attribute o m apos) [] [] pos) X.env = (do
      let ov ← eval o X.env
      standAt apos.atName
      let (f, first) ← holding [ov] (getMethod ov m pl)
      callWith pos f first (backTo pos (starEach [] X.env)) (backToKw pos (keywordEach [] X.env))) := by rfl) :
    PE X (.Call (.Attribute o m apos) [] [] pos) (tMethX C m sp E ta tNil) := by
  refine ⟨fun pins s σ H Q I h => ?_⟩
  refine PySem.W.methodCall_KW (pl := pl) (thn (he.run pins s σ H _ I h) fun u s1 ⟨x, H1, I1, rx, a, dx, fs, ex, ea, l, q⟩ => ?_) ht
  subst ex
  obtain rfl : u = Value.ref a := rx
  refine getmeth_ok I1 ea c hm l ?_
  exact PySem.W.callWith_K0 (first := [.ref a]) I1.kIn hm.kp (run_fnRS (us := [.ref a]) (vs := [.ref a]) F hr (hx σ) I1 (.cons rfl .nil) q)
end
end Cmx

set_option Elab.async false
set_option linter.all false
set_option maxRecDepth 100000
set_option maxHeartbeats 4000000
/-! readings with names of their own -/
namespace Cmx
open PySem PySem.Spec PyProof.Rows L2 ClX
section
variable {X : Cx}
def rLenQ (K : PySem.W.Frag) : List V → Hp → VK → Prop := fun xs H Q => ∃ p ys, xs = [.ref p] ∧ (SqL K H p ys ∨ SqT K H p ys) ∧ Q (.int ys.length) H
theorem call_lenQ : CallR X (.builtin "len") (rLenQ X.K) := call_len_seq
def rLenT : List V → Hp → VK → Prop := fun xs H Q => ∃ z, xs = [.str z] ∧ z.length ≤ sizeLine ∧ Q (.int z.length) H
theorem call_lenT : CallR X (.builtin "len") rLenT := call_len_str
end
end Cmx

set_option Elab.async false
set_option linter.all false
set_option maxRecDepth 100000
set_option maxHeartbeats 4000000
/-! except (A, B): a suite that raises out of the try, «from None» -/
namespace Tvx
open PySem PySem.Spec PyProof.Rows L2 L2H
theorem fly_on {B h h' : Heap} {l : List Env} {e : Addr} {Z : Obj → Prop} (x : HandSPX.FlyingZ B l e Z h) (more : ∀ b o, h.get? b = some o → h'.get? b = some o) : HandSPX.FlyingZ B l e Z h' := by
  obtain ⟨i1, i2, i3, oe, vs, T, oT, ts, j1, j2, j3, j4, j5, j6, j7, j8, j9⟩ := x
  exact ⟨fun b o z => more b o (i1 b o z), i2, i3.of_keeps (fun b o z _ => ⟨o, more b o z, rfl⟩), oe, vs, T, oT, ts, more _ _ j1, j2, j3, j4, j5, j6, more _ _ j7, j8, j9⟩
section
variable {X : Cx}
/-- the test of a clause: it asks whether the error's class is one of cs -/
def Tst (X : Cx) (tt : Expr) (cs : List Value) : Prop := ∀ (q : Addr) (pn : List (Addr × Obj)) (τ : L2.St) (G : Hp) (s : Shared) (cls : Value) (b : Bool) (Q : Bool → Shared → Prop) (E : Value → Shared → Prop), Inv (X.suite q pn) [] τ G s → PySem.W.Looks (model X.prog X.w) s.heap (typeOf (.ref q)) cls →
  PySem.W.exmAny X.K cls cs = some b → (∀ h', (∀ a o, s.heap.get? a = some o → h'.get? a = some o) → Q b { s with heap := h' }) → wpAny (model X.prog X.w) (X.A.mark (some (.ref q))) (eval tt X.env) (fun c s1 => wpAny (model X.prog X.w) (X.A.mark (some (.ref q))) (excMatches (.ref q) c) Q E s1) E s
theorem name_at {x : Str} {c : Value} {np : Pos} {q : Addr} {pn : List (Addr × Obj)} {τ : L2.St} {G : Hp} {s : Shared} {Q : Value → Shared → Prop} {E : Value → Shared → Prop} (hc : Names X x c) (I : Inv (X.suite q pn) [] τ G s) (z : Q c s) :
    wpAny (model X.prog X.w) (X.A.mark (some (.ref q))) (eval (.Name x np) X.env) Q E s := by
  rcases hc with ⟨g1, g2, g3 | ⟨g3, g4, g5⟩⟩
  · exact ld_glob (X := X.suite q pn) I g1 g3 z g2
  · exact ld_blt (X := X.suite q pn) I g1 g3 g4 z g5 g2
theorem tst_two {x1 x2 : Str} {c1 c2 : Value} {p1 p2 tpos : Pos} {kk : Nat} (n1 : Names X x1 c1) (n2 : Names X x2 c2) : Tst X (.Tuple [.Name x1 p1, .Name x2 p2] kk tpos) [c1, c2] := by
  intro q pn τ G s cls b Q E I ty hb z
  refine wpAny_Tuple (wpAny_items_cons (name_at n1 I (wpAny_items_cons (name_at n2 I (wpAny_items_nil ⟨by size_fits, ?_⟩)))))
  have more : ∀ a o, s.heap.get? a = some o → (s.heap.push { cls := .type "tuple", data := .seq [c1, c2].toArray }).get? a = some o := fun _ _ y => Heap.get?_push_of_some _ y
  exact (PySem.W.exm_tup2 (I.kIn.keeps more) (ty.keeps more) (Heap.get?_push_size s.heap rfl) hb).here (z _ more)
def wTst (K : PySem.W.Frag) (Wout : WX) (D : Ends) (cs : List Value) (ts : Addr → Value → Option Addr → TS) : WX := fun cls d τ G => ∃ b, PySem.W.exmAny K cls cs = some b ∧ (b = true → ∀ q, G q = none → ts q cls d D τ G) ∧ (b = false → Wout cls d τ G)
def tTryT (K : PySem.W.Frag) (Wout : WX) (cs : List Value) (ts : Addr → Value → Option Addr → TS) (tb : WX → TS) : TS := fun D τ G => tb (wTst K Wout D cs ts) D τ G
variable {tt : Expr} {cs : List Value} {body su : List Stmt} {s0 : Stmt} {pos pos' : Pos} {tb : WX → TS} {ts : Addr → Value → Option Addr → TS} {Wout : WX}
theorem ps_tryT (hst : X.stack = X.env :: X.outer) (hfr : X.env.frame = some X.env.locals) (ht : Tst X tt cs) (leave : ∀ hd : Option Value, PassesOwnAt (model X.prog X.w) (X.A.mark hd) X.A X.env X.xe) (out : L2.Takes X Wout)
    (hbd : ∀ (W : WX) (pn : List (Addr × Obj)) (xe : Value → Shared → Prop), L2N.Takes (X.tr pn xe) W → PassesOwn (model X.prog X.w) X.A X.env xe → PSs (X.tr pn xe) body (tb W))
    (hsu : ∀ (q : Addr) (oq : Obj) (cls : Value) (d : Option Addr) (pn : List (Addr × Obj)), L2N.Zn cls d oq → (∃ vs, oq.data = .fields vs) → L2.Takes (suiteX X q ((q, oq) :: pn)) Wout → HotC (suiteX X q ((q, oq) :: pn)) → PSs (suiteX X q ((q, oq) :: pn)) (s0 :: su) (ts q cls d)) :
    PS X (.Try body [.ExceptHandler (some tt) none (s0 :: su) pos'] [] [] pos) (tTryT X.K Wout cs ts tb) := by
  refine ⟨fun pins s τ G D I h => wpAny_Try_except ?_⟩
  have ok := I.ok
  have frames : X.A.frames = some (X.env :: X.outer) := by rw [ok.frames, hst]
  refine wpAny_mono ((hbd (wTst X.K Wout D cs ts) (X.pn ++ pins) _ (fun u s' got => ?C) PassesOwn.looking).run [] s τ G D (I.toTry _) h) (fun f s1 hsp => ?_) (fun e s1 he => he)
  case C =>
    obtain ⟨q, B, sI, pins', τ', G', cls, d, rfl, J', nb, up, sky, nq, os, bare, w⟩ := got
    obtain ⟨b, hb, yes, no⟩ := w
    have J : Inv X pins τ' G' sI := J'.ofTry ok
    rw [hst] at sky
    refine L2N.Sky.land L2N.Zn.steady frames hfr sky fun h3 fl up3 => ?_
    have J3 : Inv X pins τ' G' { s' with heap := h3 } := J.landed nb fl.1 (up.trans up3) os bare
    obtain ⟨oq, vq, eq3, zq, dq⟩ := fl.there
    have apart : q ∉ frs (X.env :: X.outer) := fun hm => by
      obtain ⟨_, o', e', hnf⟩ := fl.2.2.1.mem hm
      rw [eq3] at e'; cases e'; exact hnf _ dq
    have nL : q ≠ X.env.locals := fun z => apart (List.mem_filterMap.mpr ⟨X.env, List.mem_cons_self, by rw [hfr, z]⟩)
    have nF : q ∉ X.fs := fun hm => by obtain ⟨e, he, r⟩ := List.mem_filterMap.mp hm; exact apart (List.mem_filterMap.mpr ⟨e, List.mem_cons_of_mem _ he, r⟩)
    have S3 := J3.suite eq3 dq nq nL nF
    have ty : PySem.W.Looks (model X.prog X.w) h3 (typeOf (.ref q)) cls := fun A Q E s k z => wpAny_typeOf_ref (k _ _ eq3) (by rw [zq.1]; exact z)
    refine wpAny_handleBy_cons (codeAny_handlers_test (ht q _ τ' G' { s' with heap := h3 } cls b _ _ S3 ty hb fun h4 more => ?_)) (fun z => by cases z)
    have fl4 := fly_on fl more
    have up4 : sI.heap.UpToSlots h4 := (up.trans up3).trans (Heap.UpToSlots.of_keeps more)
    cases b with
    | false =>
      obtain ⟨k1, k2, k3, oe, vs, T, oT, tt', e1, e2, e3, e4, e5⟩ := id fl4
      show wpAny _ X.A (handleBy (.ref q) X.env []) _ _ _
      refine wpAny_handleBy_nil ?_; unfold PySem.passOn; refine wpAny_bind (wpAny_field e1 e3 e4 ?_)
      rw [if_neg (by simp : ¬ ((Value.ref T == Value.none) = true))]
      have last : wpAny (model X.prog X.w) X.A (setFlight (.ref q) X.env.frame) (fun _ t => wpAny (model X.prog X.w) X.A (throw (.ref q) : Sem Flow) (SP X pins D) X.xe t) X.xe { s' with heap := h4 } := by
        rw [hfr]; refine HandSPX.setFlight_upZ fl4 fun h5 hh up5 => wpAny_throw (out _ _ ?_)
        have hh' : HandSPX.HeldZ B (X.env :: X.outer) q (Zc cls d) X.env.locals h5 := ⟨hh.1, hh.2.1, hh.2.2.1, tracedZ_imp (fun o z => z.zc) hh.2.2.2⟩
        exact ⟨q, B, sI, pins, τ', G', cls, d, rfl, J, nb, up4.trans up5, .inr (.inr (by rw [hst]; exact hh')), nq, os, bare, no rfl⟩
      first | exact wpAny_bind (wpAny_pure (wpAny_bind last)) | exact wpAny_bind last
    | true =>
      refine codeAny_handlers_suite (HandSPX.lands_againZ fl4 fun h5 fl5 up5 => ?_)
      have J5 : Inv X pins τ' G' { s' with heap := h5 } := J.landed nb fl5.1 (up4.trans up5) os bare
      obtain ⟨o5, v5, e5, z5, d5⟩ := fl5.there
      have S5 := J5.suite e5 d5 nq nL nF
      have tkS : L2.Takes (suiteX X q ((q, o5) :: (X.pn ++ pins))) Wout := fun u2 s2 got2 => by
        obtain ⟨a2, B2, sI2, pn2, τ2, G2, cls2, d2, f2, I2, g2, i2, j2, l2, m2, n2, w2⟩ := got2
        exact out u2 s2 ⟨a2, B2, sI2, pins, τ2, G2, cls2, d2, f2, unsuiteX I2 ok, g2, i2, j2, l2, m2, n2, w2⟩
      have hot : HotC (suiteX X q ((q, o5) :: (X.pn ++ pins))) := ⟨(q, o5), ⟨rfl, v5, d5, z5.2.2 v5 d5⟩, List.mem_cons_self⟩
      refine wpAny_mono ((hsu q o5 cls d (X.pn ++ pins) z5 ⟨_, d5⟩ tkS hot).run [] _ _ G' _ (suiteX_of S5) (yes rfl q nq)) (fun f s6 hsp => ?_) (fun e6 s6 z => leave (some (.ref q)) e6 s6 z)
      cases f with
      | ret u => obtain ⟨v6, τ6, G6, S6, r6, z6⟩ := hsp; exact ⟨_, _, _, unsuiteX S6 ok, r6, z6⟩
      | next => obtain ⟨τ6, G6, S6, z6⟩ := hsp; exact ⟨_, _, unsuiteX S6 ok, z6⟩
      | brk => obtain ⟨τ6, G6, S6, z6⟩ := hsp; exact ⟨_, _, unsuiteX S6 ok, z6⟩
      | cont => obtain ⟨τ6, G6, S6, z6⟩ := hsp; exact ⟨_, _, unsuiteX S6 ok, z6⟩
  cases f with
  | ret u => obtain ⟨v, τ6, G6, J6, r6, z6⟩ := hsp; exact ⟨v, τ6, G6, J6.ofTry ok, r6, z6⟩
  | next => obtain ⟨τ6, G6, J6, z6⟩ := hsp; exact wpAny_execs_nil ⟨τ6, G6, J6.ofTry ok, z6⟩
  | brk => obtain ⟨τ6, G6, J6, z6⟩ := hsp; exact ⟨τ6, G6, J6.ofTry ok, z6⟩
  | cont => obtain ⟨τ6, G6, J6, z6⟩ := hsp; exact ⟨τ6, G6, J6.ofTry ok, z6⟩
end
/-- what is let out with no context is let out -/
theorem weak {P : Program} {w : World} {K : PySem.W.Frag} {mg : Str → Option Value} {base : Heap} {k : Nat} {f : Addr} {fd : FuncData} {ps : List Str} {sp : Sp} (F : FnOk P w K mg base (L2N.CX P w) k f fd ps sp) : FnOk P w K mg base (L2.CX P w) k f fd ps sp := by
  refine ⟨F.len, fun A outer s H args us vs Q E hr e0 hb r hsp => codeAny_mono (F.run A outer s H args us vs Q E hr e0 hb r hsp) fun res s' hq => ?_⟩
  cases res with
  | ok fl => cases fl <;> exact hq
  | error e =>
    obtain ⟨a, B, H', cls, d, i1, i2, i3⟩ := hq
    exact ⟨a, B, H', cls, d, i1, flyingZ_imp (fun o z => z.zc) i2, i3⟩
section
variable {P : Program} {w : World} {K : PySem.W.Frag} {mg : Str → Option Value} {base : Heap}
/-- a def whose errors have no context -/
theorem okN {x qual : Str} {st : Stmt} {f : Addr} {fd : FuncData} {N ps : List Str} {k : Nat} {sp : Sp} (F : Fun K x qual st f fd) (S : FnScope N ps (defScope st)) (len : ∀ vs H Q E, sp vs H Q E → vs.length = ps.length)
    (hbody : ∀ (cdv : Value) (A : Around) (outer : List Env) (s : Shared) (H : Hp) (vs : List V) (Q : VK) (E : XK), Room k (A.deeper (envOfC qual (defScope st) s.heap.objs.size f cdv)) → sp vs H Q E →
      ∃ t, PSs (cxOf (L2N.CX P w) P w K mg base N qual (defScope st) f cdv A outer s H E) (defBody st) t ∧ t { nx := fun _ H' => Q .non H', rt := Q } (L2.start N vs) H) : FnOk P w K mg base (L2N.CX P w) (k + 1) f fd ps sp := by
  obtain ⟨oc, od, kV, doc, pm, an, cdv, ct, osl, rfl, lk, hcd⟩ := F.ex
  exact fn_of lk hcd S len fun A outer s H vs Q E => hbody cdv A outer s H vs Q E
end
end Tvx

set_option Elab.async false
set_option linter.all false
set_option maxRecDepth 100000
set_option maxHeartbeats 4000000
/-! errors made where one is handled, or with no context; len and repr of own classes -/
namespace Tvx
open PySem PySem.Spec PyProof.Rows L2 L2H Exn
section
variable {X : Cx} {nm qual : Str} {B Bm newId initId : String} {bmB bm0 : List Value} {C fI : Addr}
theorem pmk5_value {a : Expr} {ta : TA} {p pos : Pos} (T : Ecl_value X.K X.mg nm qual B Bm newId initId bmB bm0 C fI) (hdp : X.A.depth + 1 < recursionLimit) (ha : PA X [a] ta) (hg : Gl X nm) (hdb : (nm == ("__debug__" : Str)) = false := by decide)
    (he : starEach (a :: []) X.env = (false, eval a X.env) :: starEach [] X.env := by rfl) (hpl : (backTo pos (starEach [] X.env)).any (·.1) = false := by rfl) : PMk5 X (.Call (.Name nm p) [a] [] pos) (tMk_value C ta) := by
  intro pins s σ H Q I h
  refine wpAny_Call_Name_kw (ld_glob I hg T.gC ?_ hdb)
  refine PySem.W.callWith_K (h₀ := X.base) I.ok.mod.kin T.kC (thn (ha.run pos pins s σ H _ I h) ?_) he hpl
  rintro us s1 ⟨vs, H1, I1, r1, v, rfl, q1⟩
  obtain ⟨v', rfl, rv⟩ := vals1 r1
  refine ⟨I1.kIn, ?_⟩
  have hlim := I1.nolimit
  obtain ⟨hp, g, dr, tk, os⟩ := s1
  refine wpAny_call (made_value T I1.kIn hlim hdp (.inl ⟨rfl, rfl⟩) fun h' tk' e d M => ?_)
  show L2N.MkP X pins σ Q (.ref e) ⟨h', g, dr, tk', os⟩ ∧ Six (.ref e) ⟨h', g, dr, tk', os⟩
  obtain ⟨t1, hoe⟩ := M.obj
  have hns := M.ns
  obtain ⟨G', g1, g2⟩ := restrict h' fun b => decide (b ≠ e)
  have gk : ∀ b, b ≠ e → G'.get? b = h'.get? b := fun b hb => g1 b (decide_eq_true hb)
  have ge : G'.get? e = none := g2 e (by simp)
  have old : ∀ b o, hp.get? b = some o → G'.get? b = some o := fun b o q => (gk b (Nat.ne_of_lt (Nat.lt_of_lt_of_le (Heap.lt_size q) M.new))).trans (M.keep b o q)
  have ob : ObjOk X.prog X.w (upd H1 d (.xd [(("value" : Str), v)])) G' d (.xd [(("value" : Str), v)]) := ⟨_, hns.at (fun o q => (gk d M.dne).trans q), fun f => relO_value rv f⟩
  have J : Inv X pins σ (upd H1 d (.xd [(("value" : Str), v)])) ⟨G', g, dr, tk', os⟩ := I1.laid (t' := tk') old M.dbig ob
  refine ⟨⟨e, _, _, ⟨G', g, dr, tk', os⟩, _, .ref C, some d, rfl, J, fun b o q => ?_, ge, hoe, ⟨rfl, rfl, fun vs hv => by cases hv; rfl⟩, rfl, rfl, ?_, rfl, I1.bare, raises_own T.exC T.tyC, q1 d (I1.hok.fresh M.dbig)⟩, fun a2 oe2 vs2 ea hg2 hd2 => ?_⟩
  · by_cases hb : b = e
    · have q' : G'.get? b = some o := q
      rw [hb, ge] at q'
      cases q'
    · exact (gk b hb).symm.trans q
  · rw [upd_ne (Ne.symm M.dne)]
    exact I1.hok.fresh M.new
  · cases ea
    have hg3 : h'.get? e = some oe2 := hg2
    rw [hoe] at hg3
    cases hg3
    cases hd2
    show (4 : Nat) < 6
    decide
theorem pmk5_index {a : Expr} {ta : TA} {p pos : Pos} (T : Ecl_index X.K X.mg nm qual B Bm newId initId bmB bm0 C fI) (hdp : X.A.depth + 1 < recursionLimit) (ha : PA X [a] ta) (hg : Gl X nm) (hdb : (nm == ("__debug__" : Str)) = false := by decide)
    (he : starEach (a :: []) X.env = (false, eval a X.env) :: starEach [] X.env := by rfl) (hpl : (backTo pos (starEach [] X.env)).any (·.1) = false := by rfl) : PMk5 X (.Call (.Name nm p) [a] [] pos) (tMk_index C ta) := by
  intro pins s σ H Q I h
  refine wpAny_Call_Name_kw (ld_glob I hg T.gC ?_ hdb)
  refine PySem.W.callWith_K (h₀ := X.base) I.ok.mod.kin T.kC (thn (ha.run pos pins s σ H _ I h) ?_) he hpl
  rintro us s1 ⟨vs, H1, I1, r1, v, rfl, q1⟩
  obtain ⟨v', rfl, rv⟩ := vals1 r1
  refine ⟨I1.kIn, ?_⟩
  have hlim := I1.nolimit
  obtain ⟨hp, g, dr, tk, os⟩ := s1
  refine wpAny_call (made_index T I1.kIn hlim hdp (.inl ⟨rfl, rfl⟩) fun h' tk' e d M => ?_)
  show L2N.MkP X pins σ Q (.ref e) ⟨h', g, dr, tk', os⟩ ∧ Six (.ref e) ⟨h', g, dr, tk', os⟩
  obtain ⟨t1, hoe⟩ := M.obj
  have hns := M.ns
  obtain ⟨G', g1, g2⟩ := restrict h' fun b => decide (b ≠ e)
  have gk : ∀ b, b ≠ e → G'.get? b = h'.get? b := fun b hb => g1 b (decide_eq_true hb)
  have ge : G'.get? e = none := g2 e (by simp)
  have old : ∀ b o, hp.get? b = some o → G'.get? b = some o := fun b o q => (gk b (Nat.ne_of_lt (Nat.lt_of_lt_of_le (Heap.lt_size q) M.new))).trans (M.keep b o q)
  have ob : ObjOk X.prog X.w (upd H1 d (.xd [(("index" : Str), v)])) G' d (.xd [(("index" : Str), v)]) := ⟨_, hns.at (fun o q => (gk d M.dne).trans q), fun f => relO_index rv f⟩
  have J : Inv X pins σ (upd H1 d (.xd [(("index" : Str), v)])) ⟨G', g, dr, tk', os⟩ := I1.laid (t' := tk') old M.dbig ob
  refine ⟨⟨e, _, _, ⟨G', g, dr, tk', os⟩, _, .ref C, some d, rfl, J, fun b o q => ?_, ge, hoe, ⟨rfl, rfl, fun vs hv => by cases hv; rfl⟩, rfl, rfl, ?_, rfl, I1.bare, raises_own T.exC T.tyC, q1 d (I1.hok.fresh M.dbig)⟩, fun a2 oe2 vs2 ea hg2 hd2 => ?_⟩
  · by_cases hb : b = e
    · have q' : G'.get? b = some o := q
      rw [hb, ge] at q'
      cases q'
    · exact (gk b hb).symm.trans q
  · rw [upd_ne (Ne.symm M.dne)]
    exact I1.hok.fresh M.new
  · cases ea
    have hg3 : h'.get? e = some oe2 := hg2
    rw [hoe] at hg3
    cases hg3
    cases hd2
    show (4 : Nat) < 6
    decide
theorem pmk5_name {a : Expr} {ta : TA} {p pos : Pos} (T : Ecl_name X.K X.mg nm qual B Bm newId initId bmB bm0 C fI) (hdp : X.A.depth + 1 < recursionLimit) (ha : PA X [a] ta) (hg : Gl X nm) (hdb : (nm == ("__debug__" : Str)) = false := by decide)
    (he : starEach (a :: []) X.env = (false, eval a X.env) :: starEach [] X.env := by rfl) (hpl : (backTo pos (starEach [] X.env)).any (·.1) = false := by rfl) : PMk5 X (.Call (.Name nm p) [a] [] pos) (tMk_name C ta) := by
  intro pins s σ H Q I h
  refine wpAny_Call_Name_kw (ld_glob I hg T.gC ?_ hdb)
  refine PySem.W.callWith_K (h₀ := X.base) I.ok.mod.kin T.kC (thn (ha.run pos pins s σ H _ I h) ?_) he hpl
  rintro us s1 ⟨vs, H1, I1, r1, v, rfl, q1⟩
  obtain ⟨v', rfl, rv⟩ := vals1 r1
  refine ⟨I1.kIn, ?_⟩
  have hlim := I1.nolimit
  obtain ⟨hp, g, dr, tk, os⟩ := s1
  refine wpAny_call (made_name T I1.kIn hlim hdp (.inl ⟨rfl, rfl⟩) fun h' tk' e d M => ?_)
  show L2N.MkP X pins σ Q (.ref e) ⟨h', g, dr, tk', os⟩ ∧ Six (.ref e) ⟨h', g, dr, tk', os⟩
  obtain ⟨t1, hoe⟩ := M.obj
  have hns := M.ns
  obtain ⟨G', g1, g2⟩ := restrict h' fun b => decide (b ≠ e)
  have gk : ∀ b, b ≠ e → G'.get? b = h'.get? b := fun b hb => g1 b (decide_eq_true hb)
  have ge : G'.get? e = none := g2 e (by simp)
  have old : ∀ b o, hp.get? b = some o → G'.get? b = some o := fun b o q => (gk b (Nat.ne_of_lt (Nat.lt_of_lt_of_le (Heap.lt_size q) M.new))).trans (M.keep b o q)
  have ob : ObjOk X.prog X.w (upd H1 d (.xd [(("name" : Str), v)])) G' d (.xd [(("name" : Str), v)]) := ⟨_, hns.at (fun o q => (gk d M.dne).trans q), fun f => relO_name rv f⟩
  have J : Inv X pins σ (upd H1 d (.xd [(("name" : Str), v)])) ⟨G', g, dr, tk', os⟩ := I1.laid (t' := tk') old M.dbig ob
  refine ⟨⟨e, _, _, ⟨G', g, dr, tk', os⟩, _, .ref C, some d, rfl, J, fun b o q => ?_, ge, hoe, ⟨rfl, rfl, fun vs hv => by cases hv; rfl⟩, rfl, rfl, ?_, rfl, I1.bare, raises_own T.exC T.tyC, q1 d (I1.hok.fresh M.dbig)⟩, fun a2 oe2 vs2 ea hg2 hd2 => ?_⟩
  · by_cases hb : b = e
    · have q' : G'.get? b = some o := q
      rw [hb, ge] at q'
      cases q'
    · exact (gk b hb).symm.trans q
  · rw [upd_ne (Ne.symm M.dne)]
    exact I1.hok.fresh M.new
  · cases ea
    have hg3 : h'.get? e = some oe2 := hg2
    rw [hoe] at hg3
    cases hg3
    cases hd2
    show (4 : Nat) < 6
    decide
theorem pmk5_item {a : Expr} {ta : TA} {p pos : Pos} (T : Ecl_item X.K X.mg nm qual B Bm newId initId bmB bm0 C fI) (hdp : X.A.depth + 1 < recursionLimit) (ha : PA X [a] ta) (hg : Gl X nm) (hdb : (nm == ("__debug__" : Str)) = false := by decide)
    (he : starEach (a :: []) X.env = (false, eval a X.env) :: starEach [] X.env := by rfl) (hpl : (backTo pos (starEach [] X.env)).any (·.1) = false := by rfl) : PMk5 X (.Call (.Name nm p) [a] [] pos) (tMk_item C ta) := by
  intro pins s σ H Q I h
  refine wpAny_Call_Name_kw (ld_glob I hg T.gC ?_ hdb)
  refine PySem.W.callWith_K (h₀ := X.base) I.ok.mod.kin T.kC (thn (ha.run pos pins s σ H _ I h) ?_) he hpl
  rintro us s1 ⟨vs, H1, I1, r1, v, rfl, q1⟩
  obtain ⟨v', rfl, rv⟩ := vals1 r1
  refine ⟨I1.kIn, ?_⟩
  have hlim := I1.nolimit
  obtain ⟨hp, g, dr, tk, os⟩ := s1
  refine wpAny_call (made_item T I1.kIn hlim hdp (.inl ⟨rfl, rfl⟩) fun h' tk' e d M => ?_)
  show L2N.MkP X pins σ Q (.ref e) ⟨h', g, dr, tk', os⟩ ∧ Six (.ref e) ⟨h', g, dr, tk', os⟩
  obtain ⟨t1, hoe⟩ := M.obj
  have hns := M.ns
  obtain ⟨G', g1, g2⟩ := restrict h' fun b => decide (b ≠ e)
  have gk : ∀ b, b ≠ e → G'.get? b = h'.get? b := fun b hb => g1 b (decide_eq_true hb)
  have ge : G'.get? e = none := g2 e (by simp)
  have old : ∀ b o, hp.get? b = some o → G'.get? b = some o := fun b o q => (gk b (Nat.ne_of_lt (Nat.lt_of_lt_of_le (Heap.lt_size q) M.new))).trans (M.keep b o q)
  have ob : ObjOk X.prog X.w (upd H1 d (.xd [(("item" : Str), v)])) G' d (.xd [(("item" : Str), v)]) := ⟨_, hns.at (fun o q => (gk d M.dne).trans q), fun f => relO_item rv f⟩
  have J : Inv X pins σ (upd H1 d (.xd [(("item" : Str), v)])) ⟨G', g, dr, tk', os⟩ := I1.laid (t' := tk') old M.dbig ob
  refine ⟨⟨e, _, _, ⟨G', g, dr, tk', os⟩, _, .ref C, some d, rfl, J, fun b o q => ?_, ge, hoe, ⟨rfl, rfl, fun vs hv => by cases hv; rfl⟩, rfl, rfl, ?_, rfl, I1.bare, raises_own T.exC T.tyC, q1 d (I1.hok.fresh M.dbig)⟩, fun a2 oe2 vs2 ea hg2 hd2 => ?_⟩
  · by_cases hb : b = e
    · have q' : G'.get? b = some o := q
      rw [hb, ge] at q'
      cases q'
    · exact (gk b hb).symm.trans q
  · rw [upd_ne (Ne.symm M.dne)]
    exact I1.hok.fresh M.new
  · cases ea
    have hg3 : h'.get? e = some oe2 := hg2
    rw [hoe] at hg3
    cases hg3
    cases hd2
    show (4 : Nat) < 6
    decide
theorem pmk5_limit {a : Expr} {ta : TA} {p pos : Pos} (T : Ecl_limit X.K X.mg nm qual B Bm newId initId bmB bm0 C fI) (hdp : X.A.depth + 1 < recursionLimit) (ha : PA X [a] ta) (hg : Gl X nm) (hdb : (nm == ("__debug__" : Str)) = false := by decide)
    (he : starEach (a :: []) X.env = (false, eval a X.env) :: starEach [] X.env := by rfl) (hpl : (backTo pos (starEach [] X.env)).any (·.1) = false := by rfl) : PMk5 X (.Call (.Name nm p) [a] [] pos) (tMk_limit C ta) := by
  intro pins s σ H Q I h
  refine wpAny_Call_Name_kw (ld_glob I hg T.gC ?_ hdb)
  refine PySem.W.callWith_K (h₀ := X.base) I.ok.mod.kin T.kC (thn (ha.run pos pins s σ H _ I h) ?_) he hpl
  rintro us s1 ⟨vs, H1, I1, r1, v, rfl, q1⟩
  obtain ⟨v', rfl, rv⟩ := vals1 r1
  refine ⟨I1.kIn, ?_⟩
  have hlim := I1.nolimit
  obtain ⟨hp, g, dr, tk, os⟩ := s1
  refine wpAny_call (made_limit T I1.kIn hlim hdp (.inl ⟨rfl, rfl⟩) fun h' tk' e d M => ?_)
  show L2N.MkP X pins σ Q (.ref e) ⟨h', g, dr, tk', os⟩ ∧ Six (.ref e) ⟨h', g, dr, tk', os⟩
  obtain ⟨t1, hoe⟩ := M.obj
  have hns := M.ns
  obtain ⟨G', g1, g2⟩ := restrict h' fun b => decide (b ≠ e)
  have gk : ∀ b, b ≠ e → G'.get? b = h'.get? b := fun b hb => g1 b (decide_eq_true hb)
  have ge : G'.get? e = none := g2 e (by simp)
  have old : ∀ b o, hp.get? b = some o → G'.get? b = some o := fun b o q => (gk b (Nat.ne_of_lt (Nat.lt_of_lt_of_le (Heap.lt_size q) M.new))).trans (M.keep b o q)
  have ob : ObjOk X.prog X.w (upd H1 d (.xd [(("limit" : Str), v)])) G' d (.xd [(("limit" : Str), v)]) := ⟨_, hns.at (fun o q => (gk d M.dne).trans q), fun f => relO_limit rv f⟩
  have J : Inv X pins σ (upd H1 d (.xd [(("limit" : Str), v)])) ⟨G', g, dr, tk', os⟩ := I1.laid (t' := tk') old M.dbig ob
  refine ⟨⟨e, _, _, ⟨G', g, dr, tk', os⟩, _, .ref C, some d, rfl, J, fun b o q => ?_, ge, hoe, ⟨rfl, rfl, fun vs hv => by cases hv; rfl⟩, rfl, rfl, ?_, rfl, I1.bare, raises_own T.exC T.tyC, q1 d (I1.hok.fresh M.dbig)⟩, fun a2 oe2 vs2 ea hg2 hd2 => ?_⟩
  · by_cases hb : b = e
    · have q' : G'.get? b = some o := q
      rw [hb, ge] at q'
      cases q'
    · exact (gk b hb).symm.trans q
  · rw [upd_ne (Ne.symm M.dne)]
    exact I1.hok.fresh M.new
  · cases ea
    have hg3 : h'.get? e = some oe2 := hg2
    rw [hoe] at hg3
    cases hg3
    cases hd2
    show (4 : Nat) < 6
    decide
theorem pmk5_count {a : Expr} {ta : TA} {p pos : Pos} (T : Ecl_count X.K X.mg nm qual B Bm newId initId bmB bm0 C fI) (hdp : X.A.depth + 1 < recursionLimit) (ha : PA X [a] ta) (hg : Gl X nm) (hdb : (nm == ("__debug__" : Str)) = false := by decide)
    (he : starEach (a :: []) X.env = (false, eval a X.env) :: starEach [] X.env := by rfl) (hpl : (backTo pos (starEach [] X.env)).any (·.1) = false := by rfl) : PMk5 X (.Call (.Name nm p) [a] [] pos) (tMk_count C ta) := by
  intro pins s σ H Q I h
  refine wpAny_Call_Name_kw (ld_glob I hg T.gC ?_ hdb)
  refine PySem.W.callWith_K (h₀ := X.base) I.ok.mod.kin T.kC (thn (ha.run pos pins s σ H _ I h) ?_) he hpl
  rintro us s1 ⟨vs, H1, I1, r1, v, rfl, q1⟩
  obtain ⟨v', rfl, rv⟩ := vals1 r1
  refine ⟨I1.kIn, ?_⟩
  have hlim := I1.nolimit
  obtain ⟨hp, g, dr, tk, os⟩ := s1
  refine wpAny_call (made_count T I1.kIn hlim hdp (.inl ⟨rfl, rfl⟩) fun h' tk' e d M => ?_)
  show L2N.MkP X pins σ Q (.ref e) ⟨h', g, dr, tk', os⟩ ∧ Six (.ref e) ⟨h', g, dr, tk', os⟩
  obtain ⟨t1, hoe⟩ := M.obj
  have hns := M.ns
  obtain ⟨G', g1, g2⟩ := restrict h' fun b => decide (b ≠ e)
  have gk : ∀ b, b ≠ e → G'.get? b = h'.get? b := fun b hb => g1 b (decide_eq_true hb)
  have ge : G'.get? e = none := g2 e (by simp)
  have old : ∀ b o, hp.get? b = some o → G'.get? b = some o := fun b o q => (gk b (Nat.ne_of_lt (Nat.lt_of_lt_of_le (Heap.lt_size q) M.new))).trans (M.keep b o q)
  have ob : ObjOk X.prog X.w (upd H1 d (.xd [(("count" : Str), v)])) G' d (.xd [(("count" : Str), v)]) := ⟨_, hns.at (fun o q => (gk d M.dne).trans q), fun f => relO_count rv f⟩
  have J : Inv X pins σ (upd H1 d (.xd [(("count" : Str), v)])) ⟨G', g, dr, tk', os⟩ := I1.laid (t' := tk') old M.dbig ob
  refine ⟨⟨e, _, _, ⟨G', g, dr, tk', os⟩, _, .ref C, some d, rfl, J, fun b o q => ?_, ge, hoe, ⟨rfl, rfl, fun vs hv => by cases hv; rfl⟩, rfl, rfl, ?_, rfl, I1.bare, raises_own T.exC T.tyC, q1 d (I1.hok.fresh M.dbig)⟩, fun a2 oe2 vs2 ea hg2 hd2 => ?_⟩
  · by_cases hb : b = e
    · have q' : G'.get? b = some o := q
      rw [hb, ge] at q'
      cases q'
    · exact (gk b hb).symm.trans q
  · rw [upd_ne (Ne.symm M.dne)]
    exact I1.hok.fresh M.new
  · cases ea
    have hg3 : h'.get? e = some oe2 := hg2
    rw [hoe] at hg3
    cases hg3
    cases hd2
    show (4 : Nat) < 6
    decide
end
end Tvx
namespace Ows
open PySem PySem.Spec PyProof.Rows L2 ClX
section
variable {X : Cx} {CX : CXT} {k : Nat} {C g : Addr} {sp : Sp} {E : XK}
def rLenOwn (C : Addr) (sp : Sp) (E : XK) : List V → Hp → VK → Prop := fun xs H Q => ∃ (a dx : Addr) (fs : List (Str × V)), xs = [.ref a] ∧ H a = some (.ins C dx fs) ∧ sp [.ref a] H (fun z H' => ∃ n : Int, z = .int n ∧ 0 ≤ n ∧ n < 2 ^ 63 ∧ Q (.int n) H') E
theorem call_lenOwn (hs : PySem.W.findIn X.K (.ref C) "__len__" = some (some (.ref g))) (hf : PySem.W.isFn X.K (.ref g) = true) (F : FnR X.prog X.w X.K X.mg X.base CX k g sp) (hr : Room (k + 1) X.A) (hx : Passes CX X E) : CallR X (.builtin "len") (rLenOwn C sp E) := by
  intro pins s σ H xs us Q I r h
  obtain ⟨a, dx, fs, rfl, ha, q⟩ := h
  obtain ⟨u, rfl, rx⟩ := vals1 r
  cases (show u = Value.ref a from rx)
  obtain ⟨mA, O, _⟩ := ins_get I.hok ha
  obtain ⟨od, J, _⟩ := O.look
  obtain ⟨m, hF⟩ := I.fr
  have hr1 : Room k X.A.in1 := hr.in1
  refine PySem.W.len_K hF I.ok.mod.kin J hs hf (wpAny_mono (wpAny_call (SlX.run_at (us := [.ref a]) (ws := [.ref a]) F hr1 I.env0.in1 hx I (.cons rfl .nil) q)) (fun w s' z => ?_) fun _ _ x => x)
  obtain ⟨z', H', I', rz, n, en, h0, h1, qz⟩ := z
  subst en
  obtain ⟨t, rfl⟩ := (show ∃ t, w = Value.int n t from rz)
  exact ⟨⟨h0, h1⟩, .int n, H', I'.tok _, ⟨_, rfl⟩, qz⟩
def rReprOwn (C : Addr) (sp : Sp) (E : XK) : List V → Hp → VK → Prop := fun xs H Q => ∃ (a dx : Addr) (fs : List (Str × V)), xs = [.ref a] ∧ H a = some (.ins C dx fs) ∧ sp [.ref a] H (fun z H' => ∃ y : Str, z = .str y ∧ Q (.str y) H') E
theorem call_reprOwn (hs : PySem.W.findIn X.K (.ref C) "__repr__" = some (some (.ref g))) (hf : PySem.W.isFn X.K (.ref g) = true) (F : FnR X.prog X.w X.K X.mg X.base CX k g sp) (hr : Room (k + 1) X.A) (hx : Passes CX X E) : CallR X (.builtin "repr") (rReprOwn C sp E) := by
  intro pins s σ H xs us Q I r h
  obtain ⟨a, dx, fs, rfl, ha, q⟩ := h
  obtain ⟨u, rfl, rx⟩ := vals1 r
  cases (show u = Value.ref a from rx)
  obtain ⟨mA, O, _⟩ := ins_get I.hok ha
  obtain ⟨od, J, _⟩ := O.look
  obtain ⟨m, hF⟩ := I.fr
  have hr1 : Room k X.A.in1 := hr.in1
  refine PySem.W.repr_K hr1.units0 hF I.ok.mod.kin J hs hf (wpAny_mono (wpAny_call (SlX.run_at (us := [.ref a]) (ws := [.ref a]) F hr1 I.env0.in1 hx I (.cons rfl .nil) q)) (fun w s' z => ?_) fun _ _ x => x)
  obtain ⟨z', H', I', rz, y, ey, qz⟩ := z
  subst ey
  obtain ⟨t, rfl⟩ := (show ∃ t, w = Value.str y t from rz)
  exact ⟨.str y, H', I', ⟨_, rfl⟩, qz⟩
end
end Ows

set_option Elab.async false
set_option linter.all false
set_option maxRecDepth 100000
set_option maxHeartbeats 4000000
/-! a method whose body is super().m(y) -/
namespace Spx
open PySem PySem.Spec PyProof.Rows L2 ClX
/-- its context -/
def cxS (CX : CXT) (P : Program) (w : World) (K : PySem.W.Frag) (mg : Str → Option Value) (base : Heap) (y qual : Str) (scope : Scope) (f : Addr) (cd : Value) (cc : Addr) (A : Around) (outer : List Env) (s : Shared) (H : Hp) (E : XK) : Cx where
  prog := P
  w := w
  K := K
  mg := mg
  base := base
  A := A.deeper (PySem.W.ksEnv qual scope s.heap.objs.size f cd cc)
  N := ["self", y]
  s_0 := s
  H_0 := H
  env := PySem.W.ksEnv qual scope s.heap.objs.size f cd cc
  outer := outer
  stack := PySem.W.ksEnv qual scope s.heap.objs.size f cd cc :: outer
  ex := []
  calm := true
  fn := fun _ => false
  pn := []
  xe := fun e s' => wpAny (model P w) (A.deeper (PySem.W.ksEnv qual scope s.heap.objs.size f cd cc)) (leaving (PySem.W.ksEnv qual scope s.heap.objs.size f cd cc) e) (fun _ s'' => CX outer H s E e s'') (fun e' s'' => CX outer H s E e' s'') s'
/-- what its scope says -/
structure ScopeS (y : Str) (scope : Scope) : Prop where
  kind : scope.kind = .function
  co : scope.isCoroutine = false
  gen : scope.isGenerator = false
  ks : scope.names.lookup ("super" : Str) = some .globalImplicit
  kc : scope.names.lookup ("__class__" : Str) = some .free
  k1 : scope.names.lookup ("self" : Str) = some .local
  k2 : scope.names.lookup y = some .local
  ne : (("self" : Str) == y) = false
  nc : ∀ z ∈ scope.names, z.2 ≠ .cell
  fr : ∀ z ∈ scope.names, z.2 = .free → z.1 = "__class__"
theorem inv_super {CX : CXT} {P : Program} {w : World} {K : PySem.W.Frag} {mg : Str → Option Value} {base : Heap} {y qual : Str} {scope : Scope} {f : Addr} {cd : Value} {cc D : Addr} {A : Around} {outer : List Env} {s : Shared} {H : Hp} {E : XK} {h1 : Heap} {t1 : Nat} {a : Addr} {v : V} {u : Value}
    {cl : Value} {cld : Option Addr} {csl : Array (Option Value)} (S : ScopeS y scope) (hd : A.handled = none) (e0 : Env0 P w K mg base A outer s H) (hcell : K.lookup cc = some ⟨cl, cld, .cell (some (.ref D)), csl⟩) (rv : RelV v u)
    (hns : h1.Ns s.heap.objs.size (fun x => ([(("self" : Str), Value.ref a), (y, u)] : List (Str × Value)).reverse.lookup x)) (hk : ∀ b o, s.heap.get? b = some o → h1.get? b = some o) :
    Inv (cxS CX P w K mg base y qual scope f cd cc A outer s H E) [] [some (.ref a), some v] H { s with heap := h1, toks := t1 } := by
  have one : ∀ x c, ([(("__class__" : Str), cc)] : List (Str × Addr)).lookup x = some c → x = "__class__" ∧ c = cc := fun x c h => by
    have h := PySem.mem_of_lookup h
    simpa using h
  have kb := e0.mod.kin _ _ hcell
  have kb2 := e0.bs _ _ kb
  refine ⟨⟨e0.mod, S.kind, rfl, rfl, Nat.le_refl _, fun x z c h1 h2 => ?_, fun x hx => ?_, fun x c h => ?_, fun _ => hd, Around.frames_deeper e0.frames, .inr ⟨rfl, rfl⟩, fun b z => absurd z List.not_mem_nil, e0.bs, e0.bsz, fun b _ _ => List.not_mem_nil, fun b z => absurd z List.not_mem_nil, e0.funs, e0.frf⟩,
    rfl, e0.bare, Un.kept hk, ⟨_, hns, fun i x z h1 h2 h3 => ?_⟩, fun x c h => ?_, e0.hok.fresh (Nat.le_refl _), fun x c h => ?_, fun p hp => absurd hp List.not_mem_nil, e0.hok.kept hk, rfl⟩
  · rw [(one x c h1).1, (one z c h2).1]
  · have hx : scope.names.lookup x = some .cell ∨ scope.names.lookup x = some .free := hx
    rcases hx with g | g
    · exact absurd rfl (S.nc _ (PySem.mem_of_lookup g))
    · have := S.fr _ (PySem.mem_of_lookup g) rfl
      refine ⟨cc, ?_⟩
      have e : x = "__class__" := this
      rw [e]
      rfl
  · exact absurd h Bool.false_ne_true
  · match i, h1, h2 with
    | 0, h1, h2 =>
      cases h1
      cases h2
      refine ⟨.ref a, rfl, .inl ⟨S.k1, ?_⟩⟩
      show List.lookup ("self" : Str) [(y, u), (("self" : Str), Value.ref a)] = _
      rw [List.lookup_cons, S.ne]
      simp
    | 1, h1, h2 =>
      cases h1
      cases h2
      refine ⟨u, rv, .inl ⟨S.k2, ?_⟩⟩
      show List.lookup y [(y, u), (("self" : Str), Value.ref a)] = _
      simp
    | i + 2, h1, h2 => simp at h2
  · rw [(one x c h).2]
    exact ⟨_, _, hk _ _ kb2.1, rfl⟩
  · rw [(one x c h).2]
    exact kb2.2
section
variable {X : Cx} {CX : CXT} {k : Nat} {C g : Addr} {fd : FuncData} {ps : List Str} {sp : Sp} {E : XK}
theorem run_bound {pins : List (Addr × Obj)} {σ : L2.St} {H : Hp} {s : Shared} {q a : Addr} {Q : VK} {us : List Value} {vs : List V} (F : FnOk X.prog X.w X.K X.mg X.base CX k g fd ps sp) (hr : Room k X.A) (hb : Binds X.K fd ps []) (hx : PassesAt CX X σ E) (I : Inv X ((q, PySem.W.methodObj (.ref g) (.ref a)) :: pins) σ H s)
    (r : Vals vs us) (h : sp (.ref a :: vs) H Q E) : wpAny (model X.prog X.w) X.A (call (.ref q) us) (EP X pins σ Q) X.xe s := by
  have hl : (Value.ref a :: us).length = ps.length := by
    have := (show Vals (V.ref a :: vs) (Value.ref a :: us) from .cons rfl r).length
    rw [← this]
    exact F.len _ _ _ _ h
  have b := hb s (.ref a :: us) I.kIn (by rw [List.append_nil]; exact hl)
  rw [List.append_nil] at b
  have z : wpAny (model X.prog X.w) X.A (call (.ref q) us) (EP X ((q, PySem.W.methodObj (.ref g) (.ref a)) :: pins) σ Q) X.xe s := by
    refine wpAny_call (PySem.W.method_call (pin_at I) (codeAny_mono (F.run X.A X.stack s H ⟨.ref a :: us, []⟩ (.ref a :: us) (.ref a :: vs) Q E hr I.env0 b (.cons rfl r) h) fun r s' hq => ?_))
    cases r with
    | error e => exact hx _ H s e s' I hq
    | ok fl =>
      cases fl with
      | ret u => exact I.after hq
      | next => exact False.elim hq
      | brk => exact False.elim hq
      | cont => exact False.elim hq
  exact thn z fun _ _ y => unpinE y
end
def PFile (P : Program) : Prop := ((P.main.file : Str) == ("/claim/cut.py" : Str)) = true ∧ (P.main.scope.names.lookup ("super" : Str)).isSome = false
structure Sup (K : PySem.W.Frag) (mg : Str → Option Value) (x qual m : Str) (st : Stmt) (f : Addr) (fd : FuncData) (C D g : Addr) : Prop where
  ex : ∃ (oc : Value) (od : Option Addr) (dV kV doc pm : Value) (an : Option Addr) (ct : Value) (osl : Array (Option Value)) (cc cda : Addr) (ccl : Value) (cdd : Option Addr) (vs : Array Value) (ccs : Array (Option Value)) (tf : Tok) (cl : Value) (cld : Option Addr) (csl : Array (Option Value)),
    fd = PySem.W.ksFn x qual (defArgs st) (defBody st) (defScope st) dV kV doc pm an (.ref cda) ct cc ∧ K.lookup f = some ⟨oc, od, .func fd, osl⟩ ∧ PySem.W.codeIn K (.ref cda) qual = true ∧ K.lookup cda = some ⟨ccl, cdd, .fields vs, ccs⟩ ∧ vs[2]? = some (.str "/claim/cut.py" tf) ∧
    K.lookup cc = some ⟨cl, cld, .cell (some (.ref D)), csl⟩
  isD : ∃ cd, PySem.W.clsIn K D = some cd
  sub : PySem.W.mroIn K C (.ref D) = some true
  sup : mg "super" = none
  op : PySem.W.nsIn K cStatics "thirdparty.any" = some none
  at_ : PySem.W.ks_superIn K C D m = some (some (.ref g))
  ty : PySem.W.typeIn K (.ref g) = some (.type "function")
  fi : PySem.W.fnIn K g = true
section
variable {P : Program} {w : World} {K : PySem.W.Frag} {mg : Str → Option Value} {base : Heap} {CX : CXT} {k : Nat} {x qual m y : Str} {st : Stmt} {f C D g : Addr} {fd fd2 : FuncData} {ps2 : List Str} {sp2 : Sp} {p0 p1 ap py cp ep : Pos} {ar : Arg}
/-- the promise of the def above, with None at the end -/
def spS (C : Addr) (sp2 : Sp) : Sp := fun vs H Q E => ∃ (a dx : Addr) (fs : List (Str × V)) (v : V), vs = [.ref a, v] ∧ H a = some (.ins C dx fs) ∧ sp2 [.ref a, v] H (fun _ H' => Q .non H') E
theorem fn_super {pl : Addr → Value → Addr → Sem Bool} (hP : PFile P) (Z : Sup K mg x qual m st f fd C D g) (S : ScopeS y (defScope st)) (hbd : defBody st = [.Expr (.Call (.Attribute (.Call (.Name "super" p0) [] [] p1) m ap) [.Name y py] [] cp) ep]) (har : ((defArgs st).posonlyargs ++ (defArgs st).args).head? = some ar) (hself : ar.arg = "self") (hat : (m == ("__class__" : Str)) = false)
    (hyd : (y == ("__debug__" : Str)) = false) (hyc : (y == ("__classdict__" : Str)) = false) (F2 : FnOk P w K mg base CX k g fd2 ps2 sp2) (hb2 : Binds K fd2 ps2 [])
    (hi : ∀ (L : Addr) (cd : Value) (cc : Addr), interactive (PySem.W.ksEnv qual (defScope st) L f cd cc) = false)
    (hsw : ∀ (L : Addr) (cd : Value) (cc : Addr), swapsWith (.Call (.Attribute (.Call (.Name "super" p0) [] [] p1) m ap) [.Name y py] [] cp) none ep.line (PySem.W.ksEnv qual (defScope st) L f cd cc) = pure false)
    (hev : ∀ (L : Addr) (cd : Value) (cc : Addr), eval (.Call (.Attribute (.Call (.Name "super" p0) [] [] p1) m ap) [.Name y py] [] cp) (PySem.W.ksEnv qual (defScope st) L f cd cc) = (do
      let ov ← attributeBase (.Call (.Name "super" p0) [] [] p1) m (PySem.W.ksEnv qual (defScope st) L f cd cc) (eval (.Call (.Name "super" p0) [] [] p1) (PySem.W.ksEnv qual (defScope st) L f cd cc))
      standAt ap.atName
      let (fn, first) ← holding [ov] (getMethod ov m (pl L cd cc))
      callWith cp fn first (backTo cp (starEach [.Name y py] (PySem.W.ksEnv qual (defScope st) L f cd cc))) []))
    (hx : ∀ (cd : Value) (cc : Addr) (A : Around) (outer : List Env) (s : Shared) (H : Hp) (E : XK) (σ : L2.St), PassesAt CX (cxS CX P w K mg base y qual (defScope st) f cd cc A outer s H E) σ E) :
    FnOk P w K mg base CX (k + 1) f fd ["self", y] (spS C sp2) := by
  refine ⟨fun vs H Q E h => by obtain ⟨a, dx, fs, v, rfl, _⟩ := h; rfl, fun A outer s H args us vs Q E hr e0 hb r hsp => ?_⟩
  obtain ⟨a, dx, fs, v, rfl, ha, hsp2⟩ := hsp
  obtain ⟨ua, u, rfl, ra, rv⟩ := vals2 r
  obtain rfl : ua = Value.ref a := ra
  obtain ⟨oc, od, dV, kV, doc, pm, an, ct, osl, cc, cda, ccl, cdd, vs2, ccs, tf, cl, cld, csl, rfl, lk, hcd, hcode, hvs, hcell⟩ := Z.ex
  obtain ⟨cdD, hD⟩ := Z.isD
  have KX : K.In s.heap := e0.mod.kin.keeps fun b o e => (e0.bs b o e).1
  have lim : s.heap.NoLimit := e0.mod.nolimit.keeps fun b o e => (e0.bs b o e).1
  refine PySem.ks_codeAny_call_defAt (binds := [(("self" : Str), Value.ref a), (y, u)]) hr.depth (KX _ _ lk) rfl lim (PySem.W.codeRec_of KX hcd) rfl hb S.nc (fun z hz => ?_) (fun h1 hns hk1 => ?_) S.co S.gen S.kind
  · rcases List.mem_cons.mp hz with rfl | hz
    · exact S.k1
    · rw [List.mem_singleton.mp hz]
      exact S.k2
  have I : Inv (cxS CX P w K mg base y qual (defScope st) f (.ref cda) cc A outer s H E) [] [some (.ref a), some v] H { s with heap := h1, toks := s.toks + 2 } := inv_super S hr.hd e0 hcell rv hns hk1
  have X1 : K.In h1 := KX.keeps hk1
  obtain ⟨mA, O, _⟩ := ins_get I.hok ha
  obtain ⟨odx, J, _⟩ := O.look
  obtain ⟨oD, hD1, hD2⟩ : ∃ oD, h1.get? D = some oD ∧ oD.data = .cls cdD := by
    unfold PySem.W.clsIn at hD
    split at hD
    · rename_i c d cd' sl ho
      cases hD
      exact ⟨_, X1 _ _ ho, rfl⟩
    · cases hD
  rw [hbd]
  show PySem.wpAt (model P w) (A.deeper (PySem.W.ksEnv qual (defScope st) s.heap.objs.size f (.ref cda) cc)) (.func _ (PySem.W.ksEnv qual (defScope st) s.heap.objs.size f (.ref cda) cc)) (execs _ (PySem.W.ksEnv qual (defScope st) s.heap.objs.size f (.ref cda) cc)) _ (cxS CX P w K mg base y qual (defScope st) f (.ref cda) cc A outer s H E).xe { s with heap := h1, toks := s.toks + 2 }
  have hsub : PySem.W.Looks (model P w) h1 (isSubtype (.ref C) (.ref D)) true := PySem.W.looks_mroIn X1 Z.sub
  obtain ⟨mb, b1, b2⟩ := I.mod.blt
  refine PySem.ks_wpAt_execs_cons (PySem.ks_wpAt_Expr_any (PySem.ks_wpAt_MethodCall (pl := pl _ _ _) (PySem.ks_wpAt_super_base S.ks S.kc hat rfl (X1 _ _ lk) rfl har rfl (X1 _ _ hcode) rfl hvs hP.1 hP.2 ?_) (hev _ _ _)) (hi _ _ _) (hsw _ _ _))
  refine PySem.W.ks_loadName_global S.kind S.ks (Calls.loadGlobal_builtin (by exact I.mod.glob.keeps I.bk) Z.sup (by exact b1.keeps I.bk) ((b2 _ (by decide)).trans (by decide +kernel)) ⟨rfl, ?_⟩)
  refine wpAny_loadName_free S.kind S.kc rfl ⟨_, X1 _ _ hcell, rfl⟩ ?_
  rw [hself]
  refine wpAny_loadName_local S.kind S.k1 hns (v := .ref a) (by show List.lookup ("self" : Str) [(y, u), (("self" : Str), Value.ref a)] = _; rw [List.lookup_cons, S.ne]; simp) ?_
  refine PySem.ks_wpAny_isType_cls hD1 hD2 ⟨rfl, ?_⟩
  refine PySem.ks_wpAny_call_super hD1 hD2 J.at_ J.cls (fun c e => ?_) hsub (fun h' e k2 => ?_)
  · have := J.no
    unfold PySem.W.notCls at this
    rw [e] at this
    exact Bool.noConfusion this
  have I2 : Inv (cxS CX P w K mg base y qual (defScope st) f (.ref cda) cc A outer s H E) [(h1.objs.size, PySem.W.ks_superObj D a C)] [some (.ref a), some v] H { s with heap := h', toks := s.toks + 2 } := pin_new (s := { s with heap := h1, toks := s.toks + 2 }) I k2 (Nat.le_refl _) e (fun v z => nomatch z)
  have X2 : K.In h' := X1.keeps k2
  have hat2 := Z.at_
  obtain ⟨cdC, hcC⟩ : ∃ cd, PySem.W.clsIn K C = some cd := by
    cases q : PySem.W.clsIn K C with
    | none => unfold PySem.W.ks_superIn at hat2; rw [q] at hat2; cases hat2
    | some cd => exact ⟨cd, rfl⟩
  unfold PySem.W.ks_superIn at hat2
  rw [hcC, Option.bind_some] at hat2
  obtain ⟨og, hog, hogc⟩ : ∃ og, h'.get? g = some og ∧ og.cls = .type "function" := by
    have ht' : (K.lookup g).map (·.cls) = some (.type "function") := Z.ty
    cases z : K.lookup g with
    | none => rw [z] at ht'; cases ht'
    | some og => rw [z] at ht'; exact ⟨og, X2 _ _ z, Option.some.inj ht'⟩
  refine PySem.ks_wpAny_getMethod_super e (PySem.W.looks_opaque X2 Z.op) (l₀ := cdC.mro) (fun A Q E s k q => wpAny_bind ((PySem.W.looks_clsIn X2 hcC) A _ E s k (wpAny_pure q))) rfl X2 hat2 hog hogc (PySem.W.ks_ne X1 J hcC) hat ?_
  have I3 : Inv (cxS CX P w K mg base y qual (defScope st) f (.ref cda) cc A outer s H E) [(h'.objs.size, PySem.W.methodObj (.ref g) (.ref a)), (h1.objs.size, PySem.W.ks_superObj D a C)] [some (.ref a), some v] H { s with heap := h'.push (PySem.W.methodObj (.ref g) (.ref a)), toks := s.toks + 2 + 1 } := met_new (s := { s with heap := h', toks := s.toks + 2 }) I2
  have hp := (pa_cons (pe_var (X := cxS CX P w K mg base y qual (defScope st) f (.ref cda) cc A outer s H E) (i := 1) (pos := py) rfl (Or.inl S.k2) hyd hyc) pa_nil)
  refine wpAny_mono (Q := EP (cxS CX P w K mg base y qual (defScope st) f (.ref cda) cc A outer s H E) [(h1.objs.size, PySem.W.ks_superObj D a C)] [some (.ref a), some v] (fun _ H' => Q .non H')) (callwith_cm I3 (base_none I2 (Nat.le_refl _)) Z.fi (thn (hp.run cp _ _ _ H (fun vs H' => vs = [v] ∧ H' = H) I3 ⟨v, rfl, rfl, rfl⟩) fun us2 s3 ⟨vs3, H3, J3, r3, q3⟩ => ?_) rfl rfl) (fun u2 s4 z => ?_) (fun e s4 z => z)
  · obtain ⟨rfl, rfl⟩ := q3
    exact ⟨⟨pin_at J3, J3.kIn⟩, run_bound F2 (hr.deeper _) hb2 (hx _ _ _ _ _ _ _ _) J3 r3 hsp2⟩
  · obtain ⟨v4, H4, J4, r4, q4⟩ := z
    refine PySem.wpAt_of_wpAny (wpAny_execs_nil ?_)
    exact ⟨.non, H4, J4.os, J4.bare, J4.base, J4.hok, rfl, q4⟩
end
end Spx

set_option Elab.async false
set_option linter.all false
set_option maxRecDepth 100000
set_option maxHeartbeats 4000000
/-! defaults of any def; C(k = v) -/
namespace Spx
open PySem PySem.Spec PyProof.Rows L2
section
variable {K : PySem.W.Frag} {fd : FuncData} {ps ks : List Str} {T : Addr} {o : Obj} {its : List Value} {m : Nat}
theorem binds_of (lT : K.lookup T = some o) (oT : o.data = .seq its.toArray m) (n j : Nat) (hn : n + (its.length - j) = ps.length)
    (h : ∀ us : List Value, us.length = n → ∃ k, bindArgs fd ⟨us, []⟩ = seqItems? (.ref T) >>= k ∧ k (some its.toArray) = pure (ps.zip (us ++ its.drop j))) : Binds K fd ps (its.drop j) := by
  intro s us X hl
  have l2 : us.length = n := by
    rw [List.length_append, List.length_drop] at hl
    omega
  obtain ⟨k, e1, e2⟩ := h us l2
  refine BindsTo.of_looks fun M => ?_
  rw [e1]
  exact looks_items X lT oT (.of_pure e2)
theorem kbinds_of (lT : K.lookup T = some o) (oT : o.data = .seq its.toArray m) (h : ∀ (x : Value) (us : List Value), (x :: us).length = ps.length → ∃ k, bindArgs fd ⟨[x], ks.zip us⟩ = seqItems? (.ref T) >>= k ∧ k (some its.toArray) = pure (ps.zip (x :: us))) :
    ∀ (s : Shared) (x : Value) (us : List Value), K.In s.heap → (x :: us).length = ps.length → BindsTo s fd ⟨[x], ks.zip us⟩ (ps.zip (x :: us)) := by
  intro s x us X hl
  obtain ⟨k, e1, e2⟩ := h x us hl
  refine BindsTo.of_looks fun M => ?_
  rw [e1]
  exact looks_items X lT oT (.of_pure e2)
end
theorem dp_of {k : Nat} {A : Around} (hr : Room k A) : A.depth + 1 < recursionLimit := by have := hr.dp; omega
end Spx
namespace Cmx
open PySem PySem.Spec PyProof.Rows L2 ClX
section
variable {X : Cx} {CX : CXT} {k : Nat} {f C : Addr} {fd : FuncData} {ps ks : List Str} {sp : Sp} {E : L2.St → XK} {x : Str} {pp pos : Pos} {kws : List Keyword} {tk : TA}
/-- C(k = e, ..), the keywords in the order of the parameters behind the first -/
theorem pe_makeSK (M : Mk X.K C f) (F : FnOk X.prog X.w X.K X.mg X.base CX k f fd ps sp) (hr : Room (k + 1) X.A) (hg : Gl X x) (hm : X.mg x = some (.ref C))
    (hb : ∀ (s : Shared) (y : Value) (us : List Value), X.K.In s.heap → (y :: us).length = ps.length → BindsTo s fd ⟨[y], ks.zip us⟩ (ps.zip (y :: us))) (hx : ∀ σ, PassesAt CX X σ (E σ)) (hkw : PK X kws tk)
    (hal : (backToKw pos (keywordEach kws X.env)).all (·.1.isSome) = true := by rfl) (hks : (backToKw pos (keywordEach kws X.env)).filterMap (·.1) = ks := by rfl)
    (hpl : ((backTo pos (starEach [] X.env)).any (·.1) || (backToKw pos (keywordEach kws X.env)).any (·.1.isNone)) = false := by rfl) (hdb : (x == ("__debug__" : Str)) = false := by decide) :
    PE X (.Call (.Name x pp) [] kws pos) (tMakeS C sp E tk) := by
  refine ⟨fun pins s σ H Q I h => ?_⟩
  refine wpAny_Call_Name_kw (ld_glob I hg hm ?_ hdb)
  refine PySem.W.callWith_KW0 (first := []) (h₀ := X.base) I.ok.mod.kin M.kp hal (thn (hkw.run pos pins s σ H _ I h) fun us s1 ⟨vs, H1, I1, r, q⟩ => ⟨I1.kIn, ?_⟩) hpl
  rw [hks]
  have hq := q (s1.heap.objs.size + 1) s1.heap.objs.size (I1.hok.fresh (Nat.le_succ _)) (I1.hok.fresh (Nat.le_refl _)) (Nat.ne_of_lt (Nat.lt_succ_self _))
  have I2 := Inv.made (C := C) I1
  have r2 : Vals (V.ref (s1.heap.objs.size + 1) :: vs) (Value.ref (s1.heap.objs.size + 1) :: us) := .cons rfl r
  have hl : (Value.ref (s1.heap.objs.size + 1) :: us).length = ps.length := by
    have e := r2.length
    rw [F.len _ _ _ _ hq] at e
    exact e.symm
  refine wpAny_call (make_map (f := f) I1.kIn M.makes M.init (beq_iff_eq.mp M.fn) (codeAny_mono (F.run _ X.stack _ _ ⟨[Value.ref (s1.heap.objs.size + 1)], ks.zip us⟩ (Value.ref (s1.heap.objs.size + 1) :: us) _ _ (E σ) (hr.make C [] (ks.zip us))
    (I2.env0.make C [] (ks.zip us)) (hb _ _ us I2.kIn hl) r2 hq) fun r s' hq' => ?_))
  cases r with
  | error e => exact hx σ pins _ _ e s' I2 hq'
  | ok fl =>
    cases fl with
    | ret u =>
      obtain ⟨v, H', I3, rv, ev, q3⟩ := I2.after hq'
      subst ev
      exact ⟨rv, ⟨V.ref (s1.heap.objs.size + 1), H', I3, rfl, q3⟩⟩
    | next => exact False.elim hq'
    | brk => exact False.elim hq'
    | cont => exact False.elim hq'
end
end Cmx

set_option Elab.async false
set_option linter.all false
set_option maxRecDepth 100000
set_option maxHeartbeats 4000000
/-! queues: their mathematics -/
namespace Gn
open PySem PySem.Spec PyProof.Rows L2 Own Exn Mth Vld
theorem starts_mk (z : List Nat) (c : Nat) : Txt.startswith (mk z) ⟨#[c]⟩ = decide (z.head? = some c) := by
  unfold Txt.startswith Builtin.Str.subAt
  cases z with
  | nil => rfl
  | cons x z =>
    have e2 : ((mk (x :: z)).cps.extract 0 (0 + (⟨#[c]⟩ : Str).length)) = #[x] := by
      show (List.toArray (x :: z)).extract 0 1 = #[x]
      simp
    rw [e2]
    have e3 : (#[x] == (⟨#[c]⟩ : Str).cps) = decide (x = c) := by
      show (#[x] == #[c]) = _
      by_cases h : x = c
      · subst h; simp
      · simp [h]
    rw [e3, show (decide (0 + (⟨#[c]⟩ : Str).length ≤ (mk (x :: z)).length)) = true from decide_eq_true (by rw [len_mk]; show 0 + 1 ≤ (x :: z).length; rw [List.length_cons]; omega), Bool.true_and]
    simp
/-- one step without losses -/
def stepQ (z : List Nat) (c : Nat) : Option (List Nat) := if 97 ≤ c then (if 400 ≤ z.length then none else some (z ++ [c])) else if z.head? = some (c + 32) then some z.tail else none
/-- one step with losses -/
def stepL (z : List Nat) (c : Nat) : Option (List Nat) := if 97 ≤ c then (if 400 ≤ z.length then none else some (z ++ [c])) else match fst? (c + 32) z with
  | none => none
  | some k => some (z.drop (k + 1))
/-- all steps, or the place of the first that can't be done -/
def qrun (st : List Nat → Nat → Option (List Nat)) : List Nat → List Nat → Nat → Sum Nat (List Nat)
  | [], z, _ => .inr z
  | c :: p, z, i => match st z c with
    | none => .inl i
    | some z' => qrun st p z' (i + 1)
theorem qrun_nil (st : List Nat → Nat → Option (List Nat)) (z : List Nat) (i : Nat) : qrun st [] z i = .inr z := rfl
theorem qrun_no {st : List Nat → Nat → Option (List Nat)} {c : Nat} {z : List Nat} (h : st z c = none) (p : List Nat) (i : Nat) : qrun st (c :: p) z i = .inl i := by
  show (match st z c with | none => Sum.inl i | some z' => qrun st p z' (i + 1)) = _
  rw [h]
theorem qrun_yes {st : List Nat → Nat → Option (List Nat)} {c : Nat} {z z' : List Nat} (h : st z c = some z') (p : List Nat) (i : Nat) : qrun st (c :: p) z i = qrun st p z' (i + 1) := by
  show (match st z c with | none => Sum.inl i | some z' => qrun st p z' (i + 1)) = _
  rw [h]
abbrev qf (z : List Nat) : List (Str × V) := [(("content" : Str), V.str (mk z))]
theorem put_q (v u : V) : putF "content" v [(("content" : Str), u)] = [(("content" : Str), v)] := by
  show (if ("content" : Str) = "content" then [(("content" : Str), v)] else _) = _
  rw [if_pos rfl]
theorem lk_q (z : List Nat) : (qf z).lookup ("content" : Str) = some (.str (mk z)) := lk1
theorem lk_no {z : List Nat} {m : Str} (h : ¬ m = "content") : (qf z).lookup m = none := by
  have : (m == ("content" : Str)) = false := beq_false_of_ne h
  simp [List.lookup, this]
/-- a word of one item -/
def okI (v : V) : Bool := match v with
  | .str z => okS z "abcdefgh" && (z.length == 1)
  | _ => false
theorem okI_iff {v : V} : okI v = true ↔ ∃ c, v = .str (mk [c]) ∧ c ∈ lo8 := by
  constructor
  · intro h
    unfold okI at h
    split at h
    · rename_i z
      rw [Bool.and_eq_true, okS_iff, beq_iff_eq] at h
      obtain ⟨⟨_, h2⟩, h3⟩ := h
      rw [len_cs] at h3
      obtain ⟨c, hc⟩ : ∃ c, cs z = [c] := List.length_eq_one_iff.mp h3
      exact ⟨c, by rw [← hc, mk_cs], h2 c (by rw [hc]; simp)⟩
    · cases h
  · rintro ⟨c, rfl, hc⟩
    show (okS (mk [c]) "abcdefgh" && _) = true
    rw [okS_mk (by simp) (by simpa using hc), Bool.true_and]
    rfl
theorem okI_okV {v : V} (h : okI v = true) : okV v "abcdefgh" = true := by
  obtain ⟨c, rfl, hc⟩ := okI_iff.mp h
  exact okS_mk (by simp) (by simpa using hc)
end Gn

set_option Elab.async false
set_option linter.all false
set_option maxRecDepth 100000
set_option maxHeartbeats 4000000
/-! except X: without a name, its reading named; promises for instances of a class -/
namespace Tvx
open PySem PySem.Spec PyProof.Rows L2
section
variable {X : Cx} {x : Str} {c : Value} {body suite : List Stmt} {b0 : Stmt} {np pos pos' : Pos} {tb : WX → TS} {ts : Addr → Value → Option Addr → TS} {Wout : WX}
def tTryO (K : PySem.W.Frag) (c : Value) (ts : Addr → Value → Option Addr → TS) (Wout : WX) (tb : WX → TS) : TS := fun D σ H => tb (wOnly K c ts Wout D) D σ H
theorem ps_tryO (i1 : X.stack = X.env :: X.outer) (i2 : X.env.frame = some X.env.locals) (i3 : Names X x c) (i4 : Takes X Wout) (i5 : ∀ (W : WX) (pn : List (Addr × Obj)) (xe : Value → Shared → Prop), Takes (X.tr pn xe) W → PassesOwn (model X.prog X.w) X.A X.env xe → PSs (X.tr pn xe) body (tb W))
    (i6 : ∀ (q : Addr) (oq : Obj) (cls : Value) (d : Option Addr) (pn : List (Addr × Obj)), Zc cls d oq → (∃ vs, oq.data = .fields vs) → PSs (X.suite q ((q, oq) :: pn)) (b0 :: suite) (ts q cls d)) : PS X (.Try body [.ExceptHandler (some (.Name x np)) none (b0 :: suite) pos'] [] [] pos) (tTryO X.K c ts Wout tb) := ps_try_only i1 i2 i3 i4 i5 i6
end
end Tvx
namespace Spx
open PySem PySem.Spec PyProof.Rows L2
/-- .. of an instance of the class at C -/
def spIn (C : Addr) (sp : Sp) : Sp := fun vs H Q E => (∃ (x dx : Addr) (fs : List (Str × V)) (v : V), vs = [.ref x, v] ∧ H x = some (.ins C dx fs)) ∧ sp vs H Q E
theorem in_of {P : Program} {w : World} {K : PySem.W.Frag} {mg : Str → Option Value} {base : Heap} {CX : CXT} {k : Nat} {f C : Addr} {fd : FuncData} {ps : List Str} {sp : Sp} (F : FnOk P w K mg base CX k f fd ps (spS C sp)) (h : ∀ vs H Q E, sp vs H Q E → sp vs H (fun _ H' => Q .non H') E) : FnOk P w K mg base CX k f fd ps (spIn C sp) :=
  F.imp fun vs H Q E ⟨⟨x, dx, fs, v, e, hx⟩, q⟩ => ⟨x, dx, fs, v, e, hx, e ▸ h vs H Q E q⟩
end Spx

set_option Elab.async false
set_option linter.all false
set_option maxRecDepth 100000
set_option maxHeartbeats 4000000
/-! set(t), t a tuple of ints -/
namespace Sux
open PySem PySem.Spec PyProof.Rows L2
section
variable {X : Cx}
def rSetTup (K : PySem.W.Frag) (w : World) : List V → Hp → VK → Prop := fun xs H Q => ∃ (l : Addr) (ns : List Int), xs = [.ref l] ∧ SqT K H l (ns.map V.int) ∧ ns.length ≤ 1000 ∧ ∀ p c, H p = none → c ≤ ns.length → Q (.ref p) (upd H p (SetO w p (fun j => decide (j ∈ ns)) c))
theorem cr_setTup (hc : X.calm = true) : CallR X (.type "set") (rSetTup X.K X.w) := by
  intro pins s σ H xs us Q I r h
  obtain ⟨l, ns, rfl, hq, hl, q⟩ := h
  obtain ⟨u, rfl, ru⟩ := vals1 r
  cases (show u = Value.ref l from ru)
  obtain ⟨its, rv, pt, hz⟩ := I.tuple hq
  refine call_set_tupI ns (I.ok.hd hc) (show s.heap.IsTuple l its.toArray from pt) (ints_of_vals rv) (by unfold scanBound; omega) fun h' tk c R1 hcn k => ?_
  exact ⟨.ref s.heap.objs.size, upd H s.heap.objs.size (SetO X.w s.heap.objs.size (fun j => decide (j ∈ ns)) c), I.laid (t' := tk) k (Nat.le_refl _) (setO_new R1), rfl, q _ c (I.hok.fresh (Nat.le_refl _)) hcn⟩
end
end Sux

set_option Elab.async false
set_option linter.all false
set_option maxRecDepth 100000
set_option maxHeartbeats 4000000
/-! positions that are lost: the mathematics -/
namespace Gn
open PySem PySem.Spec PyProof.Rows L2 Own Exn Mth Vld
/-- a word without the items at the places in S -/
def wout (S : Int → Bool) : Nat → List Nat → List Nat
  | _, [] => []
  | i, c :: z => if S (i : Nat) = true then wout S (i + 1) z else c :: wout S (i + 1) z
theorem wout_nil (S : Int → Bool) (i : Nat) : wout S i [] = [] := rfl
theorem wout_cons (S : Int → Bool) (i c : Nat) (z : List Nat) : wout S i (c :: z) = if S (i : Nat) = true then wout S (i + 1) z else c :: wout S (i + 1) z := rfl
theorem wout_snoc (S : Int → Bool) : ∀ (z : List Nat) (i c : Nat), wout S i (z ++ [c]) = wout S i z ++ (if S ((i + z.length : Nat) : Int) = true then [] else [c])
  | [], i, c => by
    rw [List.nil_append, wout_cons, wout_nil, wout_nil]
    simp
  | x :: z, i, c => by
    rw [List.cons_append, wout_cons, wout_cons, wout_snoc S z (i + 1) c, List.length_cons, show i + 1 + z.length = i + (z.length + 1) by omega]
    split
    · rfl
    · rw [List.cons_append]
theorem wout_len (S : Int → Bool) : ∀ (z : List Nat) (i : Nat), (wout S i z).length ≤ z.length
  | [], i => Nat.le_refl _
  | x :: z, i => by
    rw [wout_cons, List.length_cons]
    have := wout_len S z (i + 1)
    split
    · omega
    · rw [List.length_cons]; omega
theorem wout_mem {S : Int → Bool} {c : Nat} : ∀ {z : List Nat} {i : Nat}, c ∈ wout S i z → c ∈ z
  | [], i, h => by cases h
  | x :: z, i, h => by
    rw [wout_cons] at h
    split at h
    · exact List.mem_cons_of_mem _ (wout_mem h)
    · rcases List.mem_cons.mp h with e | e
      · rw [e]; exact List.mem_cons_self ..
      · exact List.mem_cons_of_mem _ (wout_mem e)
theorem wout_congr {S S' : Int → Bool} (h : ∀ j, S j = S' j) (z : List Nat) (i : Nat) : wout S i z = wout S' i z := by
  have : S = S' := funext h
  rw [this]
def posI : V → Int
  | .int i => i
  | _ => 0
/-- a position below n that is not yet seen -/
def okPos (n : Nat) (seen : List Int) : V → Bool
  | .int i => decide (0 ≤ i ∧ i ≤ (n : Int) - 1) && !decide (i ∈ seen)
  | _ => false
theorem okPos_int {n : Nat} {seen : List Int} {v : V} (h : okPos n seen v = true) : ∃ i : Int, v = .int i ∧ 0 ≤ i ∧ i ≤ (n : Int) - 1 ∧ i ∉ seen := by
  unfold okPos at h
  split at h
  · rename_i i
    rw [Bool.and_eq_true] at h
    have h1 := of_decide_eq_true h.1
    refine ⟨i, rfl, h1.1, h1.2, fun hm => ?_⟩
    have h2 := h.2
    rw [decide_eq_true hm] at h2
    cases h2
  · cases h
def seenAt (xs : List V) (i : Nat) : List Int := (xs.take i).map posI
theorem seen_snoc {xs : List V} {i : Nat} {v : V} (h : xs[i]? = some v) : seenAt xs (i + 1) = seenAt xs i ++ [posI v] := by
  unfold seenAt
  rw [List.take_add_one, h]
  simp
def goodPos (n : Nat) (xs : List V) : Prop := ∀ i v, xs[i]? = some v → okPos n (seenAt xs i) v = true
theorem good_ints {n : Nat} {xs : List V} (h : goodPos n xs) : xs = (xs.map posI).map V.int := by
  have e : ∀ v ∈ xs, V.int (posI v) = v := fun v hv => by
    obtain ⟨i, hi⟩ := List.mem_iff_getElem?.mp hv
    obtain ⟨k, rfl, _⟩ := okPos_int (h i v hi)
    rfl
  rw [List.map_map]
  have : xs.map (V.int ∘ posI) = xs.map id := List.map_congr_left e
  rw [this, List.map_id]
end Gn

set_option Elab.async false
set_option linter.all false
set_option maxRecDepth 100000
set_option maxHeartbeats 4000000
/-! Hk: two readings of one expression (a method of an object that is of one of two classes); {} != 'text' -/
namespace Gn
open PySem.SeqAt PySem PySem.Spec PyProof.Rows L2 Own Exn Mth Vld
/-- two readings of one expression: either is enough -/
theorem pe_alt {X : Cx} {e : Expr} {t1 t2 : TE} (h1 : PE X e t1) (h2 : PE X e t2) : PE X e (fun σ H Q => t1 σ H Q ∨ t2 σ H Q) :=
  ⟨fun pins s σ H Q I h => h.elim (h1.run pins s σ H Q I) (h2.run pins s σ H Q I)⟩
theorem op_alt {X : Cx} {f : Value → Value → Sem Value} {r1 r2 : R2} (h1 : OpR X f r1) (h2 : OpR X f r2) : OpR X f (fun x y H Q => r1 x y H Q ∨ r2 x y H Q) := by
  intro pins s σ H x y v u Q I rx ry h
  exact h.elim (h1 pins s σ H x y v u Q I rx ry) (h2 pins s σ H x y v u Q I rx ry)
theorem str_dec_dict (b : Str) (u : Tok) (l : Addr) (es : Array DictEntry) (ep : _) (dd : Option Addr) (sl : Array (Option Value)) :
    Meets (Builtin.«str.__ne__» ⟨[.str b u, .ref l], []⟩) (fun _ R s => s.heap.get? l = some { cls := .type "dict", dict := dd, data := .dict es ep, slots := sl } ∧ R (.ok (.ret .notImplemented)) s) :=
  .of_wp fun prog w A R s h => by obtain ⟨hp, g, d, tk, os⟩ := s; obtain ⟨hl, h⟩ := h; wp_walk using wpAny_loadPart' hl, wpAny_load hl; exact ⟨_, rfl, h⟩
/-- {} != 'text' -/
def rNeDS : R2 := fun x y H Q => ∃ (p : Addr) (z : Str), x = .ref p ∧ y = .str z ∧ H p = some (.dK []) ∧ Q (.bl true) H
theorem op_neDS {X : Cx} (hu : X.A.units < cLine) : OpR X (compareOp .NotEq) rNeDS := by
  intro pins s σ H x y v u Q I rx ry h
  obtain ⟨p, z, rfl, rfl, e, q⟩ := h
  obtain rfl : v = Value.ref p := rx
  obtain ⟨t, rfl⟩ := (show ∃ t, u = Value.str z t from ry)
  obtain ⟨_, yp, vs, _, dp⟩ := (show ObjOk X.prog X.w H s.heap p (.dK []) from I.hok p _ e)
  obtain ⟨o, es, ep, ho, hex, hda, _⟩ := id dp
  have hty := dp.typeIs
  show wpAny _ X.A (richCompare .NotEq _ _) _ _ s
  refine rc_ne_decline_or (k := false) (Ta := "dict") (Tb := "str") hty (typeIs_str s z t) (by decide) F.sub_str_dict F.slot_dict_ne F.slot_str_ne_refl (fun Q' hq => ?_) (fun Q' hq => ?_) (fun Q' hq => wpAny_of_eq (rfl : isSame (.ref p) (.str z t) = pure false) hq) (.inr hu) (fin_bl I q rfl)
  · refine wpAny_call_entry F.slot_dict_ne hty F.entry_dict_ne ?_ (F.args_dict_ne_2 _ _)
    show wpAny _ _ (Builtin.Dict.dictSlotArgs "__ne__" ⟨[.ref p, .str z t], []⟩ >>= _) _ _ s
    refine wpAny_bind ?_
    unfold Builtin.Dict.dictSlotArgs
    refine wpAny_bind (wpAny_notOrdered_dict hty ?_)
    show wpAny _ _ (pure (Value.ref p, Value.str z t)) _ _ s
    refine wpAny_pure ?_
    refine wpAny_bind (wpAny_isInstance (T := "str") (typeIs_str s z t) F.sub_str_dict ?_)
    simp only [Bool.not_false, if_true]
    exact wpAny_bind (wpAny_rule (wpAny_pure ⟨_, rfl, hq⟩))
  · obtain ⟨oc, od, odt, osl⟩ := o
    cases (show oc = .type "dict" from hex.1)
    cases (show odt = .dict es ep from hda)
    exact call_meets F.slot_str_ne_refl (typeIs_str s z t) F.entry_str_ne (F.args_str_ne_2 _ _) (str_dec_dict z t p es ep od osl) ⟨ho, hq⟩
end Gn

set_option Elab.async false
set_option linter.all false
set_option maxRecDepth 100000
set_option maxHeartbeats 4000000
/-! Hl: lists of different lengths differ, whatever they hold -/
namespace Gn
open PySem PySem.Spec PyProof.Rows L2 Own Exn Mth Vld
def rNeLen : R2 := fun x y H Q => ∃ (p r : Addr) (xs ys : List V), x = .ref p ∧ y = .ref r ∧ H p = some (.lst xs) ∧ H r = some (.lst ys) ∧ xs.length ≠ ys.length ∧ Q (.bl true) H
theorem op_neLen {X : Cx} (hu : X.A.units < cLine) : OpR X (compareOp .NotEq) rNeLen := by
  intro pins s σ H x y v u Q I rx ry h
  obtain ⟨p, r, xs, ys, rfl, rfl, e1, e2, hl, q⟩ := h
  obtain rfl : v = Value.ref p := rx
  obtain rfl : u = Value.ref r := ry
  obtain ⟨its, rv, p', hz⟩ := I.list (SqL.of e1)
  obtain ⟨its2, rv2, p2, hz2⟩ := I.list (SqL.of e2)
  refine PySem.SeqAt.RcNeAt.lists_lengths p'.isList p2.isList ?_ hu X.prog X.w _ _ (fin_bl I q rfl)
  have h1 := rv.length
  have h2 := rv2.length
  simp
  omega
end Gn

set_option Elab.async false
set_option linter.all false
set_option maxRecDepth 100000
set_option maxHeartbeats 4000000
/-! Hm: own == and != where the right side's class is a subclass of the left's (its own is tried first), and value == object (the value declines) -/
namespace Rws
open PySem PySem.Spec PySem.W PyProof.Rows PySem.SeqAt
section
variable {prog : Program} {w : World} {A : Around} {E : Value → Shared → Prop} {s : Shared} {K : Frag} {x y C D f L : Addr} {ox oy : Obj} {od oe : Option Obj} {h₀ : Heap} {m : Str → Option Value} {b tb : Value}
theorem one_eq {Q : Value → Shared → Prop} (X : K.In s.heap) (I : PySem.W.InstAt s.heap x ox C od) (hs : findIn K (.ref C) "__eq__" = some (some (.ref f))) (hf : isFn K (.ref f) = true)
    (h : wpAny (model prog w) A (call (.ref f) [.ref x, b]) (PySem.W.CmpBack Q) E s) : wpAny (model prog w) A (tryCompare (.ref x) "__eq__" b) (fun r s' => ∃ v, r = some v ∧ Q v s') E s := by
  unfold tryCompare
  refine wpAny_bind (ifBound_K X I hs hf (wpAny_mono h (fun v s' hv => ?_) fun _ _ e => e))
  cases v <;> first | exact hv.elim | exact wpAny_pure ⟨_, rfl, hv⟩
theorem one_ne {Q : Value → Shared → Prop} (hu1 : A.in1.units < cLine) (X : K.In s.heap) (I : PySem.W.InstAt s.heap x ox C od)
    (hs : findIn K (.ref C) "__ne__" = some (some (.builtin "object.__ne__"))) (hm : mroIn K C (.type "object") = some true) (he : findIn K (.ref C) "__eq__" = some (some (.ref f))) (hf : isFn K (.ref f) = true)
    (h : wpAny (model prog w) A.in1 (call (.ref f) [.ref x, b]) (fun v s' => ∃ c, v = .bool c ∧ Q (.bool (!c)) s') E s) : wpAny (model prog w) A (tryCompare (.ref x) "__ne__" b) (fun r s' => ∃ v, r = some v ∧ Q v s') E s := by
  unfold tryCompare
  refine wpAny_bind (Nws.ifBound_B X I hs PySem.F.slot_tuple_iterator_ne.bind (Nws.ne_entry hu1 X I hm he hf (wpAny_mono h (fun v s' hv => ?_) fun _ _ e => e)))
  obtain ⟨c, rfl, hq⟩ := hv
  exact ⟨c, rfl, wpAny_pure ⟨_, rfl, hq⟩⟩
/-- the right side first -/
theorem sub_first {op : CmpOp} {Q : Value → Shared → Prop} (hu : A.units < cLine) (F : Fr h₀ L s.heap m) (X₀ : K.In h₀) (I : PySem.W.InstAt s.heap x ox C od) (J : PySem.W.InstAt s.heap y oy D oe) (hne : D ≠ C) (e : subIn K (.ref D) (.ref C) = some true)
    (one : wpAny (model prog w) A (tryCompare (.ref y) (cmpInfo op).2.2 (.ref x)) (fun r s' => ∃ v, r = some v ∧ Q v s') E s) : wpAny (model prog w) A (richCompare op (.ref x) (.ref y)) Q E s := by
  have X := X₀.keeps F.keep
  unfold richCompare
  simp only [oneThing_ref]
  refine wpAny_holding (wpAny_bind (wpAny_cRoomFor hu ?_))
  refine wpAny_bind (I.type.here (wpAny_bind (J.type.here ?_)))
  have q : (Value.ref C != Value.ref D) = true := by
    simp
    exact fun h => hne h.symm
  rw [if_pos q]
  refine wpAny_bind ((looks_subIn X e).here ?_)
  simp only [if_true]
  refine wpAny_bind (wpAny_mono one (fun r s' z => ?_) fun _ _ e => e)
  obtain ⟨v, rfl, hq⟩ := z
  exact wpAny_bind (wpAny_rule (wpAny_pure hq))
/-- the value declines, then the object's own == -/
theorem refl_eq {T id : String} {Q : Value → Shared → Prop} (hu : A.units < cLine) (F : Fr h₀ L s.heap m) (X₀ : K.In h₀) (I : PySem.W.InstAt s.heap x ox C od) (hb : s.TypeIs b T) (e : subIn K (.ref C) (.type T) = some false) (h1 : Slot T (cmpInfo .Eq).2.1 id)
    (hc : ∀ Q' : Value → Shared → Prop, Q' .notImplemented s → wpAny (model prog w) A (call (.builtin id) [b, .ref x]) Q' E s)
    (one : wpAny (model prog w) A (tryCompare (.ref x) (cmpInfo .Eq).2.2 b) (fun r s' => ∃ v, r = some v ∧ Q v s') E s) : wpAny (model prog w) A (richCompare .Eq b (.ref x)) Q E s := by
  have X := X₀.keeps F.keep
  unfold richCompare
  simp only [hb.oneThing_none]
  refine wpAny_holding (wpAny_bind (wpAny_cRoomFor hu ?_))
  refine wpAny_bind (wpAny_typeOf hb (wpAny_bind (I.type.here ?_)))
  have q : (Value.type T != Value.ref C) = true := by simp
  rw [if_pos q]
  refine wpAny_bind ((looks_subIn X e).here ?_)
  simp only [Bool.false_eq_true, if_false, Bool.not_false, if_true]
  refine wpAny_bind (m := tryCompare b _ (.ref x)) (wpAny_tryCompare_declines hb h1 (hc _ ⟨rfl, ?_⟩))
  refine wpAny_bind (wpAny_mono one (fun r s' z => ?_) fun _ _ e => e)
  obtain ⟨v, rfl, hq⟩ := z
  exact wpAny_pure hq
end
theorem str_dec (b : Str) (u : Tok) (l C dx : Addr) :
    Meets (Builtin.«str.__eq__» ⟨[.str b u, .ref l], []⟩) (fun _ R s => s.heap.get? l = some (PySem.W.instObj C dx) ∧ R (.ok (.ret .notImplemented)) s) :=
  .of_wp fun prog w A R s h => by obtain ⟨hp, g, d, tk, os⟩ := s; obtain ⟨hl, h⟩ := h; wp_walk using wpAny_loadPart' hl, wpAny_load hl; exact ⟨_, rfl, h⟩
theorem int_dec (b : Int) (u : Tok) (l C dx : Addr) :
    Meets (Builtin.«int.__eq__» ⟨[.int b u, .ref l], []⟩) (fun _ R s => s.heap.get? l = some (PySem.W.instObj C dx) ∧ R (.ok (.ret .notImplemented)) s) :=
  .of_wp fun prog w A R s h => by obtain ⟨hp, g, d, tk, os⟩ := s; obtain ⟨hl, h⟩ := h; wp_walk using wpAny_loadPart' hl, wpAny_load hl; exact ⟨_, rfl, h⟩
theorem none_dec (l : Addr) : Gives (Builtin.«NoneType.__eq__» ⟨[.none, .ref l], []⟩) (.val (Value.notImplemented)) :=
  .of_wp fun M A E s Q h => by obtain ⟨hp, g, d, tk, os⟩ := s; wp_walk; exact ⟨_, rfl, h⟩
section
variable {prog : Program} {w : World} {A : Around} {E : Value → Shared → Prop} {s : Shared} {K : Frag} {x l C : Addr} {ox : Obj} {od : Option Obj} {Q : Value → Shared → Prop}
theorem inst_not {T : String} {M : Model} {Q : Bool → Shared → Prop} (X : K.In s.heap) (I : PySem.W.InstAt s.heap x ox C od) (e : subIn K (.ref C) (.type T) = some false) (h : Q false s) : wpAny M A (isInstance (.ref x) (.type T)) Q E s := by
  unfold isInstance
  exact wpAny_bind (I.type.here ((looks_subIn X e).here h))
theorem list_dec (X : K.In s.heap) (I : PySem.W.InstAt s.heap x ox C od) (e : subIn K (.ref C) (.type "list") = some false) (hT : s.TypeIs (.ref l) "list") (hq : Q .notImplemented s) : wpAny (model prog w) A (call (.builtin "list.__eq__") [.ref l, .ref x]) Q E s := by
  refine wpAny_call_entry PySem.F.slot_list_eq hT PySem.F.entry_list_eq ?_ (PySem.F.args_list_eq_2 _ _)
  show wpAny _ _ (slotArgs "__eq__" 1 ⟨[.ref l, .ref x], []⟩ >>= _) _ _ s
  refine wpAny_bind (wpAny_pure ?_)
  refine wpAny_bind (m := isInstance (.ref x) (.type "list")) (inst_not X I e ?_)
  exact wpAny_pure ⟨_, rfl, hq⟩
theorem tup_dec (X : K.In s.heap) (I : PySem.W.InstAt s.heap x ox C od) (e : subIn K (.ref C) (.type "tuple") = some false) (hT : s.TypeIs (.ref l) "tuple") (hq : Q .notImplemented s) : wpAny (model prog w) A (call (.builtin "tuple.__eq__") [.ref l, .ref x]) Q E s := by
  refine wpAny_call_entry PySem.F.slot_tuple_eq hT PySem.F.entry_tuple_eq ?_ (PySem.F.args_tuple_eq_2 _ _)
  show wpAny _ _ (slotArgs "__eq__" 1 ⟨[.ref l, .ref x], []⟩ >>= _) _ _ s
  refine wpAny_bind (wpAny_pure ?_)
  refine wpAny_bind (m := isInstance (.ref x) (.type "tuple")) (inst_not X I e ?_)
  exact wpAny_pure ⟨_, rfl, hq⟩
theorem dict_dec (X : K.In s.heap) (I : PySem.W.InstAt s.heap x ox C od) (e : subIn K (.ref C) (.type "dict") = some false) (hT : s.TypeIs (.ref l) "dict") (hq : Q .notImplemented s) : wpAny (model prog w) A (call (.builtin "dict.__eq__") [.ref l, .ref x]) Q E s := by
  refine wpAny_call_entry PySem.F.slot_dict_eq hT PySem.F.entry_dict_eq ?_ (PySem.F.args_dict_eq_2 _ _)
  show wpAny _ _ (Builtin.Dict.dictSlotArgs "__eq__" ⟨[.ref l, .ref x], []⟩ >>= _) _ _ s
  refine wpAny_bind ?_
  unfold Builtin.Dict.dictSlotArgs
  refine wpAny_bind (wpAny_notOrdered_dict hT ?_)
  show wpAny _ _ (pure (Value.ref l, Value.ref x)) _ _ s
  refine wpAny_pure ?_
  refine wpAny_bind (inst_not X I e ?_)
  simp only [Bool.not_false, if_true]
  exact wpAny_bind (wpAny_rule (wpAny_pure ⟨_, rfl, hq⟩))
end
end Rws
namespace Ows
open PySem PySem.Spec PyProof.Rows L2 ClX
section
variable {X : Cx} {CX : CXT} {k : Nat} {C D g : Addr} {sp : Sp} {E : XK}
/-- left == right, the right side's class a subclass: its own == -/
def rSubEq (C D : Addr) (sp : Sp) (E : XK) : R2 := fun x y H Q => ∃ (a b dx dy : Addr) (fs gs : List (Str × V)), x = .ref a ∧ y = .ref b ∧ H a = some (.ins C dx fs) ∧ H b = some (.ins D dy gs) ∧ sp [y, x] H Q E
theorem op_subEq (hne : D ≠ C) (hsub : PySem.W.subIn X.K (.ref D) (.ref C) = some true) (hs : PySem.W.findIn X.K (.ref D) "__eq__" = some (some (.ref g))) (hf : PySem.W.isFn X.K (.ref g) = true) (F : FnR X.prog X.w X.K X.mg X.base CX k g sp)
    (hr : Room k X.A) (hx : Passes CX X E) : OpR X (compareOp .Eq) (rSubEq C D sp E) := by
  intro pins s σ H x y v u Q I rx ry h
  obtain ⟨a, b, dx, dy, fs, gs, rfl, rfl, ha, hb, q⟩ := h
  cases (show v = Value.ref a from rx)
  cases (show u = Value.ref b from ry)
  obtain ⟨mA, O, _⟩ := ins_get I.hok ha
  obtain ⟨od, J, _⟩ := O.look
  obtain ⟨mB, O2, _⟩ := ins_get I.hok hb
  obtain ⟨oe, J2, _⟩ := O2.look
  obtain ⟨m, hF⟩ := I.fr
  show wpAny _ _ (richCompare .Eq _ _) _ _ _
  refine Rws.sub_first hr.units0 hF I.ok.mod.kin J J2 hne hsub ?_
  rw [PySem.cmpInfo_Eq]
  refine Rws.one_eq (I.ok.mod.kin.keeps hF.keep) J2 hs hf ?_
  refine wpAny_mono (wpAny_call (SlX.run_at (us := [.ref b, .ref a]) (ws := [.ref b, .ref a]) F hr I.env0 hx I (.cons rfl (.cons rfl .nil)) q)) (fun w s' z => ?_) fun _ _ x => x
  obtain ⟨z', H', I', rz, qz⟩ := z
  exact SlX.cmpback rz ⟨z', H', I', rz, qz⟩
def rSubNe (C D : Addr) (sp : Sp) (E : XK) : R2 := fun x y H Q => ∃ (a b dx dy : Addr) (fs gs : List (Str × V)), x = .ref a ∧ y = .ref b ∧ H a = some (.ins C dx fs) ∧ H b = some (.ins D dy gs) ∧ sp [y, x] H (fun z H' => ∃ b, z = .bl b ∧ Q (.bl (!b)) H') E
theorem op_subNe (hne : D ≠ C) (hsub : PySem.W.subIn X.K (.ref D) (.ref C) = some true) (hs : PySem.W.findIn X.K (.ref D) "__ne__" = some (some (.builtin "object.__ne__"))) (hm : PySem.W.mroIn X.K D (.type "object") = some true) (he : PySem.W.findIn X.K (.ref D) "__eq__" = some (some (.ref g))) (hf : PySem.W.isFn X.K (.ref g) = true) (F : FnR X.prog X.w X.K X.mg X.base CX k g sp)
    (hr : Room (k + 1) X.A) (hx : Passes CX X E) : OpR X (compareOp .NotEq) (rSubNe C D sp E) := by
  intro pins s σ H x y v u Q I rx ry h
  obtain ⟨a, b, dx, dy, fs, gs, rfl, rfl, ha, hb, q⟩ := h
  cases (show v = Value.ref a from rx)
  cases (show u = Value.ref b from ry)
  obtain ⟨mA, O, _⟩ := ins_get I.hok ha
  obtain ⟨od, J, _⟩ := O.look
  obtain ⟨mB, O2, _⟩ := ins_get I.hok hb
  obtain ⟨oe, J2, _⟩ := O2.look
  obtain ⟨m, hF⟩ := I.fr
  have hr1 : Room k X.A.in1 := hr.in1
  show wpAny _ _ (richCompare .NotEq _ _) _ _ _
  refine Rws.sub_first hr.units0 hF I.ok.mod.kin J J2 hne hsub ?_
  rw [PySem.cmpInfo_NotEq]
  refine Rws.one_ne hr1.units0 (I.ok.mod.kin.keeps hF.keep) J2 hs hm he hf ?_
  refine wpAny_mono (wpAny_call (SlX.run_at (us := [.ref b, .ref a]) (ws := [.ref b, .ref a]) F hr1 I.env0.in1 hx I (.cons rfl (.cons rfl .nil)) q)) (fun w s' z => ?_) fun _ _ x => x
  obtain ⟨z', H', I', rz, c, eb, qz⟩ := z
  subst eb
  cases (show w = Value.bool c from rz)
  exact ⟨c, rfl, .bl (!c), H', I', rfl, qz⟩
/-- a value that knows nothing of own classes -/
inductive Plain (H : Hp) : V → String → Prop where
  | str (z : Str) : Plain H (.str z) "str"
  | int (i : Int) : Plain H (.int i) "int"
  | non : Plain H .non "NoneType"
  | lst {p : Addr} {xs : List V} (h : H p = some (.lst xs)) : Plain H (.ref p) "list"
  | tup {p : Addr} {xs : List V} (h : H p = some (.tup xs)) : Plain H (.ref p) "tuple"
  | dct {p : Addr} (h : H p = some (.dK [])) : Plain H (.ref p) "dict"
def rReflEq (C : Addr) (sp : Sp) (E : XK) : R2 := fun x y H Q => ∃ (a dx : Addr) (fs : List (Str × V)) (T : String), y = .ref a ∧ H a = some (.ins C dx fs) ∧ Plain H x T ∧ sp [y, x] H Q E
theorem op_reflEq (hsub : ∀ T ∈ ["str", "int", "NoneType", "list", "tuple", "dict"], PySem.W.subIn X.K (.ref C) (.type T) = some false) (hs : PySem.W.findIn X.K (.ref C) "__eq__" = some (some (.ref g))) (hf : PySem.W.isFn X.K (.ref g) = true) (F : FnR X.prog X.w X.K X.mg X.base CX k g sp)
    (hr : Room k X.A) (hx : Passes CX X E) : OpR X (compareOp .Eq) (rReflEq C sp E) := by
  intro pins s σ H x y v u Q I rx ry h
  obtain ⟨a, dx, fs, T, rfl, ha, hp, q⟩ := h
  cases (show u = Value.ref a from ry)
  obtain ⟨mA, O, _⟩ := ins_get I.hok ha
  obtain ⟨od, J, _⟩ := O.look
  obtain ⟨m, hF⟩ := I.fr
  have hobj : s.heap.get? a = some (PySem.W.instObj C dx) := (show ObjOk X.prog X.w H s.heap a (.ins C dx fs) from I.hok a _ ha).2.2.2.1
  have hK := I.ok.mod.kin.keeps hF.keep
  have one : ∀ v, RelV x v → wpAny (model X.prog X.w) X.A (tryCompare (.ref a) (cmpInfo .Eq).2.2 v) (fun r s' => ∃ z, r = some z ∧ EP X pins σ Q z s') X.xe s := by
    intro v rx
    rw [PySem.cmpInfo_Eq]
    refine Rws.one_eq hK J hs hf ?_
    refine wpAny_mono (wpAny_call (SlX.run_at (us := [.ref a, v]) (ws := [.ref a, x]) F hr I.env0 hx I (.cons rfl (.cons rx .nil)) q)) (fun w s' z => ?_) fun _ _ x => x
    obtain ⟨z', H', I', rz, qz⟩ := z
    exact SlX.cmpback rz ⟨z', H', I', rz, qz⟩
  have on := one v rx
  show wpAny _ _ (richCompare .Eq _ _) _ _ _
  cases hp with
  | str z =>
    obtain ⟨t, rfl⟩ := (show ∃ t, v = Value.str z t from rx)
    exact Rws.refl_eq hr.units0 hF I.ok.mod.kin J (typeIs_str s z t) (hsub "str" (by simp)) PySem.F.slot_str_eq (fun Q' hq => call_meets PySem.F.slot_str_eq (typeIs_str s z t) PySem.F.entry_str_eq (PySem.F.args_str_eq_2 _ _) (Rws.str_dec z t a C dx) ⟨hobj, hq⟩) on
  | int i =>
    obtain ⟨t, rfl⟩ := (show ∃ t, v = Value.int i t from rx)
    exact Rws.refl_eq hr.units0 hF I.ok.mod.kin J (typeIs_int s i t) (hsub "int" (by simp)) PySem.F.slot_int_eq (fun Q' hq => call_meets PySem.F.slot_int_eq (typeIs_int s i t) PySem.F.entry_int_eq (PySem.F.args_int_eq_2 _ _) (Rws.int_dec i t a C dx) ⟨hobj, hq⟩) on
  | non =>
    cases (show v = Value.none from rx)
    exact Rws.refl_eq (T := "NoneType") hr.units0 hF I.ok.mod.kin J rfl (hsub "NoneType" (by simp)) PySem.F.slot_NoneType_eq (fun Q' hq => call_gives PySem.F.slot_NoneType_eq rfl PySem.F.entry_NoneType_eq (PySem.F.args_NoneType_eq_2 _ _) (Rws.none_dec a) hq) on
  | @lst p xs h =>
    cases (show v = Value.ref p from rx)
    obtain ⟨_, _, n, _, h1⟩ := (show ObjOk X.prog X.w H s.heap p (.lst xs) from I.hok p _ h)
    have hT : s.TypeIs (.ref p) "list" := ⟨_, h1, rfl⟩
    exact Rws.refl_eq hr.units0 hF I.ok.mod.kin J hT (hsub "list" (by simp)) PySem.F.slot_list_eq (fun Q' hq => Rws.list_dec hK J (hsub "list" (by simp)) hT hq) on
  | @tup p xs h =>
    cases (show v = Value.ref p from rx)
    obtain ⟨_, _, _, o, h1, h2, _⟩ := (show ObjOk X.prog X.w H s.heap p (.tup xs) from I.hok p _ h)
    have hT : s.TypeIs (.ref p) "tuple" := ⟨o, h1, h2⟩
    exact Rws.refl_eq hr.units0 hF I.ok.mod.kin J hT (hsub "tuple" (by simp)) PySem.F.slot_tuple_eq (fun Q' hq => Rws.tup_dec hK J (hsub "tuple" (by simp)) hT hq) on
  | @dct p h =>
    cases (show v = Value.ref p from rx)
    obtain ⟨_, _, vs, _, o, es, ep, h1, h2, _⟩ := (show ObjOk X.prog X.w H s.heap p (.dK []) from I.hok p _ h)
    have hT : s.TypeIs (.ref p) "dict" := ⟨o, h1, h2.1⟩
    exact Rws.refl_eq hr.units0 hF I.ok.mod.kin J hT (hsub "dict" (by simp)) PySem.F.slot_dict_eq (fun Q' hq => Rws.dict_dec hK J (hsub "dict" (by simp)) hT hq) on
end
end Ows

set_option Elab.async false
set_option linter.all false
set_option maxRecDepth 100000
set_option maxHeartbeats 4000000
/-! Hn: object in list, where no item is equal to it (own == of the items, or value == object) -/
namespace Rws
open PySem PySem.Spec PySem.W PyProof.Rows PySem.SeqAt
open AutoSeq1 (wpAny_loadPart')
open MeetsSeq MeetsSeq2 MeetsSeq3 SeqRoads2
section
variable {prog : Program} {w : World} {A : Around} {R : Result → Shared → Prop} {x : Value}
/-- at each turn the list is read anew: N items, the i-th not equal -/
def NotI (prog : Program) (w : World) (A : Around) (E : Value → Shared → Prop) (l : Addr) (x : Value) (N : Nat) (I : Nat → Shared → Prop) : Prop :=
  ∀ i s, I i s → ∃ (items : Array Value) (n : Nat), s.heap.get? l = some { cls := .type "list", data := .seq items n } ∧ items.size = N ∧
    ∀ (h1 : i < items.size), wpAny (model prog w) A.in1 (eqBool items[i] x) (fun r s' => r = false ∧ I (i + 1) s') E s
theorem in_loopF (l : Addr) (N : Nat) (I : Nat → Shared → Prop) (hl : NotI prog w A (fun e s' => R (.error e) s') l x N I)
    (fin : ∀ s, I N s → R (.ok (.ret (.bool false))) s) (k : Nat) :
    ∀ i : Nat, N - i = k → i ≤ N → ∀ s, I i s →
      wpAny (model prog w) A.in1 (Builtin.«list.__contains__.loop» ⟨[.ref l, x, rawInt i], []⟩) (GQ.FinOf prog w A R) (fun e s' => R (.error e) s') s := by
  induction k with
  | zero =>
    intro i hk hi s h
    obtain ⟨items, n, hl1, hs1, _⟩ := hl _ _ h
    have hi' : i = N := by omega
    have hR : R (.ok (.ret (.bool false))) s := fin s (hi' ▸ h)
    obtain ⟨hp, g, d, tk, os⟩ := s
    wp_walk using wpAny_loadPart' hl1
    have hi1 : items[((i : Nat) : Int).toNat]? = none := by simp; omega
    rw [hi1]
    wp_walk using wpAny_loadPart' hl1
    exact hR
  | succ k ih =>
    intro i hk hi s h
    obtain ⟨items, n, hl1, hs1, turn⟩ := hl _ _ h
    have hlt : i < items.size := by omega
    have ht := turn hlt
    obtain ⟨hp, g, d, tk, os⟩ := s
    wp_walk using wpAny_loadPart' hl1
    have hi1 : items[((i : Nat) : Int).toNat]? = some items[i] := by simp [hlt]
    have hc : ((i : Int) + 1) = ((i + 1 : Nat) : Int) := by omega
    rw [hi1]
    refine wpAny_bind (wpAny_mono ht (fun r s2 h2 => ?_) fun _ _ x => x)
    obtain ⟨hr, h2⟩ := h2
    subst hr
    have hrec := ih (i + 1) (by omega) (by omega) s2 h2
    obtain ⟨hp2, g2, d2, tk2, os2⟩ := s2
    wp_walk
    rw [hc]
    exact ⟨plainId_quiet plain_contains_loop _, codeAny_builtin entry_contains_loop (by
      rw [Around.under_plainId plain_contains_loop _]
      exact hrec)⟩
theorem list_inF (l : Addr) (N : Nat) (I : Nat → Shared → Prop) (hl : NotI prog w A (fun e s' => R (.error e) s') l x N I)
    (fin : ∀ s, I N s → R (.ok (.ret (.bool false))) s) {s : Shared} (h : I 0 s) :
    wpAny (model prog w) A.in1 (Builtin.«list.__contains__» ⟨[.ref l, x], []⟩) (GQ.FinOf prog w A R) (fun e s' => R (.error e) s') s := by
  obtain ⟨items, n, hl1, hs1, _⟩ := hl _ _ h
  have hrec := in_loopF (A := A) (R := R) l N I hl fin _ 0 rfl (Nat.zero_le _) s h
  obtain ⟨hp, g, d, tk, os⟩ := s
  wp_walk using wpAny_loadPart' hl1
  exact ⟨plainId_quiet plain_contains_loop _, codeAny_builtin entry_contains_loop (by
    rw [Around.under_plainId plain_contains_loop _]
    exact hrec)⟩
end
section
variable {prog : Program} {w : World} {A : Around} {E : Value → Shared → Prop} {s : Shared} {x : Value}
theorem in_F {l : Addr} {N : Nat} {Q : Value → Shared → Prop} (I : Nat → Shared → Prop) (hl : NotI prog w A E l x N I) (fin : ∀ s, I N s → Q (.bool false) s) (h : I 0 s) : wpAny (model prog w) A (compareOp .In x (.ref l)) Q E s := by
  obtain ⟨items, n, hl1, _⟩ := hl _ _ h
  show wpAny _ A (do return .bool (← contains (.ref l) x)) Q E s
  refine wpAny_bind (wpAny_contains_slot ⟨_, hl1, rfl⟩ PySem.F.slot_list_contains (wpAny_mono (Q := fun v s' => ∃ b, v = .bool b ∧ Q (.bool b) s') (GQ.call_here PySem.F.slot_list_contains ⟨_, hl1, rfl⟩ PySem.F.entry_list_contains (PySem.F.args_list_contains_2 _ _) ?_) (fun v s' hv => ?_) fun _ _ e => e))
  · exact list_inF (R := wants (fun v s' => ∃ b, v = .bool b ∧ Q (.bool b) s') E) l N I hl (fun s' q => ⟨_, rfl, fin s' q⟩) h
  · obtain ⟨b, rfl, hq⟩ := hv
    exact wpAny_truthy_bool (wpAny_pure hq)
/-- == inside a builtin, of a value and an object that differ -/
theorem eqBool_F {y : Value} {a : Addr} {Q : Bool → Shared → Prop} (hne : y ≠ .ref a) (h : wpAny (model prog w) A (richCompare .Eq y (.ref a)) (fun v s' => ∃ r, v = .bool r ∧ Q r s') E s) : wpAny (model prog w) A (eqBool y (.ref a)) Q E s := by
  unfold eqBool
  refine wpAny_holding ?_
  refine wpAny_ite_split (fun hab => absurd (eq_of_beq hab) hne) (fun _ => ?_)
  have fin : wpAny (model prog w) A (richCompare .Eq y (.ref a) >>= fun v => truthOfDropped v) Q E s := by
    refine wpAny_bind (wpAny_mono h (fun v s' hv => ?_) fun _ _ x => x)
    obtain ⟨r, rfl, q⟩ := hv
    exact wpAny_truthy_bool q
  cases y <;> exact fin
end
end Rws
namespace Ows
open PySem PySem.Spec PyProof.Rows L2 ClX
section
variable {X : Cx} {CX : CXT} {k : Nat} {C g : Addr} {sp : Sp} {E : XK}
theorem vals_at : ∀ {xs : List V} {us : List Value}, Vals xs us → ∀ (i : Nat) (h : i < us.length), ∃ x, xs[i]? = some x ∧ RelV x us[i]
  | _, _, .nil, i, h => absurd h (Nat.not_lt_zero _)
  | _, _, .cons r t, 0, h => ⟨_, rfl, r⟩
  | _, _, .cons r t, i + 1, h => vals_at t i (Nat.lt_of_succ_lt_succ h)
theorem refl_any {A : Around} {Pq : Value → Shared → Prop} {pins : List (Addr × Obj)} {σ : L2.St} {H : Hp} {s : Shared} {x : V} {v : Value} {a dx : Addr} {fs : List (Str × V)} {T : String} (hu : A.units < cLine) (I : Inv X pins σ H s)
    (hsub : ∀ T ∈ ["str", "int", "NoneType", "list", "tuple", "dict"], PySem.W.subIn X.K (.ref C) (.type T) = some false) (hs : PySem.W.findIn X.K (.ref C) "__eq__" = some (some (.ref g))) (hf : PySem.W.isFn X.K (.ref g) = true) (ha : H a = some (.ins C dx fs)) (hp : Plain H x T) (rx : RelV x v)
    (run : wpAny (model X.prog X.w) A (call (.ref g) [.ref a, v]) (PySem.W.CmpBack Pq) X.xe s) : wpAny (model X.prog X.w) A (richCompare .Eq v (.ref a)) Pq X.xe s := by
  obtain ⟨mA, O, _⟩ := ins_get I.hok ha
  obtain ⟨od, J, _⟩ := O.look
  obtain ⟨m, hF⟩ := I.fr
  have hobj : s.heap.get? a = some (PySem.W.instObj C dx) := (show ObjOk X.prog X.w H s.heap a (.ins C dx fs) from I.hok a _ ha).2.2.2.1
  have hK := I.ok.mod.kin.keeps hF.keep
  have on : wpAny (model X.prog X.w) A (tryCompare (.ref a) (cmpInfo .Eq).2.2 v) (fun r s' => ∃ z, r = some z ∧ Pq z s') X.xe s := by
    rw [PySem.cmpInfo_Eq]
    exact Rws.one_eq hK J hs hf run
  cases hp with
  | str z =>
    obtain ⟨t, rfl⟩ := (show ∃ t, v = Value.str z t from rx)
    exact Rws.refl_eq hu hF I.ok.mod.kin J (typeIs_str s z t) (hsub "str" (by simp)) PySem.F.slot_str_eq (fun Q' hq => call_meets PySem.F.slot_str_eq (typeIs_str s z t) PySem.F.entry_str_eq (PySem.F.args_str_eq_2 _ _) (Rws.str_dec z t a C dx) ⟨hobj, hq⟩) on
  | int i =>
    obtain ⟨t, rfl⟩ := (show ∃ t, v = Value.int i t from rx)
    exact Rws.refl_eq hu hF I.ok.mod.kin J (typeIs_int s i t) (hsub "int" (by simp)) PySem.F.slot_int_eq (fun Q' hq => call_meets PySem.F.slot_int_eq (typeIs_int s i t) PySem.F.entry_int_eq (PySem.F.args_int_eq_2 _ _) (Rws.int_dec i t a C dx) ⟨hobj, hq⟩) on
  | non =>
    cases (show v = Value.none from rx)
    exact Rws.refl_eq (T := "NoneType") hu hF I.ok.mod.kin J rfl (hsub "NoneType" (by simp)) PySem.F.slot_NoneType_eq (fun Q' hq => call_gives PySem.F.slot_NoneType_eq rfl PySem.F.entry_NoneType_eq (PySem.F.args_NoneType_eq_2 _ _) (Rws.none_dec a) hq) on
  | @lst p xs h =>
    cases (show v = Value.ref p from rx)
    obtain ⟨_, _, n, _, h1⟩ := (show ObjOk X.prog X.w H s.heap p (.lst xs) from I.hok p _ h)
    have hT : s.TypeIs (.ref p) "list" := ⟨_, h1, rfl⟩
    exact Rws.refl_eq hu hF I.ok.mod.kin J hT (hsub "list" (by simp)) PySem.F.slot_list_eq (fun Q' hq => Rws.list_dec hK J (hsub "list" (by simp)) hT hq) on
  | @tup p xs h =>
    cases (show v = Value.ref p from rx)
    obtain ⟨_, _, _, o, h1, h2, _⟩ := (show ObjOk X.prog X.w H s.heap p (.tup xs) from I.hok p _ h)
    have hT : s.TypeIs (.ref p) "tuple" := ⟨o, h1, h2⟩
    exact Rws.refl_eq hu hF I.ok.mod.kin J hT (hsub "tuple" (by simp)) PySem.F.slot_tuple_eq (fun Q' hq => Rws.tup_dec hK J (hsub "tuple" (by simp)) hT hq) on
  | @dct p h =>
    cases (show v = Value.ref p from rx)
    obtain ⟨_, _, vs, _, o, es, ep, h1, h2, _⟩ := (show ObjOk X.prog X.w H s.heap p (.dK []) from I.hok p _ h)
    have hT : s.TypeIs (.ref p) "dict" := ⟨o, h1, h2.1⟩
    exact Rws.refl_eq hu hF I.ok.mod.kin J hT (hsub "dict" (by simp)) PySem.F.slot_dict_eq (fun Q' hq => Rws.dict_dec hK J (hsub "dict" (by simp)) hT hq) on
theorem plain_ne {H : Hp} {x : V} {T : String} {v : Value} {a dx : Addr} {fs : List (Str × V)} (hp : Plain H x T) (rx : RelV x v) (ha : H a = some (.ins C dx fs)) : v ≠ .ref a := by
  intro e
  subst e
  cases hp with
  | str z => obtain ⟨t, h⟩ := (show ∃ t, Value.ref a = Value.str z t from rx); cases h
  | int i => obtain ⟨t, h⟩ := (show ∃ t, Value.ref a = Value.int i t from rx); cases h
  | non => cases (show Value.ref a = Value.none from rx)
  | @lst p xs h => cases (show Value.ref a = Value.ref p from rx); rw [ha] at h; cases h
  | @tup p xs h => cases (show Value.ref a = Value.ref p from rx); rw [ha] at h; cases h
  | @dct p h => cases (show Value.ref a = Value.ref p from rx); rw [ha] at h; cases h
/-- object in list: no item is equal to it, and nothing is changed -/
def rInOwnF (K : PySem.W.Frag) (C : Addr) (sp : Sp) (E : XK) : R2 := fun x y H Q => ∃ (a dx p : Addr) (fs : List (Str × V)) (xs : List V), x = .ref a ∧ y = .ref p ∧ H a = some (.ins C dx fs) ∧ H p = some (.lst xs) ∧ TyX K H x (.ref C) ∧ PySem.W.notFirst K C (.ref C) = true ∧
  (∀ v ∈ xs, (∃ (b dy : Addr) (gs : List (Str × V)), v = .ref b ∧ b ≠ a ∧ H b = some (.ins C dy gs) ∧ sp [v, x] H (fun z H' => z = .bl false ∧ H' = H) E) ∨ (∃ T, Plain H v T ∧ sp [x, v] H (fun z H' => z = .bl false ∧ H' = H) E)) ∧ Q (.bl false) H
theorem op_inOwnF (hsub : ∀ T ∈ ["str", "int", "NoneType", "list", "tuple", "dict"], PySem.W.subIn X.K (.ref C) (.type T) = some false) (hs : PySem.W.findIn X.K (.ref C) "__eq__" = some (some (.ref g))) (hf : PySem.W.isFn X.K (.ref g) = true) (F : FnR X.prog X.w X.K X.mg X.base CX k g sp)
    (hr : Room (k + 1) X.A) (hx : Passes CX X E) : OpR X (compareOp .In) (rInOwnF X.K C sp E) := by
  intro pins s σ H x y v u Q I rx ry h
  obtain ⟨a, dx, p, fs, xs, rfl, rfl, ha, hp, hty, hn, hall, q⟩ := h
  cases (show v = Value.ref a from rx)
  cases (show u = Value.ref p from ry)
  have hr1 : Room k X.A.in1 := hr.in1
  refine Rws.in_F (N := xs.length) (fun _ s' => Inv X pins σ H s') ?_ (fun s' I' => ⟨.bl false, H, I', rfl, q⟩) I
  intro i s' I'
  obtain ⟨_, its, n, r, e⟩ := (show ObjOk X.prog X.w H s'.heap p (.lst xs) from I'.hok p _ hp)
  have hlen := r.length
  refine ⟨its.toArray, n, e, by simp; omega, fun h1 => ?_⟩
  have h1' : i < its.length := by simpa using h1
  obtain ⟨z, hz, rz⟩ := vals_at r i h1'
  have ei : its.toArray[i] = its[i] := by simp
  rw [ei]
  obtain ⟨m, hF⟩ := I'.fr
  rcases hall z (List.mem_of_getElem? hz) with ⟨b, dy, gs, rfl, hba, hb, sb⟩ | ⟨Tn, hpl, sb⟩
  · rw [show its[i] = Value.ref b from rz]
    refine Rws.eqBool_F (fun e => hba (by injection e)) ?_
    obtain ⟨mB, O, _⟩ := ins_get I'.hok hb
    obtain ⟨od, J, _⟩ := O.look
    obtain ⟨Pp, Z, pz, _⟩ := kit_of I' (show RelV (.ref a) (Value.ref a) from rfl) hty
    refine PySem.W.cmp_K (op := .Eq) (tb := .ref C) hr1.units0 hF I'.ok.mod.kin J (Z.ty _ _ I'.kIn pz) hn hs hf ?_
    refine wpAny_mono (wpAny_call (SlX.run_at (us := [.ref b, .ref a]) (ws := [.ref b, .ref a]) F hr1 I'.env0.in1 hx I' (.cons rfl (.cons rfl .nil)) sb)) (fun w s2 z => ?_) fun _ _ x => x
    obtain ⟨z', H', I2, rz', ez, eH⟩ := z
    subst ez
    subst eH
    cases (show w = Value.bool false from rz')
    exact ⟨false, rfl, rfl, I2⟩
  · refine Rws.eqBool_F (plain_ne hpl rz ha) ?_
    refine refl_any hr1.units0 I' hsub hs hf ha hpl rz ?_
    refine wpAny_mono (wpAny_call (SlX.run_at (us := [.ref a, its[i]]) (ws := [.ref a, z]) F hr1 I'.env0.in1 hx I' (.cons rfl (.cons rz .nil)) sb)) (fun w s2 z => ?_) fun _ _ x => x
    obtain ⟨z', H', I2, rz', ez, eH⟩ := z
    subst ez
    subst eH
    cases (show w = Value.bool false from rz')
    exact ⟨false, rfl, rfl, I2⟩
end
end Ows

set_option Elab.async false
set_option linter.all false
set_option maxRecDepth 100000
set_option maxHeartbeats 4000000
/-! Hq: C(k = e, ..) with the keywords from the last parameter to the first -/
namespace Cmx
open PySem PySem.Spec PyProof.Rows L2 ClX
theorem vals_snoc : ∀ {vs ws : List V} {us ts : List Value}, Vals vs us → Vals ws ts → Vals (vs ++ ws) (us ++ ts)
  | _, _, _, _, .nil, h => h
  | _, _, _, _, .cons r t, h => .cons r (vals_snoc t h)
theorem vals_rev : ∀ {vs : List V} {us : List Value}, Vals vs us → Vals vs.reverse us.reverse
  | _, _, .nil => .nil
  | _, _, .cons r t => by
    rw [List.reverse_cons, List.reverse_cons]
    exact vals_snoc (vals_rev t) (.cons r .nil)
def tRev (tk : TA) : TA := fun σ H R => tk σ H fun vs H' => R vs.reverse H'
section
variable {X : Cx} {CX : CXT} {k : Nat} {f C : Addr} {fd : FuncData} {ps ks : List Str} {sp : Sp} {E : L2.St → XK} {x : Str} {pp pos : Pos} {kws : List Keyword} {tk : TA}
/-- C(k = e, ..), the keywords in the order of the parameters, but from the last to the second -/
theorem pe_makeSR (M : Mk X.K C f) (F : FnOk X.prog X.w X.K X.mg X.base CX k f fd ps sp) (hr : Room (k + 1) X.A) (hg : Gl X x) (hm : X.mg x = some (.ref C))
    (hb : ∀ (s : Shared) (y : Value) (us : List Value), X.K.In s.heap → (y :: us).length = ps.length → BindsTo s fd ⟨[y], ks.zip us⟩ (ps.zip (y :: us.reverse))) (hx : ∀ σ, PassesAt CX X σ (E σ)) (hkw : PK X kws tk)
    (hal : (backToKw pos (keywordEach kws X.env)).all (·.1.isSome) = true := by rfl) (hks : (backToKw pos (keywordEach kws X.env)).filterMap (·.1) = ks := by rfl)
    (hpl : ((backTo pos (starEach [] X.env)).any (·.1) || (backToKw pos (keywordEach kws X.env)).any (·.1.isNone)) = false := by rfl) (hdb : (x == ("__debug__" : Str)) = false := by decide) :
    PE X (.Call (.Name x pp) [] kws pos) (tMakeS C sp E (tRev tk)) := by
  refine ⟨fun pins s σ H Q I h => ?_⟩
  refine wpAny_Call_Name_kw (ld_glob I hg hm ?_ hdb)
  refine PySem.W.callWith_KW0 (first := []) (h₀ := X.base) I.ok.mod.kin M.kp hal (thn (hkw.run pos pins s σ H _ I h) fun us s1 ⟨vs, H1, I1, r, q⟩ => ⟨I1.kIn, ?_⟩) hpl
  rw [hks]
  have hq := q (s1.heap.objs.size + 1) s1.heap.objs.size (I1.hok.fresh (Nat.le_succ _)) (I1.hok.fresh (Nat.le_refl _)) (Nat.ne_of_lt (Nat.lt_succ_self _))
  have I2 := Inv.made (C := C) I1
  have r2 : Vals (V.ref (s1.heap.objs.size + 1) :: vs.reverse) (Value.ref (s1.heap.objs.size + 1) :: us.reverse) := .cons rfl (vals_rev r)
  have hl : (Value.ref (s1.heap.objs.size + 1) :: us).length = ps.length := by
    have e := r2.length
    rw [F.len _ _ _ _ hq, List.length_cons, List.length_reverse] at e
    exact e.symm
  refine wpAny_call (make_map (f := f) I1.kIn M.makes M.init (beq_iff_eq.mp M.fn) (codeAny_mono (F.run _ X.stack _ _ ⟨[Value.ref (s1.heap.objs.size + 1)], ks.zip us⟩ (Value.ref (s1.heap.objs.size + 1) :: us.reverse) _ _ (E σ) (hr.make C [] (ks.zip us))
    (I2.env0.make C [] (ks.zip us)) (hb _ _ us I2.kIn hl) r2 hq) fun r s' hq' => ?_))
  cases r with
  | error e => exact hx σ pins _ _ e s' I2 hq'
  | ok fl =>
    cases fl with
    | ret u =>
      obtain ⟨v, H', I3, rv, ev, q3⟩ := I2.after hq'
      subst ev
      exact ⟨rv, ⟨V.ref (s1.heap.objs.size + 1), H', I3, rfl, q3⟩⟩
    | next => exact False.elim hq'
    | brk => exact False.elim hq'
    | cont => exact False.elim hq'
end
end Cmx
namespace Own
open PySem PySem.Spec PyProof.Rows L2
section
variable {X : Cx} {CX : CXT} {k : Nat} {f : Addr} {fd : FuncData} {ps : List Str} {sp : Sp} {E : XK} {x : Str} {p pos : Pos} {e : Expr} {es : List Expr} {t : TA}
/-- f() of a def that shows values -/
theorem pe_callG0 (F : FnG X.prog X.w X.K X.mg X.base CX k f fd ps sp) (hg0 : X.A.guards = some []) (hr : Room k X.A) (hg : Gl X x) (hm : X.mg x = some (.ref f)) (hk : PySem.W.keepIn X.K (.ref f) = true) (hb : Binds X.K fd ps []) (hx : Passes CX X E)
    (hdb : (x == ("__debug__" : Str)) = false := by decide) : PE X (.Call (.Name x p) [] [] pos) (fun σ H Q => sp [] H Q E) := by
  refine ⟨fun pins s σ H Q I h => wpAny_Call_Name_kw (ld_glob I hg hm ?_ hdb)⟩
  refine PySem.W.callWith_K0 I.kIn hk ?_
  have hl : ([] : List Value).length = ps.length := F.lenG _ _ _ _ h
  refine wpAny_call (codeAny_mono (F.runG X.A X.stack s H ⟨[], []⟩ [] [] Q E hg0 hr I.env0 (by have := hb s [] I.kIn (by rw [List.append_nil]; exact hl); rwa [List.append_nil] at this) .nil h) fun rr s' hq => ?_)
  match rr, hq with
  | .error er, hq => exact hx pins σ H s er s' I hq
  | .ok (.ret u), hq => exact I.after hq
  | .ok .next, hq => exact False.elim hq
  | .ok .brk, hq => exact False.elim hq
  | .ok .cont, hq => exact False.elim hq
end
end Own

set_option Elab.async false
set_option linter.all false
set_option maxRecDepth 100000
set_option maxHeartbeats 4000000
/-! Hr: o.m() where the method has defaults -/
namespace Cmx
open PySem PySem.Spec PyProof.Rows L2 ClX
section
variable {X : Cx} {CX : CXT} {k : Nat} {f C : Addr} {fd : FuncData} {ps : List Str} {ds : List Value} {dvs : List V} {sp : Sp} {E : L2.St → XK} {m : Str} {pos apos : Pos} {o : Expr} {ta : TE}
/-- o.m(), the rest from the defaults -/
def tMethD (C : Addr) (m : Str) (sp : Sp) (E : L2.St → XK) (dvs : List V) (ta : TE) : TE := fun σ H Q => ta σ H fun x H1 => ∃ a dx fs, x = .ref a ∧ H1 a = some (.ins C dx fs) ∧ fs.lookup m = none ∧ sp (.ref a :: dvs) H1 Q (E σ)
theorem pe_methXD {pl : Sem Bool} (he : PE X o ta) (c : Cls X.K C) (hm : Meth X.K C m f) (F : FnOk X.prog X.w X.K X.mg X.base CX k f fd ps sp) (hr : Room k X.A) (hb : Binds X.K fd ps ds) (hd : Vals dvs ds) (hx : ∀ σ, PassesAt CX X σ (E σ))
    (ht : eval (.Call (.Attribute o m apos) [] [] pos) X.env = (do
      let ov ← eval o X.env
      standAt apos.atName
      let (f, first) ← holding [ov] (getMethod ov m pl)
      callWith pos f first (backTo pos (starEach [] X.env)) (backToKw pos (keywordEach [] X.env))) := by rfl) :
    PE X (.Call (.Attribute o m apos) [] [] pos) (tMethD C m sp E dvs ta) := by
  refine ⟨fun pins s σ H Q I h => ?_⟩
  refine PySem.W.methodCall_KW (pl := pl) (thn (he.run pins s σ H _ I h) fun u s1 ⟨x, H1, I1, rx, a, dx, fs, ex, ea, l, q⟩ => ?_) ht
  subst ex
  obtain rfl : u = Value.ref a := rx
  refine getmeth_ok I1 ea c hm l ?_
  exact PySem.W.callWith_K0 (first := [.ref a]) I1.kIn hm.kp (run_fnSD (us := [.ref a]) (vs := [.ref a]) F hr hb hd (hx σ) I1 (.cons rfl .nil) q)
end
end Cmx

set_option Elab.async false
set_option linter.all false
set_option maxRecDepth 100000
set_option maxHeartbeats 4000000
/-! Hs: what is lost in all; how long a repr is -/
namespace Gn
open PySem PySem.Spec PyProof.Rows L2 Own Exn Mth Vld
theorem bst_loss : ∀ (p z r : List Nat), bst p z = some r → r.length + (tkS p).length ≤ z.length + (puS p).length
  | [], z, r, h => by cases h; exact Nat.le_refl _
  | c :: p, z, r, h => by
    by_cases h1 : 97 ≤ c
    · rw [bst_put h1] at h
      have := bst_loss p _ r h
      rw [tkS_put h1, puS_put h1, List.length_cons]
      rw [List.length_append, List.length_singleton] at this
      omega
    · cases e : fst? (c + 32) z with
      | none => rw [bst_fail h1 e] at h; cases h
      | some k =>
        rw [bst_take h1 e] at h
        have := bst_loss p _ r h
        obtain ⟨k1, _, _⟩ := fst_lt e
        rw [tkS_take h1, puS_take h1, List.length_cons]
        rw [List.length_drop] at this
        omega
theorem repr_len {z : List Nat} (h : ∀ c ∈ z, c ∈ st16) : (reprText (mk z)).length ≤ 10 * z.length + 2 := by
  have h := PySem.StrLaws.reprText_len (mk z) fun c hc => Nat.lt_of_lt_of_le (show c < 200 by have := h c (by rwa [show (mk z).cps.toList = z from cs_mk z] at hc); rw [mem_st16] at this; omega) (by decide)
  rwa [len_mk z] at h
theorem st_of_lo {z : List Nat} (h : ∀ c ∈ z, c ∈ lo8) : ∀ c ∈ z, c ∈ st16 := fun c hc => by
  have := h c hc
  rw [mem_lo8] at this
  rw [mem_st16]
  omega
theorem shown2 {x : Str} {z : List Nat} (h : ∀ c ∈ z, c ∈ st16) (lz : z.length ≤ 1000) (lx : (reprText x).length ≤ 1000) : (PyData.shown (.list [.str x, .str (mk z)])).length ≤ 100000 := by
  have e := listText_len_le [reprText x, reprText (mk z)]
  have r := repr_len h
  rw [show PyData.shown (.list [.str x, .str (mk z)]) = listText [reprText x, reprText (mk z)] from by simp only [PyData.shown, PyData.shownAll]]
  simp only [List.map_cons, List.map_nil, List.sum_cons, List.sum_nil, List.length_cons, List.length_nil] at e
  omega
end Gn

set_option Elab.async false
set_option linter.all false
set_option maxRecDepth 100000
set_option maxHeartbeats 400000
/-! Ht: several clauses, each with a name of its own or with none -/
namespace L2
open PySem PySem.Spec PyProof.Rows
abbrev Clm := List (Value × Option Nat × (Addr → Value → Option Addr → TS))
def wMix (K : PySem.W.Frag) (Wout : WX) (D : Ends) : Clm → WX
  | [] => Wout
  | (c, none, ts) :: r => fun cls d τ G => ∃ b, PySem.W.exmOne K cls c = some b ∧ (b = true → ∀ q, G q = none → ts q cls d D τ G) ∧ (b = false → wMix K Wout D r cls d τ G)
  | (c, some i, ts) :: r => fun cls d τ G => ∃ b, PySem.W.exmOne K cls c = some b ∧ (b = true → ∀ q, G q = none → ts q cls d (D.out i) (τ.set i (some (.ref q))) G) ∧ (b = false → wMix K Wout D r cls d τ G)
inductive HdMx (X : Cx) : List ExceptHandler → Clm → Prop
  | nil : HdMx X [] []
  | only {x : Str} {c : Value} {ts : Addr → Value → Option Addr → TS} {s0 : Stmt} {su : List Stmt} {p1 p2 : Pos} {hds : List ExceptHandler} {l : Clm} (hc : Names X x c)
      (run : ∀ (q : Addr) (oq : Obj) (cls : Value) (d : Option Addr) (pn : List (Addr × Obj)), Zc cls d oq → (∃ vs, oq.data = .fields vs) → PSs (X.suite q ((q, oq) :: pn)) (s0 :: su) (ts q cls d)) (r : HdMx X hds l) : HdMx X (.ExceptHandler (some (.Name x p1)) none (s0 :: su) p2 :: hds) ((c, none, ts) :: l)
  | as_ {x : Str} {c : Value} {ts : Addr → Value → Option Addr → TS} {s0 : Stmt} {su : List Stmt} {p1 p2 : Pos} {hds : List ExceptHandler} {l : Clm} {i : Nat} {n : Str} (hin : X.N[i]? = some n) (hkn : X.env.kindOf n = some .local) (hc : Names X x c)
      (run : ∀ (q : Addr) (oq : Obj) (cls : Value) (d : Option Addr) (pn : List (Addr × Obj)), Zc cls d oq → (∃ vs, oq.data = .fields vs) → PSs (X.suite q ((q, oq) :: pn)) (s0 :: su) (ts q cls d)) (r : HdMx X hds l) : HdMx X (.ExceptHandler (some (.Name x p1)) (some n) (s0 :: su) p2 :: hds) ((c, some i, ts) :: l)
def tTryM (K : PySem.W.Frag) (Wout : WX) (l : Clm) (tb : WX → TS) : TS := fun D τ G => tb (wMix K Wout D l) D τ G
section
variable {X : Cx} {body : List Stmt} {hd0 : ExceptHandler} {hds : List ExceptHandler} {l : Clm} {pos : Pos} {tb : WX → TS} {Wout : WX}
theorem ps_tryM (hst : X.stack = X.env :: X.outer) (hfr : X.env.frame = some X.env.locals) (hnd : X.N.Nodup) (out : Takes X Wout)
    (hbd : ∀ (W : WX) (pn : List (Addr × Obj)) (xe : Value → Shared → Prop), Takes (X.tr pn xe) W → PassesOwn (model X.prog X.w) X.A X.env xe → PSs (X.tr pn xe) body (tb W)) (hall : HdMx X (hd0 :: hds) l) :
    PS X (.Try body (hd0 :: hds) [] [] pos) (tTryM X.K Wout l tb) := by
  refine ⟨fun pins s τ G D I h => wpAny_Try_except ?_⟩
  have ok := I.ok
  have frames : X.A.frames = some (X.env :: X.outer) := by rw [ok.frames, hst]
  refine wpAny_mono ((hbd (wMix X.K Wout D l) (X.pn ++ pins) _ (fun u s' got => ?C) PassesOwn.looking).run [] s τ G D (I.toTry _) h) (fun f s1 hsp => ?_) (fun e s1 he => he)
  case C =>
    obtain ⟨q, B, sI, pins', τ', G', cls, d, rfl, J', nb, up, sky, nq, os, bare, w⟩ := got
    have J : Inv X pins τ' G' sI := J'.ofTry ok
    rw [hst] at sky
    refine Sky.land Zc.steady frames hfr sky fun h3 fl up3 => ?_
    have J3 : Inv X pins τ' G' { s' with heap := h3 } := J.landed nb fl.1 (up.trans up3) os bare
    obtain ⟨oq, vq, eq3, zq, dq⟩ := fl.there
    have apart : q ∉ frs (X.env :: X.outer) := fun hm => by
      obtain ⟨_, o', e', hnf⟩ := fl.2.2.1.mem hm
      rw [eq3] at e'; cases e'; exact hnf _ dq
    have nL : q ≠ X.env.locals := fun z => apart (List.mem_filterMap.mpr ⟨X.env, List.mem_cons_self, by rw [hfr, z]⟩)
    have nF : q ∉ X.fs := fun hm => by obtain ⟨e, he, r⟩ := List.mem_filterMap.mp hm; exact apart (List.mem_filterMap.mpr ⟨e, List.mem_cons_of_mem _ he, r⟩)
    have S3 := J3.suite eq3 dq nq nL nF
    have each : ∀ {hs' : List ExceptHandler} {l' : Clm}, HdMx X hs' l' → wMix X.K Wout D l' cls d τ' G' → wpAny (model X.prog X.w) X.A (handleBy (.ref q) X.env hs') (SP X pins D) X.xe { s' with heap := h3 } := by
      intro hs' l' ha
      induction ha with
      | nil =>
        intro w
        obtain ⟨k1, k2, k3, oe, vs, T, oT, tt, e1, e2, e3, e4, e5⟩ := id fl
        refine wpAny_handleBy_nil ?_; unfold PySem.passOn; refine wpAny_bind (wpAny_field e1 e3 e4 ?_)
        rw [if_neg (by simp : ¬ ((Value.ref T == Value.none) = true))]
        have last : wpAny (model X.prog X.w) X.A (setFlight (.ref q) X.env.frame) (fun _ t => wpAny (model X.prog X.w) X.A (throw (.ref q) : Sem Flow) (SP X pins D) X.xe t) X.xe { s' with heap := h3 } := by
          rw [hfr]; refine HandSPX.setFlight_upZ fl fun h4 hh up4 => wpAny_throw (out _ _ ?_)
          exact ⟨q, B, sI, pins, τ', G', cls, d, rfl, J, nb, (up.trans up3).trans up4, .inr (.inr (by rw [hst]; exact hh)), nq, os, bare, w⟩
        first | exact wpAny_bind (wpAny_pure (wpAny_bind last)) | exact wpAny_bind last
      | @only x c ts s0 su p1 p2 hds2 l2 hc run r ih =>
        intro w
        obtain ⟨b, hm, hyes, hno⟩ := w
        refine wpAny_handleBy_cons (codeAny_handlers_test ?_) (fun z => by cases z)
        have ty : PySem.W.Looks (model X.prog X.w) h3 (typeOf (.ref q)) cls := fun A Q E s k z => wpAny_typeOf_ref (k _ _ eq3) (by rw [zq.1]; exact z)
        have LM := PySem.W.exm_one (M := model X.prog X.w) J3.kIn ty hm
        have name : ∀ {Q : Value → Shared → Prop} {E : Value → Shared → Prop}, Q c { s' with heap := h3 } → wpAny (model X.prog X.w) (X.A.mark (some (.ref q))) (eval (.Name x p1) X.env) Q E { s' with heap := h3 } := fun {Q E} z => by
          rcases hc with ⟨g1, g2, g3 | ⟨g3, g4, g5⟩⟩
          · exact ld_glob (X := X.suite q ((q, oq) :: (X.pn ++ pins))) S3 g1 g3 z g2
          · exact ld_blt (X := X.suite q ((q, oq) :: (X.pn ++ pins))) S3 g1 g3 g4 z g5 g2
        refine name (LM.here ?_)
        cases b with
        | false => exact ih (hno rfl)
        | true =>
          refine codeAny_handlers_suite (HandSPX.lands_againZ fl fun h4 fl4 up4 => ?_)
          have J4 : Inv X pins τ' G' { s' with heap := h4 } := J.landed nb fl4.1 ((up.trans up3).trans up4) os bare
          obtain ⟨o4, v4, e4, z4, d4⟩ := fl4.there
          refine wpAny_mono ((run q o4 cls d (X.pn ++ pins) z4 ⟨_, d4⟩).run [] _ _ G' _ (J4.suite e4 d4 nq nL nF) (hyes rfl q nq)) (fun f s6 hsp => ?_) (fun _ _ z => z.elim)
          cases f with
          | ret u => obtain ⟨v6, τ6, G6, S6, r6, z6⟩ := hsp; exact ⟨_, _, _, S6.unsuite ok, r6, z6⟩
          | next => obtain ⟨τ6, G6, S6, z6⟩ := hsp; exact ⟨_, _, S6.unsuite ok, z6⟩
          | brk => obtain ⟨τ6, G6, S6, z6⟩ := hsp; exact ⟨_, _, S6.unsuite ok, z6⟩
          | cont => obtain ⟨τ6, G6, S6, z6⟩ := hsp; exact ⟨_, _, S6.unsuite ok, z6⟩
      | @as_ x c ts s0 su p1 p2 hds2 l2 i n hin hkn hc run r ih =>
        intro w
        obtain ⟨b, hm, hyes, hno⟩ := w
        refine wpAny_handleBy_cons (codeAny_handlers_test ?_) (fun z => by cases z)
        have ty : PySem.W.Looks (model X.prog X.w) h3 (typeOf (.ref q)) cls := fun A Q E s k z => wpAny_typeOf_ref (k _ _ eq3) (by rw [zq.1]; exact z)
        have LM := PySem.W.exm_one (M := model X.prog X.w) J3.kIn ty hm
        have name : ∀ {Q : Value → Shared → Prop} {E : Value → Shared → Prop}, Q c { s' with heap := h3 } → wpAny (model X.prog X.w) (X.A.mark (some (.ref q))) (eval (.Name x p1) X.env) Q E { s' with heap := h3 } := fun {Q E} z => by
          rcases hc with ⟨g1, g2, g3 | ⟨g3, g4, g5⟩⟩
          · exact ld_glob (X := X.suite q ((q, oq) :: (X.pn ++ pins))) S3 g1 g3 z g2
          · exact ld_blt (X := X.suite q ((q, oq) :: (X.pn ++ pins))) S3 g1 g3 g4 z g5 g2
        refine name (LM.here ?_)
        cases b with
        | false => exact ih (hno rfl)
        | true =>
          refine codeAny_handlers_suite_as (HandSPX.lands_againZ fl fun h4 fl4 up4 => ?_)
          have J4 : Inv X pins τ' G' { s' with heap := h4 } := J.landed nb fl4.1 ((up.trans up3).trans up4) os bare
          obtain ⟨o4, v4, e4, z4, d4⟩ := fl4.there
          refine store_ok (X := X.suite q ((q, o4) :: (X.pn ++ pins))) (v := .ref q) (J4.suite e4 d4 nq nL nF) hnd hin (.inl hkn) rfl (fun s5 S5 => ?_) (.inr hkn)
          refine wpAny_mono ((run q o4 cls d (X.pn ++ pins) z4 ⟨_, d4⟩).run [] s5 _ G' _ S5 (hyes rfl q nq)) (fun f s6 hsp => ?_) (fun _ _ z => z.elim)
          have fin : ∀ {τ6 : St} {G6 : Hp} {Q : Shared → Prop}, Inv (X.suite q ((q, o4) :: (X.pn ++ pins))) [] τ6 G6 s6 → (∀ s7, Inv X pins (τ6.set i none) G6 s7 → Q s7) → wpAny (model X.prog X.w) X.A (do bindName X.env n .none; unbindBehindTheSuite X.env n p2) (fun _ s7 => Q s7) X.xe s6 :=
            fun {τ6 G6 Q} S6 z => gone_ok (S6.unsuite ok) hnd hin hkn z
          cases f with
          | ret u => obtain ⟨v6, τ6, G6, S6, r6, z6⟩ := hsp; exact fin S6 fun s7 J7 => ⟨_, _, _, J7, r6, z6⟩
          | next => obtain ⟨τ6, G6, S6, z6⟩ := hsp; exact fin S6 fun s7 J7 => ⟨_, _, J7, z6⟩
          | brk => obtain ⟨τ6, G6, S6, z6⟩ := hsp; exact fin S6 fun s7 J7 => ⟨_, _, J7, z6⟩
          | cont => obtain ⟨τ6, G6, S6, z6⟩ := hsp; exact fin S6 fun s7 J7 => ⟨_, _, J7, z6⟩
    exact each hall w
  cases f with
  | ret u => obtain ⟨v, τ6, G6, J6, r6, z6⟩ := hsp; exact ⟨v, τ6, G6, J6.ofTry ok, r6, z6⟩
  | next => obtain ⟨τ6, G6, J6, z6⟩ := hsp; exact wpAny_execs_nil ⟨τ6, G6, J6.ofTry ok, z6⟩
  | brk => obtain ⟨τ6, G6, J6, z6⟩ := hsp; exact ⟨τ6, G6, J6.ofTry ok, z6⟩
  | cont => obtain ⟨τ6, G6, J6, z6⟩ := hsp; exact ⟨τ6, G6, J6.ofTry ok, z6⟩
end
end L2

set_option Elab.async false
set_option linter.all false
set_option maxRecDepth 100000
set_option maxHeartbeats 4000000
/-! Hv: the head by one run; what is seen of the heap behind it -/
namespace Hk
open PySem PySem.Spec PyProof.Rows L2 He
/-! ### functions -/
abbrev FnS : Type := Option (Str × Str × Arguments × FuncBody × Scope × Addr × Addr)
def fnS (K : PySem.W.Frag) (a : Addr) : FnS := match K.lookup a with
  | some ⟨_, _, .func fd, _⟩ => some (fd.name, fd.qualname, fd.params, fd.body, fd.scope, fd.globals, fd.builtins)
  | _ => none
def fnD (K : PySem.W.Frag) (a : Addr) : FuncData := match K.lookup a with
  | some ⟨_, _, .func fd, _⟩ => fd
  | _ => default
def exS (n q : Str) (s : Stmt) : FnS := some (n, q, defArgs s, .stmts (defBody s), defScope s, mainGlobals, builtinsNs)
def fnB (K : PySem.W.Frag) (a : Addr) (q : Str) : Bool := PySem.W.keepIn K (.ref a) && PySem.W.codeIn K (fnD K a).code q
def clN (K : PySem.W.Frag) (a : Addr) : Bool := match (fnD K a).closure with
  | [] => true
  | _ => false
def dfN (K : PySem.W.Frag) (a : Addr) : Bool := match (fnD K a).defaults with
  | .none => true
  | _ => false
def kwN (K : PySem.W.Frag) (a : Addr) : Bool := match (fnD K a).kwdefaults with
  | .none => true
  | _ => false
def dfI (K : PySem.W.Frag) (a : Addr) (i : Int) : Bool := match (fnD K a).defaults with
  | .ref T => (match K.lookup T with
    | some ⟨_, _, .seq ⟨[.int j _]⟩ _, _⟩ => decide (j = i)
    | _ => false)
  | _ => false
def dfS (K : PySem.W.Frag) (a : Addr) (z : Str) : Bool := match (fnD K a).defaults with
  | .ref T => (match K.lookup T with
    | some ⟨_, _, .seq ⟨[.str y _]⟩ _, _⟩ => decide (y = z)
    | _ => false)
  | _ => false
def clS (K : PySem.W.Frag) (a C : Addr) : Bool := match (fnD K a).closure with
  | [(n, c)] => decide (n = ("__class__" : Str)) && (match K.lookup c with
    | some ⟨_, _, .cell (some (.ref D)), _⟩ => decide (D = C)
    | _ => false)
  | _ => false
def cdS (K : PySem.W.Frag) (a : Addr) : Bool := match (fnD K a).code with
  | .ref c => (match K.lookup c with
    | some ⟨_, _, .fields vs, _⟩ => (match (vs[2]? : Option Value) with
      | some (.str z _) => decide (z = ("/claim/cut.py" : Str))
      | _ => false)
    | _ => false)
  | _ => false
section
variable {K : PySem.W.Frag} {a C : Addr} {n q : Str} {s : Stmt} {i : Int} {z : Str}
theorem fn_at (e : fnS K a = exS n q s) : ∃ oc od osl cl dV kV dc pm an cd ct, K.lookup a = some ⟨oc, od, .func ⟨n, q, defArgs s, .stmts (defBody s), defScope s, mainGlobals, cl, dV, kV, dc, pm, an, cd, ct, builtinsNs⟩, osl⟩ ∧
    fnD K a = ⟨n, q, defArgs s, .stmts (defBody s), defScope s, mainGlobals, cl, dV, kV, dc, pm, an, cd, ct, builtinsNs⟩ := by
  unfold fnS exS at e
  unfold fnD
  cases h : K.lookup a with
  | none => rw [h] at e; cases e
  | some o =>
    obtain ⟨oc, od, dt, osl⟩ := o
    rw [h] at e
    cases dt with
    | func fd =>
      obtain ⟨n1, n2, n3, n4, n5, n6, n7, n8, n9, n10, n11, n12, n13, n14, n15⟩ := fd
      have e2 : (some (n1, n2, n3, n4, n5, n6, n15) : FnS) = some (n, q, defArgs s, .stmts (defBody s), defScope s, mainGlobals, builtinsNs) := e
      simp only [Option.some.injEq, Prod.mk.injEq] at e2
      obtain ⟨h1, h2, h3, h4, h5, h6, h7⟩ := e2
      subst h1 h2 h3 h4 h5 h6 h7
      exact ⟨oc, od, osl, n7, n8, n9, n10, n11, n12, n13, n14, rfl, rfl⟩
    | _ => cases e
theorem clN_ok (h : clN K a = true) : (fnD K a).closure = [] := by
  unfold clN at h
  cases e : (fnD K a).closure with
  | nil => rfl
  | cons _ _ => rw [e] at h; cases h
theorem dfN_ok (h : dfN K a = true) : (fnD K a).defaults = .none := by
  unfold dfN at h
  cases e : (fnD K a).defaults with
  | none => rfl
  | _ => rw [e] at h; cases h
theorem kwN_ok (h : kwN K a = true) : (fnD K a).kwdefaults = .none := by
  unfold kwN at h
  cases e : (fnD K a).kwdefaults with
  | none => rfl
  | _ => rw [e] at h; cases h
theorem dfI_ok (h : dfI K a i = true) : ∃ td to tp tn ts tk, (fnD K a).defaults = .ref td ∧ K.lookup td = some ⟨to, tp, .seq #[.int i tk] tn, ts⟩ := by
  unfold dfI at h
  split at h
  · rename_i T hT
    split at h
    · rename_i o d j t n' sl hl
      have := of_decide_eq_true h
      subst this
      exact ⟨T, _, _, _, _, _, hT, hl⟩
    · cases h
  · cases h
theorem dfS_ok (h : dfS K a z = true) : ∃ td to tp tn ts tk, (fnD K a).defaults = .ref td ∧ K.lookup td = some ⟨to, tp, .seq #[.str z tk] tn, ts⟩ := by
  unfold dfS at h
  split at h
  · rename_i T hT
    split at h
    · rename_i o d j t n' sl hl
      have := of_decide_eq_true h
      subst this
      exact ⟨T, _, _, _, _, _, hT, hl⟩
    · cases h
  · cases h
theorem clS_ok (h : clS K a C = true) : ∃ cc cel ced ces, (fnD K a).closure = [(("__class__" : Str), cc)] ∧ K.lookup cc = some ⟨cel, ced, .cell (some (.ref C)), ces⟩ := by
  unfold clS at h
  split at h
  · rename_i n' c hc
    obtain ⟨h1, h2⟩ := ba h
    have := of_decide_eq_true h1
    subst this
    split at h2
    · rename_i o d D sl hl
      have := of_decide_eq_true h2
      subst this
      exact ⟨c, _, _, _, hc, hl⟩
    · cases h2
  · cases h
theorem cdS_ok (h : cdS K a = true) : ∃ cda ccl cdd cvs ccs tf, (fnD K a).code = .ref cda ∧ K.lookup cda = some ⟨ccl, cdd, .fields cvs, ccs⟩ ∧ cvs[2]? = some (.str "/claim/cut.py" tf) := by
  unfold cdS at h
  split at h
  · rename_i c hc
    split at h
    · rename_i o d vs sl hl
      split at h
      · rename_i z t hz
        have := of_decide_eq_true h
        subst this
        exact ⟨c, _, _, _, _, _, hc, hl, hz⟩
      · cases h
    · cases h
  · cases h
/-- a def without defaults -/
theorem fn0 (e : fnS K a = exS n q s) (c : (fnB K a q && (clN K a && dfN K a)) = true) : ∃ oc od sl kV dc pm an cd ct, K.lookup a = some ⟨oc, od, .func (PySem.W.fnOf n q (defArgs s) (defBody s) (defScope s) .none kV dc pm an cd ct), sl⟩ ∧ PySem.W.codeIn K cd q = true ∧ PySem.W.keepIn K (.ref a) = true := by
  obtain ⟨c1, c2⟩ := ba c
  obtain ⟨c2, c3⟩ := ba c2
  obtain ⟨k1, k2⟩ := ba c1
  obtain ⟨oc, od, osl, cl, dV, kV, dc, pm, an, cd, ct, hl, hd⟩ := fn_at e
  have e1 := clN_ok c2
  have e2 := dfN_ok c3
  rw [hd] at e1 e2 k2
  cases e1
  cases e2
  exact ⟨oc, od, osl, kV, dc, pm, an, cd, ct, hl, k2, k1⟩
theorem fn1i (e : fnS K a = exS n q s) (c : (fnB K a q && (clN K a && dfI K a i)) = true) : ∃ td to tp tn ts tk oc od sl kV dc pm an cd ct, K.lookup td = some ⟨to, tp, .seq #[.int i tk] tn, ts⟩ ∧ K.lookup a = some ⟨oc, od, .func (PySem.W.fnOf n q (defArgs s) (defBody s) (defScope s) (.ref td) kV dc pm an cd ct), sl⟩ ∧ PySem.W.codeIn K cd q = true ∧ PySem.W.keepIn K (.ref a) = true := by
  obtain ⟨c1, c2⟩ := ba c
  obtain ⟨c2, c3⟩ := ba c2
  obtain ⟨k1, k2⟩ := ba c1
  obtain ⟨oc, od, osl, cl, dV, kV, dc, pm, an, cd, ct, hl, hd⟩ := fn_at e
  have e1 := clN_ok c2
  obtain ⟨td, to, tp, tn, ts, tk, e2, ht⟩ := dfI_ok c3
  rw [hd] at e1 e2 k2
  cases e1
  cases e2
  exact ⟨td, to, tp, tn, ts, tk, oc, od, osl, kV, dc, pm, an, cd, ct, ht, hl, k2, k1⟩
theorem fn1s (e : fnS K a = exS n q s) (c : (fnB K a q && (clN K a && dfS K a z)) = true) : ∃ td to tp tn ts tk oc od sl kV dc pm an cd ct, K.lookup td = some ⟨to, tp, .seq #[.str z tk] tn, ts⟩ ∧ K.lookup a = some ⟨oc, od, .func (PySem.W.fnOf n q (defArgs s) (defBody s) (defScope s) (.ref td) kV dc pm an cd ct), sl⟩ ∧ PySem.W.codeIn K cd q = true ∧ PySem.W.keepIn K (.ref a) = true := by
  obtain ⟨c1, c2⟩ := ba c
  obtain ⟨c2, c3⟩ := ba c2
  obtain ⟨k1, k2⟩ := ba c1
  obtain ⟨oc, od, osl, cl, dV, kV, dc, pm, an, cd, ct, hl, hd⟩ := fn_at e
  have e1 := clN_ok c2
  obtain ⟨td, to, tp, tn, ts, tk, e2, ht⟩ := dfS_ok c3
  rw [hd] at e1 e2 k2
  cases e1
  cases e2
  exact ⟨td, to, tp, tn, ts, tk, oc, od, osl, kV, dc, pm, an, cd, ct, ht, hl, k2, k1⟩
/-- an error's __init__ -/
theorem fnx (e : fnS K a = exS n q s) (c : (fnB K a q && (clN K a && (dfN K a && kwN K a))) = true) : ∃ oc od dc pm an cd ct sl, K.lookup a = some ⟨oc, od, .func (PySem.W.fnOf n q (defArgs s) (defBody s) (defScope s) .none .none dc pm an cd ct), sl⟩ ∧ PySem.W.codeIn K cd q = true := by
  obtain ⟨c1, c2⟩ := ba c
  obtain ⟨c2, c3⟩ := ba c2
  obtain ⟨c3, c4⟩ := ba c3
  obtain ⟨k1, k2⟩ := ba c1
  obtain ⟨oc, od, osl, cl, dV, kV, dc, pm, an, cd, ct, hl, hd⟩ := fn_at e
  have e1 := clN_ok c2
  have e2 := dfN_ok c3
  have e3 := kwN_ok c4
  rw [hd] at e1 e2 e3 k2
  cases e1
  cases e2
  cases e3
  exact ⟨oc, od, dc, pm, an, cd, ct, osl, hl, k2⟩
/-- a method that calls super() -/
theorem fnk0 (e : fnS K a = exS n q s) (c : (fnB K a q && (clS K a C && (cdS K a && dfN K a))) = true) : ∃ oc od sl kV dc pm an ct cda cc ccl cdd cvs ccs tf cel ced ces, K.lookup cda = some ⟨ccl, cdd, .fields cvs, ccs⟩ ∧ cvs[2]? = some (.str "/claim/cut.py" tf) ∧ K.lookup cc = some ⟨cel, ced, .cell (some (.ref C)), ces⟩ ∧
    K.lookup a = some ⟨oc, od, .func (PySem.W.ksFn n q (defArgs s) (defBody s) (defScope s) .none kV dc pm an (.ref cda) ct cc), sl⟩ ∧ PySem.W.codeIn K (.ref cda) q = true ∧ PySem.W.keepIn K (.ref a) = true := by
  obtain ⟨c1, c2⟩ := ba c
  obtain ⟨c2, c3⟩ := ba c2
  obtain ⟨c3, c4⟩ := ba c3
  obtain ⟨k1, k2⟩ := ba c1
  obtain ⟨oc, od, osl, cl, dV, kV, dc, pm, an, cd, ct, hl, hd⟩ := fn_at e
  obtain ⟨cc, cel, ced, ces, e1, h1⟩ := clS_ok c2
  obtain ⟨cda, ccl, cdd, cvs, ccs, tf, e2, h2, h3⟩ := cdS_ok c3
  have e3 := dfN_ok c4
  rw [hd] at e1 e2 e3 k2
  cases e1
  cases e2
  cases e3
  exact ⟨oc, od, osl, kV, dc, pm, an, ct, cda, cc, ccl, cdd, cvs, ccs, tf, cel, ced, ces, h2, h3, h1, hl, k2, k1⟩
theorem fnk1s (e : fnS K a = exS n q s) (c : (fnB K a q && (clS K a C && (cdS K a && dfS K a z))) = true) : ∃ td to tp tn ts tk oc od sl kV dc pm an ct cda cc ccl cdd cvs ccs tf cel ced ces, K.lookup td = some ⟨to, tp, .seq #[.str z tk] tn, ts⟩ ∧ K.lookup cda = some ⟨ccl, cdd, .fields cvs, ccs⟩ ∧ cvs[2]? = some (.str "/claim/cut.py" tf) ∧ K.lookup cc = some ⟨cel, ced, .cell (some (.ref C)), ces⟩ ∧
    K.lookup a = some ⟨oc, od, .func (PySem.W.ksFn n q (defArgs s) (defBody s) (defScope s) (.ref td) kV dc pm an (.ref cda) ct cc), sl⟩ ∧ PySem.W.codeIn K (.ref cda) q = true ∧ PySem.W.keepIn K (.ref a) = true := by
  obtain ⟨c1, c2⟩ := ba c
  obtain ⟨c2, c3⟩ := ba c2
  obtain ⟨c3, c4⟩ := ba c3
  obtain ⟨k1, k2⟩ := ba c1
  obtain ⟨oc, od, osl, cl, dV, kV, dc, pm, an, cd, ct, hl, hd⟩ := fn_at e
  obtain ⟨cc, cel, ced, ces, e1, h1⟩ := clS_ok c2
  obtain ⟨cda, ccl, cdd, cvs, ccs, tf, e2, h2, h3⟩ := cdS_ok c3
  obtain ⟨td, to, tp, tn, ts, tk, e3, ht⟩ := dfS_ok c4
  rw [hd] at e1 e2 e3 k2
  cases e1
  cases e2
  cases e3
  exact ⟨td, to, tp, tn, ts, tk, oc, od, osl, kV, dc, pm, an, ct, cda, cc, ccl, cdd, cvs, ccs, tf, cel, ced, ces, ht, h2, h3, h1, hl, k2, k1⟩
end
/-! ### addresses and facts by names -/
def recA (K : PySem.W.Frag) (p : Addr) (k : String) : Addr := match PySem.W.recIn K p k with
  | some (.ref f :: _) => f
  | _ => 0
def recB (K : PySem.W.Frag) (p : Addr) (k : String) : Bool := match PySem.W.recIn K p k with
  | some (.ref _ :: _) => true
  | _ => false
theorem recB_ok {K : PySem.W.Frag} {p : Addr} {k : String} (h : recB K p k = true) : ∃ re, PySem.W.recIn K p k = some (.ref (recA K p k) :: re) := by
  unfold recB at h
  unfold recA
  split at h
  · rename_i f re e
    rw [e]
    exact ⟨re, rfl⟩
  · cases h
def clsA (K : PySem.W.Frag) (C : Addr) (m : Str) : Addr := match PySem.W.findCls K (.ref C) (.type "type") m with
  | some (.get _ (.ref p) _ _) => p
  | _ => 0
def clsB (K : PySem.W.Frag) (C : Addr) (m : Str) (b : String) : Bool := match PySem.W.findCls K (.ref C) (.type "type") m with
  | some (.get (.builtin g) (.ref _) .none (.ref D)) => decide (g = b) && decide (D = C)
  | _ => false
theorem clsB_ok {K : PySem.W.Frag} {C : Addr} {m : Str} {b : String} (h : clsB K C m b = true) : PySem.W.findCls K (.ref C) (.type "type") m = some (.get (.builtin b) (.ref (clsA K C m)) .none (.ref C)) := by
  unfold clsB at h
  unfold clsA
  split at h
  · rename_i g p D e
    obtain ⟨h1, h2⟩ := ba h
    have h1 := of_decide_eq_true h1
    have h2 := of_decide_eq_true h2
    subst h1 h2
    rw [e]
  · cases h
def valB (K : PySem.W.Frag) (C : Addr) (m : Str) (i : Int) : Bool := match PySem.W.findCls K (.ref C) (.type "type") m with
  | some (.val (.int j _)) => decide (j = i)
  | _ => false
theorem valB_ok {K : PySem.W.Frag} {C : Addr} {m : Str} {i : Int} (h : valB K C m i = true) : ∃ t, PySem.W.findCls K (.ref C) (.type "type") m = some (.val (.int i t)) := by
  unfold valB at h
  split at h
  · rename_i j t e
    have := of_decide_eq_true h
    subst this
    exact ⟨t, e⟩
  · cases h
def conI (K : PySem.W.Frag) (x : Str) (i : Int) : Bool := match PySem.W.nsIn K mainGlobals x with
  | some (some (.int j _)) => decide (j = i)
  | _ => false
theorem conI_ok {K : PySem.W.Frag} {x : Str} {i : Int} (h : conI K x i = true) : ∃ t, PySem.W.nsIn K mainGlobals x = some (some (.int i t)) := by
  unfold conI at h
  split at h
  · rename_i j t e
    have := of_decide_eq_true h
    subst this
    exact ⟨t, e⟩
  · cases h
def conS (K : PySem.W.Frag) (x z : Str) : Bool := match PySem.W.nsIn K mainGlobals x with
  | some (some (.str y _)) => decide (y = z)
  | _ => false
theorem conS_ok {K : PySem.W.Frag} {x z : Str} (h : conS K x z = true) : ∃ t, PySem.W.nsIn K mainGlobals x = some (some (.str z t)) := by
  unfold conS at h
  split at h
  · rename_i j t e
    have := of_decide_eq_true h
    subst this
    exact ⟨t, e⟩
  · cases h
/-! ### the Hook -/
abbrev Ch := PySem.W.Frag → Bool
abbrev Fn := (PySem.W.Frag → Addr) × FnS
abbrev Al : Type := Bool × List FnS
def obsK (cs : List Ch) (fs : List Fn) (K : PySem.W.Frag) : Al := (cs.all fun c => c K, fs.map fun f => fnS K (f.1 K))
def valK (fs : List Fn) : Al := (true, fs.map fun f => f.2)
def Says (cs : List Ch) (fs : List Fn) (K : PySem.W.Frag) : Prop := obsK cs fs K = valK fs
/-! what is looked at: the module's names, the classes' names, functions, their code -/
def r1 (o : Obj) : List Addr := match o.data with
  | .dict es _ => es.toList.flatMap fun e => refV e.val
  | .func fd => refV fd.code ++ (refV fd.defaults ++ fd.closure.map (·.2))
  | .cls cd => [cd.ns]
  | .fields vs => (match o.cls with
    | .type "code" => []
    | _ => vs.toList.flatMap refV)
  | _ => []
def refs1 (g : Addr → Option Obj) (a : Addr) : List Addr := match g a with
  | some o => r1 o
  | none => []
/-- a list, written out -/
def frL {α : Type} : List Addr → (List Addr → α) → α
  | [], k => k []
  | x :: xs, k => HandSHeadRun.frNat x fun x => frL xs fun xs => k (x :: xs)
theorem frL_eq {α : Type} : ∀ (l : List Addr) (k : List Addr → α), frL l k = k l
  | [], _ => rfl
  | x :: xs, k => by
    show HandSHeadRun.frNat x (fun x => frL xs fun xs => k (x :: xs)) = _
    rw [HandSHeadRun.frNat_eq, frL_eq xs]
def frO {α : Type} (o : Obj) (k : Obj → α) : α := match o with
  | ⟨c, d, dt, sl⟩ => match dt with
    | .func fd => k ⟨c, d, .func fd, sl⟩
    | .cls cd => k ⟨c, d, .cls cd, sl⟩
    | .dict es n => k ⟨c, d, .dict es n, sl⟩
    | .fields vs => k ⟨c, d, .fields vs, sl⟩
    | .seq es n => k ⟨c, d, .seq es n, sl⟩
    | dt => k ⟨c, d, dt, sl⟩
theorem frO_eq {α : Type} (o : Obj) (k : Obj → α) : frO o k = k o := by
  obtain ⟨c, d, dt, sl⟩ := o
  cases dt <;> rfl
def frK {α : Type} : List (Addr × Obj) → (List (Addr × Obj) → α) → α
  | [], k => k []
  | x :: xs, k => match x with
    | (a, o) => HandSHeadRun.frNat a fun a => frO o fun o => frK xs fun xs => k ((a, o) :: xs)
theorem frK_eq {α : Type} : ∀ (l : List (Addr × Obj)) (k : List (Addr × Obj) → α), frK l k = k l
  | [], _ => rfl
  | (a, o) :: xs, k => by
    show HandSHeadRun.frNat a (fun a => frO o fun o => frK xs fun xs => k ((a, o) :: xs)) = _
    rw [HandSHeadRun.frNat_eq, frO_eq, frK_eq xs]
/-- level by level -/
def lev {α : Type} (g : Addr → Option Obj) : Nat → List Addr → List Addr → (List Addr → α) → α
  | 0, _, all, k => k all
  | n + 1, as, all, k => frL (as.flatMap (refs1 g)) fun bs => lev g n bs (all ++ bs) k
theorem lev_eq {α : Type} (g : Addr → Option Obj) : ∀ (n : Nat) (as all : List Addr) (k : List Addr → α), lev g n as all k = k (lev g n as all id)
  | 0, _, _, _ => rfl
  | n + 1, as, all, k => by
    show frL (as.flatMap (refs1 g)) (fun bs => lev g n bs (all ++ bs) k) = k (frL (as.flatMap (refs1 g)) fun bs => lev g n bs (all ++ bs) id)
    rw [frL_eq, frL_eq]
    exact lev_eq g n _ _ k
def asX (g : Addr → Option Obj) (n : Nat) : List Addr := lev g n [mainGlobals] [mainGlobals, cStatics] id
def obsX (n : Nat) (cs : List Ch) (fs : List Fn) (g : Addr → Option Obj) : Al := lev g n [mainGlobals] [mainGlobals, cStatics] fun as => frL as fun as => frK (frG g as) fun K => obsK cs fs K
theorem obsX_is (n : Nat) (cs : List Ch) (fs : List Fn) (g : Addr → Option Obj) : obsX n cs fs g = obsK cs fs (frG g (asX g n)) := by
  unfold obsX
  rw [lev_eq, frL_eq, frK_eq]
  rfl
def hook (n : Nat) (cs : List Ch) (fs : List Fn) : PySem.W.Hook where
  α := Al
  obs := fun s => obsX n cs fs s.heap.get?
  val := fun _ => valK fs
  says := fun _ h => ∃ K : PySem.W.Frag, K.In h ∧ Says cs fs K
  of := fun _ s e => ⟨frG s.heap.get? (asX s.heap.get? n), frG_in, (obsX_is n cs fs s.heap.get?).symm.trans e⟩
  keeps := fun _ _ _ ⟨K, hK, c⟩ k => ⟨K, PySem.W.Frag.In.keeps hK k, c⟩
theorem obsX_eq {n : Nat} {cs : List Ch} {fs : List Fn} {g : Addr → Option Obj} {s : Shared} (h : ∀ a, g a = s.heap.get? a) : obsX n cs fs g = (hook n cs fs).obs s := by
  have e : g = s.heap.get? := funext h
  rw [e] <;> rfl
theorem Says.ch {cs : List Ch} {fs : List Fn} {K : PySem.W.Frag} (c : Says cs fs K) (i : Nat) {f : Ch} (h : cs[i]? = some f) : f K = true := by
  have c1 : (cs.all fun c => c K) = true := congrArg (fun z : Al => z.1) c
  exact List.all_eq_true.mp c1 f (List.mem_of_getElem? h)
theorem Says.fn {cs : List Ch} {fs : List Fn} {K : PySem.W.Frag} (c : Says cs fs K) (i : Nat) {f : Fn} (h : fs[i]? = some f) : fnS K (f.1 K) = f.2 := by
  have e : (fs.map fun f => fnS K (f.1 K)) = fs.map fun f => f.2 := congrArg (fun z : Al => z.2) c
  have e2 : (fs.map fun f => fnS K (f.1 K))[i]? = (fs.map fun f => f.2)[i]? := by rw [e]
  rw [List.getElem?_map, List.getElem?_map, h] at e2
  exact Option.some.inj e2
end Hk
namespace Own
open PySem PySem.Spec PyProof.Rows L2
theorem walk_GE {l : PySem.W.OpenLaw} {n k : Nat} {q : Program} {loose : List Str} {XP : (Str → Option Value) → Heap → Prop} {YP : World → Heap → Prop} {d : DefRec} {CX : World → CXT} {x : Str}
    (hn : l.most = some n) (hn2 : n ≤ sizeLine) (hdf : d.params.defaults = []) (hr : Room k callerA)
    (F : ∀ (w : World) (mg : Str → Option Value) (fa : Addr) (h : Heap), YP w h → h.Ns mainGlobals mg → mg d.name = some (.ref fa) →
      ∃ (K : PySem.W.Frag) (fd : FuncData) (sp : Sp), K.In h ∧ (∀ (s : Shared) (u : Value), BindsTo s fd ⟨[u], []⟩ [(x, u)]) ∧
        (∀ (H : Hp) (a : Addr) (ns : List Int), ns.length ≤ n → Only H → SqL K H a (ns.map V.int) → sp [.ref a] H (fun v _ => v = .bl true) fun _ _ _ => False) ∧
        ∀ base : Heap, K.In base → base.Ns mainGlobals mg → FnG l.prog w K mg base (CX w) k fa fd [x] sp)
    (hCX : ∀ (w : World) (H : Hp) (s : Shared) (e : Value) (s' : Shared), CX w [] H s (fun _ _ _ => False) e s' → False) :
    PySem.W.WalkO q loose XP YP l.row.toRowW d [] (fun f vs => PySem.call f vs) := by
  apply Att.attach_call hn hdf
  intro w s0 s1 mg mb fa o pm cd doc a vs ns G Y _ _ _ hmg hobj hints hlen hgen
  obtain ⟨K, fd, sp, KX, hb, hsp, hF⟩ := F w mg fa _ Y G.T.g hmg
  exact law_callG KX G.T.g G.T.b G.T.builtins G.T.nolimit hgen hobj hints (Nat.le_trans hlen hn2) hr hF hb (fun H => hsp H a ns hlen) fun H e s' => hCX w H s1 e s'
end Own

set_option Elab.async false
set_option linter.all false
set_option maxRecDepth 100000
set_option maxHeartbeats 4000000
namespace E94
open PySem PySem.Spec PyProof.Rows L2 Own Exn
def topS (i : Nat) : Stmt := PySem.Challenge.pw_leakyqueue_k94_whole_sessions_like_new_o.main.body.getD i (.Pass ⟨0, 0, 0, 0⟩)
abbrev s_is_integer : Stmt := topS 13
abbrev N_is_integer : List Str := ["value"]
theorem sc_is_integer : FnScope N_is_integer ["value"] (defScope s_is_integer) := ⟨rfl, rfl, rfl, by decide +kernel, rfl, by decide +kernel, by decide +kernel⟩
abbrev s_is_integer_within : Stmt := topS 14
abbrev N_is_integer_within : List Str := ["value", "low", "high"]
theorem sc_is_integer_within : FnScope N_is_integer_within ["value", "low", "high"] (defScope s_is_integer_within) := ⟨rfl, rfl, rfl, by decide +kernel, rfl, by decide +kernel, by decide +kernel⟩
abbrev s_require_number_from : Stmt := topS 15
abbrev N_require_number_from : List Str := ["value", "low"]
theorem sc_require_number_from : FnScope N_require_number_from ["value", "low"] (defScope s_require_number_from) := ⟨rfl, rfl, rfl, by decide +kernel, rfl, by decide +kernel, by decide +kernel⟩
abbrev s_is_string_of : Stmt := topS 19
abbrev N_is_string_of : List Str := ["value", "letters", "longest"]
theorem sc_is_string_of : FnScope N_is_string_of ["value", "letters", "longest"] (defScope s_is_string_of) := ⟨rfl, rfl, rfl, by decide +kernel, rfl, by decide +kernel, by decide +kernel⟩
abbrev s_is_word : Stmt := topS 20
abbrev N_is_word : List Str := ["value"]
theorem sc_is_word : FnScope N_is_word ["value"] (defScope s_is_word) := ⟨rfl, rfl, rfl, by decide +kernel, rfl, by decide +kernel, by decide +kernel⟩
abbrev s_require_word : Stmt := topS 21
abbrev N_require_word : List Str := ["value"]
theorem sc_require_word : FnScope N_require_word ["value"] (defScope s_require_word) := ⟨rfl, rfl, rfl, by decide +kernel, rfl, by decide +kernel, by decide +kernel⟩
abbrev s_earliest_positions : Stmt := topS 22
abbrev N_earliest_positions : List Str := ["part", "word", "positions", "start", "item", "position"]
theorem sc_earliest_positions : FnScope N_earliest_positions ["part", "word"] (defScope s_earliest_positions) := ⟨rfl, rfl, rfl, by decide +kernel, rfl, by decide +kernel, by decide +kernel⟩
abbrev s_end_of : Stmt := topS 23
abbrev N_end_of : List Str := ["positions"]
theorem sc_end_of : FnScope N_end_of ["positions"] (defScope s_end_of) := ⟨rfl, rfl, rfl, by decide +kernel, rfl, by decide +kernel, by decide +kernel⟩
abbrev s_embeds : Stmt := topS 24
abbrev N_embeds : List Str := ["part", "word"]
theorem sc_embeds : FnScope N_embeds ["part", "word"] (defScope s_embeds) := ⟨rfl, rfl, rfl, by decide +kernel, rfl, by decide +kernel, by decide +kernel⟩
abbrev s_is_program : Stmt := topS 28
abbrev N_is_program : List Str := ["value"]
theorem sc_is_program : FnScope N_is_program ["value"] (defScope s_is_program) := ⟨rfl, rfl, rfl, by decide +kernel, rfl, by decide +kernel, by decide +kernel⟩
abbrev s_require_program : Stmt := topS 29
abbrev N_require_program : List Str := ["value"]
theorem sc_require_program : FnScope N_require_program ["value"] (defScope s_require_program) := ⟨rfl, rfl, rfl, by decide +kernel, rfl, by decide +kernel, by decide +kernel⟩
abbrev s_take_items : Stmt := topS 30
abbrev N_take_items : List Str := ["program", "step"]
theorem sc_take_items : FnScope N_take_items ["program"] (defScope s_take_items) := ⟨rfl, rfl, rfl, by decide +kernel, rfl, by decide +kernel, by decide +kernel⟩
abbrev s_put_items : Stmt := topS 31
abbrev N_put_items : List Str := ["program", "step"]
theorem sc_put_items : FnScope N_put_items ["program"] (defScope s_put_items) := ⟨rfl, rfl, rfl, by decide +kernel, rfl, by decide +kernel, by decide +kernel⟩
abbrev s_counts_before_takes : Stmt := topS 32
abbrev N_counts_before_takes : List Str := ["program", "counts", "done", "step"]
theorem sc_counts_before_takes : FnScope N_counts_before_takes ["program"] (defScope s_counts_before_takes) := ⟨rfl, rfl, rfl, by decide +kernel, rfl, by decide +kernel, by decide +kernel⟩
abbrev s_is_fitting_core : Stmt := topS 34
abbrev N_is_fitting_core : List Str := ["taken", "given", "core"]
theorem sc_is_fitting_core : FnScope N_is_fitting_core ["taken", "given", "core"] (defScope s_is_fitting_core) := ⟨rfl, rfl, rfl, by decide +kernel, rfl, by decide +kernel, by decide +kernel⟩
abbrev s_program_core : Stmt := topS 35
abbrev N_program_core : List Str := ["program", "taken", "given", "counts", "core", "place"]
theorem sc_program_core : FnScope N_program_core ["program"] (defScope s_program_core) := ⟨rfl, rfl, rfl, by decide +kernel, rfl, by decide +kernel, by decide +kernel⟩
abbrev s_program_values : Stmt := topS 36
abbrev N_program_values : List Str := ["program"]
theorem sc_program_values : FnScope N_program_values ["program"] (defScope s_program_values) := ⟨rfl, rfl, rfl, by decide +kernel, rfl, by decide +kernel, by decide +kernel⟩
abbrev s_effect_result : Stmt := topS 37
abbrev N_effect_result : List Str := ["taken", "given", "core", "queue", "positions", "served"]
theorem sc_effect_result : FnScope N_effect_result ["taken", "given", "core", "queue"] (defScope s_effect_result) := ⟨rfl, rfl, rfl, by decide +kernel, rfl, by decide +kernel, by decide +kernel⟩
abbrev s_result_of_puts : Stmt := topS 38
abbrev N_result_of_puts : List Str := ["taken", "given", "served"]
theorem sc_result_of_puts : FnScope N_result_of_puts ["taken", "given", "served"] (defScope s_result_of_puts) := ⟨rfl, rfl, rfl, by decide +kernel, rfl, by decide +kernel, by decide +kernel⟩
abbrev s_perform_best : Stmt := topS 40
abbrev N_perform_best : List Str := ["program", "queue", "word", "counts", "step", "lost"]
theorem sc_perform_best : FnScope N_perform_best ["program", "queue"] (defScope s_perform_best) := ⟨rfl, rfl, rfl, by decide +kernel, rfl, by decide +kernel, by decide +kernel⟩
abbrev s_unlimited_result : Stmt := topS 41
abbrev N_unlimited_result : List Str := ["program", "queue", "result", "counts"]
theorem sc_unlimited_result : FnScope N_unlimited_result ["program", "queue"] (defScope s_unlimited_result) := ⟨rfl, rfl, rfl, by decide +kernel, rfl, by decide +kernel, by decide +kernel⟩
abbrev s_within_limit : Stmt := topS 42
abbrev N_within_limit : List Str := ["result"]
theorem sc_within_limit : FnScope N_within_limit ["result"] (defScope s_within_limit) := ⟨rfl, rfl, rfl, by decide +kernel, rfl, by decide +kernel, by decide +kernel⟩
abbrev s_best_result : Stmt := topS 43
abbrev N_best_result : List Str := ["program", "queue"]
theorem sc_best_result : FnScope N_best_result ["program", "queue"] (defScope s_best_result) := ⟨rfl, rfl, rfl, by decide +kernel, rfl, by decide +kernel, by decide +kernel⟩
abbrev s_require_item : Stmt := topS 47
abbrev N_require_item : List Str := ["value"]
theorem sc_require_item : FnScope N_require_item ["value"] (defScope s_require_item) := ⟨rfl, rfl, rfl, by decide +kernel, rfl, by decide +kernel, by decide +kernel⟩
abbrev s_require_count : Stmt := topS 51
abbrev N_require_count : List Str := ["count", "available"]
theorem sc_require_count : FnScope N_require_count ["count", "available"] (defScope s_require_count) := ⟨rfl, rfl, rfl, by decide +kernel, rfl, by decide +kernel, by decide +kernel⟩
abbrev s_Lpool : Stmt := topS 54
abbrev N_Lpool : List Str := ["_law_script", "_law_index", "_law_cell", "_law_number", "_law_seed"]
theorem sc_Lpool : FnScope N_Lpool ["_law_script", "_law_index"] (defScope s_Lpool) := ⟨rfl, rfl, rfl, by decide +kernel, rfl, by decide +kernel, by decide +kernel⟩
abbrev s_Ldraw : Stmt := topS 55
abbrev N_Ldraw : List Str := ["_law_pool_here", "_law_bound", "_law_digit"]
theorem sc_Ldraw : FnScope N_Ldraw ["_law_pool_here", "_law_bound"] (defScope s_Ldraw) := ⟨rfl, rfl, rfl, by decide +kernel, rfl, by decide +kernel, by decide +kernel⟩
abbrev s_Lletters : Stmt := topS 56
abbrev N_Lletters : List Str := ["_law_pool_here", "_law_left", "_law_found", "_law_turn"]
theorem sc_Lletters : FnScope N_Lletters ["_law_pool_here"] (defScope s_Lletters) := ⟨rfl, rfl, rfl, by decide +kernel, rfl, by decide +kernel, by decide +kernel⟩
abbrev s_Litems : Stmt := topS 57
abbrev N_Litems : List Str := ["_law_pool_here", "_law_letters_here", "_law_most", "_law_at"]
theorem sc_Litems : FnScope N_Litems ["_law_pool_here", "_law_letters_here", "_law_most"] (defScope s_Litems) := ⟨rfl, rfl, rfl, by decide +kernel, rfl, by decide +kernel, by decide +kernel⟩
abbrev s_Lmoved : Stmt := topS 58
abbrev N_Lmoved : List Str := ["_law_pool_here", "_law_box", "_law_letters_here", "_law_way"]
theorem sc_Lmoved : FnScope N_Lmoved ["_law_pool_here", "_law_box", "_law_letters_here"] (defScope s_Lmoved) := ⟨rfl, rfl, rfl, by decide +kernel, rfl, by decide +kernel, by decide +kernel⟩
abbrev s_Lshown : Stmt := topS 59
abbrev N_Lshown : List Str := ["_law_box"]
theorem sc_Lshown : FnScope N_Lshown ["_law_box"] (defScope s_Lshown) := ⟨rfl, rfl, rfl, by decide +kernel, rfl, by decide +kernel, by decide +kernel⟩
abbrev s_Lcounted : Stmt := topS 60
abbrev N_Lcounted : List Str := ["_law_items_here", "_law_code", "_law_box", "_law_lost", "_law_used", "_law_sign"]
theorem sc_Lcounted : FnScope N_Lcounted ["_law_items_here", "_law_code", "_law_box", "_law_lost"] (defScope s_Lcounted) := ⟨rfl, rfl, rfl, by decide +kernel, rfl, by decide +kernel, by decide +kernel⟩
abbrev s_law : Stmt := topS 61
abbrev N_law : List Str := ["_law_script", "_law_index", "_law_pool_here", "_law_letters_here", "_law_items_here", "_law_box", "_law_turn", "_law_code", "_law_other", "_law_lost", "_law_queue", "_law_at", "_law_parts"]
theorem sc_law : FnScope N_law ["_law_script"] (defScope s_law) := ⟨rfl, rfl, rfl, by decide +kernel, rfl, by decide +kernel, by decide +kernel⟩
abbrev s_Effect_init : Stmt := inClass (topS 45) 1
abbrev N_Effect_init : List Str := ["self", "takes", "puts", "core"]
theorem sc_Effect_init : FnScope N_Effect_init ["self", "takes", "puts", "core"] (defScope s_Effect_init) := ⟨rfl, rfl, rfl, by decide +kernel, rfl, by decide +kernel, by decide +kernel⟩
abbrev s_Effect_of : Stmt := inClass (topS 45) 6
abbrev N_Effect_of : List Str := ["cls", "program", "taken", "given", "core"]
theorem sc_Effect_of : FnScope N_Effect_of ["cls", "program"] (defScope s_Effect_of) := ⟨rfl, rfl, rfl, by decide +kernel, rfl, by decide +kernel, by decide +kernel⟩
abbrev s_Effect_is_core : Stmt := inClass (topS 45) 8
abbrev N_Effect_is_core : List Str := ["takes", "puts", "core"]
theorem sc_Effect_is_core : FnScope N_Effect_is_core ["takes", "puts", "core"] (defScope s_Effect_is_core) := ⟨rfl, rfl, rfl, by decide +kernel, rfl, by decide +kernel, by decide +kernel⟩
abbrev s_Effect_apply : Stmt := inClass (topS 45) 9
abbrev N_Effect_apply : List Str := ["self", "queue"]
theorem sc_Effect_apply : FnScope N_Effect_apply ["self", "queue"] (defScope s_Effect_apply) := ⟨rfl, rfl, rfl, by decide +kernel, rfl, by decide +kernel, by decide +kernel⟩
abbrev s_Effect_eq : Stmt := inClass (topS 45) 11
abbrev N_Effect_eq : List Str := ["self", "other"]
theorem sc_Effect_eq : FnScope N_Effect_eq ["self", "other"] (defScope s_Effect_eq) := ⟨rfl, rfl, rfl, by decide +kernel, rfl, by decide +kernel, by decide +kernel⟩
abbrev s_Effect_repr : Stmt := inClass (topS 45) 12
abbrev N_Effect_repr : List Str := ["self"]
theorem sc_Effect_repr : FnScope N_Effect_repr ["self"] (defScope s_Effect_repr) := ⟨rfl, rfl, rfl, by decide +kernel, rfl, by decide +kernel, by decide +kernel⟩
abbrev s_Queue_init : Stmt := inClass (topS 48) 0
abbrev N_Queue_init : List Str := ["self", "word"]
theorem sc_Queue_init : FnScope N_Queue_init ["self", "word"] (defScope s_Queue_init) := ⟨rfl, rfl, rfl, by decide +kernel, rfl, by decide +kernel, by decide +kernel⟩
abbrev s_Queue_word : Stmt := inClass (topS 48) 1
abbrev N_Queue_word : List Str := ["self"]
theorem sc_Queue_word : FnScope N_Queue_word ["self"] (defScope s_Queue_word) := ⟨rfl, rfl, rfl, by decide +kernel, rfl, by decide +kernel, by decide +kernel⟩
abbrev s_Queue_put : Stmt := inClass (topS 48) 3
abbrev N_Queue_put : List Str := ["self", "item"]
theorem sc_Queue_put : FnScope N_Queue_put ["self", "item"] (defScope s_Queue_put) := ⟨rfl, rfl, rfl, by decide +kernel, rfl, by decide +kernel, by decide +kernel⟩
abbrev s_Queue_take : Stmt := inClass (topS 48) 4
abbrev N_Queue_take : List Str := ["self", "item"]
theorem sc_Queue_take : FnScope N_Queue_take ["self", "item"] (defScope s_Queue_take) := ⟨rfl, rfl, rfl, by decide +kernel, rfl, by decide +kernel, by decide +kernel⟩
abbrev s_Queue_perform : Stmt := inClass (topS 48) 5
abbrev N_Queue_perform : List Str := ["self", "step"]
theorem sc_Queue_perform : FnScope N_Queue_perform ["self", "step"] (defScope s_Queue_perform) := ⟨rfl, rfl, rfl, by decide +kernel, rfl, by decide +kernel, by decide +kernel⟩
abbrev s_Queue_run : Stmt := inClass (topS 48) 6
abbrev N_Queue_run : List Str := ["self", "program", "trial", "index", "step"]
theorem sc_Queue_run : FnScope N_Queue_run ["self", "program"] (defScope s_Queue_run) := ⟨rfl, rfl, rfl, by decide +kernel, rfl, by decide +kernel, by decide +kernel⟩
abbrev s_Queue_clone : Stmt := inClass (topS 48) 7
abbrev N_Queue_clone : List Str := ["self"]
theorem sc_Queue_clone : FnScope N_Queue_clone ["self"] (defScope s_Queue_clone) := ⟨rfl, rfl, rfl, by decide +kernel, rfl, by decide +kernel, by decide +kernel⟩
abbrev s_LeakyQueue_init : Stmt := inClass (topS 49) 0
abbrev N_LeakyQueue_init : List Str := ["self", "word"]
theorem sc_LeakyQueue_init : Spx.ScopeS "word" (defScope s_LeakyQueue_init) := ⟨rfl, rfl, rfl, rfl, rfl, rfl, rfl, by decide +kernel, by decide +kernel, by decide +kernel⟩
abbrev s_LeakyQueue_word : Stmt := inClass (topS 49) 1
abbrev N_LeakyQueue_word : List Str := ["self"]
theorem sc_LeakyQueue_word : FnScope N_LeakyQueue_word ["self"] (defScope s_LeakyQueue_word) := ⟨rfl, rfl, rfl, by decide +kernel, rfl, by decide +kernel, by decide +kernel⟩
abbrev s_LeakyQueue_put : Stmt := inClass (topS 49) 3
abbrev N_LeakyQueue_put : List Str := ["self", "item"]
theorem sc_LeakyQueue_put : Spx.ScopeS "item" (defScope s_LeakyQueue_put) := ⟨rfl, rfl, rfl, rfl, rfl, rfl, rfl, by decide +kernel, by decide +kernel, by decide +kernel⟩
abbrev s_LeakyQueue_take : Stmt := inClass (topS 49) 4
abbrev N_LeakyQueue_take : List Str := ["self", "item", "lost"]
theorem sc_LeakyQueue_take : FnScope N_LeakyQueue_take ["self", "item"] (defScope s_LeakyQueue_take) := ⟨rfl, rfl, rfl, by decide +kernel, rfl, by decide +kernel, by decide +kernel⟩
abbrev s_LeakyQueue_run : Stmt := inClass (topS 49) 6
abbrev N_LeakyQueue_run : List Str := ["self", "program"]
theorem sc_LeakyQueue_run : Spx.ScopeS "program" (defScope s_LeakyQueue_run) := ⟨rfl, rfl, rfl, rfl, rfl, rfl, rfl, by decide +kernel, by decide +kernel, by decide +kernel⟩
abbrev s_LeakyQueue_clone : Stmt := inClass (topS 49) 7
abbrev N_LeakyQueue_clone : List Str := ["self"]
theorem sc_LeakyQueue_clone : FnScope N_LeakyQueue_clone ["self"] (defScope s_LeakyQueue_clone) := ⟨rfl, rfl, rfl, by decide +kernel, rfl, by decide +kernel, by decide +kernel⟩
abbrev s_LeakyQueue_len : Stmt := inClass (topS 49) 9
abbrev N_LeakyQueue_len : List Str := ["self"]
theorem sc_LeakyQueue_len : FnScope N_LeakyQueue_len ["self"] (defScope s_LeakyQueue_len) := ⟨rfl, rfl, rfl, by decide +kernel, rfl, by decide +kernel, by decide +kernel⟩
abbrev s_Session_init : Stmt := inClass (topS 52) 0
abbrev N_Session_init : List Str := ["self", "word"]
theorem sc_Session_init : FnScope N_Session_init ["self", "word"] (defScope s_Session_init) := ⟨rfl, rfl, rfl, by decide +kernel, rfl, by decide +kernel, by decide +kernel⟩
abbrev s_Session_move : Stmt := inClass (topS 52) 1
abbrev N_Session_move : List Str := ["self", "done", "cancelled"]
theorem sc_Session_move : FnScope N_Session_move ["self", "done", "cancelled"] (defScope s_Session_move) := ⟨rfl, rfl, rfl, by decide +kernel, rfl, by decide +kernel, by decide +kernel⟩
abbrev s_Session_word : Stmt := inClass (topS 52) 2
abbrev N_Session_word : List Str := ["self"]
theorem sc_Session_word : FnScope N_Session_word ["self"] (defScope s_Session_word) := ⟨rfl, rfl, rfl, by decide +kernel, rfl, by decide +kernel, by decide +kernel⟩
abbrev s_Session_program : Stmt := inClass (topS 52) 3
abbrev N_Session_program : List Str := ["self"]
theorem sc_Session_program : FnScope N_Session_program ["self"] (defScope s_Session_program) := ⟨rfl, rfl, rfl, by decide +kernel, rfl, by decide +kernel, by decide +kernel⟩
abbrev s_Session_effect : Stmt := inClass (topS 52) 4
abbrev N_Session_effect : List Str := ["self"]
theorem sc_Session_effect : FnScope N_Session_effect ["self"] (defScope s_Session_effect) := ⟨rfl, rfl, rfl, by decide +kernel, rfl, by decide +kernel, by decide +kernel⟩
abbrev s_Session_run : Stmt := inClass (topS 52) 5
abbrev N_Session_run : List Str := ["self", "program", "queue", "lost"]
theorem sc_Session_run : FnScope N_Session_run ["self", "program"] (defScope s_Session_run) := ⟨rfl, rfl, rfl, by decide +kernel, rfl, by decide +kernel, by decide +kernel⟩
abbrev s_Session_undo : Stmt := inClass (topS 52) 6
abbrev N_Session_undo : List Str := ["self", "count", "rest", "steps"]
theorem sc_Session_undo : FnScope N_Session_undo ["self", "count"] (defScope s_Session_undo) := ⟨rfl, rfl, rfl, by decide +kernel, rfl, by decide +kernel, by decide +kernel⟩
abbrev s_Session_redo : Stmt := inClass (topS 52) 7
abbrev N_Session_redo : List Str := ["self", "count", "steps"]
theorem sc_Session_redo : FnScope N_Session_redo ["self", "count"] (defScope s_Session_redo) := ⟨rfl, rfl, rfl, by decide +kernel, rfl, by decide +kernel, by decide +kernel⟩
abbrev s_Session_eq : Stmt := inClass (topS 52) 9
abbrev N_Session_eq : List Str := ["self", "other"]
theorem sc_Session_eq : FnScope N_Session_eq ["self", "other"] (defScope s_Session_eq) := ⟨rfl, rfl, rfl, by decide +kernel, rfl, by decide +kernel, by decide +kernel⟩
abbrev s_Session_len : Stmt := inClass (topS 52) 10
abbrev N_Session_len : List Str := ["self"]
theorem sc_Session_len : FnScope N_Session_len ["self"] (defScope s_Session_len) := ⟨rfl, rfl, rfl, by decide +kernel, rfl, by decide +kernel, by decide +kernel⟩
abbrev s_Session_repr : Stmt := inClass (topS 52) 11
abbrev N_Session_repr : List Str := ["self"]
theorem sc_Session_repr : FnScope N_Session_repr ["self"] (defScope s_Session_repr) := ⟨rfl, rfl, rfl, by decide +kernel, rfl, by decide +kernel, by decide +kernel⟩
structure Ad where
  C_Effect : Addr
  C_Queue : Addr
  C_LeakyQueue : Addr
  C_Session : Addr
  f_Effect_init : Addr
  d_Effect_init : FuncData
  f_Effect_of : Addr
  d_Effect_of : FuncData
  p_Effect_of : Addr
  f_Effect_is_core : Addr
  d_Effect_is_core : FuncData
  p_Effect_is_core : Addr
  f_Effect_apply : Addr
  d_Effect_apply : FuncData
  f_Effect_eq : Addr
  d_Effect_eq : FuncData
  f_Effect_repr : Addr
  d_Effect_repr : FuncData
  f_Queue_init : Addr
  d_Queue_init : FuncData
  f_Queue_word : Addr
  d_Queue_word : FuncData
  p_Queue_word : Addr
  f_Queue_put : Addr
  d_Queue_put : FuncData
  f_Queue_take : Addr
  d_Queue_take : FuncData
  f_Queue_perform : Addr
  d_Queue_perform : FuncData
  f_Queue_run : Addr
  d_Queue_run : FuncData
  f_Queue_clone : Addr
  d_Queue_clone : FuncData
  f_LeakyQueue_init : Addr
  d_LeakyQueue_init : FuncData
  f_LeakyQueue_word : Addr
  d_LeakyQueue_word : FuncData
  p_LeakyQueue_word : Addr
  f_LeakyQueue_put : Addr
  d_LeakyQueue_put : FuncData
  f_LeakyQueue_take : Addr
  d_LeakyQueue_take : FuncData
  f_LeakyQueue_run : Addr
  d_LeakyQueue_run : FuncData
  f_LeakyQueue_clone : Addr
  d_LeakyQueue_clone : FuncData
  f_LeakyQueue_len : Addr
  d_LeakyQueue_len : FuncData
  f_Session_init : Addr
  d_Session_init : FuncData
  f_Session_move : Addr
  d_Session_move : FuncData
  f_Session_word : Addr
  d_Session_word : FuncData
  p_Session_word : Addr
  f_Session_program : Addr
  d_Session_program : FuncData
  p_Session_program : Addr
  f_Session_effect : Addr
  d_Session_effect : FuncData
  p_Session_effect : Addr
  f_Session_run : Addr
  d_Session_run : FuncData
  f_Session_undo : Addr
  d_Session_undo : FuncData
  f_Session_redo : Addr
  d_Session_redo : FuncData
  f_Session_eq : Addr
  d_Session_eq : FuncData
  f_Session_len : Addr
  d_Session_len : FuncData
  f_Session_repr : Addr
  d_Session_repr : FuncData
  tv_Effect_MAX_ITEMS : Tok
  f_is_integer : Addr
  d_is_integer : FuncData
  f_is_integer_within : Addr
  d_is_integer_within : FuncData
  f_require_number_from : Addr
  d_require_number_from : FuncData
  f_is_string_of : Addr
  d_is_string_of : FuncData
  f_is_word : Addr
  d_is_word : FuncData
  f_require_word : Addr
  d_require_word : FuncData
  f_earliest_positions : Addr
  d_earliest_positions : FuncData
  f_end_of : Addr
  d_end_of : FuncData
  f_embeds : Addr
  d_embeds : FuncData
  f_is_program : Addr
  d_is_program : FuncData
  f_require_program : Addr
  d_require_program : FuncData
  f_take_items : Addr
  d_take_items : FuncData
  f_put_items : Addr
  d_put_items : FuncData
  f_counts_before_takes : Addr
  d_counts_before_takes : FuncData
  f_is_fitting_core : Addr
  d_is_fitting_core : FuncData
  f_program_core : Addr
  d_program_core : FuncData
  f_program_values : Addr
  d_program_values : FuncData
  f_effect_result : Addr
  d_effect_result : FuncData
  f_result_of_puts : Addr
  d_result_of_puts : FuncData
  f_perform_best : Addr
  d_perform_best : FuncData
  f_unlimited_result : Addr
  d_unlimited_result : FuncData
  f_within_limit : Addr
  d_within_limit : FuncData
  f_best_result : Addr
  d_best_result : FuncData
  f_require_item : Addr
  d_require_item : FuncData
  f_require_count : Addr
  d_require_count : FuncData
  f_Lpool : Addr
  d_Lpool : FuncData
  f_Ldraw : Addr
  d_Ldraw : FuncData
  f_Lletters : Addr
  d_Lletters : FuncData
  f_Litems : Addr
  d_Litems : FuncData
  f_Lmoved : Addr
  d_Lmoved : FuncData
  f_Lshown : Addr
  d_Lshown : FuncData
  f_Lcounted : Addr
  d_Lcounted : FuncData
  f_law : Addr
  d_law : FuncData
  t_ITEMS : Tok
  t_MAX_LENGTH : Tok
  t_STEPS : Tok
  C_LeakError : Addr
  C_InvalidWord : Addr
  I_InvalidWord : Addr
  C_InvalidProgram : Addr
  I_InvalidProgram : Addr
  C_InvalidCore : Addr
  I_InvalidCore : Addr
  C_InvalidNumber : Addr
  I_InvalidNumber : Addr
  C_Missing : Addr
  I_Missing : Addr
  C_LimitExceeded : Addr
  I_LimitExceeded : Addr
  C_Failed : Addr
  I_Failed : Addr
  C_NothingToUndo : Addr
  I_NothingToUndo : Addr
structure Txt (K : PySem.W.Frag) (mg : Str → Option Value) (a : Ad) : Prop where
  F_is_integer : Fun K "is_integer" "is_integer" s_is_integer a.f_is_integer a.d_is_integer
  b_is_integer : Binds K a.d_is_integer ["value"] []
  g_is_integer : mg "is_integer" = some (.ref a.f_is_integer)
  F_is_integer_within : Fun K "is_integer_within" "is_integer_within" s_is_integer_within a.f_is_integer_within a.d_is_integer_within
  b_is_integer_within : Binds K a.d_is_integer_within ["value", "low", "high"] []
  g_is_integer_within : mg "is_integer_within" = some (.ref a.f_is_integer_within)
  F_require_number_from : Fun K "require_number_from" "require_number_from" s_require_number_from a.f_require_number_from a.d_require_number_from
  b_require_number_from : Binds K a.d_require_number_from ["value", "low"] []
  g_require_number_from : mg "require_number_from" = some (.ref a.f_require_number_from)
  F_is_string_of : FunD K "is_string_of" "is_string_of" (defArgs s_is_string_of) (defBody s_is_string_of) (defScope s_is_string_of) [.int 400] [] a.f_is_string_of a.d_is_string_of
  b_is_string_of : ∃ ds, Vals [.int 400] ds ∧ Binds K a.d_is_string_of ["value", "letters", "longest"] ds
  g_is_string_of : mg "is_string_of" = some (.ref a.f_is_string_of)
  F_is_word : Fun K "is_word" "is_word" s_is_word a.f_is_word a.d_is_word
  b_is_word : Binds K a.d_is_word ["value"] []
  g_is_word : mg "is_word" = some (.ref a.f_is_word)
  F_require_word : Fun K "require_word" "require_word" s_require_word a.f_require_word a.d_require_word
  b_require_word : Binds K a.d_require_word ["value"] []
  g_require_word : mg "require_word" = some (.ref a.f_require_word)
  F_earliest_positions : Fun K "earliest_positions" "earliest_positions" s_earliest_positions a.f_earliest_positions a.d_earliest_positions
  b_earliest_positions : Binds K a.d_earliest_positions ["part", "word"] []
  g_earliest_positions : mg "earliest_positions" = some (.ref a.f_earliest_positions)
  F_end_of : Fun K "end_of" "end_of" s_end_of a.f_end_of a.d_end_of
  b_end_of : Binds K a.d_end_of ["positions"] []
  g_end_of : mg "end_of" = some (.ref a.f_end_of)
  F_embeds : Fun K "embeds" "embeds" s_embeds a.f_embeds a.d_embeds
  b_embeds : Binds K a.d_embeds ["part", "word"] []
  g_embeds : mg "embeds" = some (.ref a.f_embeds)
  F_is_program : Fun K "is_program" "is_program" s_is_program a.f_is_program a.d_is_program
  b_is_program : Binds K a.d_is_program ["value"] []
  g_is_program : mg "is_program" = some (.ref a.f_is_program)
  F_require_program : Fun K "require_program" "require_program" s_require_program a.f_require_program a.d_require_program
  b_require_program : Binds K a.d_require_program ["value"] []
  g_require_program : mg "require_program" = some (.ref a.f_require_program)
  F_take_items : Fun K "take_items" "take_items" s_take_items a.f_take_items a.d_take_items
  b_take_items : Binds K a.d_take_items ["program"] []
  g_take_items : mg "take_items" = some (.ref a.f_take_items)
  F_put_items : Fun K "put_items" "put_items" s_put_items a.f_put_items a.d_put_items
  b_put_items : Binds K a.d_put_items ["program"] []
  g_put_items : mg "put_items" = some (.ref a.f_put_items)
  F_counts_before_takes : Fun K "counts_before_takes" "counts_before_takes" s_counts_before_takes a.f_counts_before_takes a.d_counts_before_takes
  b_counts_before_takes : Binds K a.d_counts_before_takes ["program"] []
  g_counts_before_takes : mg "counts_before_takes" = some (.ref a.f_counts_before_takes)
  F_is_fitting_core : Fun K "is_fitting_core" "is_fitting_core" s_is_fitting_core a.f_is_fitting_core a.d_is_fitting_core
  b_is_fitting_core : Binds K a.d_is_fitting_core ["taken", "given", "core"] []
  g_is_fitting_core : mg "is_fitting_core" = some (.ref a.f_is_fitting_core)
  F_program_core : Fun K "program_core" "program_core" s_program_core a.f_program_core a.d_program_core
  b_program_core : Binds K a.d_program_core ["program"] []
  g_program_core : mg "program_core" = some (.ref a.f_program_core)
  F_program_values : Fun K "program_values" "program_values" s_program_values a.f_program_values a.d_program_values
  b_program_values : Binds K a.d_program_values ["program"] []
  g_program_values : mg "program_values" = some (.ref a.f_program_values)
  F_effect_result : Fun K "effect_result" "effect_result" s_effect_result a.f_effect_result a.d_effect_result
  b_effect_result : Binds K a.d_effect_result ["taken", "given", "core", "queue"] []
  g_effect_result : mg "effect_result" = some (.ref a.f_effect_result)
  F_result_of_puts : Fun K "result_of_puts" "result_of_puts" s_result_of_puts a.f_result_of_puts a.d_result_of_puts
  b_result_of_puts : Binds K a.d_result_of_puts ["taken", "given", "served"] []
  g_result_of_puts : mg "result_of_puts" = some (.ref a.f_result_of_puts)
  F_perform_best : Fun K "perform_best" "perform_best" s_perform_best a.f_perform_best a.d_perform_best
  b_perform_best : Binds K a.d_perform_best ["program", "queue"] []
  g_perform_best : mg "perform_best" = some (.ref a.f_perform_best)
  F_unlimited_result : Fun K "unlimited_result" "unlimited_result" s_unlimited_result a.f_unlimited_result a.d_unlimited_result
  b_unlimited_result : Binds K a.d_unlimited_result ["program", "queue"] []
  g_unlimited_result : mg "unlimited_result" = some (.ref a.f_unlimited_result)
  F_within_limit : Fun K "within_limit" "within_limit" s_within_limit a.f_within_limit a.d_within_limit
  b_within_limit : Binds K a.d_within_limit ["result"] []
  g_within_limit : mg "within_limit" = some (.ref a.f_within_limit)
  F_best_result : Fun K "best_result" "best_result" s_best_result a.f_best_result a.d_best_result
  b_best_result : Binds K a.d_best_result ["program", "queue"] []
  g_best_result : mg "best_result" = some (.ref a.f_best_result)
  F_require_item : Fun K "require_item" "require_item" s_require_item a.f_require_item a.d_require_item
  b_require_item : Binds K a.d_require_item ["value"] []
  g_require_item : mg "require_item" = some (.ref a.f_require_item)
  F_require_count : Fun K "require_count" "require_count" s_require_count a.f_require_count a.d_require_count
  b_require_count : Binds K a.d_require_count ["count", "available"] []
  g_require_count : mg "require_count" = some (.ref a.f_require_count)
  F_Lpool : Fun K "_law_pool" "_law_pool" s_Lpool a.f_Lpool a.d_Lpool
  b_Lpool : Binds K a.d_Lpool ["_law_script", "_law_index"] []
  g_Lpool : mg "_law_pool" = some (.ref a.f_Lpool)
  F_Ldraw : Fun K "_law_draw" "_law_draw" s_Ldraw a.f_Ldraw a.d_Ldraw
  b_Ldraw : Binds K a.d_Ldraw ["_law_pool_here", "_law_bound"] []
  g_Ldraw : mg "_law_draw" = some (.ref a.f_Ldraw)
  F_Lletters : Fun K "_law_letters" "_law_letters" s_Lletters a.f_Lletters a.d_Lletters
  b_Lletters : Binds K a.d_Lletters ["_law_pool_here"] []
  g_Lletters : mg "_law_letters" = some (.ref a.f_Lletters)
  F_Litems : Fun K "_law_items" "_law_items" s_Litems a.f_Litems a.d_Litems
  b_Litems : Binds K a.d_Litems ["_law_pool_here", "_law_letters_here", "_law_most"] []
  g_Litems : mg "_law_items" = some (.ref a.f_Litems)
  F_Lmoved : Fun K "_law_moved" "_law_moved" s_Lmoved a.f_Lmoved a.d_Lmoved
  b_Lmoved : Binds K a.d_Lmoved ["_law_pool_here", "_law_box", "_law_letters_here"] []
  g_Lmoved : mg "_law_moved" = some (.ref a.f_Lmoved)
  F_Lshown : Fun K "_law_shown" "_law_shown" s_Lshown a.f_Lshown a.d_Lshown
  b_Lshown : Binds K a.d_Lshown ["_law_box"] []
  g_Lshown : mg "_law_shown" = some (.ref a.f_Lshown)
  F_Lcounted : Fun K "_law_counted" "_law_counted" s_Lcounted a.f_Lcounted a.d_Lcounted
  b_Lcounted : Binds K a.d_Lcounted ["_law_items_here", "_law_code", "_law_box", "_law_lost"] []
  g_Lcounted : mg "_law_counted" = some (.ref a.f_Lcounted)
  F_law : Fun K "law" "law" s_law a.f_law a.d_law
  b_law : Binds K a.d_law ["_law_script"] []
  g_law : mg "law" = some (.ref a.f_law)
  c_ITEMS : mg "ITEMS" = some (.str "abcdefgh" a.t_ITEMS)
  c_MAX_LENGTH : mg "MAX_LENGTH" = some (.int 400 a.t_MAX_LENGTH)
  c_STEPS : mg "STEPS" = some (.str "abcdefghABCDEFGH" a.t_STEPS)
  z_isinstance : mg "isinstance" = none
  z_int : mg "int" = none
  z_bool : mg "bool" = none
  z_str : mg "str" = none
  z_len : mg "len" = none
  z_min : mg "min" = none
  z_max : mg "max" = none
  z_range : mg "range" = none
  z_list : mg "list" = none
  z_repr : mg "repr" = none
  z_classmethod : mg "classmethod" = none
  z_staticmethod : mg "staticmethod" = none
  z_property : mg "property" = none
  z_enumerate : mg "enumerate" = none
  z_super : mg "super" = none
  g_LeakError : mg "LeakError" = some (.ref a.C_LeakError)
  e_InvalidWord : Ecl_value K mg "InvalidWord" "InvalidWord.__init__" "ValueError" "ValueError" "ValueError.__new__" "ValueError.__init__" [.type "ValueError", .type "Exception", .type "BaseException", .type "object"] [.type "ValueError", .type "Exception", .type "BaseException", .type "object"] a.C_InvalidWord a.I_InvalidWord
  h_InvalidWord : ecB K a.C_InvalidWord a.I_InvalidWord "value" [.type "ValueError", .type "Exception", .type "BaseException", .type "object"] "ValueError.__new__" = true
  e_InvalidProgram : Ecl_value K mg "InvalidProgram" "InvalidProgram.__init__" "ValueError" "ValueError" "ValueError.__new__" "ValueError.__init__" [.type "ValueError", .type "Exception", .type "BaseException", .type "object"] [.type "ValueError", .type "Exception", .type "BaseException", .type "object"] a.C_InvalidProgram a.I_InvalidProgram
  h_InvalidProgram : ecB K a.C_InvalidProgram a.I_InvalidProgram "value" [.type "ValueError", .type "Exception", .type "BaseException", .type "object"] "ValueError.__new__" = true
  e_InvalidCore : Ecl_value K mg "InvalidCore" "InvalidCore.__init__" "ValueError" "ValueError" "ValueError.__new__" "ValueError.__init__" [.type "ValueError", .type "Exception", .type "BaseException", .type "object"] [.type "ValueError", .type "Exception", .type "BaseException", .type "object"] a.C_InvalidCore a.I_InvalidCore
  h_InvalidCore : ecB K a.C_InvalidCore a.I_InvalidCore "value" [.type "ValueError", .type "Exception", .type "BaseException", .type "object"] "ValueError.__new__" = true
  e_InvalidNumber : Ecl_value K mg "InvalidNumber" "InvalidNumber.__init__" "ValueError" "ValueError" "ValueError.__new__" "ValueError.__init__" [.type "ValueError", .type "Exception", .type "BaseException", .type "object"] [.type "ValueError", .type "Exception", .type "BaseException", .type "object"] a.C_InvalidNumber a.I_InvalidNumber
  h_InvalidNumber : ecB K a.C_InvalidNumber a.I_InvalidNumber "value" [.type "ValueError", .type "Exception", .type "BaseException", .type "object"] "ValueError.__new__" = true
  e_Missing : Ecl_item K mg "Missing" "Missing.__init__" "LookupError" "LookupError" "LookupError.__new__" "LookupError.__init__" [.type "LookupError", .type "Exception", .type "BaseException", .type "object"] [.type "LookupError", .type "Exception", .type "BaseException", .type "object"] a.C_Missing a.I_Missing
  h_Missing : ecB K a.C_Missing a.I_Missing "item" [.type "LookupError", .type "Exception", .type "BaseException", .type "object"] "LookupError.__new__" = true
  e_LimitExceeded : Ecl_limit K mg "LimitExceeded" "LimitExceeded.__init__" "OverflowError" "OverflowError" "OverflowError.__new__" "OverflowError.__init__" [.type "OverflowError", .type "ArithmeticError", .type "Exception", .type "BaseException", .type "object"] [.type "OverflowError", .type "ArithmeticError", .type "Exception", .type "BaseException", .type "object"] a.C_LimitExceeded a.I_LimitExceeded
  h_LimitExceeded : ecB K a.C_LimitExceeded a.I_LimitExceeded "limit" [.type "OverflowError", .type "ArithmeticError", .type "Exception", .type "BaseException", .type "object"] "OverflowError.__new__" = true
  e_Failed : Ecl_index K mg "Failed" "Failed.__init__" "RuntimeError" "RuntimeError" "RuntimeError.__new__" "RuntimeError.__init__" [.type "RuntimeError", .type "Exception", .type "BaseException", .type "object"] [.type "RuntimeError", .type "Exception", .type "BaseException", .type "object"] a.C_Failed a.I_Failed
  h_Failed : ecB K a.C_Failed a.I_Failed "index" [.type "RuntimeError", .type "Exception", .type "BaseException", .type "object"] "RuntimeError.__new__" = true
  e_NothingToUndo : Ecl_count K mg "NothingToUndo" "NothingToUndo.__init__" "RuntimeError" "RuntimeError" "RuntimeError.__new__" "RuntimeError.__init__" [.type "RuntimeError", .type "Exception", .type "BaseException", .type "object"] [.type "RuntimeError", .type "Exception", .type "BaseException", .type "object"] a.C_NothingToUndo a.I_NothingToUndo
  h_NothingToUndo : ecB K a.C_NothingToUndo a.I_NothingToUndo "count" [.type "RuntimeError", .type "Exception", .type "BaseException", .type "object"] "RuntimeError.__new__" = true
  g_Effect : mg "Effect" = some (.ref a.C_Effect)
  cl_Effect : Cls K a.C_Effect
  cr_Effect : ClX.CRead K a.C_Effect (.type "type")
  mk_Effect : Mk K a.C_Effect a.f_Effect_init
  n_Effect_taken : NoAttr K a.C_Effect "taken"
  n_Effect_given : NoAttr K a.C_Effect "given"
  n_Effect_needed : NoAttr K a.C_Effect "needed"
  g_Queue : mg "Queue" = some (.ref a.C_Queue)
  cl_Queue : Cls K a.C_Queue
  cr_Queue : ClX.CRead K a.C_Queue (.type "type")
  mk_Queue : Mk K a.C_Queue a.f_Queue_init
  n_Queue_content : NoAttr K a.C_Queue "content"
  g_LeakyQueue : mg "LeakyQueue" = some (.ref a.C_LeakyQueue)
  cl_LeakyQueue : Cls K a.C_LeakyQueue
  cr_LeakyQueue : ClX.CRead K a.C_LeakyQueue (.type "type")
  mk_LeakyQueue : Mk K a.C_LeakyQueue a.f_LeakyQueue_init
  n_LeakyQueue_content : NoAttr K a.C_LeakyQueue "content"
  g_Session : mg "Session" = some (.ref a.C_Session)
  cl_Session : Cls K a.C_Session
  cr_Session : ClX.CRead K a.C_Session (.type "type")
  mk_Session : Mk K a.C_Session a.f_Session_init
  n_Session_initial : NoAttr K a.C_Session "initial"
  n_Session_done : NoAttr K a.C_Session "done"
  n_Session_cancelled : NoAttr K a.C_Session "cancelled"
  n_Session_present : NoAttr K a.C_Session "present"
  n_Session_reached : NoAttr K a.C_Session "reached"
  cv_Effect_MAX_ITEMS : ClX.CVal K a.C_Effect (.type "type") "MAX_ITEMS" (.int 400) (.int 400 a.tv_Effect_MAX_ITEMS)
  F_Effect_init : Fun K "__init__" "Effect.__init__" s_Effect_init a.f_Effect_init a.d_Effect_init
  b_Effect_init : Binds K a.d_Effect_init ["self", "takes", "puts", "core"] []
  m_Effect_init : Meth K a.C_Effect "__init__" a.f_Effect_init
  F_Effect_of : Fun K "of" "Effect.of" s_Effect_of a.f_Effect_of a.d_Effect_of
  b_Effect_of : Binds K a.d_Effect_of ["cls", "program"] []
  cm_Effect_of : ClX.CMet K a.C_Effect (.type "type") "of" a.p_Effect_of a.f_Effect_of
  F_Effect_is_core : Fun K "is_core" "Effect.is_core" s_Effect_is_core a.f_Effect_is_core a.d_Effect_is_core
  b_Effect_is_core : Binds K a.d_Effect_is_core ["takes", "puts", "core"] []
  sm_Effect_is_core : Cmx.SMet K a.C_Effect (.type "type") "is_core" a.p_Effect_is_core a.f_Effect_is_core
  F_Effect_apply : Fun K "apply" "Effect.apply" s_Effect_apply a.f_Effect_apply a.d_Effect_apply
  b_Effect_apply : Binds K a.d_Effect_apply ["self", "queue"] []
  m_Effect_apply : Meth K a.C_Effect "apply" a.f_Effect_apply
  F_Effect_eq : Fun K "__eq__" "Effect.__eq__" s_Effect_eq a.f_Effect_eq a.d_Effect_eq
  b_Effect_eq : Binds K a.d_Effect_eq ["self", "other"] []
  m_Effect_eq : Meth K a.C_Effect "__eq__" a.f_Effect_eq
  F_Effect_repr : Fun K "__repr__" "Effect.__repr__" s_Effect_repr a.f_Effect_repr a.d_Effect_repr
  b_Effect_repr : Binds K a.d_Effect_repr ["self"] []
  m_Effect_repr : Meth K a.C_Effect "__repr__" a.f_Effect_repr
  F_Queue_init : FunD K "__init__" "Queue.__init__" (defArgs s_Queue_init) (defBody s_Queue_init) (defScope s_Queue_init) [.str ""] [] a.f_Queue_init a.d_Queue_init
  bd_Queue_init : ∃ ds, Vals [.str ""] ds ∧ Binds K a.d_Queue_init ["self", "word"] ds
  b_Queue_init : Binds K a.d_Queue_init ["self", "word"] []
  m_Queue_init : Meth K a.C_Queue "__init__" a.f_Queue_init
  F_Queue_word : Fun K "word" "Queue.word" s_Queue_word a.f_Queue_word a.d_Queue_word
  b_Queue_word : Binds K a.d_Queue_word ["self"] []
  q_Queue_word : PropOf K a.C_Queue "word" a.p_Queue_word a.f_Queue_word
  F_Queue_put : Fun K "put" "Queue.put" s_Queue_put a.f_Queue_put a.d_Queue_put
  b_Queue_put : Binds K a.d_Queue_put ["self", "item"] []
  m_Queue_put : Meth K a.C_Queue "put" a.f_Queue_put
  F_Queue_take : Fun K "take" "Queue.take" s_Queue_take a.f_Queue_take a.d_Queue_take
  b_Queue_take : Binds K a.d_Queue_take ["self", "item"] []
  m_Queue_take : Meth K a.C_Queue "take" a.f_Queue_take
  F_Queue_perform : Fun K "perform" "Queue.perform" s_Queue_perform a.f_Queue_perform a.d_Queue_perform
  b_Queue_perform : Binds K a.d_Queue_perform ["self", "step"] []
  m_Queue_perform : Meth K a.C_Queue "perform" a.f_Queue_perform
  F_Queue_run : Fun K "run" "Queue.run" s_Queue_run a.f_Queue_run a.d_Queue_run
  b_Queue_run : Binds K a.d_Queue_run ["self", "program"] []
  m_Queue_run : Meth K a.C_Queue "run" a.f_Queue_run
  F_Queue_clone : Fun K "clone" "Queue.clone" s_Queue_clone a.f_Queue_clone a.d_Queue_clone
  b_Queue_clone : Binds K a.d_Queue_clone ["self"] []
  m_Queue_clone : Meth K a.C_Queue "clone" a.f_Queue_clone
  F_LeakyQueue_init : Spx.Sup K mg "__init__" "LeakyQueue.__init__" "__init__" s_LeakyQueue_init a.f_LeakyQueue_init a.d_LeakyQueue_init a.C_LeakyQueue a.C_LeakyQueue a.f_Queue_init
  bd_LeakyQueue_init : ∃ ds, Vals [.str ""] ds ∧ Binds K a.d_LeakyQueue_init ["self", "word"] ds
  b_LeakyQueue_init : Binds K a.d_LeakyQueue_init ["self", "word"] []
  m_LeakyQueue_init : Meth K a.C_LeakyQueue "__init__" a.f_LeakyQueue_init
  F_LeakyQueue_word : Fun K "word" "LeakyQueue.word" s_LeakyQueue_word a.f_LeakyQueue_word a.d_LeakyQueue_word
  b_LeakyQueue_word : Binds K a.d_LeakyQueue_word ["self"] []
  q_LeakyQueue_word : PropOf K a.C_LeakyQueue "word" a.p_LeakyQueue_word a.f_LeakyQueue_word
  F_LeakyQueue_put : Spx.Sup K mg "put" "LeakyQueue.put" "put" s_LeakyQueue_put a.f_LeakyQueue_put a.d_LeakyQueue_put a.C_LeakyQueue a.C_LeakyQueue a.f_Queue_put
  b_LeakyQueue_put : Binds K a.d_LeakyQueue_put ["self", "item"] []
  m_LeakyQueue_put : Meth K a.C_LeakyQueue "put" a.f_LeakyQueue_put
  F_LeakyQueue_take : Fun K "take" "LeakyQueue.take" s_LeakyQueue_take a.f_LeakyQueue_take a.d_LeakyQueue_take
  b_LeakyQueue_take : Binds K a.d_LeakyQueue_take ["self", "item"] []
  m_LeakyQueue_take : Meth K a.C_LeakyQueue "take" a.f_LeakyQueue_take
  F_LeakyQueue_run : Spx.Sup K mg "run" "LeakyQueue.run" "run" s_LeakyQueue_run a.f_LeakyQueue_run a.d_LeakyQueue_run a.C_LeakyQueue a.C_LeakyQueue a.f_Queue_run
  b_LeakyQueue_run : Binds K a.d_LeakyQueue_run ["self", "program"] []
  m_LeakyQueue_run : Meth K a.C_LeakyQueue "run" a.f_LeakyQueue_run
  F_LeakyQueue_clone : Fun K "clone" "LeakyQueue.clone" s_LeakyQueue_clone a.f_LeakyQueue_clone a.d_LeakyQueue_clone
  b_LeakyQueue_clone : Binds K a.d_LeakyQueue_clone ["self"] []
  m_LeakyQueue_clone : Meth K a.C_LeakyQueue "clone" a.f_LeakyQueue_clone
  F_LeakyQueue_len : Fun K "__len__" "LeakyQueue.__len__" s_LeakyQueue_len a.f_LeakyQueue_len a.d_LeakyQueue_len
  b_LeakyQueue_len : Binds K a.d_LeakyQueue_len ["self"] []
  m_LeakyQueue_len : Meth K a.C_LeakyQueue "__len__" a.f_LeakyQueue_len
  F_Session_init : FunD K "__init__" "Session.__init__" (defArgs s_Session_init) (defBody s_Session_init) (defScope s_Session_init) [.str ""] [] a.f_Session_init a.d_Session_init
  bd_Session_init : ∃ ds, Vals [.str ""] ds ∧ Binds K a.d_Session_init ["self", "word"] ds
  b_Session_init : Binds K a.d_Session_init ["self", "word"] []
  m_Session_init : Meth K a.C_Session "__init__" a.f_Session_init
  F_Session_move : Fun K "move" "Session.move" s_Session_move a.f_Session_move a.d_Session_move
  b_Session_move : Binds K a.d_Session_move ["self", "done", "cancelled"] []
  m_Session_move : Meth K a.C_Session "move" a.f_Session_move
  F_Session_word : Fun K "word" "Session.word" s_Session_word a.f_Session_word a.d_Session_word
  b_Session_word : Binds K a.d_Session_word ["self"] []
  q_Session_word : PropOf K a.C_Session "word" a.p_Session_word a.f_Session_word
  F_Session_program : Fun K "program" "Session.program" s_Session_program a.f_Session_program a.d_Session_program
  b_Session_program : Binds K a.d_Session_program ["self"] []
  q_Session_program : PropOf K a.C_Session "program" a.p_Session_program a.f_Session_program
  F_Session_effect : Fun K "effect" "Session.effect" s_Session_effect a.f_Session_effect a.d_Session_effect
  b_Session_effect : Binds K a.d_Session_effect ["self"] []
  q_Session_effect : PropOf K a.C_Session "effect" a.p_Session_effect a.f_Session_effect
  F_Session_run : Fun K "run" "Session.run" s_Session_run a.f_Session_run a.d_Session_run
  b_Session_run : Binds K a.d_Session_run ["self", "program"] []
  m_Session_run : Meth K a.C_Session "run" a.f_Session_run
  F_Session_undo : FunD K "undo" "Session.undo" (defArgs s_Session_undo) (defBody s_Session_undo) (defScope s_Session_undo) [.int 1] [] a.f_Session_undo a.d_Session_undo
  bd_Session_undo : ∃ ds, Vals [.int 1] ds ∧ Binds K a.d_Session_undo ["self", "count"] ds
  b_Session_undo : Binds K a.d_Session_undo ["self", "count"] []
  m_Session_undo : Meth K a.C_Session "undo" a.f_Session_undo
  F_Session_redo : FunD K "redo" "Session.redo" (defArgs s_Session_redo) (defBody s_Session_redo) (defScope s_Session_redo) [.int 1] [] a.f_Session_redo a.d_Session_redo
  bd_Session_redo : ∃ ds, Vals [.int 1] ds ∧ Binds K a.d_Session_redo ["self", "count"] ds
  b_Session_redo : Binds K a.d_Session_redo ["self", "count"] []
  m_Session_redo : Meth K a.C_Session "redo" a.f_Session_redo
  F_Session_eq : Fun K "__eq__" "Session.__eq__" s_Session_eq a.f_Session_eq a.d_Session_eq
  b_Session_eq : Binds K a.d_Session_eq ["self", "other"] []
  m_Session_eq : Meth K a.C_Session "__eq__" a.f_Session_eq
  F_Session_len : Fun K "__len__" "Session.__len__" s_Session_len a.f_Session_len a.d_Session_len
  b_Session_len : Binds K a.d_Session_len ["self"] []
  m_Session_len : Meth K a.C_Session "__len__" a.f_Session_len
  F_Session_repr : Fun K "__repr__" "Session.__repr__" s_Session_repr a.f_Session_repr a.d_Session_repr
  b_Session_repr : Binds K a.d_Session_repr ["self"] []
  m_Session_repr : Meth K a.C_Session "__repr__" a.f_Session_repr
  m_LeakyQueue_perform : Meth K a.C_LeakyQueue "perform" a.f_Queue_perform
theorem txt_mk {K : PySem.W.Frag} {h : Heap} {mg : Str → Option Value} {f1 f2 f3 f4 f5 f6 f7 f8 f9 f10 f11 f12 f13 f14 f15 f16 f17 f18 f19 f20 f21 f22 f23 f24 f25 f26 f27 f28 f29 f30 f31 f32 f33 : Addr} {od1 an1 od2 an2 od3 an3 od4 an4 od5 an5 od6 an6 od7 an7 od8 an8 od9 an9 od10 an10 od11 an11 od12 an12 od13 an13 od14 an14 od15 an15 od16 an16 od17 an17 od18 an18 od19 an19 od20 an20 od21 an21 od22 an22 od23 an23 od24 an24 od25 an25 od26 an26 od27 an27 od28 an28 od29 an29 od30 an30 od31 an31 od32 an32 od33 an33 : Option Addr} {sl1 sl2 sl3 sl4 sl5 sl6 sl7 sl8 sl9 sl10 sl11 sl12 sl13 sl14 sl15 sl16 sl17 sl18 sl19 sl20 sl21 sl22 sl23 sl24 sl25 sl26 sl27 sl28 sl29 sl30 sl31 sl32 sl33 : Array (Option Value)}
    {oc1 kV1 dc1 pm1 cd1 ct1 oc2 kV2 dc2 pm2 cd2 ct2 oc3 kV3 dc3 pm3 cd3 ct3 oc4 kV4 dc4 pm4 cd4 ct4 oc5 kV5 dc5 pm5 cd5 ct5 oc6 kV6 dc6 pm6 cd6 ct6 oc7 kV7 dc7 pm7 cd7 ct7 oc8 kV8 dc8 pm8 cd8 ct8 oc9 kV9 dc9 pm9 cd9 ct9 oc10 kV10 dc10 pm10 cd10 ct10 oc11 kV11 dc11 pm11 cd11 ct11 oc12 kV12 dc12 pm12 cd12 ct12 oc13 kV13 dc13 pm13 cd13 ct13 oc14 kV14 dc14 pm14 cd14 ct14 oc15 kV15 dc15 pm15 cd15 ct15 oc16 kV16 dc16 pm16 cd16 ct16 oc17 kV17 dc17 pm17 cd17 ct17 oc18 kV18 dc18 pm18 cd18 ct18 oc19 kV19 dc19 pm19 cd19 ct19 oc20 kV20 dc20 pm20 cd20 ct20 oc21 kV21 dc21 pm21 cd21 ct21 oc22 kV22 dc22 pm22 cd22 ct22 oc23 kV23 dc23 pm23 cd23 ct23 oc24 kV24 dc24 pm24 cd24 ct24 oc25 kV25 dc25 pm25 cd25 ct25 oc26 kV26 dc26 pm26 cd26 ct26 oc27 kV27 dc27 pm27 cd27 ct27 oc28 kV28 dc28 pm28 cd28 ct28 oc29 kV29 dc29 pm29 cd29 ct29 oc30 kV30 dc30 pm30 cd30 ct30 oc31 kV31 dc31 pm31 cd31 ct31 oc32 kV32 dc32 pm32 cd32 ct32 oc33 kV33 dc33 pm33 cd33 ct33 : Value}
    {t_ITEMS t_MAX_LENGTH t_STEPS : Tok}
    (X : K.In h) (G : h.Ns mainGlobals mg)
    (a1 : PySem.W.nsIn K mainGlobals "is_integer" = some (some (.ref f1))) (l1 : K.lookup f1 = some ⟨oc1, od1, .func (PySem.W.fnOf "is_integer" "is_integer" (defArgs s_is_integer) (defBody s_is_integer) (defScope s_is_integer) .none kV1 dc1 pm1 an1 cd1 ct1), sl1⟩)
    (c1 : PySem.W.codeIn K cd1 "is_integer" = true) (k1 : PySem.W.keepIn K (.ref f1) = true)
    (a2 : PySem.W.nsIn K mainGlobals "is_integer_within" = some (some (.ref f2))) (l2 : K.lookup f2 = some ⟨oc2, od2, .func (PySem.W.fnOf "is_integer_within" "is_integer_within" (defArgs s_is_integer_within) (defBody s_is_integer_within) (defScope s_is_integer_within) .none kV2 dc2 pm2 an2 cd2 ct2), sl2⟩)
    (c2 : PySem.W.codeIn K cd2 "is_integer_within" = true) (k2 : PySem.W.keepIn K (.ref f2) = true)
    (a3 : PySem.W.nsIn K mainGlobals "require_number_from" = some (some (.ref f3))) (l3 : K.lookup f3 = some ⟨oc3, od3, .func (PySem.W.fnOf "require_number_from" "require_number_from" (defArgs s_require_number_from) (defBody s_require_number_from) (defScope s_require_number_from) .none kV3 dc3 pm3 an3 cd3 ct3), sl3⟩)
    (c3 : PySem.W.codeIn K cd3 "require_number_from" = true) (k3 : PySem.W.keepIn K (.ref f3) = true)
    {td4 : Addr} {to4 : Value} {tp4 : Option Addr} {tn4 : Nat} {ts4 : Array (Option Value)} {tk4_0 : Tok}
    (t4 : K.lookup td4 = some ⟨to4, tp4, .seq #[.int 400 tk4_0] tn4, ts4⟩)
    (a4 : PySem.W.nsIn K mainGlobals "is_string_of" = some (some (.ref f4))) (l4 : K.lookup f4 = some ⟨oc4, od4, .func (PySem.W.fnOf "is_string_of" "is_string_of" (defArgs s_is_string_of) (defBody s_is_string_of) (defScope s_is_string_of) (.ref td4) kV4 dc4 pm4 an4 cd4 ct4), sl4⟩)
    (c4 : PySem.W.codeIn K cd4 "is_string_of" = true) (k4 : PySem.W.keepIn K (.ref f4) = true)
    (a5 : PySem.W.nsIn K mainGlobals "is_word" = some (some (.ref f5))) (l5 : K.lookup f5 = some ⟨oc5, od5, .func (PySem.W.fnOf "is_word" "is_word" (defArgs s_is_word) (defBody s_is_word) (defScope s_is_word) .none kV5 dc5 pm5 an5 cd5 ct5), sl5⟩)
    (c5 : PySem.W.codeIn K cd5 "is_word" = true) (k5 : PySem.W.keepIn K (.ref f5) = true)
    (a6 : PySem.W.nsIn K mainGlobals "require_word" = some (some (.ref f6))) (l6 : K.lookup f6 = some ⟨oc6, od6, .func (PySem.W.fnOf "require_word" "require_word" (defArgs s_require_word) (defBody s_require_word) (defScope s_require_word) .none kV6 dc6 pm6 an6 cd6 ct6), sl6⟩)
    (c6 : PySem.W.codeIn K cd6 "require_word" = true) (k6 : PySem.W.keepIn K (.ref f6) = true)
    (a7 : PySem.W.nsIn K mainGlobals "earliest_positions" = some (some (.ref f7))) (l7 : K.lookup f7 = some ⟨oc7, od7, .func (PySem.W.fnOf "earliest_positions" "earliest_positions" (defArgs s_earliest_positions) (defBody s_earliest_positions) (defScope s_earliest_positions) .none kV7 dc7 pm7 an7 cd7 ct7), sl7⟩)
    (c7 : PySem.W.codeIn K cd7 "earliest_positions" = true) (k7 : PySem.W.keepIn K (.ref f7) = true)
    (a8 : PySem.W.nsIn K mainGlobals "end_of" = some (some (.ref f8))) (l8 : K.lookup f8 = some ⟨oc8, od8, .func (PySem.W.fnOf "end_of" "end_of" (defArgs s_end_of) (defBody s_end_of) (defScope s_end_of) .none kV8 dc8 pm8 an8 cd8 ct8), sl8⟩)
    (c8 : PySem.W.codeIn K cd8 "end_of" = true) (k8 : PySem.W.keepIn K (.ref f8) = true)
    (a9 : PySem.W.nsIn K mainGlobals "embeds" = some (some (.ref f9))) (l9 : K.lookup f9 = some ⟨oc9, od9, .func (PySem.W.fnOf "embeds" "embeds" (defArgs s_embeds) (defBody s_embeds) (defScope s_embeds) .none kV9 dc9 pm9 an9 cd9 ct9), sl9⟩)
    (c9 : PySem.W.codeIn K cd9 "embeds" = true) (k9 : PySem.W.keepIn K (.ref f9) = true)
    (a10 : PySem.W.nsIn K mainGlobals "is_program" = some (some (.ref f10))) (l10 : K.lookup f10 = some ⟨oc10, od10, .func (PySem.W.fnOf "is_program" "is_program" (defArgs s_is_program) (defBody s_is_program) (defScope s_is_program) .none kV10 dc10 pm10 an10 cd10 ct10), sl10⟩)
    (c10 : PySem.W.codeIn K cd10 "is_program" = true) (k10 : PySem.W.keepIn K (.ref f10) = true)
    (a11 : PySem.W.nsIn K mainGlobals "require_program" = some (some (.ref f11))) (l11 : K.lookup f11 = some ⟨oc11, od11, .func (PySem.W.fnOf "require_program" "require_program" (defArgs s_require_program) (defBody s_require_program) (defScope s_require_program) .none kV11 dc11 pm11 an11 cd11 ct11), sl11⟩)
    (c11 : PySem.W.codeIn K cd11 "require_program" = true) (k11 : PySem.W.keepIn K (.ref f11) = true)
    (a12 : PySem.W.nsIn K mainGlobals "take_items" = some (some (.ref f12))) (l12 : K.lookup f12 = some ⟨oc12, od12, .func (PySem.W.fnOf "take_items" "take_items" (defArgs s_take_items) (defBody s_take_items) (defScope s_take_items) .none kV12 dc12 pm12 an12 cd12 ct12), sl12⟩)
    (c12 : PySem.W.codeIn K cd12 "take_items" = true) (k12 : PySem.W.keepIn K (.ref f12) = true)
    (a13 : PySem.W.nsIn K mainGlobals "put_items" = some (some (.ref f13))) (l13 : K.lookup f13 = some ⟨oc13, od13, .func (PySem.W.fnOf "put_items" "put_items" (defArgs s_put_items) (defBody s_put_items) (defScope s_put_items) .none kV13 dc13 pm13 an13 cd13 ct13), sl13⟩)
    (c13 : PySem.W.codeIn K cd13 "put_items" = true) (k13 : PySem.W.keepIn K (.ref f13) = true)
    (a14 : PySem.W.nsIn K mainGlobals "counts_before_takes" = some (some (.ref f14))) (l14 : K.lookup f14 = some ⟨oc14, od14, .func (PySem.W.fnOf "counts_before_takes" "counts_before_takes" (defArgs s_counts_before_takes) (defBody s_counts_before_takes) (defScope s_counts_before_takes) .none kV14 dc14 pm14 an14 cd14 ct14), sl14⟩)
    (c14 : PySem.W.codeIn K cd14 "counts_before_takes" = true) (k14 : PySem.W.keepIn K (.ref f14) = true)
    (a15 : PySem.W.nsIn K mainGlobals "is_fitting_core" = some (some (.ref f15))) (l15 : K.lookup f15 = some ⟨oc15, od15, .func (PySem.W.fnOf "is_fitting_core" "is_fitting_core" (defArgs s_is_fitting_core) (defBody s_is_fitting_core) (defScope s_is_fitting_core) .none kV15 dc15 pm15 an15 cd15 ct15), sl15⟩)
    (c15 : PySem.W.codeIn K cd15 "is_fitting_core" = true) (k15 : PySem.W.keepIn K (.ref f15) = true)
    (a16 : PySem.W.nsIn K mainGlobals "program_core" = some (some (.ref f16))) (l16 : K.lookup f16 = some ⟨oc16, od16, .func (PySem.W.fnOf "program_core" "program_core" (defArgs s_program_core) (defBody s_program_core) (defScope s_program_core) .none kV16 dc16 pm16 an16 cd16 ct16), sl16⟩)
    (c16 : PySem.W.codeIn K cd16 "program_core" = true) (k16 : PySem.W.keepIn K (.ref f16) = true)
    (a17 : PySem.W.nsIn K mainGlobals "program_values" = some (some (.ref f17))) (l17 : K.lookup f17 = some ⟨oc17, od17, .func (PySem.W.fnOf "program_values" "program_values" (defArgs s_program_values) (defBody s_program_values) (defScope s_program_values) .none kV17 dc17 pm17 an17 cd17 ct17), sl17⟩)
    (c17 : PySem.W.codeIn K cd17 "program_values" = true) (k17 : PySem.W.keepIn K (.ref f17) = true)
    (a18 : PySem.W.nsIn K mainGlobals "effect_result" = some (some (.ref f18))) (l18 : K.lookup f18 = some ⟨oc18, od18, .func (PySem.W.fnOf "effect_result" "effect_result" (defArgs s_effect_result) (defBody s_effect_result) (defScope s_effect_result) .none kV18 dc18 pm18 an18 cd18 ct18), sl18⟩)
    (c18 : PySem.W.codeIn K cd18 "effect_result" = true) (k18 : PySem.W.keepIn K (.ref f18) = true)
    (a19 : PySem.W.nsIn K mainGlobals "result_of_puts" = some (some (.ref f19))) (l19 : K.lookup f19 = some ⟨oc19, od19, .func (PySem.W.fnOf "result_of_puts" "result_of_puts" (defArgs s_result_of_puts) (defBody s_result_of_puts) (defScope s_result_of_puts) .none kV19 dc19 pm19 an19 cd19 ct19), sl19⟩)
    (c19 : PySem.W.codeIn K cd19 "result_of_puts" = true) (k19 : PySem.W.keepIn K (.ref f19) = true)
    (a20 : PySem.W.nsIn K mainGlobals "perform_best" = some (some (.ref f20))) (l20 : K.lookup f20 = some ⟨oc20, od20, .func (PySem.W.fnOf "perform_best" "perform_best" (defArgs s_perform_best) (defBody s_perform_best) (defScope s_perform_best) .none kV20 dc20 pm20 an20 cd20 ct20), sl20⟩)
    (c20 : PySem.W.codeIn K cd20 "perform_best" = true) (k20 : PySem.W.keepIn K (.ref f20) = true)
    (a21 : PySem.W.nsIn K mainGlobals "unlimited_result" = some (some (.ref f21))) (l21 : K.lookup f21 = some ⟨oc21, od21, .func (PySem.W.fnOf "unlimited_result" "unlimited_result" (defArgs s_unlimited_result) (defBody s_unlimited_result) (defScope s_unlimited_result) .none kV21 dc21 pm21 an21 cd21 ct21), sl21⟩)
    (c21 : PySem.W.codeIn K cd21 "unlimited_result" = true) (k21 : PySem.W.keepIn K (.ref f21) = true)
    (a22 : PySem.W.nsIn K mainGlobals "within_limit" = some (some (.ref f22))) (l22 : K.lookup f22 = some ⟨oc22, od22, .func (PySem.W.fnOf "within_limit" "within_limit" (defArgs s_within_limit) (defBody s_within_limit) (defScope s_within_limit) .none kV22 dc22 pm22 an22 cd22 ct22), sl22⟩)
    (c22 : PySem.W.codeIn K cd22 "within_limit" = true) (k22 : PySem.W.keepIn K (.ref f22) = true)
    (a23 : PySem.W.nsIn K mainGlobals "best_result" = some (some (.ref f23))) (l23 : K.lookup f23 = some ⟨oc23, od23, .func (PySem.W.fnOf "best_result" "best_result" (defArgs s_best_result) (defBody s_best_result) (defScope s_best_result) .none kV23 dc23 pm23 an23 cd23 ct23), sl23⟩)
    (c23 : PySem.W.codeIn K cd23 "best_result" = true) (k23 : PySem.W.keepIn K (.ref f23) = true)
    (a24 : PySem.W.nsIn K mainGlobals "require_item" = some (some (.ref f24))) (l24 : K.lookup f24 = some ⟨oc24, od24, .func (PySem.W.fnOf "require_item" "require_item" (defArgs s_require_item) (defBody s_require_item) (defScope s_require_item) .none kV24 dc24 pm24 an24 cd24 ct24), sl24⟩)
    (c24 : PySem.W.codeIn K cd24 "require_item" = true) (k24 : PySem.W.keepIn K (.ref f24) = true)
    (a25 : PySem.W.nsIn K mainGlobals "require_count" = some (some (.ref f25))) (l25 : K.lookup f25 = some ⟨oc25, od25, .func (PySem.W.fnOf "require_count" "require_count" (defArgs s_require_count) (defBody s_require_count) (defScope s_require_count) .none kV25 dc25 pm25 an25 cd25 ct25), sl25⟩)
    (c25 : PySem.W.codeIn K cd25 "require_count" = true) (k25 : PySem.W.keepIn K (.ref f25) = true)
    (a26 : PySem.W.nsIn K mainGlobals "_law_pool" = some (some (.ref f26))) (l26 : K.lookup f26 = some ⟨oc26, od26, .func (PySem.W.fnOf "_law_pool" "_law_pool" (defArgs s_Lpool) (defBody s_Lpool) (defScope s_Lpool) .none kV26 dc26 pm26 an26 cd26 ct26), sl26⟩)
    (c26 : PySem.W.codeIn K cd26 "_law_pool" = true) (k26 : PySem.W.keepIn K (.ref f26) = true)
    (a27 : PySem.W.nsIn K mainGlobals "_law_draw" = some (some (.ref f27))) (l27 : K.lookup f27 = some ⟨oc27, od27, .func (PySem.W.fnOf "_law_draw" "_law_draw" (defArgs s_Ldraw) (defBody s_Ldraw) (defScope s_Ldraw) .none kV27 dc27 pm27 an27 cd27 ct27), sl27⟩)
    (c27 : PySem.W.codeIn K cd27 "_law_draw" = true) (k27 : PySem.W.keepIn K (.ref f27) = true)
    (a28 : PySem.W.nsIn K mainGlobals "_law_letters" = some (some (.ref f28))) (l28 : K.lookup f28 = some ⟨oc28, od28, .func (PySem.W.fnOf "_law_letters" "_law_letters" (defArgs s_Lletters) (defBody s_Lletters) (defScope s_Lletters) .none kV28 dc28 pm28 an28 cd28 ct28), sl28⟩)
    (c28 : PySem.W.codeIn K cd28 "_law_letters" = true) (k28 : PySem.W.keepIn K (.ref f28) = true)
    (a29 : PySem.W.nsIn K mainGlobals "_law_items" = some (some (.ref f29))) (l29 : K.lookup f29 = some ⟨oc29, od29, .func (PySem.W.fnOf "_law_items" "_law_items" (defArgs s_Litems) (defBody s_Litems) (defScope s_Litems) .none kV29 dc29 pm29 an29 cd29 ct29), sl29⟩)
    (c29 : PySem.W.codeIn K cd29 "_law_items" = true) (k29 : PySem.W.keepIn K (.ref f29) = true)
    (a30 : PySem.W.nsIn K mainGlobals "_law_moved" = some (some (.ref f30))) (l30 : K.lookup f30 = some ⟨oc30, od30, .func (PySem.W.fnOf "_law_moved" "_law_moved" (defArgs s_Lmoved) (defBody s_Lmoved) (defScope s_Lmoved) .none kV30 dc30 pm30 an30 cd30 ct30), sl30⟩)
    (c30 : PySem.W.codeIn K cd30 "_law_moved" = true) (k30 : PySem.W.keepIn K (.ref f30) = true)
    (a31 : PySem.W.nsIn K mainGlobals "_law_shown" = some (some (.ref f31))) (l31 : K.lookup f31 = some ⟨oc31, od31, .func (PySem.W.fnOf "_law_shown" "_law_shown" (defArgs s_Lshown) (defBody s_Lshown) (defScope s_Lshown) .none kV31 dc31 pm31 an31 cd31 ct31), sl31⟩)
    (c31 : PySem.W.codeIn K cd31 "_law_shown" = true) (k31 : PySem.W.keepIn K (.ref f31) = true)
    (a32 : PySem.W.nsIn K mainGlobals "_law_counted" = some (some (.ref f32))) (l32 : K.lookup f32 = some ⟨oc32, od32, .func (PySem.W.fnOf "_law_counted" "_law_counted" (defArgs s_Lcounted) (defBody s_Lcounted) (defScope s_Lcounted) .none kV32 dc32 pm32 an32 cd32 ct32), sl32⟩)
    (c32 : PySem.W.codeIn K cd32 "_law_counted" = true) (k32 : PySem.W.keepIn K (.ref f32) = true)
    (a33 : PySem.W.nsIn K mainGlobals "law" = some (some (.ref f33))) (l33 : K.lookup f33 = some ⟨oc33, od33, .func (PySem.W.fnOf "law" "law" (defArgs s_law) (defBody s_law) (defScope s_law) .none kV33 dc33 pm33 an33 cd33 ct33), sl33⟩)
    (c33 : PySem.W.codeIn K cd33 "law" = true) (k33 : PySem.W.keepIn K (.ref f33) = true)
    (v_ITEMS : PySem.W.nsIn K mainGlobals "ITEMS" = some (some (.str "abcdefgh" t_ITEMS)))
    (v_MAX_LENGTH : PySem.W.nsIn K mainGlobals "MAX_LENGTH" = some (some (.int 400 t_MAX_LENGTH)))
    (v_STEPS : PySem.W.nsIn K mainGlobals "STEPS" = some (some (.str "abcdefghABCDEFGH" t_STEPS)))
    (z_isinstance : PySem.W.nsIn K mainGlobals "isinstance" = some none)
    (z_int : PySem.W.nsIn K mainGlobals "int" = some none)
    (z_bool : PySem.W.nsIn K mainGlobals "bool" = some none)
    (z_str : PySem.W.nsIn K mainGlobals "str" = some none)
    (z_len : PySem.W.nsIn K mainGlobals "len" = some none)
    (z_min : PySem.W.nsIn K mainGlobals "min" = some none)
    (z_max : PySem.W.nsIn K mainGlobals "max" = some none)
    (z_range : PySem.W.nsIn K mainGlobals "range" = some none)
    (z_list : PySem.W.nsIn K mainGlobals "list" = some none)
    (z_repr : PySem.W.nsIn K mainGlobals "repr" = some none)
    (z_classmethod : PySem.W.nsIn K mainGlobals "classmethod" = some none)
    (z_staticmethod : PySem.W.nsIn K mainGlobals "staticmethod" = some none)
    (z_property : PySem.W.nsIn K mainGlobals "property" = some none)
    (z_enumerate : PySem.W.nsIn K mainGlobals "enumerate" = some none)
    (z_super : PySem.W.nsIn K mainGlobals "super" = some none)
    {C_LeakError : Addr} (n_LeakError : PySem.W.nsIn K mainGlobals "LeakError" = some (some (.ref C_LeakError)))
    {C_InvalidWord I_InvalidWord : Addr} {x1InvalidWord : Value} {x2InvalidWord : Option Addr} {x3InvalidWord x4InvalidWord : Value} {x5InvalidWord : Option Addr} {x6InvalidWord x7InvalidWord : Value} {x8InvalidWord : Array (Option Value)} {p1InvalidWord p2InvalidWord q1InvalidWord q2InvalidWord q3InvalidWord q4InvalidWord : Pos}
    (n_InvalidWord : PySem.W.nsIn K mainGlobals "InvalidWord" = some (some (.ref C_InvalidWord))) (i_InvalidWord : PySem.W.findIn K (.ref C_InvalidWord) "__init__" = some (some (.ref I_InvalidWord)))
    (m_InvalidWord : K.lookup I_InvalidWord = some ⟨x1InvalidWord, x2InvalidWord, .func (PySem.W.fnOf "__init__" "InvalidWord.__init__" (iA "value" p1InvalidWord p2InvalidWord) (iB "value" q1InvalidWord q2InvalidWord q3InvalidWord q4InvalidWord) (iS "value" []) .none .none x3InvalidWord x4InvalidWord x5InvalidWord x6InvalidWord x7InvalidWord), x8InvalidWord⟩) (d_InvalidWord : PySem.W.codeIn K x6InvalidWord "InvalidWord.__init__" = true)
    (h_InvalidWord : ecB K C_InvalidWord I_InvalidWord "value" [.type "ValueError", .type "Exception", .type "BaseException", .type "object"] "ValueError.__new__" = true)
    {C_InvalidProgram I_InvalidProgram : Addr} {x1InvalidProgram : Value} {x2InvalidProgram : Option Addr} {x3InvalidProgram x4InvalidProgram : Value} {x5InvalidProgram : Option Addr} {x6InvalidProgram x7InvalidProgram : Value} {x8InvalidProgram : Array (Option Value)} {p1InvalidProgram p2InvalidProgram q1InvalidProgram q2InvalidProgram q3InvalidProgram q4InvalidProgram : Pos}
    (n_InvalidProgram : PySem.W.nsIn K mainGlobals "InvalidProgram" = some (some (.ref C_InvalidProgram))) (i_InvalidProgram : PySem.W.findIn K (.ref C_InvalidProgram) "__init__" = some (some (.ref I_InvalidProgram)))
    (m_InvalidProgram : K.lookup I_InvalidProgram = some ⟨x1InvalidProgram, x2InvalidProgram, .func (PySem.W.fnOf "__init__" "InvalidProgram.__init__" (iA "value" p1InvalidProgram p2InvalidProgram) (iB "value" q1InvalidProgram q2InvalidProgram q3InvalidProgram q4InvalidProgram) (iS "value" []) .none .none x3InvalidProgram x4InvalidProgram x5InvalidProgram x6InvalidProgram x7InvalidProgram), x8InvalidProgram⟩) (d_InvalidProgram : PySem.W.codeIn K x6InvalidProgram "InvalidProgram.__init__" = true)
    (h_InvalidProgram : ecB K C_InvalidProgram I_InvalidProgram "value" [.type "ValueError", .type "Exception", .type "BaseException", .type "object"] "ValueError.__new__" = true)
    {C_InvalidCore I_InvalidCore : Addr} {x1InvalidCore : Value} {x2InvalidCore : Option Addr} {x3InvalidCore x4InvalidCore : Value} {x5InvalidCore : Option Addr} {x6InvalidCore x7InvalidCore : Value} {x8InvalidCore : Array (Option Value)} {p1InvalidCore p2InvalidCore q1InvalidCore q2InvalidCore q3InvalidCore q4InvalidCore : Pos}
    (n_InvalidCore : PySem.W.nsIn K mainGlobals "InvalidCore" = some (some (.ref C_InvalidCore))) (i_InvalidCore : PySem.W.findIn K (.ref C_InvalidCore) "__init__" = some (some (.ref I_InvalidCore)))
    (m_InvalidCore : K.lookup I_InvalidCore = some ⟨x1InvalidCore, x2InvalidCore, .func (PySem.W.fnOf "__init__" "InvalidCore.__init__" (iA "value" p1InvalidCore p2InvalidCore) (iB "value" q1InvalidCore q2InvalidCore q3InvalidCore q4InvalidCore) (iS "value" []) .none .none x3InvalidCore x4InvalidCore x5InvalidCore x6InvalidCore x7InvalidCore), x8InvalidCore⟩) (d_InvalidCore : PySem.W.codeIn K x6InvalidCore "InvalidCore.__init__" = true)
    (h_InvalidCore : ecB K C_InvalidCore I_InvalidCore "value" [.type "ValueError", .type "Exception", .type "BaseException", .type "object"] "ValueError.__new__" = true)
    {C_InvalidNumber I_InvalidNumber : Addr} {x1InvalidNumber : Value} {x2InvalidNumber : Option Addr} {x3InvalidNumber x4InvalidNumber : Value} {x5InvalidNumber : Option Addr} {x6InvalidNumber x7InvalidNumber : Value} {x8InvalidNumber : Array (Option Value)} {p1InvalidNumber p2InvalidNumber q1InvalidNumber q2InvalidNumber q3InvalidNumber q4InvalidNumber : Pos}
    (n_InvalidNumber : PySem.W.nsIn K mainGlobals "InvalidNumber" = some (some (.ref C_InvalidNumber))) (i_InvalidNumber : PySem.W.findIn K (.ref C_InvalidNumber) "__init__" = some (some (.ref I_InvalidNumber)))
    (m_InvalidNumber : K.lookup I_InvalidNumber = some ⟨x1InvalidNumber, x2InvalidNumber, .func (PySem.W.fnOf "__init__" "InvalidNumber.__init__" (iA "value" p1InvalidNumber p2InvalidNumber) (iB "value" q1InvalidNumber q2InvalidNumber q3InvalidNumber q4InvalidNumber) (iS "value" []) .none .none x3InvalidNumber x4InvalidNumber x5InvalidNumber x6InvalidNumber x7InvalidNumber), x8InvalidNumber⟩) (d_InvalidNumber : PySem.W.codeIn K x6InvalidNumber "InvalidNumber.__init__" = true)
    (h_InvalidNumber : ecB K C_InvalidNumber I_InvalidNumber "value" [.type "ValueError", .type "Exception", .type "BaseException", .type "object"] "ValueError.__new__" = true)
    {C_Missing I_Missing : Addr} {x1Missing : Value} {x2Missing : Option Addr} {x3Missing x4Missing : Value} {x5Missing : Option Addr} {x6Missing x7Missing : Value} {x8Missing : Array (Option Value)} {p1Missing p2Missing q1Missing q2Missing q3Missing q4Missing : Pos}
    (n_Missing : PySem.W.nsIn K mainGlobals "Missing" = some (some (.ref C_Missing))) (i_Missing : PySem.W.findIn K (.ref C_Missing) "__init__" = some (some (.ref I_Missing)))
    (m_Missing : K.lookup I_Missing = some ⟨x1Missing, x2Missing, .func (PySem.W.fnOf "__init__" "Missing.__init__" (iA "item" p1Missing p2Missing) (iB "item" q1Missing q2Missing q3Missing q4Missing) (iS "item" []) .none .none x3Missing x4Missing x5Missing x6Missing x7Missing), x8Missing⟩) (d_Missing : PySem.W.codeIn K x6Missing "Missing.__init__" = true)
    (h_Missing : ecB K C_Missing I_Missing "item" [.type "LookupError", .type "Exception", .type "BaseException", .type "object"] "LookupError.__new__" = true)
    {C_LimitExceeded I_LimitExceeded : Addr} {x1LimitExceeded : Value} {x2LimitExceeded : Option Addr} {x3LimitExceeded x4LimitExceeded : Value} {x5LimitExceeded : Option Addr} {x6LimitExceeded x7LimitExceeded : Value} {x8LimitExceeded : Array (Option Value)} {p1LimitExceeded p2LimitExceeded q1LimitExceeded q2LimitExceeded q3LimitExceeded q4LimitExceeded : Pos}
    (n_LimitExceeded : PySem.W.nsIn K mainGlobals "LimitExceeded" = some (some (.ref C_LimitExceeded))) (i_LimitExceeded : PySem.W.findIn K (.ref C_LimitExceeded) "__init__" = some (some (.ref I_LimitExceeded)))
    (m_LimitExceeded : K.lookup I_LimitExceeded = some ⟨x1LimitExceeded, x2LimitExceeded, .func (PySem.W.fnOf "__init__" "LimitExceeded.__init__" (iA "limit" p1LimitExceeded p2LimitExceeded) (iB "limit" q1LimitExceeded q2LimitExceeded q3LimitExceeded q4LimitExceeded) (iS "limit" []) .none .none x3LimitExceeded x4LimitExceeded x5LimitExceeded x6LimitExceeded x7LimitExceeded), x8LimitExceeded⟩) (d_LimitExceeded : PySem.W.codeIn K x6LimitExceeded "LimitExceeded.__init__" = true)
    (h_LimitExceeded : ecB K C_LimitExceeded I_LimitExceeded "limit" [.type "OverflowError", .type "ArithmeticError", .type "Exception", .type "BaseException", .type "object"] "OverflowError.__new__" = true)
    {C_Failed I_Failed : Addr} {x1Failed : Value} {x2Failed : Option Addr} {x3Failed x4Failed : Value} {x5Failed : Option Addr} {x6Failed x7Failed : Value} {x8Failed : Array (Option Value)} {p1Failed p2Failed q1Failed q2Failed q3Failed q4Failed : Pos}
    (n_Failed : PySem.W.nsIn K mainGlobals "Failed" = some (some (.ref C_Failed))) (i_Failed : PySem.W.findIn K (.ref C_Failed) "__init__" = some (some (.ref I_Failed)))
    (m_Failed : K.lookup I_Failed = some ⟨x1Failed, x2Failed, .func (PySem.W.fnOf "__init__" "Failed.__init__" (iA "index" p1Failed p2Failed) (iB "index" q1Failed q2Failed q3Failed q4Failed) (iS "index" []) .none .none x3Failed x4Failed x5Failed x6Failed x7Failed), x8Failed⟩) (d_Failed : PySem.W.codeIn K x6Failed "Failed.__init__" = true)
    (h_Failed : ecB K C_Failed I_Failed "index" [.type "RuntimeError", .type "Exception", .type "BaseException", .type "object"] "RuntimeError.__new__" = true)
    {C_NothingToUndo I_NothingToUndo : Addr} {x1NothingToUndo : Value} {x2NothingToUndo : Option Addr} {x3NothingToUndo x4NothingToUndo : Value} {x5NothingToUndo : Option Addr} {x6NothingToUndo x7NothingToUndo : Value} {x8NothingToUndo : Array (Option Value)} {p1NothingToUndo p2NothingToUndo q1NothingToUndo q2NothingToUndo q3NothingToUndo q4NothingToUndo : Pos}
    (n_NothingToUndo : PySem.W.nsIn K mainGlobals "NothingToUndo" = some (some (.ref C_NothingToUndo))) (i_NothingToUndo : PySem.W.findIn K (.ref C_NothingToUndo) "__init__" = some (some (.ref I_NothingToUndo)))
    (m_NothingToUndo : K.lookup I_NothingToUndo = some ⟨x1NothingToUndo, x2NothingToUndo, .func (PySem.W.fnOf "__init__" "NothingToUndo.__init__" (iA "count" p1NothingToUndo p2NothingToUndo) (iB "count" q1NothingToUndo q2NothingToUndo q3NothingToUndo q4NothingToUndo) (iS "count" []) .none .none x3NothingToUndo x4NothingToUndo x5NothingToUndo x6NothingToUndo x7NothingToUndo), x8NothingToUndo⟩) (d_NothingToUndo : PySem.W.codeIn K x6NothingToUndo "NothingToUndo.__init__" = true)
    (h_NothingToUndo : ecB K C_NothingToUndo I_NothingToUndo "count" [.type "RuntimeError", .type "Exception", .type "BaseException", .type "object"] "RuntimeError.__new__" = true)
    {C_Effect : Addr} (n_Effect : PySem.W.nsIn K mainGlobals "Effect" = some (some (.ref C_Effect)))
    (pg_Effect : PySem.W.plainGet K C_Effect Str.empty = true) (hd_Effect : PySem.W.hasDictIn K C_Effect = true) (po_Effect : PySem.W.plainOver K C_Effect = true) (sa_Effect : PySem.W.findIn K (.ref C_Effect) "__setattr__" = some (some (.builtin "object.__setattr__")))
    (mi_Effect : PySem.W.makesIn K C_Effect = true) (kc_Effect : PySem.W.keepIn K (.ref C_Effect) = true) (rd_Effect : PySem.W.readsIn K C_Effect (.type "type") = true) (ga_Effect : PySem.W.specialIn K (.ref C_Effect) "__getattribute__" = some (some (.builtin "type.__getattribute__")))
    (na_Effect_taken : PySem.W.findIn K (.ref C_Effect) "taken" = some none)
    (na_Effect_given : PySem.W.findIn K (.ref C_Effect) "given" = some none)
    (na_Effect_needed : PySem.W.findIn K (.ref C_Effect) "needed" = some none)
    {C_Queue : Addr} (n_Queue : PySem.W.nsIn K mainGlobals "Queue" = some (some (.ref C_Queue)))
    (pg_Queue : PySem.W.plainGet K C_Queue Str.empty = true) (hd_Queue : PySem.W.hasDictIn K C_Queue = true) (po_Queue : PySem.W.plainOver K C_Queue = true) (sa_Queue : PySem.W.findIn K (.ref C_Queue) "__setattr__" = some (some (.builtin "object.__setattr__")))
    (mi_Queue : PySem.W.makesIn K C_Queue = true) (kc_Queue : PySem.W.keepIn K (.ref C_Queue) = true) (rd_Queue : PySem.W.readsIn K C_Queue (.type "type") = true) (ga_Queue : PySem.W.specialIn K (.ref C_Queue) "__getattribute__" = some (some (.builtin "type.__getattribute__")))
    (na_Queue_content : PySem.W.findIn K (.ref C_Queue) "content" = some none)
    {C_LeakyQueue : Addr} (n_LeakyQueue : PySem.W.nsIn K mainGlobals "LeakyQueue" = some (some (.ref C_LeakyQueue)))
    (pg_LeakyQueue : PySem.W.plainGet K C_LeakyQueue Str.empty = true) (hd_LeakyQueue : PySem.W.hasDictIn K C_LeakyQueue = true) (po_LeakyQueue : PySem.W.plainOver K C_LeakyQueue = true) (sa_LeakyQueue : PySem.W.findIn K (.ref C_LeakyQueue) "__setattr__" = some (some (.builtin "object.__setattr__")))
    (mi_LeakyQueue : PySem.W.makesIn K C_LeakyQueue = true) (kc_LeakyQueue : PySem.W.keepIn K (.ref C_LeakyQueue) = true) (rd_LeakyQueue : PySem.W.readsIn K C_LeakyQueue (.type "type") = true) (ga_LeakyQueue : PySem.W.specialIn K (.ref C_LeakyQueue) "__getattribute__" = some (some (.builtin "type.__getattribute__")))
    (na_LeakyQueue_content : PySem.W.findIn K (.ref C_LeakyQueue) "content" = some none)
    {C_Session : Addr} (n_Session : PySem.W.nsIn K mainGlobals "Session" = some (some (.ref C_Session)))
    (pg_Session : PySem.W.plainGet K C_Session Str.empty = true) (hd_Session : PySem.W.hasDictIn K C_Session = true) (po_Session : PySem.W.plainOver K C_Session = true) (sa_Session : PySem.W.findIn K (.ref C_Session) "__setattr__" = some (some (.builtin "object.__setattr__")))
    (mi_Session : PySem.W.makesIn K C_Session = true) (kc_Session : PySem.W.keepIn K (.ref C_Session) = true) (rd_Session : PySem.W.readsIn K C_Session (.type "type") = true) (ga_Session : PySem.W.specialIn K (.ref C_Session) "__getattribute__" = some (some (.builtin "type.__getattribute__")))
    (na_Session_initial : PySem.W.findIn K (.ref C_Session) "initial" = some none)
    (na_Session_done : PySem.W.findIn K (.ref C_Session) "done" = some none)
    (na_Session_cancelled : PySem.W.findIn K (.ref C_Session) "cancelled" = some none)
    (na_Session_present : PySem.W.findIn K (.ref C_Session) "present" = some none)
    (na_Session_reached : PySem.W.findIn K (.ref C_Session) "reached" = some none)
    {tv_Effect_MAX_ITEMS : Tok} (va_Effect_MAX_ITEMS : PySem.W.findCls K (.ref C_Effect) (.type "type") "MAX_ITEMS" = some (.val (.int 400 tv_Effect_MAX_ITEMS)))
    {f_Effect_init : Addr} {odEffect_init anEffect_init : Option Addr} {slEffect_init : Array (Option Value)} {ocEffect_init kVEffect_init dcEffect_init pmEffect_init cdEffect_init ctEffect_init : Value}
    (a_Effect_init : PySem.W.findIn K (.ref C_Effect) "__init__" = some (some (.ref f_Effect_init))) (if_Effect_init : PySem.W.isFn K (.ref f_Effect_init) = true)
    (l_Effect_init : K.lookup f_Effect_init = some ⟨ocEffect_init, odEffect_init, .func (PySem.W.fnOf "__init__" "Effect.__init__" (defArgs s_Effect_init) (defBody s_Effect_init) (defScope s_Effect_init) .none kVEffect_init dcEffect_init pmEffect_init anEffect_init cdEffect_init ctEffect_init), slEffect_init⟩) (c_Effect_init : PySem.W.codeIn K cdEffect_init "Effect.__init__" = true) (k_Effect_init : PySem.W.keepIn K (.ref f_Effect_init) = true)
    {f_Effect_of : Addr} {odEffect_of anEffect_of : Option Addr} {slEffect_of : Array (Option Value)} {ocEffect_of kVEffect_of dcEffect_of pmEffect_of cdEffect_of ctEffect_of : Value}
    {p_Effect_of : Addr} {reEffect_of : List Value} (a_Effect_of : PySem.W.findCls K (.ref C_Effect) (.type "type") "of" = some (.get (.builtin "classmethod.__get__") (.ref p_Effect_of) .none (.ref C_Effect))) (rc_Effect_of : PySem.W.recIn K p_Effect_of "classmethod" = some (.ref f_Effect_of :: reEffect_of)) (fi_Effect_of : PySem.W.fnIn K f_Effect_of = true)
    (l_Effect_of : K.lookup f_Effect_of = some ⟨ocEffect_of, odEffect_of, .func (PySem.W.fnOf "of" "Effect.of" (defArgs s_Effect_of) (defBody s_Effect_of) (defScope s_Effect_of) .none kVEffect_of dcEffect_of pmEffect_of anEffect_of cdEffect_of ctEffect_of), slEffect_of⟩) (c_Effect_of : PySem.W.codeIn K cdEffect_of "Effect.of" = true) (k_Effect_of : PySem.W.keepIn K (.ref f_Effect_of) = true)
    {f_Effect_is_core : Addr} {odEffect_is_core anEffect_is_core : Option Addr} {slEffect_is_core : Array (Option Value)} {ocEffect_is_core kVEffect_is_core dcEffect_is_core pmEffect_is_core cdEffect_is_core ctEffect_is_core : Value}
    {p_Effect_is_core : Addr} {reEffect_is_core : List Value} (a_Effect_is_core : PySem.W.findCls K (.ref C_Effect) (.type "type") "is_core" = some (.get (.builtin "staticmethod.__get__") (.ref p_Effect_is_core) .none (.ref C_Effect))) (rc_Effect_is_core : PySem.W.recIn K p_Effect_is_core "staticmethod" = some (.ref f_Effect_is_core :: reEffect_is_core))
    (l_Effect_is_core : K.lookup f_Effect_is_core = some ⟨ocEffect_is_core, odEffect_is_core, .func (PySem.W.fnOf "is_core" "Effect.is_core" (defArgs s_Effect_is_core) (defBody s_Effect_is_core) (defScope s_Effect_is_core) .none kVEffect_is_core dcEffect_is_core pmEffect_is_core anEffect_is_core cdEffect_is_core ctEffect_is_core), slEffect_is_core⟩) (c_Effect_is_core : PySem.W.codeIn K cdEffect_is_core "Effect.is_core" = true) (k_Effect_is_core : PySem.W.keepIn K (.ref f_Effect_is_core) = true)
    {f_Effect_apply : Addr} {odEffect_apply anEffect_apply : Option Addr} {slEffect_apply : Array (Option Value)} {ocEffect_apply kVEffect_apply dcEffect_apply pmEffect_apply cdEffect_apply ctEffect_apply : Value}
    (a_Effect_apply : PySem.W.findIn K (.ref C_Effect) "apply" = some (some (.ref f_Effect_apply))) (if_Effect_apply : PySem.W.isFn K (.ref f_Effect_apply) = true)
    (l_Effect_apply : K.lookup f_Effect_apply = some ⟨ocEffect_apply, odEffect_apply, .func (PySem.W.fnOf "apply" "Effect.apply" (defArgs s_Effect_apply) (defBody s_Effect_apply) (defScope s_Effect_apply) .none kVEffect_apply dcEffect_apply pmEffect_apply anEffect_apply cdEffect_apply ctEffect_apply), slEffect_apply⟩) (c_Effect_apply : PySem.W.codeIn K cdEffect_apply "Effect.apply" = true) (k_Effect_apply : PySem.W.keepIn K (.ref f_Effect_apply) = true)
    {f_Effect_eq : Addr} {odEffect_eq anEffect_eq : Option Addr} {slEffect_eq : Array (Option Value)} {ocEffect_eq kVEffect_eq dcEffect_eq pmEffect_eq cdEffect_eq ctEffect_eq : Value}
    (a_Effect_eq : PySem.W.findIn K (.ref C_Effect) "__eq__" = some (some (.ref f_Effect_eq))) (if_Effect_eq : PySem.W.isFn K (.ref f_Effect_eq) = true)
    (l_Effect_eq : K.lookup f_Effect_eq = some ⟨ocEffect_eq, odEffect_eq, .func (PySem.W.fnOf "__eq__" "Effect.__eq__" (defArgs s_Effect_eq) (defBody s_Effect_eq) (defScope s_Effect_eq) .none kVEffect_eq dcEffect_eq pmEffect_eq anEffect_eq cdEffect_eq ctEffect_eq), slEffect_eq⟩) (c_Effect_eq : PySem.W.codeIn K cdEffect_eq "Effect.__eq__" = true) (k_Effect_eq : PySem.W.keepIn K (.ref f_Effect_eq) = true)
    {f_Effect_repr : Addr} {odEffect_repr anEffect_repr : Option Addr} {slEffect_repr : Array (Option Value)} {ocEffect_repr kVEffect_repr dcEffect_repr pmEffect_repr cdEffect_repr ctEffect_repr : Value}
    (a_Effect_repr : PySem.W.findIn K (.ref C_Effect) "__repr__" = some (some (.ref f_Effect_repr))) (if_Effect_repr : PySem.W.isFn K (.ref f_Effect_repr) = true)
    (l_Effect_repr : K.lookup f_Effect_repr = some ⟨ocEffect_repr, odEffect_repr, .func (PySem.W.fnOf "__repr__" "Effect.__repr__" (defArgs s_Effect_repr) (defBody s_Effect_repr) (defScope s_Effect_repr) .none kVEffect_repr dcEffect_repr pmEffect_repr anEffect_repr cdEffect_repr ctEffect_repr), slEffect_repr⟩) (c_Effect_repr : PySem.W.codeIn K cdEffect_repr "Effect.__repr__" = true) (k_Effect_repr : PySem.W.keepIn K (.ref f_Effect_repr) = true)
    {f_Queue_init : Addr} {odQueue_init anQueue_init : Option Addr} {slQueue_init : Array (Option Value)} {ocQueue_init kVQueue_init dcQueue_init pmQueue_init cdQueue_init ctQueue_init : Value}
    {td_Queue_init : Addr} {to_Queue_init : Value} {tp_Queue_init : Option Addr} {tn_Queue_init : Nat} {ts_Queue_init : Array (Option Value)} {tk_Queue_init_0 : Tok}
    (t_Queue_init : K.lookup td_Queue_init = some ⟨to_Queue_init, tp_Queue_init, .seq #[.str "" tk_Queue_init_0] tn_Queue_init, ts_Queue_init⟩)
    (a_Queue_init : PySem.W.findIn K (.ref C_Queue) "__init__" = some (some (.ref f_Queue_init))) (if_Queue_init : PySem.W.isFn K (.ref f_Queue_init) = true)
    (l_Queue_init : K.lookup f_Queue_init = some ⟨ocQueue_init, odQueue_init, .func (PySem.W.fnOf "__init__" "Queue.__init__" (defArgs s_Queue_init) (defBody s_Queue_init) (defScope s_Queue_init) (.ref td_Queue_init) kVQueue_init dcQueue_init pmQueue_init anQueue_init cdQueue_init ctQueue_init), slQueue_init⟩) (c_Queue_init : PySem.W.codeIn K cdQueue_init "Queue.__init__" = true) (k_Queue_init : PySem.W.keepIn K (.ref f_Queue_init) = true)
    {f_Queue_word : Addr} {odQueue_word anQueue_word : Option Addr} {slQueue_word : Array (Option Value)} {ocQueue_word kVQueue_word dcQueue_word pmQueue_word cdQueue_word ctQueue_word : Value}
    {p_Queue_word : Addr} {reQueue_word : List Value} (a_Queue_word : PySem.W.findIn K (.ref C_Queue) "word" = some (some (.ref p_Queue_word))) (gt_Queue_word : PySem.W.specialIn K (.ref p_Queue_word) "__get__" = some (some (.builtin "property.__get__"))) (tk_Queue_word : PySem.W.takesIn K (.ref p_Queue_word) = some true) (rc_Queue_word : PySem.W.recIn K p_Queue_word "property" = some (.ref f_Queue_word :: reQueue_word))
    (l_Queue_word : K.lookup f_Queue_word = some ⟨ocQueue_word, odQueue_word, .func (PySem.W.fnOf "word" "Queue.word" (defArgs s_Queue_word) (defBody s_Queue_word) (defScope s_Queue_word) .none kVQueue_word dcQueue_word pmQueue_word anQueue_word cdQueue_word ctQueue_word), slQueue_word⟩) (c_Queue_word : PySem.W.codeIn K cdQueue_word "Queue.word" = true) (k_Queue_word : PySem.W.keepIn K (.ref f_Queue_word) = true)
    {f_Queue_put : Addr} {odQueue_put anQueue_put : Option Addr} {slQueue_put : Array (Option Value)} {ocQueue_put kVQueue_put dcQueue_put pmQueue_put cdQueue_put ctQueue_put : Value}
    (a_Queue_put : PySem.W.findIn K (.ref C_Queue) "put" = some (some (.ref f_Queue_put))) (if_Queue_put : PySem.W.isFn K (.ref f_Queue_put) = true)
    (l_Queue_put : K.lookup f_Queue_put = some ⟨ocQueue_put, odQueue_put, .func (PySem.W.fnOf "put" "Queue.put" (defArgs s_Queue_put) (defBody s_Queue_put) (defScope s_Queue_put) .none kVQueue_put dcQueue_put pmQueue_put anQueue_put cdQueue_put ctQueue_put), slQueue_put⟩) (c_Queue_put : PySem.W.codeIn K cdQueue_put "Queue.put" = true) (k_Queue_put : PySem.W.keepIn K (.ref f_Queue_put) = true)
    {f_Queue_take : Addr} {odQueue_take anQueue_take : Option Addr} {slQueue_take : Array (Option Value)} {ocQueue_take kVQueue_take dcQueue_take pmQueue_take cdQueue_take ctQueue_take : Value}
    (a_Queue_take : PySem.W.findIn K (.ref C_Queue) "take" = some (some (.ref f_Queue_take))) (if_Queue_take : PySem.W.isFn K (.ref f_Queue_take) = true)
    (l_Queue_take : K.lookup f_Queue_take = some ⟨ocQueue_take, odQueue_take, .func (PySem.W.fnOf "take" "Queue.take" (defArgs s_Queue_take) (defBody s_Queue_take) (defScope s_Queue_take) .none kVQueue_take dcQueue_take pmQueue_take anQueue_take cdQueue_take ctQueue_take), slQueue_take⟩) (c_Queue_take : PySem.W.codeIn K cdQueue_take "Queue.take" = true) (k_Queue_take : PySem.W.keepIn K (.ref f_Queue_take) = true)
    {f_Queue_perform : Addr} {odQueue_perform anQueue_perform : Option Addr} {slQueue_perform : Array (Option Value)} {ocQueue_perform kVQueue_perform dcQueue_perform pmQueue_perform cdQueue_perform ctQueue_perform : Value}
    (a_Queue_perform : PySem.W.findIn K (.ref C_Queue) "perform" = some (some (.ref f_Queue_perform))) (if_Queue_perform : PySem.W.isFn K (.ref f_Queue_perform) = true)
    (l_Queue_perform : K.lookup f_Queue_perform = some ⟨ocQueue_perform, odQueue_perform, .func (PySem.W.fnOf "perform" "Queue.perform" (defArgs s_Queue_perform) (defBody s_Queue_perform) (defScope s_Queue_perform) .none kVQueue_perform dcQueue_perform pmQueue_perform anQueue_perform cdQueue_perform ctQueue_perform), slQueue_perform⟩) (c_Queue_perform : PySem.W.codeIn K cdQueue_perform "Queue.perform" = true) (k_Queue_perform : PySem.W.keepIn K (.ref f_Queue_perform) = true)
    {f_Queue_run : Addr} {odQueue_run anQueue_run : Option Addr} {slQueue_run : Array (Option Value)} {ocQueue_run kVQueue_run dcQueue_run pmQueue_run cdQueue_run ctQueue_run : Value}
    (a_Queue_run : PySem.W.findIn K (.ref C_Queue) "run" = some (some (.ref f_Queue_run))) (if_Queue_run : PySem.W.isFn K (.ref f_Queue_run) = true)
    (l_Queue_run : K.lookup f_Queue_run = some ⟨ocQueue_run, odQueue_run, .func (PySem.W.fnOf "run" "Queue.run" (defArgs s_Queue_run) (defBody s_Queue_run) (defScope s_Queue_run) .none kVQueue_run dcQueue_run pmQueue_run anQueue_run cdQueue_run ctQueue_run), slQueue_run⟩) (c_Queue_run : PySem.W.codeIn K cdQueue_run "Queue.run" = true) (k_Queue_run : PySem.W.keepIn K (.ref f_Queue_run) = true)
    {f_Queue_clone : Addr} {odQueue_clone anQueue_clone : Option Addr} {slQueue_clone : Array (Option Value)} {ocQueue_clone kVQueue_clone dcQueue_clone pmQueue_clone cdQueue_clone ctQueue_clone : Value}
    (a_Queue_clone : PySem.W.findIn K (.ref C_Queue) "clone" = some (some (.ref f_Queue_clone))) (if_Queue_clone : PySem.W.isFn K (.ref f_Queue_clone) = true)
    (l_Queue_clone : K.lookup f_Queue_clone = some ⟨ocQueue_clone, odQueue_clone, .func (PySem.W.fnOf "clone" "Queue.clone" (defArgs s_Queue_clone) (defBody s_Queue_clone) (defScope s_Queue_clone) .none kVQueue_clone dcQueue_clone pmQueue_clone anQueue_clone cdQueue_clone ctQueue_clone), slQueue_clone⟩) (c_Queue_clone : PySem.W.codeIn K cdQueue_clone "Queue.clone" = true) (k_Queue_clone : PySem.W.keepIn K (.ref f_Queue_clone) = true)
    {f_LeakyQueue_init : Addr} {odLeakyQueue_init anLeakyQueue_init : Option Addr} {slLeakyQueue_init : Array (Option Value)} {ocLeakyQueue_init kVLeakyQueue_init dcLeakyQueue_init pmLeakyQueue_init ctLeakyQueue_init : Value}
    {td_LeakyQueue_init : Addr} {to_LeakyQueue_init : Value} {tp_LeakyQueue_init : Option Addr} {tn_LeakyQueue_init : Nat} {ts_LeakyQueue_init : Array (Option Value)} {tk_LeakyQueue_init_0 : Tok}
    (t_LeakyQueue_init : K.lookup td_LeakyQueue_init = some ⟨to_LeakyQueue_init, tp_LeakyQueue_init, .seq #[.str "" tk_LeakyQueue_init_0] tn_LeakyQueue_init, ts_LeakyQueue_init⟩)
    {cda_LeakyQueue_init cc_LeakyQueue_init : Addr} {ccl_LeakyQueue_init : Value} {cdd_LeakyQueue_init : Option Addr} {cvs_LeakyQueue_init : Array Value} {ccs_LeakyQueue_init : Array (Option Value)} {tf_LeakyQueue_init : Tok} {cel_LeakyQueue_init : Value} {ced_LeakyQueue_init : Option Addr} {ces_LeakyQueue_init : Array (Option Value)}
    (u_LeakyQueue_init : K.lookup cda_LeakyQueue_init = some ⟨ccl_LeakyQueue_init, cdd_LeakyQueue_init, .fields cvs_LeakyQueue_init, ccs_LeakyQueue_init⟩) (w_LeakyQueue_init : cvs_LeakyQueue_init[2]? = some (.str "/claim/cut.py" tf_LeakyQueue_init)) (x_LeakyQueue_init : K.lookup cc_LeakyQueue_init = some ⟨cel_LeakyQueue_init, ced_LeakyQueue_init, .cell (some (.ref C_LeakyQueue)), ces_LeakyQueue_init⟩)
    (y_LeakyQueue_init : PySem.W.isClsIn K C_LeakyQueue = true) (sb_LeakyQueue_init : PySem.W.mroIn K C_LeakyQueue (.ref C_LeakyQueue) = some true) (op_LeakyQueue_init : PySem.W.nsIn K cStatics "thirdparty.any" = some none) (at_LeakyQueue_init : PySem.W.ks_superIn K C_LeakyQueue C_LeakyQueue "__init__" = some (some (.ref f_Queue_init))) (ty_LeakyQueue_init : PySem.W.typeIn K (.ref f_Queue_init) = some (.type "function")) (fi_LeakyQueue_init : PySem.W.fnIn K f_Queue_init = true)
    (a_LeakyQueue_init : PySem.W.findIn K (.ref C_LeakyQueue) "__init__" = some (some (.ref f_LeakyQueue_init))) (if_LeakyQueue_init : PySem.W.isFn K (.ref f_LeakyQueue_init) = true)
    (l_LeakyQueue_init : K.lookup f_LeakyQueue_init = some ⟨ocLeakyQueue_init, odLeakyQueue_init, .func (PySem.W.ksFn "__init__" "LeakyQueue.__init__" (defArgs s_LeakyQueue_init) (defBody s_LeakyQueue_init) (defScope s_LeakyQueue_init) (.ref td_LeakyQueue_init) kVLeakyQueue_init dcLeakyQueue_init pmLeakyQueue_init anLeakyQueue_init (.ref cda_LeakyQueue_init) ctLeakyQueue_init cc_LeakyQueue_init), slLeakyQueue_init⟩) (c_LeakyQueue_init : PySem.W.codeIn K (.ref cda_LeakyQueue_init) "LeakyQueue.__init__" = true) (k_LeakyQueue_init : PySem.W.keepIn K (.ref f_LeakyQueue_init) = true)
    {f_LeakyQueue_word : Addr} {odLeakyQueue_word anLeakyQueue_word : Option Addr} {slLeakyQueue_word : Array (Option Value)} {ocLeakyQueue_word kVLeakyQueue_word dcLeakyQueue_word pmLeakyQueue_word cdLeakyQueue_word ctLeakyQueue_word : Value}
    {p_LeakyQueue_word : Addr} {reLeakyQueue_word : List Value} (a_LeakyQueue_word : PySem.W.findIn K (.ref C_LeakyQueue) "word" = some (some (.ref p_LeakyQueue_word))) (gt_LeakyQueue_word : PySem.W.specialIn K (.ref p_LeakyQueue_word) "__get__" = some (some (.builtin "property.__get__"))) (tk_LeakyQueue_word : PySem.W.takesIn K (.ref p_LeakyQueue_word) = some true) (rc_LeakyQueue_word : PySem.W.recIn K p_LeakyQueue_word "property" = some (.ref f_LeakyQueue_word :: reLeakyQueue_word))
    (l_LeakyQueue_word : K.lookup f_LeakyQueue_word = some ⟨ocLeakyQueue_word, odLeakyQueue_word, .func (PySem.W.fnOf "word" "LeakyQueue.word" (defArgs s_LeakyQueue_word) (defBody s_LeakyQueue_word) (defScope s_LeakyQueue_word) .none kVLeakyQueue_word dcLeakyQueue_word pmLeakyQueue_word anLeakyQueue_word cdLeakyQueue_word ctLeakyQueue_word), slLeakyQueue_word⟩) (c_LeakyQueue_word : PySem.W.codeIn K cdLeakyQueue_word "LeakyQueue.word" = true) (k_LeakyQueue_word : PySem.W.keepIn K (.ref f_LeakyQueue_word) = true)
    {f_LeakyQueue_put : Addr} {odLeakyQueue_put anLeakyQueue_put : Option Addr} {slLeakyQueue_put : Array (Option Value)} {ocLeakyQueue_put kVLeakyQueue_put dcLeakyQueue_put pmLeakyQueue_put ctLeakyQueue_put : Value}
    {cda_LeakyQueue_put cc_LeakyQueue_put : Addr} {ccl_LeakyQueue_put : Value} {cdd_LeakyQueue_put : Option Addr} {cvs_LeakyQueue_put : Array Value} {ccs_LeakyQueue_put : Array (Option Value)} {tf_LeakyQueue_put : Tok} {cel_LeakyQueue_put : Value} {ced_LeakyQueue_put : Option Addr} {ces_LeakyQueue_put : Array (Option Value)}
    (u_LeakyQueue_put : K.lookup cda_LeakyQueue_put = some ⟨ccl_LeakyQueue_put, cdd_LeakyQueue_put, .fields cvs_LeakyQueue_put, ccs_LeakyQueue_put⟩) (w_LeakyQueue_put : cvs_LeakyQueue_put[2]? = some (.str "/claim/cut.py" tf_LeakyQueue_put)) (x_LeakyQueue_put : K.lookup cc_LeakyQueue_put = some ⟨cel_LeakyQueue_put, ced_LeakyQueue_put, .cell (some (.ref C_LeakyQueue)), ces_LeakyQueue_put⟩)
    (y_LeakyQueue_put : PySem.W.isClsIn K C_LeakyQueue = true) (sb_LeakyQueue_put : PySem.W.mroIn K C_LeakyQueue (.ref C_LeakyQueue) = some true) (op_LeakyQueue_put : PySem.W.nsIn K cStatics "thirdparty.any" = some none) (at_LeakyQueue_put : PySem.W.ks_superIn K C_LeakyQueue C_LeakyQueue "put" = some (some (.ref f_Queue_put))) (ty_LeakyQueue_put : PySem.W.typeIn K (.ref f_Queue_put) = some (.type "function")) (fi_LeakyQueue_put : PySem.W.fnIn K f_Queue_put = true)
    (a_LeakyQueue_put : PySem.W.findIn K (.ref C_LeakyQueue) "put" = some (some (.ref f_LeakyQueue_put))) (if_LeakyQueue_put : PySem.W.isFn K (.ref f_LeakyQueue_put) = true)
    (l_LeakyQueue_put : K.lookup f_LeakyQueue_put = some ⟨ocLeakyQueue_put, odLeakyQueue_put, .func (PySem.W.ksFn "put" "LeakyQueue.put" (defArgs s_LeakyQueue_put) (defBody s_LeakyQueue_put) (defScope s_LeakyQueue_put) .none kVLeakyQueue_put dcLeakyQueue_put pmLeakyQueue_put anLeakyQueue_put (.ref cda_LeakyQueue_put) ctLeakyQueue_put cc_LeakyQueue_put), slLeakyQueue_put⟩) (c_LeakyQueue_put : PySem.W.codeIn K (.ref cda_LeakyQueue_put) "LeakyQueue.put" = true) (k_LeakyQueue_put : PySem.W.keepIn K (.ref f_LeakyQueue_put) = true)
    {f_LeakyQueue_take : Addr} {odLeakyQueue_take anLeakyQueue_take : Option Addr} {slLeakyQueue_take : Array (Option Value)} {ocLeakyQueue_take kVLeakyQueue_take dcLeakyQueue_take pmLeakyQueue_take cdLeakyQueue_take ctLeakyQueue_take : Value}
    (a_LeakyQueue_take : PySem.W.findIn K (.ref C_LeakyQueue) "take" = some (some (.ref f_LeakyQueue_take))) (if_LeakyQueue_take : PySem.W.isFn K (.ref f_LeakyQueue_take) = true)
    (l_LeakyQueue_take : K.lookup f_LeakyQueue_take = some ⟨ocLeakyQueue_take, odLeakyQueue_take, .func (PySem.W.fnOf "take" "LeakyQueue.take" (defArgs s_LeakyQueue_take) (defBody s_LeakyQueue_take) (defScope s_LeakyQueue_take) .none kVLeakyQueue_take dcLeakyQueue_take pmLeakyQueue_take anLeakyQueue_take cdLeakyQueue_take ctLeakyQueue_take), slLeakyQueue_take⟩) (c_LeakyQueue_take : PySem.W.codeIn K cdLeakyQueue_take "LeakyQueue.take" = true) (k_LeakyQueue_take : PySem.W.keepIn K (.ref f_LeakyQueue_take) = true)
    {f_LeakyQueue_run : Addr} {odLeakyQueue_run anLeakyQueue_run : Option Addr} {slLeakyQueue_run : Array (Option Value)} {ocLeakyQueue_run kVLeakyQueue_run dcLeakyQueue_run pmLeakyQueue_run ctLeakyQueue_run : Value}
    {cda_LeakyQueue_run cc_LeakyQueue_run : Addr} {ccl_LeakyQueue_run : Value} {cdd_LeakyQueue_run : Option Addr} {cvs_LeakyQueue_run : Array Value} {ccs_LeakyQueue_run : Array (Option Value)} {tf_LeakyQueue_run : Tok} {cel_LeakyQueue_run : Value} {ced_LeakyQueue_run : Option Addr} {ces_LeakyQueue_run : Array (Option Value)}
    (u_LeakyQueue_run : K.lookup cda_LeakyQueue_run = some ⟨ccl_LeakyQueue_run, cdd_LeakyQueue_run, .fields cvs_LeakyQueue_run, ccs_LeakyQueue_run⟩) (w_LeakyQueue_run : cvs_LeakyQueue_run[2]? = some (.str "/claim/cut.py" tf_LeakyQueue_run)) (x_LeakyQueue_run : K.lookup cc_LeakyQueue_run = some ⟨cel_LeakyQueue_run, ced_LeakyQueue_run, .cell (some (.ref C_LeakyQueue)), ces_LeakyQueue_run⟩)
    (y_LeakyQueue_run : PySem.W.isClsIn K C_LeakyQueue = true) (sb_LeakyQueue_run : PySem.W.mroIn K C_LeakyQueue (.ref C_LeakyQueue) = some true) (op_LeakyQueue_run : PySem.W.nsIn K cStatics "thirdparty.any" = some none) (at_LeakyQueue_run : PySem.W.ks_superIn K C_LeakyQueue C_LeakyQueue "run" = some (some (.ref f_Queue_run))) (ty_LeakyQueue_run : PySem.W.typeIn K (.ref f_Queue_run) = some (.type "function")) (fi_LeakyQueue_run : PySem.W.fnIn K f_Queue_run = true)
    (a_LeakyQueue_run : PySem.W.findIn K (.ref C_LeakyQueue) "run" = some (some (.ref f_LeakyQueue_run))) (if_LeakyQueue_run : PySem.W.isFn K (.ref f_LeakyQueue_run) = true)
    (l_LeakyQueue_run : K.lookup f_LeakyQueue_run = some ⟨ocLeakyQueue_run, odLeakyQueue_run, .func (PySem.W.ksFn "run" "LeakyQueue.run" (defArgs s_LeakyQueue_run) (defBody s_LeakyQueue_run) (defScope s_LeakyQueue_run) .none kVLeakyQueue_run dcLeakyQueue_run pmLeakyQueue_run anLeakyQueue_run (.ref cda_LeakyQueue_run) ctLeakyQueue_run cc_LeakyQueue_run), slLeakyQueue_run⟩) (c_LeakyQueue_run : PySem.W.codeIn K (.ref cda_LeakyQueue_run) "LeakyQueue.run" = true) (k_LeakyQueue_run : PySem.W.keepIn K (.ref f_LeakyQueue_run) = true)
    {f_LeakyQueue_clone : Addr} {odLeakyQueue_clone anLeakyQueue_clone : Option Addr} {slLeakyQueue_clone : Array (Option Value)} {ocLeakyQueue_clone kVLeakyQueue_clone dcLeakyQueue_clone pmLeakyQueue_clone cdLeakyQueue_clone ctLeakyQueue_clone : Value}
    (a_LeakyQueue_clone : PySem.W.findIn K (.ref C_LeakyQueue) "clone" = some (some (.ref f_LeakyQueue_clone))) (if_LeakyQueue_clone : PySem.W.isFn K (.ref f_LeakyQueue_clone) = true)
    (l_LeakyQueue_clone : K.lookup f_LeakyQueue_clone = some ⟨ocLeakyQueue_clone, odLeakyQueue_clone, .func (PySem.W.fnOf "clone" "LeakyQueue.clone" (defArgs s_LeakyQueue_clone) (defBody s_LeakyQueue_clone) (defScope s_LeakyQueue_clone) .none kVLeakyQueue_clone dcLeakyQueue_clone pmLeakyQueue_clone anLeakyQueue_clone cdLeakyQueue_clone ctLeakyQueue_clone), slLeakyQueue_clone⟩) (c_LeakyQueue_clone : PySem.W.codeIn K cdLeakyQueue_clone "LeakyQueue.clone" = true) (k_LeakyQueue_clone : PySem.W.keepIn K (.ref f_LeakyQueue_clone) = true)
    {f_LeakyQueue_len : Addr} {odLeakyQueue_len anLeakyQueue_len : Option Addr} {slLeakyQueue_len : Array (Option Value)} {ocLeakyQueue_len kVLeakyQueue_len dcLeakyQueue_len pmLeakyQueue_len cdLeakyQueue_len ctLeakyQueue_len : Value}
    (a_LeakyQueue_len : PySem.W.findIn K (.ref C_LeakyQueue) "__len__" = some (some (.ref f_LeakyQueue_len))) (if_LeakyQueue_len : PySem.W.isFn K (.ref f_LeakyQueue_len) = true)
    (l_LeakyQueue_len : K.lookup f_LeakyQueue_len = some ⟨ocLeakyQueue_len, odLeakyQueue_len, .func (PySem.W.fnOf "__len__" "LeakyQueue.__len__" (defArgs s_LeakyQueue_len) (defBody s_LeakyQueue_len) (defScope s_LeakyQueue_len) .none kVLeakyQueue_len dcLeakyQueue_len pmLeakyQueue_len anLeakyQueue_len cdLeakyQueue_len ctLeakyQueue_len), slLeakyQueue_len⟩) (c_LeakyQueue_len : PySem.W.codeIn K cdLeakyQueue_len "LeakyQueue.__len__" = true) (k_LeakyQueue_len : PySem.W.keepIn K (.ref f_LeakyQueue_len) = true)
    {f_Session_init : Addr} {odSession_init anSession_init : Option Addr} {slSession_init : Array (Option Value)} {ocSession_init kVSession_init dcSession_init pmSession_init cdSession_init ctSession_init : Value}
    {td_Session_init : Addr} {to_Session_init : Value} {tp_Session_init : Option Addr} {tn_Session_init : Nat} {ts_Session_init : Array (Option Value)} {tk_Session_init_0 : Tok}
    (t_Session_init : K.lookup td_Session_init = some ⟨to_Session_init, tp_Session_init, .seq #[.str "" tk_Session_init_0] tn_Session_init, ts_Session_init⟩)
    (a_Session_init : PySem.W.findIn K (.ref C_Session) "__init__" = some (some (.ref f_Session_init))) (if_Session_init : PySem.W.isFn K (.ref f_Session_init) = true)
    (l_Session_init : K.lookup f_Session_init = some ⟨ocSession_init, odSession_init, .func (PySem.W.fnOf "__init__" "Session.__init__" (defArgs s_Session_init) (defBody s_Session_init) (defScope s_Session_init) (.ref td_Session_init) kVSession_init dcSession_init pmSession_init anSession_init cdSession_init ctSession_init), slSession_init⟩) (c_Session_init : PySem.W.codeIn K cdSession_init "Session.__init__" = true) (k_Session_init : PySem.W.keepIn K (.ref f_Session_init) = true)
    {f_Session_move : Addr} {odSession_move anSession_move : Option Addr} {slSession_move : Array (Option Value)} {ocSession_move kVSession_move dcSession_move pmSession_move cdSession_move ctSession_move : Value}
    (a_Session_move : PySem.W.findIn K (.ref C_Session) "move" = some (some (.ref f_Session_move))) (if_Session_move : PySem.W.isFn K (.ref f_Session_move) = true)
    (l_Session_move : K.lookup f_Session_move = some ⟨ocSession_move, odSession_move, .func (PySem.W.fnOf "move" "Session.move" (defArgs s_Session_move) (defBody s_Session_move) (defScope s_Session_move) .none kVSession_move dcSession_move pmSession_move anSession_move cdSession_move ctSession_move), slSession_move⟩) (c_Session_move : PySem.W.codeIn K cdSession_move "Session.move" = true) (k_Session_move : PySem.W.keepIn K (.ref f_Session_move) = true)
    {f_Session_word : Addr} {odSession_word anSession_word : Option Addr} {slSession_word : Array (Option Value)} {ocSession_word kVSession_word dcSession_word pmSession_word cdSession_word ctSession_word : Value}
    {p_Session_word : Addr} {reSession_word : List Value} (a_Session_word : PySem.W.findIn K (.ref C_Session) "word" = some (some (.ref p_Session_word))) (gt_Session_word : PySem.W.specialIn K (.ref p_Session_word) "__get__" = some (some (.builtin "property.__get__"))) (tk_Session_word : PySem.W.takesIn K (.ref p_Session_word) = some true) (rc_Session_word : PySem.W.recIn K p_Session_word "property" = some (.ref f_Session_word :: reSession_word))
    (l_Session_word : K.lookup f_Session_word = some ⟨ocSession_word, odSession_word, .func (PySem.W.fnOf "word" "Session.word" (defArgs s_Session_word) (defBody s_Session_word) (defScope s_Session_word) .none kVSession_word dcSession_word pmSession_word anSession_word cdSession_word ctSession_word), slSession_word⟩) (c_Session_word : PySem.W.codeIn K cdSession_word "Session.word" = true) (k_Session_word : PySem.W.keepIn K (.ref f_Session_word) = true)
    {f_Session_program : Addr} {odSession_program anSession_program : Option Addr} {slSession_program : Array (Option Value)} {ocSession_program kVSession_program dcSession_program pmSession_program cdSession_program ctSession_program : Value}
    {p_Session_program : Addr} {reSession_program : List Value} (a_Session_program : PySem.W.findIn K (.ref C_Session) "program" = some (some (.ref p_Session_program))) (gt_Session_program : PySem.W.specialIn K (.ref p_Session_program) "__get__" = some (some (.builtin "property.__get__"))) (tk_Session_program : PySem.W.takesIn K (.ref p_Session_program) = some true) (rc_Session_program : PySem.W.recIn K p_Session_program "property" = some (.ref f_Session_program :: reSession_program))
    (l_Session_program : K.lookup f_Session_program = some ⟨ocSession_program, odSession_program, .func (PySem.W.fnOf "program" "Session.program" (defArgs s_Session_program) (defBody s_Session_program) (defScope s_Session_program) .none kVSession_program dcSession_program pmSession_program anSession_program cdSession_program ctSession_program), slSession_program⟩) (c_Session_program : PySem.W.codeIn K cdSession_program "Session.program" = true) (k_Session_program : PySem.W.keepIn K (.ref f_Session_program) = true)
    {f_Session_effect : Addr} {odSession_effect anSession_effect : Option Addr} {slSession_effect : Array (Option Value)} {ocSession_effect kVSession_effect dcSession_effect pmSession_effect cdSession_effect ctSession_effect : Value}
    {p_Session_effect : Addr} {reSession_effect : List Value} (a_Session_effect : PySem.W.findIn K (.ref C_Session) "effect" = some (some (.ref p_Session_effect))) (gt_Session_effect : PySem.W.specialIn K (.ref p_Session_effect) "__get__" = some (some (.builtin "property.__get__"))) (tk_Session_effect : PySem.W.takesIn K (.ref p_Session_effect) = some true) (rc_Session_effect : PySem.W.recIn K p_Session_effect "property" = some (.ref f_Session_effect :: reSession_effect))
    (l_Session_effect : K.lookup f_Session_effect = some ⟨ocSession_effect, odSession_effect, .func (PySem.W.fnOf "effect" "Session.effect" (defArgs s_Session_effect) (defBody s_Session_effect) (defScope s_Session_effect) .none kVSession_effect dcSession_effect pmSession_effect anSession_effect cdSession_effect ctSession_effect), slSession_effect⟩) (c_Session_effect : PySem.W.codeIn K cdSession_effect "Session.effect" = true) (k_Session_effect : PySem.W.keepIn K (.ref f_Session_effect) = true)
    {f_Session_run : Addr} {odSession_run anSession_run : Option Addr} {slSession_run : Array (Option Value)} {ocSession_run kVSession_run dcSession_run pmSession_run cdSession_run ctSession_run : Value}
    (a_Session_run : PySem.W.findIn K (.ref C_Session) "run" = some (some (.ref f_Session_run))) (if_Session_run : PySem.W.isFn K (.ref f_Session_run) = true)
    (l_Session_run : K.lookup f_Session_run = some ⟨ocSession_run, odSession_run, .func (PySem.W.fnOf "run" "Session.run" (defArgs s_Session_run) (defBody s_Session_run) (defScope s_Session_run) .none kVSession_run dcSession_run pmSession_run anSession_run cdSession_run ctSession_run), slSession_run⟩) (c_Session_run : PySem.W.codeIn K cdSession_run "Session.run" = true) (k_Session_run : PySem.W.keepIn K (.ref f_Session_run) = true)
    {f_Session_undo : Addr} {odSession_undo anSession_undo : Option Addr} {slSession_undo : Array (Option Value)} {ocSession_undo kVSession_undo dcSession_undo pmSession_undo cdSession_undo ctSession_undo : Value}
    {td_Session_undo : Addr} {to_Session_undo : Value} {tp_Session_undo : Option Addr} {tn_Session_undo : Nat} {ts_Session_undo : Array (Option Value)} {tk_Session_undo_0 : Tok}
    (t_Session_undo : K.lookup td_Session_undo = some ⟨to_Session_undo, tp_Session_undo, .seq #[.int 1 tk_Session_undo_0] tn_Session_undo, ts_Session_undo⟩)
    (a_Session_undo : PySem.W.findIn K (.ref C_Session) "undo" = some (some (.ref f_Session_undo))) (if_Session_undo : PySem.W.isFn K (.ref f_Session_undo) = true)
    (l_Session_undo : K.lookup f_Session_undo = some ⟨ocSession_undo, odSession_undo, .func (PySem.W.fnOf "undo" "Session.undo" (defArgs s_Session_undo) (defBody s_Session_undo) (defScope s_Session_undo) (.ref td_Session_undo) kVSession_undo dcSession_undo pmSession_undo anSession_undo cdSession_undo ctSession_undo), slSession_undo⟩) (c_Session_undo : PySem.W.codeIn K cdSession_undo "Session.undo" = true) (k_Session_undo : PySem.W.keepIn K (.ref f_Session_undo) = true)
    {f_Session_redo : Addr} {odSession_redo anSession_redo : Option Addr} {slSession_redo : Array (Option Value)} {ocSession_redo kVSession_redo dcSession_redo pmSession_redo cdSession_redo ctSession_redo : Value}
    {td_Session_redo : Addr} {to_Session_redo : Value} {tp_Session_redo : Option Addr} {tn_Session_redo : Nat} {ts_Session_redo : Array (Option Value)} {tk_Session_redo_0 : Tok}
    (t_Session_redo : K.lookup td_Session_redo = some ⟨to_Session_redo, tp_Session_redo, .seq #[.int 1 tk_Session_redo_0] tn_Session_redo, ts_Session_redo⟩)
    (a_Session_redo : PySem.W.findIn K (.ref C_Session) "redo" = some (some (.ref f_Session_redo))) (if_Session_redo : PySem.W.isFn K (.ref f_Session_redo) = true)
    (l_Session_redo : K.lookup f_Session_redo = some ⟨ocSession_redo, odSession_redo, .func (PySem.W.fnOf "redo" "Session.redo" (defArgs s_Session_redo) (defBody s_Session_redo) (defScope s_Session_redo) (.ref td_Session_redo) kVSession_redo dcSession_redo pmSession_redo anSession_redo cdSession_redo ctSession_redo), slSession_redo⟩) (c_Session_redo : PySem.W.codeIn K cdSession_redo "Session.redo" = true) (k_Session_redo : PySem.W.keepIn K (.ref f_Session_redo) = true)
    {f_Session_eq : Addr} {odSession_eq anSession_eq : Option Addr} {slSession_eq : Array (Option Value)} {ocSession_eq kVSession_eq dcSession_eq pmSession_eq cdSession_eq ctSession_eq : Value}
    (a_Session_eq : PySem.W.findIn K (.ref C_Session) "__eq__" = some (some (.ref f_Session_eq))) (if_Session_eq : PySem.W.isFn K (.ref f_Session_eq) = true)
    (l_Session_eq : K.lookup f_Session_eq = some ⟨ocSession_eq, odSession_eq, .func (PySem.W.fnOf "__eq__" "Session.__eq__" (defArgs s_Session_eq) (defBody s_Session_eq) (defScope s_Session_eq) .none kVSession_eq dcSession_eq pmSession_eq anSession_eq cdSession_eq ctSession_eq), slSession_eq⟩) (c_Session_eq : PySem.W.codeIn K cdSession_eq "Session.__eq__" = true) (k_Session_eq : PySem.W.keepIn K (.ref f_Session_eq) = true)
    {f_Session_len : Addr} {odSession_len anSession_len : Option Addr} {slSession_len : Array (Option Value)} {ocSession_len kVSession_len dcSession_len pmSession_len cdSession_len ctSession_len : Value}
    (a_Session_len : PySem.W.findIn K (.ref C_Session) "__len__" = some (some (.ref f_Session_len))) (if_Session_len : PySem.W.isFn K (.ref f_Session_len) = true)
    (l_Session_len : K.lookup f_Session_len = some ⟨ocSession_len, odSession_len, .func (PySem.W.fnOf "__len__" "Session.__len__" (defArgs s_Session_len) (defBody s_Session_len) (defScope s_Session_len) .none kVSession_len dcSession_len pmSession_len anSession_len cdSession_len ctSession_len), slSession_len⟩) (c_Session_len : PySem.W.codeIn K cdSession_len "Session.__len__" = true) (k_Session_len : PySem.W.keepIn K (.ref f_Session_len) = true)
    {f_Session_repr : Addr} {odSession_repr anSession_repr : Option Addr} {slSession_repr : Array (Option Value)} {ocSession_repr kVSession_repr dcSession_repr pmSession_repr cdSession_repr ctSession_repr : Value}
    (a_Session_repr : PySem.W.findIn K (.ref C_Session) "__repr__" = some (some (.ref f_Session_repr))) (if_Session_repr : PySem.W.isFn K (.ref f_Session_repr) = true)
    (l_Session_repr : K.lookup f_Session_repr = some ⟨ocSession_repr, odSession_repr, .func (PySem.W.fnOf "__repr__" "Session.__repr__" (defArgs s_Session_repr) (defBody s_Session_repr) (defScope s_Session_repr) .none kVSession_repr dcSession_repr pmSession_repr anSession_repr cdSession_repr ctSession_repr), slSession_repr⟩) (c_Session_repr : PySem.W.codeIn K cdSession_repr "Session.__repr__" = true) (k_Session_repr : PySem.W.keepIn K (.ref f_Session_repr) = true)
    (ia_LeakyQueue_perform : PySem.W.findIn K (.ref C_LeakyQueue) "perform" = some (some (.ref f_Queue_perform)))
    : Txt K mg ⟨C_Effect, C_Queue, C_LeakyQueue, C_Session, f_Effect_init, (PySem.W.fnOf "__init__" "Effect.__init__" (defArgs s_Effect_init) (defBody s_Effect_init) (defScope s_Effect_init) .none kVEffect_init dcEffect_init pmEffect_init anEffect_init cdEffect_init ctEffect_init), f_Effect_of, (PySem.W.fnOf "of" "Effect.of" (defArgs s_Effect_of) (defBody s_Effect_of) (defScope s_Effect_of) .none kVEffect_of dcEffect_of pmEffect_of anEffect_of cdEffect_of ctEffect_of), p_Effect_of, f_Effect_is_core, (PySem.W.fnOf "is_core" "Effect.is_core" (defArgs s_Effect_is_core) (defBody s_Effect_is_core) (defScope s_Effect_is_core) .none kVEffect_is_core dcEffect_is_core pmEffect_is_core anEffect_is_core cdEffect_is_core ctEffect_is_core), p_Effect_is_core, f_Effect_apply, (PySem.W.fnOf "apply" "Effect.apply" (defArgs s_Effect_apply) (defBody s_Effect_apply) (defScope s_Effect_apply) .none kVEffect_apply dcEffect_apply pmEffect_apply anEffect_apply cdEffect_apply ctEffect_apply), f_Effect_eq, (PySem.W.fnOf "__eq__" "Effect.__eq__" (defArgs s_Effect_eq) (defBody s_Effect_eq) (defScope s_Effect_eq) .none kVEffect_eq dcEffect_eq pmEffect_eq anEffect_eq cdEffect_eq ctEffect_eq), f_Effect_repr, (PySem.W.fnOf "__repr__" "Effect.__repr__" (defArgs s_Effect_repr) (defBody s_Effect_repr) (defScope s_Effect_repr) .none kVEffect_repr dcEffect_repr pmEffect_repr anEffect_repr cdEffect_repr ctEffect_repr), f_Queue_init, (PySem.W.fnOf "__init__" "Queue.__init__" (defArgs s_Queue_init) (defBody s_Queue_init) (defScope s_Queue_init) (.ref td_Queue_init) kVQueue_init dcQueue_init pmQueue_init anQueue_init cdQueue_init ctQueue_init), f_Queue_word, (PySem.W.fnOf "word" "Queue.word" (defArgs s_Queue_word) (defBody s_Queue_word) (defScope s_Queue_word) .none kVQueue_word dcQueue_word pmQueue_word anQueue_word cdQueue_word ctQueue_word), p_Queue_word, f_Queue_put, (PySem.W.fnOf "put" "Queue.put" (defArgs s_Queue_put) (defBody s_Queue_put) (defScope s_Queue_put) .none kVQueue_put dcQueue_put pmQueue_put anQueue_put cdQueue_put ctQueue_put), f_Queue_take, (PySem.W.fnOf "take" "Queue.take" (defArgs s_Queue_take) (defBody s_Queue_take) (defScope s_Queue_take) .none kVQueue_take dcQueue_take pmQueue_take anQueue_take cdQueue_take ctQueue_take), f_Queue_perform, (PySem.W.fnOf "perform" "Queue.perform" (defArgs s_Queue_perform) (defBody s_Queue_perform) (defScope s_Queue_perform) .none kVQueue_perform dcQueue_perform pmQueue_perform anQueue_perform cdQueue_perform ctQueue_perform), f_Queue_run, (PySem.W.fnOf "run" "Queue.run" (defArgs s_Queue_run) (defBody s_Queue_run) (defScope s_Queue_run) .none kVQueue_run dcQueue_run pmQueue_run anQueue_run cdQueue_run ctQueue_run), f_Queue_clone, (PySem.W.fnOf "clone" "Queue.clone" (defArgs s_Queue_clone) (defBody s_Queue_clone) (defScope s_Queue_clone) .none kVQueue_clone dcQueue_clone pmQueue_clone anQueue_clone cdQueue_clone ctQueue_clone), f_LeakyQueue_init, (PySem.W.ksFn "__init__" "LeakyQueue.__init__" (defArgs s_LeakyQueue_init) (defBody s_LeakyQueue_init) (defScope s_LeakyQueue_init) (.ref td_LeakyQueue_init) kVLeakyQueue_init dcLeakyQueue_init pmLeakyQueue_init anLeakyQueue_init (.ref cda_LeakyQueue_init) ctLeakyQueue_init cc_LeakyQueue_init), f_LeakyQueue_word, (PySem.W.fnOf "word" "LeakyQueue.word" (defArgs s_LeakyQueue_word) (defBody s_LeakyQueue_word) (defScope s_LeakyQueue_word) .none kVLeakyQueue_word dcLeakyQueue_word pmLeakyQueue_word anLeakyQueue_word cdLeakyQueue_word ctLeakyQueue_word), p_LeakyQueue_word, f_LeakyQueue_put, (PySem.W.ksFn "put" "LeakyQueue.put" (defArgs s_LeakyQueue_put) (defBody s_LeakyQueue_put) (defScope s_LeakyQueue_put) .none kVLeakyQueue_put dcLeakyQueue_put pmLeakyQueue_put anLeakyQueue_put (.ref cda_LeakyQueue_put) ctLeakyQueue_put cc_LeakyQueue_put), f_LeakyQueue_take, (PySem.W.fnOf "take" "LeakyQueue.take" (defArgs s_LeakyQueue_take) (defBody s_LeakyQueue_take) (defScope s_LeakyQueue_take) .none kVLeakyQueue_take dcLeakyQueue_take pmLeakyQueue_take anLeakyQueue_take cdLeakyQueue_take ctLeakyQueue_take), f_LeakyQueue_run, (PySem.W.ksFn "run" "LeakyQueue.run" (defArgs s_LeakyQueue_run) (defBody s_LeakyQueue_run) (defScope s_LeakyQueue_run) .none kVLeakyQueue_run dcLeakyQueue_run pmLeakyQueue_run anLeakyQueue_run (.ref cda_LeakyQueue_run) ctLeakyQueue_run cc_LeakyQueue_run), f_LeakyQueue_clone, (PySem.W.fnOf "clone" "LeakyQueue.clone" (defArgs s_LeakyQueue_clone) (defBody s_LeakyQueue_clone) (defScope s_LeakyQueue_clone) .none kVLeakyQueue_clone dcLeakyQueue_clone pmLeakyQueue_clone anLeakyQueue_clone cdLeakyQueue_clone ctLeakyQueue_clone), f_LeakyQueue_len, (PySem.W.fnOf "__len__" "LeakyQueue.__len__" (defArgs s_LeakyQueue_len) (defBody s_LeakyQueue_len) (defScope s_LeakyQueue_len) .none kVLeakyQueue_len dcLeakyQueue_len pmLeakyQueue_len anLeakyQueue_len cdLeakyQueue_len ctLeakyQueue_len), f_Session_init, (PySem.W.fnOf "__init__" "Session.__init__" (defArgs s_Session_init) (defBody s_Session_init) (defScope s_Session_init) (.ref td_Session_init) kVSession_init dcSession_init pmSession_init anSession_init cdSession_init ctSession_init), f_Session_move, (PySem.W.fnOf "move" "Session.move" (defArgs s_Session_move) (defBody s_Session_move) (defScope s_Session_move) .none kVSession_move dcSession_move pmSession_move anSession_move cdSession_move ctSession_move), f_Session_word, (PySem.W.fnOf "word" "Session.word" (defArgs s_Session_word) (defBody s_Session_word) (defScope s_Session_word) .none kVSession_word dcSession_word pmSession_word anSession_word cdSession_word ctSession_word), p_Session_word, f_Session_program, (PySem.W.fnOf "program" "Session.program" (defArgs s_Session_program) (defBody s_Session_program) (defScope s_Session_program) .none kVSession_program dcSession_program pmSession_program anSession_program cdSession_program ctSession_program), p_Session_program, f_Session_effect, (PySem.W.fnOf "effect" "Session.effect" (defArgs s_Session_effect) (defBody s_Session_effect) (defScope s_Session_effect) .none kVSession_effect dcSession_effect pmSession_effect anSession_effect cdSession_effect ctSession_effect), p_Session_effect, f_Session_run, (PySem.W.fnOf "run" "Session.run" (defArgs s_Session_run) (defBody s_Session_run) (defScope s_Session_run) .none kVSession_run dcSession_run pmSession_run anSession_run cdSession_run ctSession_run), f_Session_undo, (PySem.W.fnOf "undo" "Session.undo" (defArgs s_Session_undo) (defBody s_Session_undo) (defScope s_Session_undo) (.ref td_Session_undo) kVSession_undo dcSession_undo pmSession_undo anSession_undo cdSession_undo ctSession_undo), f_Session_redo, (PySem.W.fnOf "redo" "Session.redo" (defArgs s_Session_redo) (defBody s_Session_redo) (defScope s_Session_redo) (.ref td_Session_redo) kVSession_redo dcSession_redo pmSession_redo anSession_redo cdSession_redo ctSession_redo), f_Session_eq, (PySem.W.fnOf "__eq__" "Session.__eq__" (defArgs s_Session_eq) (defBody s_Session_eq) (defScope s_Session_eq) .none kVSession_eq dcSession_eq pmSession_eq anSession_eq cdSession_eq ctSession_eq), f_Session_len, (PySem.W.fnOf "__len__" "Session.__len__" (defArgs s_Session_len) (defBody s_Session_len) (defScope s_Session_len) .none kVSession_len dcSession_len pmSession_len anSession_len cdSession_len ctSession_len), f_Session_repr, (PySem.W.fnOf "__repr__" "Session.__repr__" (defArgs s_Session_repr) (defBody s_Session_repr) (defScope s_Session_repr) .none kVSession_repr dcSession_repr pmSession_repr anSession_repr cdSession_repr ctSession_repr), tv_Effect_MAX_ITEMS, f1, (PySem.W.fnOf "is_integer" "is_integer" (defArgs s_is_integer) (defBody s_is_integer) (defScope s_is_integer) .none kV1 dc1 pm1 an1 cd1 ct1), f2, (PySem.W.fnOf "is_integer_within" "is_integer_within" (defArgs s_is_integer_within) (defBody s_is_integer_within) (defScope s_is_integer_within) .none kV2 dc2 pm2 an2 cd2 ct2), f3, (PySem.W.fnOf "require_number_from" "require_number_from" (defArgs s_require_number_from) (defBody s_require_number_from) (defScope s_require_number_from) .none kV3 dc3 pm3 an3 cd3 ct3), f4, (PySem.W.fnOf "is_string_of" "is_string_of" (defArgs s_is_string_of) (defBody s_is_string_of) (defScope s_is_string_of) (.ref td4) kV4 dc4 pm4 an4 cd4 ct4), f5, (PySem.W.fnOf "is_word" "is_word" (defArgs s_is_word) (defBody s_is_word) (defScope s_is_word) .none kV5 dc5 pm5 an5 cd5 ct5), f6, (PySem.W.fnOf "require_word" "require_word" (defArgs s_require_word) (defBody s_require_word) (defScope s_require_word) .none kV6 dc6 pm6 an6 cd6 ct6), f7, (PySem.W.fnOf "earliest_positions" "earliest_positions" (defArgs s_earliest_positions) (defBody s_earliest_positions) (defScope s_earliest_positions) .none kV7 dc7 pm7 an7 cd7 ct7), f8, (PySem.W.fnOf "end_of" "end_of" (defArgs s_end_of) (defBody s_end_of) (defScope s_end_of) .none kV8 dc8 pm8 an8 cd8 ct8), f9, (PySem.W.fnOf "embeds" "embeds" (defArgs s_embeds) (defBody s_embeds) (defScope s_embeds) .none kV9 dc9 pm9 an9 cd9 ct9), f10, (PySem.W.fnOf "is_program" "is_program" (defArgs s_is_program) (defBody s_is_program) (defScope s_is_program) .none kV10 dc10 pm10 an10 cd10 ct10), f11, (PySem.W.fnOf "require_program" "require_program" (defArgs s_require_program) (defBody s_require_program) (defScope s_require_program) .none kV11 dc11 pm11 an11 cd11 ct11), f12, (PySem.W.fnOf "take_items" "take_items" (defArgs s_take_items) (defBody s_take_items) (defScope s_take_items) .none kV12 dc12 pm12 an12 cd12 ct12), f13, (PySem.W.fnOf "put_items" "put_items" (defArgs s_put_items) (defBody s_put_items) (defScope s_put_items) .none kV13 dc13 pm13 an13 cd13 ct13), f14, (PySem.W.fnOf "counts_before_takes" "counts_before_takes" (defArgs s_counts_before_takes) (defBody s_counts_before_takes) (defScope s_counts_before_takes) .none kV14 dc14 pm14 an14 cd14 ct14), f15, (PySem.W.fnOf "is_fitting_core" "is_fitting_core" (defArgs s_is_fitting_core) (defBody s_is_fitting_core) (defScope s_is_fitting_core) .none kV15 dc15 pm15 an15 cd15 ct15), f16, (PySem.W.fnOf "program_core" "program_core" (defArgs s_program_core) (defBody s_program_core) (defScope s_program_core) .none kV16 dc16 pm16 an16 cd16 ct16), f17, (PySem.W.fnOf "program_values" "program_values" (defArgs s_program_values) (defBody s_program_values) (defScope s_program_values) .none kV17 dc17 pm17 an17 cd17 ct17), f18, (PySem.W.fnOf "effect_result" "effect_result" (defArgs s_effect_result) (defBody s_effect_result) (defScope s_effect_result) .none kV18 dc18 pm18 an18 cd18 ct18), f19, (PySem.W.fnOf "result_of_puts" "result_of_puts" (defArgs s_result_of_puts) (defBody s_result_of_puts) (defScope s_result_of_puts) .none kV19 dc19 pm19 an19 cd19 ct19), f20, (PySem.W.fnOf "perform_best" "perform_best" (defArgs s_perform_best) (defBody s_perform_best) (defScope s_perform_best) .none kV20 dc20 pm20 an20 cd20 ct20), f21, (PySem.W.fnOf "unlimited_result" "unlimited_result" (defArgs s_unlimited_result) (defBody s_unlimited_result) (defScope s_unlimited_result) .none kV21 dc21 pm21 an21 cd21 ct21), f22, (PySem.W.fnOf "within_limit" "within_limit" (defArgs s_within_limit) (defBody s_within_limit) (defScope s_within_limit) .none kV22 dc22 pm22 an22 cd22 ct22), f23, (PySem.W.fnOf "best_result" "best_result" (defArgs s_best_result) (defBody s_best_result) (defScope s_best_result) .none kV23 dc23 pm23 an23 cd23 ct23), f24, (PySem.W.fnOf "require_item" "require_item" (defArgs s_require_item) (defBody s_require_item) (defScope s_require_item) .none kV24 dc24 pm24 an24 cd24 ct24), f25, (PySem.W.fnOf "require_count" "require_count" (defArgs s_require_count) (defBody s_require_count) (defScope s_require_count) .none kV25 dc25 pm25 an25 cd25 ct25), f26, (PySem.W.fnOf "_law_pool" "_law_pool" (defArgs s_Lpool) (defBody s_Lpool) (defScope s_Lpool) .none kV26 dc26 pm26 an26 cd26 ct26), f27, (PySem.W.fnOf "_law_draw" "_law_draw" (defArgs s_Ldraw) (defBody s_Ldraw) (defScope s_Ldraw) .none kV27 dc27 pm27 an27 cd27 ct27), f28, (PySem.W.fnOf "_law_letters" "_law_letters" (defArgs s_Lletters) (defBody s_Lletters) (defScope s_Lletters) .none kV28 dc28 pm28 an28 cd28 ct28), f29, (PySem.W.fnOf "_law_items" "_law_items" (defArgs s_Litems) (defBody s_Litems) (defScope s_Litems) .none kV29 dc29 pm29 an29 cd29 ct29), f30, (PySem.W.fnOf "_law_moved" "_law_moved" (defArgs s_Lmoved) (defBody s_Lmoved) (defScope s_Lmoved) .none kV30 dc30 pm30 an30 cd30 ct30), f31, (PySem.W.fnOf "_law_shown" "_law_shown" (defArgs s_Lshown) (defBody s_Lshown) (defScope s_Lshown) .none kV31 dc31 pm31 an31 cd31 ct31), f32, (PySem.W.fnOf "_law_counted" "_law_counted" (defArgs s_Lcounted) (defBody s_Lcounted) (defScope s_Lcounted) .none kV32 dc32 pm32 an32 cd32 ct32), f33, (PySem.W.fnOf "law" "law" (defArgs s_law) (defBody s_law) (defScope s_law) .none kV33 dc33 pm33 an33 cd33 ct33), t_ITEMS, t_MAX_LENGTH, t_STEPS, C_LeakError, C_InvalidWord, I_InvalidWord, C_InvalidProgram, I_InvalidProgram, C_InvalidCore, I_InvalidCore, C_InvalidNumber, I_InvalidNumber, C_Missing, I_Missing, C_LimitExceeded, I_LimitExceeded, C_Failed, I_Failed, C_NothingToUndo, I_NothingToUndo⟩ := by
  have F1 := fun_mk (st := s_is_integer) l1 c1 k1
  have b1 := F1.binds (ps := ["value"]) fun _ _ _ _ _ _ us hl => match us, hl with | [_], _ => rfl
  have F2 := fun_mk (st := s_is_integer_within) l2 c2 k2
  have b2 := F2.binds (ps := ["value", "low", "high"]) fun _ _ _ _ _ _ us hl => match us, hl with | [_, _, _], _ => rfl
  have F3 := fun_mk (st := s_require_number_from) l3 c3 k3
  have b3 := F3.binds (ps := ["value", "low"]) fun _ _ _ _ _ _ us hl => match us, hl with | [_, _], _ => rfl
  have F4 : FunD K "is_string_of" "is_string_of" (defArgs s_is_string_of) (defBody s_is_string_of) (defScope s_is_string_of) [.int 400] [] f4 (PySem.W.fnOf "is_string_of" "is_string_of" (defArgs s_is_string_of) (defBody s_is_string_of) (defScope s_is_string_of) (.ref td4) kV4 dc4 pm4 an4 cd4 ct4) := ⟨⟨_, _, _, _, _, _, _, _, _, _, rfl, l4, c4, Or.inr ⟨(fun h => nomatch h), _, _, [.int 400 tk4_0], _, rfl, t4, rfl, (.cons ⟨_, rfl⟩ .nil)⟩, Or.inl rfl⟩, k4⟩
  have b4 := F4.binds1 (ps := ["value", "letters", "longest"]) 2 0 (fun h => nomatch h) rfl fun _ _ _ _ _ _ _ us its hl hi => match us, its, hl, hi with | [_, _], [_], _, _ => ⟨_, rfl, rfl⟩
  have F5 := fun_mk (st := s_is_word) l5 c5 k5
  have b5 := F5.binds (ps := ["value"]) fun _ _ _ _ _ _ us hl => match us, hl with | [_], _ => rfl
  have F6 := fun_mk (st := s_require_word) l6 c6 k6
  have b6 := F6.binds (ps := ["value"]) fun _ _ _ _ _ _ us hl => match us, hl with | [_], _ => rfl
  have F7 := fun_mk (st := s_earliest_positions) l7 c7 k7
  have b7 := F7.binds (ps := ["part", "word"]) fun _ _ _ _ _ _ us hl => match us, hl with | [_, _], _ => rfl
  have F8 := fun_mk (st := s_end_of) l8 c8 k8
  have b8 := F8.binds (ps := ["positions"]) fun _ _ _ _ _ _ us hl => match us, hl with | [_], _ => rfl
  have F9 := fun_mk (st := s_embeds) l9 c9 k9
  have b9 := F9.binds (ps := ["part", "word"]) fun _ _ _ _ _ _ us hl => match us, hl with | [_, _], _ => rfl
  have F10 := fun_mk (st := s_is_program) l10 c10 k10
  have b10 := F10.binds (ps := ["value"]) fun _ _ _ _ _ _ us hl => match us, hl with | [_], _ => rfl
  have F11 := fun_mk (st := s_require_program) l11 c11 k11
  have b11 := F11.binds (ps := ["value"]) fun _ _ _ _ _ _ us hl => match us, hl with | [_], _ => rfl
  have F12 := fun_mk (st := s_take_items) l12 c12 k12
  have b12 := F12.binds (ps := ["program"]) fun _ _ _ _ _ _ us hl => match us, hl with | [_], _ => rfl
  have F13 := fun_mk (st := s_put_items) l13 c13 k13
  have b13 := F13.binds (ps := ["program"]) fun _ _ _ _ _ _ us hl => match us, hl with | [_], _ => rfl
  have F14 := fun_mk (st := s_counts_before_takes) l14 c14 k14
  have b14 := F14.binds (ps := ["program"]) fun _ _ _ _ _ _ us hl => match us, hl with | [_], _ => rfl
  have F15 := fun_mk (st := s_is_fitting_core) l15 c15 k15
  have b15 := F15.binds (ps := ["taken", "given", "core"]) fun _ _ _ _ _ _ us hl => match us, hl with | [_, _, _], _ => rfl
  have F16 := fun_mk (st := s_program_core) l16 c16 k16
  have b16 := F16.binds (ps := ["program"]) fun _ _ _ _ _ _ us hl => match us, hl with | [_], _ => rfl
  have F17 := fun_mk (st := s_program_values) l17 c17 k17
  have b17 := F17.binds (ps := ["program"]) fun _ _ _ _ _ _ us hl => match us, hl with | [_], _ => rfl
  have F18 := fun_mk (st := s_effect_result) l18 c18 k18
  have b18 := F18.binds (ps := ["taken", "given", "core", "queue"]) fun _ _ _ _ _ _ us hl => match us, hl with | [_, _, _, _], _ => rfl
  have F19 := fun_mk (st := s_result_of_puts) l19 c19 k19
  have b19 := F19.binds (ps := ["taken", "given", "served"]) fun _ _ _ _ _ _ us hl => match us, hl with | [_, _, _], _ => rfl
  have F20 := fun_mk (st := s_perform_best) l20 c20 k20
  have b20 := F20.binds (ps := ["program", "queue"]) fun _ _ _ _ _ _ us hl => match us, hl with | [_, _], _ => rfl
  have F21 := fun_mk (st := s_unlimited_result) l21 c21 k21
  have b21 := F21.binds (ps := ["program", "queue"]) fun _ _ _ _ _ _ us hl => match us, hl with | [_, _], _ => rfl
  have F22 := fun_mk (st := s_within_limit) l22 c22 k22
  have b22 := F22.binds (ps := ["result"]) fun _ _ _ _ _ _ us hl => match us, hl with | [_], _ => rfl
  have F23 := fun_mk (st := s_best_result) l23 c23 k23
  have b23 := F23.binds (ps := ["program", "queue"]) fun _ _ _ _ _ _ us hl => match us, hl with | [_, _], _ => rfl
  have F24 := fun_mk (st := s_require_item) l24 c24 k24
  have b24 := F24.binds (ps := ["value"]) fun _ _ _ _ _ _ us hl => match us, hl with | [_], _ => rfl
  have F25 := fun_mk (st := s_require_count) l25 c25 k25
  have b25 := F25.binds (ps := ["count", "available"]) fun _ _ _ _ _ _ us hl => match us, hl with | [_, _], _ => rfl
  have F26 := fun_mk (st := s_Lpool) l26 c26 k26
  have b26 := F26.binds (ps := ["_law_script", "_law_index"]) fun _ _ _ _ _ _ us hl => match us, hl with | [_, _], _ => rfl
  have F27 := fun_mk (st := s_Ldraw) l27 c27 k27
  have b27 := F27.binds (ps := ["_law_pool_here", "_law_bound"]) fun _ _ _ _ _ _ us hl => match us, hl with | [_, _], _ => rfl
  have F28 := fun_mk (st := s_Lletters) l28 c28 k28
  have b28 := F28.binds (ps := ["_law_pool_here"]) fun _ _ _ _ _ _ us hl => match us, hl with | [_], _ => rfl
  have F29 := fun_mk (st := s_Litems) l29 c29 k29
  have b29 := F29.binds (ps := ["_law_pool_here", "_law_letters_here", "_law_most"]) fun _ _ _ _ _ _ us hl => match us, hl with | [_, _, _], _ => rfl
  have F30 := fun_mk (st := s_Lmoved) l30 c30 k30
  have b30 := F30.binds (ps := ["_law_pool_here", "_law_box", "_law_letters_here"]) fun _ _ _ _ _ _ us hl => match us, hl with | [_, _, _], _ => rfl
  have F31 := fun_mk (st := s_Lshown) l31 c31 k31
  have b31 := F31.binds (ps := ["_law_box"]) fun _ _ _ _ _ _ us hl => match us, hl with | [_], _ => rfl
  have F32 := fun_mk (st := s_Lcounted) l32 c32 k32
  have b32 := F32.binds (ps := ["_law_items_here", "_law_code", "_law_box", "_law_lost"]) fun _ _ _ _ _ _ us hl => match us, hl with | [_, _, _, _], _ => rfl
  have F33 := fun_mk (st := s_law) l33 c33 k33
  have b33 := F33.binds (ps := ["_law_script"]) fun _ _ _ _ _ _ us hl => match us, hl with | [_], _ => rfl
  have F_Effect_init := fun_mk (st := s_Effect_init) l_Effect_init c_Effect_init k_Effect_init
  have b_Effect_init := F_Effect_init.binds (ps := ["self", "takes", "puts", "core"]) fun _ _ _ _ _ _ us hl => match us, hl with | [_, _, _, _], _ => rfl
  have F_Effect_of := fun_mk (st := s_Effect_of) l_Effect_of c_Effect_of k_Effect_of
  have b_Effect_of := F_Effect_of.binds (ps := ["cls", "program"]) fun _ _ _ _ _ _ us hl => match us, hl with | [_, _], _ => rfl
  have F_Effect_is_core := fun_mk (st := s_Effect_is_core) l_Effect_is_core c_Effect_is_core k_Effect_is_core
  have b_Effect_is_core := F_Effect_is_core.binds (ps := ["takes", "puts", "core"]) fun _ _ _ _ _ _ us hl => match us, hl with | [_, _, _], _ => rfl
  have F_Effect_apply := fun_mk (st := s_Effect_apply) l_Effect_apply c_Effect_apply k_Effect_apply
  have b_Effect_apply := F_Effect_apply.binds (ps := ["self", "queue"]) fun _ _ _ _ _ _ us hl => match us, hl with | [_, _], _ => rfl
  have F_Effect_eq := fun_mk (st := s_Effect_eq) l_Effect_eq c_Effect_eq k_Effect_eq
  have b_Effect_eq := F_Effect_eq.binds (ps := ["self", "other"]) fun _ _ _ _ _ _ us hl => match us, hl with | [_, _], _ => rfl
  have F_Effect_repr := fun_mk (st := s_Effect_repr) l_Effect_repr c_Effect_repr k_Effect_repr
  have b_Effect_repr := F_Effect_repr.binds (ps := ["self"]) fun _ _ _ _ _ _ us hl => match us, hl with | [_], _ => rfl
  have b_Queue_init : Binds K (PySem.W.fnOf "__init__" "Queue.__init__" (defArgs s_Queue_init) (defBody s_Queue_init) (defScope s_Queue_init) (.ref td_Queue_init) kVQueue_init dcQueue_init pmQueue_init anQueue_init cdQueue_init ctQueue_init) ["self", "word"] [] := Spx.binds_of (its := [.str "" tk_Queue_init_0]) t_Queue_init rfl 2 1 rfl (fun us hl => match us, hl with | [_, _], _ => ⟨_, rfl, rfl⟩)
  have bd_Queue_init : ∃ ds, Vals [.str ""] ds ∧ Binds K (PySem.W.fnOf "__init__" "Queue.__init__" (defArgs s_Queue_init) (defBody s_Queue_init) (defScope s_Queue_init) (.ref td_Queue_init) kVQueue_init dcQueue_init pmQueue_init anQueue_init cdQueue_init ctQueue_init) ["self", "word"] ds := ⟨_, (.cons ⟨_, rfl⟩ .nil), Spx.binds_of (its := [.str "" tk_Queue_init_0]) t_Queue_init rfl 1 0 rfl (fun us hl => match us, hl with | [_], _ => ⟨_, rfl, rfl⟩)⟩
  have F_Queue_init : FunD K "__init__" "Queue.__init__" (defArgs s_Queue_init) (defBody s_Queue_init) (defScope s_Queue_init) [.str ""] [] f_Queue_init (PySem.W.fnOf "__init__" "Queue.__init__" (defArgs s_Queue_init) (defBody s_Queue_init) (defScope s_Queue_init) (.ref td_Queue_init) kVQueue_init dcQueue_init pmQueue_init anQueue_init cdQueue_init ctQueue_init) := ⟨⟨_, _, _, _, _, _, _, _, _, _, rfl, l_Queue_init, c_Queue_init, Or.inr ⟨(fun h => nomatch h), _, _, [.str "" tk_Queue_init_0], _, rfl, t_Queue_init, rfl, (.cons ⟨_, rfl⟩ .nil)⟩, Or.inl rfl⟩, k_Queue_init⟩
  have F_Queue_word := fun_mk (st := s_Queue_word) l_Queue_word c_Queue_word k_Queue_word
  have b_Queue_word := F_Queue_word.binds (ps := ["self"]) fun _ _ _ _ _ _ us hl => match us, hl with | [_], _ => rfl
  have F_Queue_put := fun_mk (st := s_Queue_put) l_Queue_put c_Queue_put k_Queue_put
  have b_Queue_put := F_Queue_put.binds (ps := ["self", "item"]) fun _ _ _ _ _ _ us hl => match us, hl with | [_, _], _ => rfl
  have F_Queue_take := fun_mk (st := s_Queue_take) l_Queue_take c_Queue_take k_Queue_take
  have b_Queue_take := F_Queue_take.binds (ps := ["self", "item"]) fun _ _ _ _ _ _ us hl => match us, hl with | [_, _], _ => rfl
  have F_Queue_perform := fun_mk (st := s_Queue_perform) l_Queue_perform c_Queue_perform k_Queue_perform
  have b_Queue_perform := F_Queue_perform.binds (ps := ["self", "step"]) fun _ _ _ _ _ _ us hl => match us, hl with | [_, _], _ => rfl
  have F_Queue_run := fun_mk (st := s_Queue_run) l_Queue_run c_Queue_run k_Queue_run
  have b_Queue_run := F_Queue_run.binds (ps := ["self", "program"]) fun _ _ _ _ _ _ us hl => match us, hl with | [_, _], _ => rfl
  have F_Queue_clone := fun_mk (st := s_Queue_clone) l_Queue_clone c_Queue_clone k_Queue_clone
  have b_Queue_clone := F_Queue_clone.binds (ps := ["self"]) fun _ _ _ _ _ _ us hl => match us, hl with | [_], _ => rfl
  have b_LeakyQueue_init : Binds K (PySem.W.ksFn "__init__" "LeakyQueue.__init__" (defArgs s_LeakyQueue_init) (defBody s_LeakyQueue_init) (defScope s_LeakyQueue_init) (.ref td_LeakyQueue_init) kVLeakyQueue_init dcLeakyQueue_init pmLeakyQueue_init anLeakyQueue_init (.ref cda_LeakyQueue_init) ctLeakyQueue_init cc_LeakyQueue_init) ["self", "word"] [] := Spx.binds_of (its := [.str "" tk_LeakyQueue_init_0]) t_LeakyQueue_init rfl 2 1 rfl (fun us hl => match us, hl with | [_, _], _ => ⟨_, rfl, rfl⟩)
  have bd_LeakyQueue_init : ∃ ds, Vals [.str ""] ds ∧ Binds K (PySem.W.ksFn "__init__" "LeakyQueue.__init__" (defArgs s_LeakyQueue_init) (defBody s_LeakyQueue_init) (defScope s_LeakyQueue_init) (.ref td_LeakyQueue_init) kVLeakyQueue_init dcLeakyQueue_init pmLeakyQueue_init anLeakyQueue_init (.ref cda_LeakyQueue_init) ctLeakyQueue_init cc_LeakyQueue_init) ["self", "word"] ds := ⟨_, (.cons ⟨_, rfl⟩ .nil), Spx.binds_of (its := [.str "" tk_LeakyQueue_init_0]) t_LeakyQueue_init rfl 1 0 rfl (fun us hl => match us, hl with | [_], _ => ⟨_, rfl, rfl⟩)⟩
  have F_LeakyQueue_init : Spx.Sup K mg "__init__" "LeakyQueue.__init__" "__init__" s_LeakyQueue_init f_LeakyQueue_init (PySem.W.ksFn "__init__" "LeakyQueue.__init__" (defArgs s_LeakyQueue_init) (defBody s_LeakyQueue_init) (defScope s_LeakyQueue_init) (.ref td_LeakyQueue_init) kVLeakyQueue_init dcLeakyQueue_init pmLeakyQueue_init anLeakyQueue_init (.ref cda_LeakyQueue_init) ctLeakyQueue_init cc_LeakyQueue_init) C_LeakyQueue C_LeakyQueue f_Queue_init := ⟨⟨_, _, _, _, _, _, _, _, _, _, _, _, _, _, _, _, _, _, _, rfl, l_LeakyQueue_init, c_LeakyQueue_init, u_LeakyQueue_init, w_LeakyQueue_init, x_LeakyQueue_init⟩, Option.isSome_iff_exists.mp y_LeakyQueue_init, sb_LeakyQueue_init, PySem.W.mg_none_of X G z_super, op_LeakyQueue_init, at_LeakyQueue_init, ty_LeakyQueue_init, fi_LeakyQueue_init⟩
  have F_LeakyQueue_word := fun_mk (st := s_LeakyQueue_word) l_LeakyQueue_word c_LeakyQueue_word k_LeakyQueue_word
  have b_LeakyQueue_word := F_LeakyQueue_word.binds (ps := ["self"]) fun _ _ _ _ _ _ us hl => match us, hl with | [_], _ => rfl
  have F_LeakyQueue_put : Spx.Sup K mg "put" "LeakyQueue.put" "put" s_LeakyQueue_put f_LeakyQueue_put (PySem.W.ksFn "put" "LeakyQueue.put" (defArgs s_LeakyQueue_put) (defBody s_LeakyQueue_put) (defScope s_LeakyQueue_put) .none kVLeakyQueue_put dcLeakyQueue_put pmLeakyQueue_put anLeakyQueue_put (.ref cda_LeakyQueue_put) ctLeakyQueue_put cc_LeakyQueue_put) C_LeakyQueue C_LeakyQueue f_Queue_put := ⟨⟨_, _, _, _, _, _, _, _, _, _, _, _, _, _, _, _, _, _, _, rfl, l_LeakyQueue_put, c_LeakyQueue_put, u_LeakyQueue_put, w_LeakyQueue_put, x_LeakyQueue_put⟩, Option.isSome_iff_exists.mp y_LeakyQueue_put, sb_LeakyQueue_put, PySem.W.mg_none_of X G z_super, op_LeakyQueue_put, at_LeakyQueue_put, ty_LeakyQueue_put, fi_LeakyQueue_put⟩
  have b_LeakyQueue_put : Binds K (PySem.W.ksFn "put" "LeakyQueue.put" (defArgs s_LeakyQueue_put) (defBody s_LeakyQueue_put) (defScope s_LeakyQueue_put) .none kVLeakyQueue_put dcLeakyQueue_put pmLeakyQueue_put anLeakyQueue_put (.ref cda_LeakyQueue_put) ctLeakyQueue_put cc_LeakyQueue_put) ["self", "item"] [] := .all fun us hl => match us, hl with | [_, _], _ => rfl
  have F_LeakyQueue_take := fun_mk (st := s_LeakyQueue_take) l_LeakyQueue_take c_LeakyQueue_take k_LeakyQueue_take
  have b_LeakyQueue_take := F_LeakyQueue_take.binds (ps := ["self", "item"]) fun _ _ _ _ _ _ us hl => match us, hl with | [_, _], _ => rfl
  have F_LeakyQueue_run : Spx.Sup K mg "run" "LeakyQueue.run" "run" s_LeakyQueue_run f_LeakyQueue_run (PySem.W.ksFn "run" "LeakyQueue.run" (defArgs s_LeakyQueue_run) (defBody s_LeakyQueue_run) (defScope s_LeakyQueue_run) .none kVLeakyQueue_run dcLeakyQueue_run pmLeakyQueue_run anLeakyQueue_run (.ref cda_LeakyQueue_run) ctLeakyQueue_run cc_LeakyQueue_run) C_LeakyQueue C_LeakyQueue f_Queue_run := ⟨⟨_, _, _, _, _, _, _, _, _, _, _, _, _, _, _, _, _, _, _, rfl, l_LeakyQueue_run, c_LeakyQueue_run, u_LeakyQueue_run, w_LeakyQueue_run, x_LeakyQueue_run⟩, Option.isSome_iff_exists.mp y_LeakyQueue_run, sb_LeakyQueue_run, PySem.W.mg_none_of X G z_super, op_LeakyQueue_run, at_LeakyQueue_run, ty_LeakyQueue_run, fi_LeakyQueue_run⟩
  have b_LeakyQueue_run : Binds K (PySem.W.ksFn "run" "LeakyQueue.run" (defArgs s_LeakyQueue_run) (defBody s_LeakyQueue_run) (defScope s_LeakyQueue_run) .none kVLeakyQueue_run dcLeakyQueue_run pmLeakyQueue_run anLeakyQueue_run (.ref cda_LeakyQueue_run) ctLeakyQueue_run cc_LeakyQueue_run) ["self", "program"] [] := .all fun us hl => match us, hl with | [_, _], _ => rfl
  have F_LeakyQueue_clone := fun_mk (st := s_LeakyQueue_clone) l_LeakyQueue_clone c_LeakyQueue_clone k_LeakyQueue_clone
  have b_LeakyQueue_clone := F_LeakyQueue_clone.binds (ps := ["self"]) fun _ _ _ _ _ _ us hl => match us, hl with | [_], _ => rfl
  have F_LeakyQueue_len := fun_mk (st := s_LeakyQueue_len) l_LeakyQueue_len c_LeakyQueue_len k_LeakyQueue_len
  have b_LeakyQueue_len := F_LeakyQueue_len.binds (ps := ["self"]) fun _ _ _ _ _ _ us hl => match us, hl with | [_], _ => rfl
  have b_Session_init : Binds K (PySem.W.fnOf "__init__" "Session.__init__" (defArgs s_Session_init) (defBody s_Session_init) (defScope s_Session_init) (.ref td_Session_init) kVSession_init dcSession_init pmSession_init anSession_init cdSession_init ctSession_init) ["self", "word"] [] := Spx.binds_of (its := [.str "" tk_Session_init_0]) t_Session_init rfl 2 1 rfl (fun us hl => match us, hl with | [_, _], _ => ⟨_, rfl, rfl⟩)
  have bd_Session_init : ∃ ds, Vals [.str ""] ds ∧ Binds K (PySem.W.fnOf "__init__" "Session.__init__" (defArgs s_Session_init) (defBody s_Session_init) (defScope s_Session_init) (.ref td_Session_init) kVSession_init dcSession_init pmSession_init anSession_init cdSession_init ctSession_init) ["self", "word"] ds := ⟨_, (.cons ⟨_, rfl⟩ .nil), Spx.binds_of (its := [.str "" tk_Session_init_0]) t_Session_init rfl 1 0 rfl (fun us hl => match us, hl with | [_], _ => ⟨_, rfl, rfl⟩)⟩
  have F_Session_init : FunD K "__init__" "Session.__init__" (defArgs s_Session_init) (defBody s_Session_init) (defScope s_Session_init) [.str ""] [] f_Session_init (PySem.W.fnOf "__init__" "Session.__init__" (defArgs s_Session_init) (defBody s_Session_init) (defScope s_Session_init) (.ref td_Session_init) kVSession_init dcSession_init pmSession_init anSession_init cdSession_init ctSession_init) := ⟨⟨_, _, _, _, _, _, _, _, _, _, rfl, l_Session_init, c_Session_init, Or.inr ⟨(fun h => nomatch h), _, _, [.str "" tk_Session_init_0], _, rfl, t_Session_init, rfl, (.cons ⟨_, rfl⟩ .nil)⟩, Or.inl rfl⟩, k_Session_init⟩
  have F_Session_move := fun_mk (st := s_Session_move) l_Session_move c_Session_move k_Session_move
  have b_Session_move := F_Session_move.binds (ps := ["self", "done", "cancelled"]) fun _ _ _ _ _ _ us hl => match us, hl with | [_, _, _], _ => rfl
  have F_Session_word := fun_mk (st := s_Session_word) l_Session_word c_Session_word k_Session_word
  have b_Session_word := F_Session_word.binds (ps := ["self"]) fun _ _ _ _ _ _ us hl => match us, hl with | [_], _ => rfl
  have F_Session_program := fun_mk (st := s_Session_program) l_Session_program c_Session_program k_Session_program
  have b_Session_program := F_Session_program.binds (ps := ["self"]) fun _ _ _ _ _ _ us hl => match us, hl with | [_], _ => rfl
  have F_Session_effect := fun_mk (st := s_Session_effect) l_Session_effect c_Session_effect k_Session_effect
  have b_Session_effect := F_Session_effect.binds (ps := ["self"]) fun _ _ _ _ _ _ us hl => match us, hl with | [_], _ => rfl
  have F_Session_run := fun_mk (st := s_Session_run) l_Session_run c_Session_run k_Session_run
  have b_Session_run := F_Session_run.binds (ps := ["self", "program"]) fun _ _ _ _ _ _ us hl => match us, hl with | [_, _], _ => rfl
  have b_Session_undo : Binds K (PySem.W.fnOf "undo" "Session.undo" (defArgs s_Session_undo) (defBody s_Session_undo) (defScope s_Session_undo) (.ref td_Session_undo) kVSession_undo dcSession_undo pmSession_undo anSession_undo cdSession_undo ctSession_undo) ["self", "count"] [] := Spx.binds_of (its := [.int 1 tk_Session_undo_0]) t_Session_undo rfl 2 1 rfl (fun us hl => match us, hl with | [_, _], _ => ⟨_, rfl, rfl⟩)
  have bd_Session_undo : ∃ ds, Vals [.int 1] ds ∧ Binds K (PySem.W.fnOf "undo" "Session.undo" (defArgs s_Session_undo) (defBody s_Session_undo) (defScope s_Session_undo) (.ref td_Session_undo) kVSession_undo dcSession_undo pmSession_undo anSession_undo cdSession_undo ctSession_undo) ["self", "count"] ds := ⟨_, (.cons ⟨_, rfl⟩ .nil), Spx.binds_of (its := [.int 1 tk_Session_undo_0]) t_Session_undo rfl 1 0 rfl (fun us hl => match us, hl with | [_], _ => ⟨_, rfl, rfl⟩)⟩
  have F_Session_undo : FunD K "undo" "Session.undo" (defArgs s_Session_undo) (defBody s_Session_undo) (defScope s_Session_undo) [.int 1] [] f_Session_undo (PySem.W.fnOf "undo" "Session.undo" (defArgs s_Session_undo) (defBody s_Session_undo) (defScope s_Session_undo) (.ref td_Session_undo) kVSession_undo dcSession_undo pmSession_undo anSession_undo cdSession_undo ctSession_undo) := ⟨⟨_, _, _, _, _, _, _, _, _, _, rfl, l_Session_undo, c_Session_undo, Or.inr ⟨(fun h => nomatch h), _, _, [.int 1 tk_Session_undo_0], _, rfl, t_Session_undo, rfl, (.cons ⟨_, rfl⟩ .nil)⟩, Or.inl rfl⟩, k_Session_undo⟩
  have b_Session_redo : Binds K (PySem.W.fnOf "redo" "Session.redo" (defArgs s_Session_redo) (defBody s_Session_redo) (defScope s_Session_redo) (.ref td_Session_redo) kVSession_redo dcSession_redo pmSession_redo anSession_redo cdSession_redo ctSession_redo) ["self", "count"] [] := Spx.binds_of (its := [.int 1 tk_Session_redo_0]) t_Session_redo rfl 2 1 rfl (fun us hl => match us, hl with | [_, _], _ => ⟨_, rfl, rfl⟩)
  have bd_Session_redo : ∃ ds, Vals [.int 1] ds ∧ Binds K (PySem.W.fnOf "redo" "Session.redo" (defArgs s_Session_redo) (defBody s_Session_redo) (defScope s_Session_redo) (.ref td_Session_redo) kVSession_redo dcSession_redo pmSession_redo anSession_redo cdSession_redo ctSession_redo) ["self", "count"] ds := ⟨_, (.cons ⟨_, rfl⟩ .nil), Spx.binds_of (its := [.int 1 tk_Session_redo_0]) t_Session_redo rfl 1 0 rfl (fun us hl => match us, hl with | [_], _ => ⟨_, rfl, rfl⟩)⟩
  have F_Session_redo : FunD K "redo" "Session.redo" (defArgs s_Session_redo) (defBody s_Session_redo) (defScope s_Session_redo) [.int 1] [] f_Session_redo (PySem.W.fnOf "redo" "Session.redo" (defArgs s_Session_redo) (defBody s_Session_redo) (defScope s_Session_redo) (.ref td_Session_redo) kVSession_redo dcSession_redo pmSession_redo anSession_redo cdSession_redo ctSession_redo) := ⟨⟨_, _, _, _, _, _, _, _, _, _, rfl, l_Session_redo, c_Session_redo, Or.inr ⟨(fun h => nomatch h), _, _, [.int 1 tk_Session_redo_0], _, rfl, t_Session_redo, rfl, (.cons ⟨_, rfl⟩ .nil)⟩, Or.inl rfl⟩, k_Session_redo⟩
  have F_Session_eq := fun_mk (st := s_Session_eq) l_Session_eq c_Session_eq k_Session_eq
  have b_Session_eq := F_Session_eq.binds (ps := ["self", "other"]) fun _ _ _ _ _ _ us hl => match us, hl with | [_, _], _ => rfl
  have F_Session_len := fun_mk (st := s_Session_len) l_Session_len c_Session_len k_Session_len
  have b_Session_len := F_Session_len.binds (ps := ["self"]) fun _ _ _ _ _ _ us hl => match us, hl with | [_], _ => rfl
  have F_Session_repr := fun_mk (st := s_Session_repr) l_Session_repr c_Session_repr k_Session_repr
  have b_Session_repr := F_Session_repr.binds (ps := ["self"]) fun _ _ _ _ _ _ us hl => match us, hl with | [_], _ => rfl
  exact ⟨F1, b1, PySem.W.mg_of X G a1, F2, b2, PySem.W.mg_of X G a2, F3, b3, PySem.W.mg_of X G a3, F4, b4, PySem.W.mg_of X G a4, F5, b5, PySem.W.mg_of X G a5, F6, b6, PySem.W.mg_of X G a6, F7, b7, PySem.W.mg_of X G a7, F8, b8, PySem.W.mg_of X G a8, F9, b9, PySem.W.mg_of X G a9, F10, b10, PySem.W.mg_of X G a10, F11, b11, PySem.W.mg_of X G a11, F12, b12, PySem.W.mg_of X G a12, F13, b13, PySem.W.mg_of X G a13, F14, b14, PySem.W.mg_of X G a14, F15, b15, PySem.W.mg_of X G a15, F16, b16, PySem.W.mg_of X G a16, F17, b17, PySem.W.mg_of X G a17, F18, b18, PySem.W.mg_of X G a18, F19, b19, PySem.W.mg_of X G a19, F20, b20, PySem.W.mg_of X G a20, F21, b21, PySem.W.mg_of X G a21, F22, b22, PySem.W.mg_of X G a22, F23, b23, PySem.W.mg_of X G a23, F24, b24, PySem.W.mg_of X G a24, F25, b25, PySem.W.mg_of X G a25, F26, b26, PySem.W.mg_of X G a26, F27, b27, PySem.W.mg_of X G a27, F28, b28, PySem.W.mg_of X G a28, F29, b29, PySem.W.mg_of X G a29, F30, b30, PySem.W.mg_of X G a30, F31, b31, PySem.W.mg_of X G a31, F32, b32, PySem.W.mg_of X G a32, F33, b33, PySem.W.mg_of X G a33, PySem.W.mg_of X G v_ITEMS, PySem.W.mg_of X G v_MAX_LENGTH, PySem.W.mg_of X G v_STEPS, PySem.W.mg_none_of X G z_isinstance, PySem.W.mg_none_of X G z_int, PySem.W.mg_none_of X G z_bool, PySem.W.mg_none_of X G z_str, PySem.W.mg_none_of X G z_len, PySem.W.mg_none_of X G z_min, PySem.W.mg_none_of X G z_max, PySem.W.mg_none_of X G z_range, PySem.W.mg_none_of X G z_list, PySem.W.mg_none_of X G z_repr, PySem.W.mg_none_of X G z_classmethod, PySem.W.mg_none_of X G z_staticmethod, PySem.W.mg_none_of X G z_property, PySem.W.mg_none_of X G z_enumerate, PySem.W.mg_none_of X G z_super, PySem.W.mg_of X G n_LeakError, ecl_value PySem.F.excBase_ValueError ⟨by decide +kernel, by decide +kernel, by decide +kernel⟩ PySem.F.store_ValueError (PySem.W.mg_of X G n_InvalidWord) h_InvalidWord i_InvalidWord m_InvalidWord d_InvalidWord, h_InvalidWord, ecl_value PySem.F.excBase_ValueError ⟨by decide +kernel, by decide +kernel, by decide +kernel⟩ PySem.F.store_ValueError (PySem.W.mg_of X G n_InvalidProgram) h_InvalidProgram i_InvalidProgram m_InvalidProgram d_InvalidProgram, h_InvalidProgram, ecl_value PySem.F.excBase_ValueError ⟨by decide +kernel, by decide +kernel, by decide +kernel⟩ PySem.F.store_ValueError (PySem.W.mg_of X G n_InvalidCore) h_InvalidCore i_InvalidCore m_InvalidCore d_InvalidCore, h_InvalidCore, ecl_value PySem.F.excBase_ValueError ⟨by decide +kernel, by decide +kernel, by decide +kernel⟩ PySem.F.store_ValueError (PySem.W.mg_of X G n_InvalidNumber) h_InvalidNumber i_InvalidNumber m_InvalidNumber d_InvalidNumber, h_InvalidNumber, ecl_item PySem.F.excBase_LookupError ⟨by decide +kernel, by decide +kernel, by decide +kernel⟩ PySem.F.store_LookupError (PySem.W.mg_of X G n_Missing) h_Missing i_Missing m_Missing d_Missing, h_Missing, ecl_limit PySem.F.excBase_OverflowError ⟨by decide +kernel, by decide +kernel, by decide +kernel⟩ PySem.F.store_OverflowError (PySem.W.mg_of X G n_LimitExceeded) h_LimitExceeded i_LimitExceeded m_LimitExceeded d_LimitExceeded, h_LimitExceeded, ecl_index PySem.F.excBase_RuntimeError ⟨by decide +kernel, by decide +kernel, by decide +kernel⟩ PySem.F.store_RuntimeError (PySem.W.mg_of X G n_Failed) h_Failed i_Failed m_Failed d_Failed, h_Failed, ecl_count PySem.F.excBase_RuntimeError ⟨by decide +kernel, by decide +kernel, by decide +kernel⟩ PySem.F.store_RuntimeError (PySem.W.mg_of X G n_NothingToUndo) h_NothingToUndo i_NothingToUndo m_NothingToUndo d_NothingToUndo, h_NothingToUndo, PySem.W.mg_of X G n_Effect, ⟨pg_Effect, hd_Effect, po_Effect, sa_Effect⟩, ⟨rd_Effect, ga_Effect⟩, ⟨mi_Effect, a_Effect_init, if_Effect_init, kc_Effect⟩, na_Effect_taken, na_Effect_given, na_Effect_needed, PySem.W.mg_of X G n_Queue, ⟨pg_Queue, hd_Queue, po_Queue, sa_Queue⟩, ⟨rd_Queue, ga_Queue⟩, ⟨mi_Queue, a_Queue_init, if_Queue_init, kc_Queue⟩, na_Queue_content, PySem.W.mg_of X G n_LeakyQueue, ⟨pg_LeakyQueue, hd_LeakyQueue, po_LeakyQueue, sa_LeakyQueue⟩, ⟨rd_LeakyQueue, ga_LeakyQueue⟩, ⟨mi_LeakyQueue, a_LeakyQueue_init, if_LeakyQueue_init, kc_LeakyQueue⟩, na_LeakyQueue_content, PySem.W.mg_of X G n_Session, ⟨pg_Session, hd_Session, po_Session, sa_Session⟩, ⟨rd_Session, ga_Session⟩, ⟨mi_Session, a_Session_init, if_Session_init, kc_Session⟩, na_Session_initial, na_Session_done, na_Session_cancelled, na_Session_present, na_Session_reached, ⟨va_Effect_MAX_ITEMS, ⟨_, rfl⟩⟩, F_Effect_init, b_Effect_init, ⟨a_Effect_init, if_Effect_init, k_Effect_init⟩, F_Effect_of, b_Effect_of, ⟨a_Effect_of, ⟨_, rc_Effect_of⟩, fi_Effect_of⟩, F_Effect_is_core, b_Effect_is_core, ⟨a_Effect_is_core, ⟨_, rc_Effect_is_core⟩, k_Effect_is_core⟩, F_Effect_apply, b_Effect_apply, ⟨a_Effect_apply, if_Effect_apply, k_Effect_apply⟩, F_Effect_eq, b_Effect_eq, ⟨a_Effect_eq, if_Effect_eq, k_Effect_eq⟩, F_Effect_repr, b_Effect_repr, ⟨a_Effect_repr, if_Effect_repr, k_Effect_repr⟩, F_Queue_init, bd_Queue_init, b_Queue_init, ⟨a_Queue_init, if_Queue_init, k_Queue_init⟩, F_Queue_word, b_Queue_word, ⟨a_Queue_word, gt_Queue_word, tk_Queue_word, _, rc_Queue_word⟩, F_Queue_put, b_Queue_put, ⟨a_Queue_put, if_Queue_put, k_Queue_put⟩, F_Queue_take, b_Queue_take, ⟨a_Queue_take, if_Queue_take, k_Queue_take⟩, F_Queue_perform, b_Queue_perform, ⟨a_Queue_perform, if_Queue_perform, k_Queue_perform⟩, F_Queue_run, b_Queue_run, ⟨a_Queue_run, if_Queue_run, k_Queue_run⟩, F_Queue_clone, b_Queue_clone, ⟨a_Queue_clone, if_Queue_clone, k_Queue_clone⟩, F_LeakyQueue_init, bd_LeakyQueue_init, b_LeakyQueue_init, ⟨a_LeakyQueue_init, if_LeakyQueue_init, k_LeakyQueue_init⟩, F_LeakyQueue_word, b_LeakyQueue_word, ⟨a_LeakyQueue_word, gt_LeakyQueue_word, tk_LeakyQueue_word, _, rc_LeakyQueue_word⟩, F_LeakyQueue_put, b_LeakyQueue_put, ⟨a_LeakyQueue_put, if_LeakyQueue_put, k_LeakyQueue_put⟩, F_LeakyQueue_take, b_LeakyQueue_take, ⟨a_LeakyQueue_take, if_LeakyQueue_take, k_LeakyQueue_take⟩, F_LeakyQueue_run, b_LeakyQueue_run, ⟨a_LeakyQueue_run, if_LeakyQueue_run, k_LeakyQueue_run⟩, F_LeakyQueue_clone, b_LeakyQueue_clone, ⟨a_LeakyQueue_clone, if_LeakyQueue_clone, k_LeakyQueue_clone⟩, F_LeakyQueue_len, b_LeakyQueue_len, ⟨a_LeakyQueue_len, if_LeakyQueue_len, k_LeakyQueue_len⟩, F_Session_init, bd_Session_init, b_Session_init, ⟨a_Session_init, if_Session_init, k_Session_init⟩, F_Session_move, b_Session_move, ⟨a_Session_move, if_Session_move, k_Session_move⟩, F_Session_word, b_Session_word, ⟨a_Session_word, gt_Session_word, tk_Session_word, _, rc_Session_word⟩, F_Session_program, b_Session_program, ⟨a_Session_program, gt_Session_program, tk_Session_program, _, rc_Session_program⟩, F_Session_effect, b_Session_effect, ⟨a_Session_effect, gt_Session_effect, tk_Session_effect, _, rc_Session_effect⟩, F_Session_run, b_Session_run, ⟨a_Session_run, if_Session_run, k_Session_run⟩, F_Session_undo, bd_Session_undo, b_Session_undo, ⟨a_Session_undo, if_Session_undo, k_Session_undo⟩, F_Session_redo, bd_Session_redo, b_Session_redo, ⟨a_Session_redo, if_Session_redo, k_Session_redo⟩, F_Session_eq, b_Session_eq, ⟨a_Session_eq, if_Session_eq, k_Session_eq⟩, F_Session_len, b_Session_len, ⟨a_Session_len, if_Session_len, k_Session_len⟩, F_Session_repr, b_Session_repr, ⟨a_Session_repr, if_Session_repr, k_Session_repr⟩, ⟨ia_LeakyQueue_perform, if_Queue_perform, k_Queue_perform⟩⟩
end E94

set_option Elab.async false
set_option linter.all false
set_option maxRecDepth 100000
set_option maxHeartbeats 4000000
namespace E94
open PySem PySem.Spec PyProof.Rows L2 Own Exn
structure Hd (K : PySem.W.Frag) (a : Ad) : Prop where
  hn : PySem.W.specialIn K (.builtin "object.__class__") "__get__" = some (some (.builtin "getset_descriptor.__get__"))
  hk : PySem.W.takesIn K (.builtin "object.__class__") = some true
  x_Failed_Failed : PySem.W.exmOne K (.ref a.C_Failed) (.ref a.C_Failed) = some true
  x_NothingToUndo_NothingToUndo : PySem.W.exmOne K (.ref a.C_NothingToUndo) (.ref a.C_NothingToUndo) = some true
  x_NothingToUndo_Failed : PySem.W.exmOne K (.ref a.C_NothingToUndo) (.ref a.C_Failed) = some false
  i_Effect_Effect : PySem.W.kitOne K (.ref a.C_Effect) (.ref a.C_Effect) = some true
  i_Session_Session : PySem.W.kitOne K (.ref a.C_Session) (.ref a.C_Session) = some true
  nf_Effect : PySem.W.notFirst K a.C_Effect (.ref a.C_Effect) = true
  cc_Effect : PySem.W.findIn K (.ref a.C_Effect) "__class__" = some (some (.builtin "object.__class__"))
  mo_Effect : PySem.W.mroIn K a.C_Effect (.type "object") = some true
  xa_Missing : PySem.W.exmAny K (.ref a.C_Missing) [.ref a.C_Missing, .ref a.C_LimitExceeded] = some true
  xa_Limit : PySem.W.exmAny K (.ref a.C_LimitExceeded) [.ref a.C_Missing, .ref a.C_LimitExceeded] = some true
  nf_Session : PySem.W.notFirst K a.C_Session (.ref a.C_Session) = true
  cc_Session : PySem.W.findIn K (.ref a.C_Session) "__class__" = some (some (.builtin "object.__class__"))
  mo_Session : PySem.W.mroIn K a.C_Session (.type "object") = some true
  ne_Session : PySem.W.findIn K (.ref a.C_Session) "__ne__" = some (some (.builtin "object.__ne__"))
end E94

set_option Elab.async false
set_option linter.all false
set_option maxRecDepth 100000
set_option maxHeartbeats 4000000
namespace E94
open PySem PySem.Spec PyProof.Rows L2 Own Exn Mth Vld Gn StX
section
variable {P : Program} {w : World} {K : PySem.W.Frag} {mg : Str → Option Value} {base : Heap} {a : Ad}
def sp_is_string_of (K : PySem.W.Frag) : Sp := fun vs H Q _ => ∃ (v : V) (t : Value) (b : Str), vs = [v, .str b, .int 400] ∧ AnyV K H v t ∧ Q (.bl (okV v b)) H
theorem ok_is_string_of (T : Txt K mg a) : FnOk P w K mg base CX0 1 a.f_is_string_of a.d_is_string_of ["value", "letters", "longest"] (sp_is_string_of K) := by
  refine T.F_is_string_of.ok sc_is_string_of (fun vs H Q E h => ?_) (fun cdv A outer s H vs Q E hr h => ?_)
  · obtain ⟨v, t, b, rfl, _⟩ := h
    rfl
  · obtain ⟨v, t, b, rfl, hv, q⟩ := h
    refine ⟨_, (pss_one (ps_ret (pe_and (pe_callB call_isi (by rfl) T.z_isinstance (by decide +kernel) (pa_cons (pv 0) (pa_cons (pe_bltn (v := .ty "str") (by rfl) T.z_str (by decide +kernel) rfl) pa_nil))) (pe_and (pe_cmpR op_le (pe_callB call_len_str (by rfl) T.z_len (by decide +kernel) (pa_cons (pv 0) pa_nil)) (pv 2) (nomark _)) (pe_one (pe_cmpR op_eq (pe_bm PySem.F.plainAttrs_str PySem.F.slot_str_strip PySem.F.type_str_strip mt_stripChars (pv 0) (pa_cons (pv 1) pa_nil)) pe_str (nomark _))))))), ?_⟩
    cases hv with
    | oth ty no ns =>
      refine ⟨v, rfl, v, .ty "str", t, .type "str", false, rfl, .ty "str", ty, no, false, rfl, iteF ?_⟩
      rw [okV_oth ns] at q
      exact q
    | str z h =>
      refine ⟨.str z, rfl, .str z, .ty "str", .type "str", .type "str", true, rfl, .ty "str", .base (.str z), kit_ty (by decide +kernel), true, rfl, iteT ?_⟩
      refine ⟨.str z, rfl, z, rfl, le_line (by omega), .int 400, rfl, _, _, rfl, rfl, _, rfl, ?_⟩
      by_cases hz : z.length ≤ 400
      · rw [decide_eq_true (show (z.length : Int) ≤ 400 by omega)]
        refine iteT ⟨.str z, rfl, rfl, .str b, rfl, z, b, rfl, rfl, le_line (by omega), rfl, ?_⟩
        rw [strip_dec]
        have : okV (.str z) b = ((cs z).all fun c => (cs b).contains c) := by show okS z b = _; unfold okS; rw [decide_eq_true hz, Bool.true_and]
        rw [← this]
        exact q
      · rw [decide_eq_false (show ¬ (z.length : Int) ≤ 400 by omega)]
        have : okV (.str z) b = false := by show okS z b = _; unfold okS; rw [decide_eq_false hz, Bool.false_and]
        rw [this] at q
        exact iteF q
def sp_is (b : Str) (K : PySem.W.Frag) : Sp := fun vs H Q _ => ∃ (v : V) (t : Value), vs = [v] ∧ AnyV K H v t ∧ Q (.bl (okV v b)) H
/-- a word, or its error with the very value -/
def sp_req (C : Addr) (b : Str) (K : PySem.W.Frag) : Sp := fun vs H Q E => ∃ (v : V) (t : Value), vs = [v] ∧ AnyV K H v t ∧ (okV v b = true → Q .non H) ∧ (okV v b = false → ∀ d, H d = none → E (.ref C) (some d) (upd H d (.xd [(("value" : Str), v)])))
end
end E94

set_option Elab.async false
set_option linter.all false
set_option maxRecDepth 100000
set_option maxHeartbeats 4000000
namespace E94
open PySem PySem.Spec PyProof.Rows L2 Own Exn Mth Vld Gn StX
section
variable {P : Program} {w : World} {K : PySem.W.Frag} {mg : Str → Option Value} {base : Heap} {a : Ad}
theorem ok_is_word (T : Txt K mg a) : FnOk P w K mg base CX0 2 a.f_is_word a.d_is_word ["value"] (sp_is "abcdefgh" K) := by
  have G_is_string_of := ok_is_string_of (P := P) (w := w) (base := base) T
  refine T.F_is_word.ok sc_is_word (fun vs H Q E h => ?_) (fun cdv A outer s H vs Q E hr h => ?_)
  · obtain ⟨v, t, rfl, _⟩ := h
    rfl
  · obtain ⟨v, t, rfl, hv, q⟩ := h
    refine ⟨_, (pss_one (ps_ret (pe_call G_is_string_of (hr.mono (by decide)) (by rfl) T.g_is_string_of T.F_is_string_of.kp T.b_is_string_of.choose_spec.2 T.b_is_string_of.choose_spec.1 pass0 (pa_cons (pv 0) (pa_cons (pe_glob (v := .str "abcdefgh") (by rfl) T.c_ITEMS ⟨_, rfl⟩) pa_nil))))), ?_⟩
    exact ⟨v, rfl, v, t, "abcdefgh", rfl, hv, q⟩
theorem ok_require_word (T : Txt K mg a) : FnOk P w K mg base (L2.CX P w) 3 a.f_require_word a.d_require_word ["value"] (sp_req a.C_InvalidWord "abcdefgh" K) := by
  have G_is_word := ok_is_word (P := P) (w := w) (base := base) T
  refine T.F_require_word.okX sc_require_word (fun vs H Q E h => ?_) (fun cdv A outer s H vs Q E hr h => ?_)
  · obtain ⟨v, t, rfl, _⟩ := h
    rfl
  · obtain ⟨v, t, rfl, hv, q1, q2⟩ := h
    refine ⟨_, (pss_one (ps_if (pt_not (pt_val (pe_call G_is_word (hr.mono (by decide)) (by rfl) T.g_is_word T.F_is_word.kp T.b_is_word .nil pass0 (pa_cons (pv 0) pa_nil))))
        (pss_one (ps_raise rfl (takes_of rfl rfl rfl rfl) (pmk_value T.e_InvalidWord hr (pa_cons (pv 0) pa_nil) (by rfl))))
        pss_nil)), ?_⟩
    cases e : okV v "abcdefgh" with
    | true => exact ⟨v, rfl, v, t, rfl, hv, true, by rw [e], iteF (q1 e)⟩
    | false => exact ⟨v, rfl, v, t, rfl, hv, false, by rw [e], iteT ⟨v, rfl, v, rfl, fun d hd => q2 e d hd⟩⟩
end
end E94

set_option Elab.async false
set_option linter.all false
set_option maxRecDepth 100000
set_option maxHeartbeats 4000000
namespace E94
open PySem PySem.Spec PyProof.Rows L2 Own Exn Mth Vld Gn StX
section
variable {P : Program} {w : World} {K : PySem.W.Frag} {mg : Str → Option Value} {base : Heap} {a : Ad}
theorem ok_is_program (T : Txt K mg a) : FnOk P w K mg base CX0 2 a.f_is_program a.d_is_program ["value"] (sp_is "abcdefghABCDEFGH" K) := by
  have G_is_string_of := ok_is_string_of (P := P) (w := w) (base := base) T
  refine T.F_is_program.ok sc_is_program (fun vs H Q E h => ?_) (fun cdv A outer s H vs Q E hr h => ?_)
  · obtain ⟨v, t, rfl, _⟩ := h
    rfl
  · obtain ⟨v, t, rfl, hv, q⟩ := h
    refine ⟨_, (pss_one (ps_ret (pe_call G_is_string_of (hr.mono (by decide)) (by rfl) T.g_is_string_of T.F_is_string_of.kp T.b_is_string_of.choose_spec.2 T.b_is_string_of.choose_spec.1 pass0 (pa_cons (pv 0) (pa_cons (pe_glob (v := .str "abcdefghABCDEFGH") (by rfl) T.c_STEPS ⟨_, rfl⟩) pa_nil))))), ?_⟩
    exact ⟨v, rfl, v, t, "abcdefghABCDEFGH", rfl, hv, q⟩
theorem ok_require_program (T : Txt K mg a) : FnOk P w K mg base (L2.CX P w) 3 a.f_require_program a.d_require_program ["value"] (sp_req a.C_InvalidProgram "abcdefghABCDEFGH" K) := by
  have G_is_program := ok_is_program (P := P) (w := w) (base := base) T
  refine T.F_require_program.okX sc_require_program (fun vs H Q E h => ?_) (fun cdv A outer s H vs Q E hr h => ?_)
  · obtain ⟨v, t, rfl, _⟩ := h
    rfl
  · obtain ⟨v, t, rfl, hv, q1, q2⟩ := h
    refine ⟨_, (pss_one (ps_if (pt_not (pt_val (pe_call G_is_program (hr.mono (by decide)) (by rfl) T.g_is_program T.F_is_program.kp T.b_is_program .nil pass0 (pa_cons (pv 0) pa_nil))))
        (pss_one (ps_raise rfl (takes_of rfl rfl rfl rfl) (pmk_value T.e_InvalidProgram hr (pa_cons (pv 0) pa_nil) (by rfl))))
        pss_nil)), ?_⟩
    cases e : okV v "abcdefghABCDEFGH" with
    | true => exact ⟨v, rfl, v, t, rfl, hv, true, by rw [e], iteF (q1 e)⟩
    | false => exact ⟨v, rfl, v, t, rfl, hv, false, by rw [e], iteT ⟨v, rfl, v, rfl, fun d hd => q2 e d hd⟩⟩
end
end E94

set_option Elab.async false
set_option linter.all false
set_option maxRecDepth 100000
set_option maxHeartbeats 4000000
namespace E94
open PySem PySem.Spec PyProof.Rows L2 Own Exn Mth Vld Gn StX
section
variable {P : Program} {w : World} {K : PySem.W.Frag} {mg : Str → Option Value} {base : Heap} {a : Ad}
def sp_take_items : Sp := fun vs H Q _ => ∃ p : Str, vs = [.str p] ∧ p.length ≤ 1000 ∧ (∀ c ∈ cs p, c ∈ st16) ∧ ∀ H', Same H H' → Q (.str (mk (tkS (cs p)))) H'
theorem ok_take_items (T : Txt K mg a) : FnOk P w K mg base CX0 1 a.f_take_items a.d_take_items ["program"] sp_take_items := by
  refine T.F_take_items.ok sc_take_items (fun vs H Q E h => ?_) (fun cdv A outer s H vs Q E hr h => ?_)
  · obtain ⟨p, rfl, _⟩ := h
    rfl
  · obtain ⟨p, rfl, lp, cp, q⟩ := h
    refine ⟨_, (pss_one (ps_ret (pe_join pe_str (pe_lc (own := [("step", 1)]) (g := gName 1) (by rfl) sc_take_items.nd (pi_str (pv 0)) (blkOk_by (own := [("step", 1)]) (N := N_take_items) (sc := defScope s_take_items) (by decide +kernel)) (fun _ _ _ _ _ => pg_name (i := 1) sc_take_items.nd rfl (Or.inl rfl)) (fun _ _ _ _ _ => (pts_one (pt_val (show PE _ _ (tBM0 K "str" _ _) from pe_bm0 PySem.F.plainAttrs_str PySem.F.slot_str_isupper PySem.F.type_str_isupper mt_isupper (pv 1))))) (fun _ _ _ _ _ => (pe_lower (pv 1))))))), ?_⟩
    refine ⟨⟨_, rfl⟩, .str p, rfl, p, rfl, fun D nD => ?_⟩
    refine lc_it walk_str (fun i H3 => Same H H3 ∧ H3 D = some (.lst (sV (tkS ((cs p).take i)))) ∧ (tkS ((cs p).take i)).length ≤ i) ?_ (fun _ _ _ _ => trivial) ?_ ?_
    · exact ⟨same_new nD, upd_same, Nat.le_refl _⟩
    · rintro i x H3 H4 hi ⟨sm, eD, le⟩ ⟨rfl, c, hc, rfl⟩
      obtain ⟨ts, cm⟩ := take_snoc hi hc
      obtain ⟨u1, u2, u3⟩ := letters c (cp c cm)
      have hi' : i < p.length := hi
      refine ⟨rfl, .str (sg c), rfl, rfl, sg c, rfl, rfl, trivial, _, rfl, ?_⟩
      rw [u1, ts, tkS_snoc]
      by_cases hu : c < 97
      · rw [decide_eq_true hu, if_pos hu]
        refine iteT ⟨.str (sg c), rfl, ⟨_, rfl⟩, sg c, rfl, rfl, line1, ?_⟩
        rw [u3]
        refine ⟨_, eD, lt_line (by rw [sV_len]; omega), same_put sm nD, by rw [upd_same, sV_snoc], ?_⟩
        rw [List.length_append]
        show _ + 1 ≤ _
        omega
      · rw [decide_eq_false hu, if_neg hu, List.append_nil]
        exact iteF ⟨sm, eD, by omega⟩
    · rintro H3 ⟨sm, eD, le⟩
      rw [List.take_of_length_le (by rw [← len_cs]; exact Nat.le_refl _)] at eD le
      refine ⟨"", D, (tkS (cs p)).map sg, rfl, rfl, .inl (SqL.of (by rw [eD, sV_eq])), ?_, ?_⟩
      · rw [sum_ones, List.length_map]
        show _ + _ * 0 ≤ 16777216
        have : (tkS (cs p)).length ≤ p.length := le
        omega
      · rw [show Txt.join "" ((tkS (cs p)).map sg) = mk (tkS (cs p)) from str_cs (join_signs _)]
        exact q H3 sm
def sp_put_items : Sp := fun vs H Q _ => ∃ p : Str, vs = [.str p] ∧ p.length ≤ 1000 ∧ (∀ c ∈ cs p, c ∈ st16) ∧ ∀ H', Same H H' → Q (.str (mk (puS (cs p)))) H'
theorem ok_put_items (T : Txt K mg a) : FnOk P w K mg base CX0 1 a.f_put_items a.d_put_items ["program"] sp_put_items := by
  refine T.F_put_items.ok sc_put_items (fun vs H Q E h => ?_) (fun cdv A outer s H vs Q E hr h => ?_)
  · obtain ⟨p, rfl, _⟩ := h
    rfl
  · obtain ⟨p, rfl, lp, cp, q⟩ := h
    refine ⟨_, (pss_one (ps_ret (pe_join pe_str (pe_lc (own := [("step", 1)]) (g := gName 1) (by rfl) sc_put_items.nd (pi_str (pv 0)) (blkOk_by (own := [("step", 1)]) (N := N_put_items) (sc := defScope s_put_items) (by decide +kernel)) (fun _ _ _ _ _ => pg_name (i := 1) sc_put_items.nd rfl (Or.inl rfl)) (fun _ _ _ _ _ => (pts_one (pt_val (show PE _ _ (tBM0 K "str" _ _) from pe_bm0 PySem.F.plainAttrs_str PySem.F.slot_str_islower PySem.F.type_str_islower mt_islower (pv 1))))) (fun _ _ _ _ _ => (pv 1)))))), ?_⟩
    refine ⟨⟨_, rfl⟩, .str p, rfl, p, rfl, fun D nD => ?_⟩
    refine lc_it walk_str (fun i H3 => Same H H3 ∧ H3 D = some (.lst (sV (puS ((cs p).take i)))) ∧ (puS ((cs p).take i)).length ≤ i) ?_ (fun _ _ _ _ => trivial) ?_ ?_
    · exact ⟨same_new nD, upd_same, Nat.le_refl _⟩
    · rintro i x H3 H4 hi ⟨sm, eD, le⟩ ⟨rfl, c, hc, rfl⟩
      obtain ⟨ts, cm⟩ := take_snoc hi hc
      obtain ⟨u1, u2, u3⟩ := letters c (cp c cm)
      have hi' : i < p.length := hi
      refine ⟨rfl, .str (sg c), rfl, rfl, sg c, rfl, rfl, trivial, _, rfl, ?_⟩
      rw [u2, ts, puS_snoc]
      by_cases hu : 97 ≤ c
      · rw [decide_eq_true hu, if_pos hu]
        refine iteT ⟨.str (sg c), rfl, _, eD, lt_line (by rw [sV_len]; omega), same_put sm nD, by rw [upd_same, sV_snoc], ?_⟩
        rw [List.length_append]
        show _ + 1 ≤ _
        omega
      · rw [decide_eq_false hu, if_neg hu, List.append_nil]
        exact iteF ⟨sm, eD, by omega⟩
    · rintro H3 ⟨sm, eD, le⟩
      rw [List.take_of_length_le (by rw [← len_cs]; exact Nat.le_refl _)] at eD le
      refine ⟨"", D, (puS (cs p)).map sg, rfl, rfl, .inl (SqL.of (by rw [eD, sV_eq])), ?_, ?_⟩
      · rw [sum_ones, List.length_map]
        show _ + _ * 0 ≤ 16777216
        have : (puS (cs p)).length ≤ p.length := le
        omega
      · rw [show Txt.join "" ((puS (cs p)).map sg) = mk (puS (cs p)) from str_cs (join_signs _)]
        exact q H3 sm
def sp_counts : Sp := fun vs H Q _ => ∃ p : Str, vs = [.str p] ∧ p.length ≤ 1000 ∧ (∀ c ∈ cs p, c ∈ st16) ∧ ∀ H' o, Same H H' → H o = none → H' o = some (.lst (iV (pcS 0 (cs p)))) → Q (.ref o) H'
theorem ok_counts_before_takes (T : Txt K mg a) : FnOk P w K mg base CX0 1 a.f_counts_before_takes a.d_counts_before_takes ["program"] sp_counts := by
  refine T.F_counts_before_takes.ok sc_counts_before_takes (fun vs H Q E h => ?_) (fun cdv A outer s H vs Q E hr h => ?_)
  · obtain ⟨p, rfl, _⟩ := h
    rfl
  · obtain ⟨p, rfl, lp, cp, q⟩ := h
    refine ⟨_, (pss_cons (ps_set (i := 1) sc_counts_before_takes.nd rfl (Or.inl rfl) (pe_lst pa_nil))
      (pss_cons (ps_set (i := 2) sc_counts_before_takes.nd rfl (Or.inl rfl) pe_int)
      (pss_cons (ps_for PassesOwn.never rfl (pi_str (pv 0)) (pg_name (i := 3) sc_counts_before_takes.nd rfl (Or.inl rfl))
        (pss_one (ps_if (pt_val (pe_bm0 PySem.F.plainAttrs_str PySem.F.slot_str_islower PySem.F.type_str_islower mt_islower (pv 3)))
          (pss_one (ps_aug (i := 2) sc_counts_before_takes.nd rfl (Or.inl rfl) pe_int ip_add))
          (pss_one (ps_expr (pe_bm PySem.F.plainAttrs_list PySem.F.slot_list_append PySem.F.type_list_append mt_append (pv 1) (pa_cons (pv 2) pa_nil)))))))
      (pss_one (ps_ret (pv 1)))))), ?_⟩
    refine ⟨Nat.zero_le _, fun o no => ?_⟩
    refine ⟨.str p, rfl, p, rfl, for_it walk_str (fun i σ H3 => ∃ (acc : List Nat) (dn : Nat) (y3 : Option V), σ = [some (.str p), some (.ref o), some (.int (dn : Nat)), y3] ∧ Same H H3 ∧ H3 o = some (.lst (iV acc)) ∧ acc.length ≤ i ∧ acc ++ pcS dn ((cs p).drop i) = pcS 0 (cs p)) ?_ (fun _ _ _ _ _ => trivial) ?_ ?_⟩
    · exact ⟨[], 0, none, rfl, same_new no, upd_same, Nat.le_refl _, rfl⟩
    · rintro i x σ H3 H4 hi ⟨acc, dn, y3, rfl, sm, eo, la, em⟩ ⟨rfl, c, hc, rfl⟩
      obtain ⟨ts, cm⟩ := take_snoc hi hc
      obtain ⟨u1, u2, u3⟩ := letters c (cp c cm)
      have hi' : i < p.length := hi
      rw [drop_cons (str_at hc), pcS_cons] at em
      refine ⟨.str (sg c), rfl, rfl, sg c, rfl, rfl, trivial, _, rfl, ?_⟩
      rw [u2]
      by_cases hu : 97 ≤ c
      · rw [decide_eq_true hu]
        rw [if_pos hu] at em
        refine iteT ⟨.int dn, rfl, dn, 1, rfl, rfl, acc, dn + 1, _, rfl, sm, eo, by omega, em⟩
      · rw [decide_eq_false hu]
        rw [if_neg hu] at em
        refine iteF ⟨.ref o, rfl, .inl ⟨rfl, _, SqL.of eo⟩, .int dn, rfl, o, _, _, rfl, rfl, eo, lt_line (by rw [iV_len]; omega), acc ++ [dn], dn, _, rfl, same_put sm no, by rw [upd_same, iV_snoc], by rw [List.length_append]; show _ + 1 ≤ _; omega, ?_⟩
        rw [List.append_assoc]
        exact em
    · rintro σ H3 ⟨acc, dn, y3, rfl, sm, eo, la, em⟩
      rw [List.drop_of_length_le (by rw [← len_cs]; exact Nat.le_refl _)] at em
      rw [pcS_nil, List.append_nil] at em
      rw [em] at eo
      exact ⟨.ref o, rfl, q H3 o sm no eo⟩
end
end E94

set_option Elab.async false
set_option linter.all false
set_option maxRecDepth 100000
set_option maxHeartbeats 4000000
namespace E94
open PySem PySem.Spec PyProof.Rows L2 Own Exn Mth Vld Gn StX
section
variable {P : Program} {w : World} {K : PySem.W.Frag} {mg : Str → Option Value} {base : Heap} {a : Ad}
def kOf (σ : L2.St) : Nat := match σ[4]? with
  | some (some (V.int i)) => i.toNat
  | _ => 0
def sp_program_core : Sp := fun vs H Q _ => ∃ p : Str, vs = [.str p] ∧ p.length ≤ 1000 ∧ (∀ c ∈ cs p, c ∈ st16) ∧ ∀ H', Same H H' → Q (.int (coreN (cs p) : Nat)) H'
theorem tk_len (p : Str) : (tkS (cs p)).length ≤ p.length := by
  rw [len_cs]
  unfold tkS
  rw [List.length_map]
  exact List.length_filter_le ..
theorem pu_len (p : Str) : (puS (cs p)).length ≤ p.length := by
  rw [len_cs]
  unfold puS
  exact List.length_filter_le ..
theorem ok_program_core (T : Txt K mg a) : FnOk P w K mg base CX0 2 a.f_program_core a.d_program_core ["program"] sp_program_core := by
  have G_take_items := ok_take_items (P := P) (w := w) (base := base) T
  have G_put_items := ok_put_items (P := P) (w := w) (base := base) T
  have G_counts_before_takes := ok_counts_before_takes (P := P) (w := w) (base := base) T
  refine T.F_program_core.ok sc_program_core (fun vs H Q E h => ?_) (fun cdv A outer s H vs Q E hr h => ?_)
  · obtain ⟨p, rfl, _⟩ := h
    rfl
  · obtain ⟨p, rfl, lp, cp, q⟩ := h
    refine ⟨_, (pss_cons (ps_set (i := 1) sc_program_core.nd rfl (Or.inl rfl) (pe_call G_take_items (hr.mono (by decide)) (by rfl) T.g_take_items T.F_take_items.kp T.b_take_items .nil pass0 (pa_cons (pv 0) pa_nil)))
      (pss_cons (ps_set (i := 2) sc_program_core.nd rfl (Or.inl rfl) (pe_call G_put_items (hr.mono (by decide)) (by rfl) T.g_put_items T.F_put_items.kp T.b_put_items .nil pass0 (pa_cons (pv 0) pa_nil)))
      (pss_cons (ps_set (i := 3) sc_program_core.nd rfl (Or.inl rfl) (pe_call G_counts_before_takes (hr.mono (by decide)) (by rfl) T.g_counts_before_takes T.F_counts_before_takes.kp T.b_counts_before_takes .nil pass0 (pa_cons (pv 0) pa_nil)))
      (pss_cons (ps_set (i := 4) sc_program_core.nd rfl (Or.inl rfl) (pe_callB call_len_str (by rfl) T.z_len (by decide +kernel) (pa_cons (pv 1) pa_nil)))
      (pss_cons (ps_set (i := 5) sc_program_core.nd rfl (Or.inl rfl) (pe_callB call_len_str (by rfl) T.z_len (by decide +kernel) (pa_cons (pv 2) pa_nil)))
      (pss_cons (ps_while PassesOwn.never (pt_cmpR op_gt (pv 4) pe_int (nomark _))
        (pss_cons (ps_set (i := 5) sc_program_core.nd rfl (Or.inl rfl) (pe_bm PySem.F.plainAttrs_str PySem.F.slot_str_rfind PySem.F.type_str_rfind mt_rfind4 (pv 2) (pa_cons (pe_ix ix_str (pv 1) (pe_op op_sub (pv 4) pe_int) (fun _ _ => rfl)) (pa_cons pe_int (pa_cons (pe_callB (call_min2 rfl) (by rfl) T.z_min (by decide +kernel) (pa_cons (pv 5) (pa_cons (pe_ix ix_list (pv 3) (pe_op op_sub (pv 4) pe_int) (fun _ _ => rfl)) pa_nil))) pa_nil)))))
        (pss_cons (ps_if (pt_cmpR op_lt (pv 5) pe_int (nomark _))
          (pss_one ps_break)
          pss_nil)
        (pss_one (ps_aug (i := 4) sc_program_core.nd rfl (Or.inl rfl) pe_int ip_sub)))))
      (pss_one (ps_ret (pv 4))))))))), ?_⟩
    have l1 := tk_len p
    have l2 := pu_len p
    refine ⟨.str p, rfl, p, rfl, lp, cp, fun H1 s1 => ⟨.str p, rfl, p, rfl, lp, cp, fun H2 s2 => ⟨.str p, rfl, p, rfl, lp, cp, fun H3 o s3 no eo => ?_⟩⟩⟩
    refine ⟨.str (mk (tkS (cs p))), rfl, mk (tkS (cs p)), rfl, le_line (by rw [len_mk]; omega), .str (mk (puS (cs p))), rfl, mk (puS (cs p)), rfl, le_line (by rw [len_mk]; omega), ?_⟩
    rw [len_mk, len_mk]
    have sm := s1.trans (s2.trans s3)
    refine while_by (fun σ H4 => ∃ k pl : Nat, σ = [some (.str p), some (.str (mk (tkS (cs p)))), some (.str (mk (puS (cs p)))), some (.ref o), some (.int (k : Nat)), some (.int (pl : Nat))] ∧ H4 = H3 ∧ k ≤ (tkS (cs p)).length ∧ go (tkS (cs p)) (puS (cs p)) (pcS 0 (cs p)) k pl = coreN (cs p)) (fun σ _ => kOf σ) ?_ ?_ ?_
    · exact ⟨_, _, rfl, rfl, Nat.le_refl _, rfl⟩
    · rintro σ H4 ⟨k, pl, rfl, rfl, hk, hg⟩
      refine ⟨.int k, rfl, _, _, rfl, rfl, _, rfl, ?_⟩
      cases k with
      | zero =>
        refine iteF ⟨_, rfl, ?_⟩
        rw [show ((0 : Nat) : Int) = ((coreN (cs p) : Nat) : Int) from by rw [← hg]; rfl]
        exact q _ sm
      | succ k =>
        rw [decide_eq_true (show (0 : Int) < ((k + 1 : Nat) : Int) by omega)]
        have hk1 : k < (tkS (cs p)).length := by omega
        have hk2 : k < (pcS 0 (cs p)).length := by rw [pcS_len]; exact hk1
        have sub1 : ((k + 1 : Nat) : Int) - 1 = ((k : Nat) : Int) := by omega
        refine iteT ⟨.str (mk (puS (cs p))), rfl, rfl, .str (mk (tkS (cs p))), rfl, .int ((k + 1 : Nat) : Int), rfl, _, _, rfl, rfl, mk (tkS (cs p)), _, (tkS (cs p))[k], rfl, rfl, le_line (by rw [len_mk]; omega), ?_, .int (pl : Nat), rfl, .ref o, rfl, .int ((k + 1 : Nat) : Int), rfl, _, _, rfl, rfl, o, _, _, .int ((pcS 0 (cs p))[k] : Nat), rfl, rfl, SqL.of eo, ?_, _, _, rfl, _, _, _, _, rfl, rfl, ?_⟩
        · rw [sub1]
          exact atI_nat (by show (cs (mk (tkS (cs p))))[k]? = _; rw [cs_mk]; exact List.getElem?_eq_getElem hk1)
        · rw [sub1]
          exact atI_nat (by rw [List.getElem?_map, List.getElem?_eq_getElem hk2]; rfl)
        have hmin : (if ((pcS 0 (cs p))[k] : Int) < ((pl : Nat) : Int) then ((pcS 0 (cs p))[k] : Int) else ((pl : Nat) : Int)) = ((min pl (pcS 0 (cs p))[k] : Nat) : Int) := by
          split <;> omega
        have hr1 : (tkS (cs p)).getD k 0 = (tkS (cs p))[k] := by rw [List.getD_eq_getElem?_getD, List.getElem?_eq_getElem hk1]; rfl
        have hr2 : (pcS 0 (cs p)).getD k 0 = (pcS 0 (cs p))[k] := by rw [List.getD_eq_getElem?_getD, List.getElem?_eq_getElem hk2]; rfl
        rw [hmin, rfind_mk]
        cases e : lst? (tkS (cs p))[k] ((puS (cs p)).take (min pl (pcS 0 (cs p))[k])) with
        | none =>
          rw [go_stop (by rw [hr1, hr2]; exact e)] at hg
          refine ⟨_, rfl, _, _, rfl, rfl, _, rfl, iteT ⟨_, rfl, ?_⟩⟩
          rw [hg]
          exact q _ sm
        | some j =>
          rw [go_step (by rw [hr1, hr2]; exact e)] at hg
          refine ⟨_, rfl, _, _, rfl, rfl, _, rfl, ?_⟩
          rw [decide_eq_false (show ¬ told (some j) < 0 by show ¬ ((j : Nat) : Int) < 0; omega)]
          refine iteF ⟨_, rfl, _, _, rfl, rfl, ⟨k, j, ?_, rfl, by omega, hg⟩, ?_⟩
          · show [_, _, _, _, some (V.int (((k + 1 : Nat) : Int) - 1)), _] = _
            rw [sub1]
            rfl
          · show (((k + 1 : Nat) : Int) - 1).toNat < ((k + 1 : Nat) : Int).toNat
            omega
    · rintro σ H4 Q1 Q2 hQ ⟨v, e, i, j, e1, e2, b, e3, q⟩
      exact ⟨v, e, i, j, e1, e2, b, e3, hQ _ _ q⟩
def sp_program_values : Sp := fun vs H Q _ => ∃ p : Str, vs = [.str p] ∧ p.length ≤ 1000 ∧ (∀ c ∈ cs p, c ∈ st16) ∧ ∀ H' t, Same H H' → H t = none → H' t = some (.tup [.str (mk (tkS (cs p))), .str (mk (puS (cs p))), .int (coreN (cs p) : Nat)]) → Q (.ref t) H'
theorem ok_program_values (T : Txt K mg a) : FnOk P w K mg base CX0 3 a.f_program_values a.d_program_values ["program"] sp_program_values := by
  have G_take_items := ok_take_items (P := P) (w := w) (base := base) T
  have G_put_items := ok_put_items (P := P) (w := w) (base := base) T
  have G_program_core := ok_program_core (P := P) (w := w) (base := base) T
  refine T.F_program_values.ok sc_program_values (fun vs H Q E h => ?_) (fun cdv A outer s H vs Q E hr h => ?_)
  · obtain ⟨p, rfl, _⟩ := h
    rfl
  · obtain ⟨p, rfl, lp, cp, q⟩ := h
    refine ⟨_, (pss_one (ps_ret (pe_tup (pa_cons (pe_call G_take_items (hr.mono (by decide)) (by rfl) T.g_take_items T.F_take_items.kp T.b_take_items .nil pass0 (pa_cons (pv 0) pa_nil)) (pa_cons (pe_call G_put_items (hr.mono (by decide)) (by rfl) T.g_put_items T.F_put_items.kp T.b_put_items .nil pass0 (pa_cons (pv 0) pa_nil)) (pa_cons (pe_call G_program_core (hr.mono (by decide)) (by rfl) T.g_program_core T.F_program_core.kp T.b_program_core .nil pass0 (pa_cons (pv 0) pa_nil)) pa_nil)))))), ?_⟩
    refine ⟨.str p, rfl, p, rfl, lp, cp, fun H1 s1 => ⟨.str p, rfl, p, rfl, lp, cp, fun H2 s2 => ⟨.str p, rfl, p, rfl, lp, cp, fun H3 s3 => ⟨le_line (show 3 ≤ 100000 by decide), fun t nt => ?_⟩⟩⟩⟩
    have sm := s1.trans (s2.trans s3)
    exact q _ t (sm.trans (same_new nt)) (sm.free nt) upd_same
end
end E94

set_option Elab.async false
set_option linter.all false
set_option maxRecDepth 100000
set_option maxHeartbeats 4000000
namespace E94
open PySem PySem.Spec PyProof.Rows L2 Own Exn Mth Vld Gn StX
section
variable {P : Program} {w : World} {K : PySem.W.Frag} {mg : Str → Option Value} {base : Heap} {a : Ad}
def sp_earliest_positions : Sp := fun vs H Q _ => ∃ p z : Str, vs = [.str p, .str z] ∧ z.length ≤ 1000 ∧ p.length ≤ 1000 ∧
  ∀ H' o, Same H H' → H o = none → H' o = some (.lst (iV (emb (cs p) (cs z) 0))) → Q (.ref o) H'
theorem ok_earliest_positions (T : Txt K mg a) : FnOk P w K mg base CX0 1 a.f_earliest_positions a.d_earliest_positions ["part", "word"] sp_earliest_positions := by
  refine T.F_earliest_positions.ok sc_earliest_positions (fun vs H Q E h => ?_) (fun cdv A outer s H vs Q E hr h => ?_)
  · obtain ⟨p, z, rfl, _⟩ := h
    rfl
  · obtain ⟨p, z, rfl, hz, hp, q⟩ := h
    refine ⟨_, (pss_cons (ps_set (i := 2) sc_earliest_positions.nd rfl (Or.inl rfl) (pe_lst pa_nil))
      (pss_cons (ps_set (i := 3) sc_earliest_positions.nd rfl (Or.inl rfl) pe_int)
      (pss_cons (ps_for PassesOwn.never rfl (pi_str (pv 0)) (pg_name (i := 4) sc_earliest_positions.nd rfl (Or.inl rfl))
        (pss_cons (ps_set (i := 5) sc_earliest_positions.nd rfl (Or.inl rfl) (pe_bm PySem.F.plainAttrs_str PySem.F.slot_str_find PySem.F.type_str_find mt_find3 (pv 1) (pa_cons (pv 4) (pa_cons (pv 3) pa_nil))))
        (pss_cons (ps_if (pt_cmpR op_lt (pv 5) pe_int (nomark _))
          (pss_one ps_break)
          pss_nil)
        (pss_cons (ps_expr (pe_bm PySem.F.plainAttrs_list PySem.F.slot_list_append PySem.F.type_list_append mt_append (pv 2) (pa_cons (pv 5) pa_nil)))
        (pss_one (ps_set (i := 3) sc_earliest_positions.nd rfl (Or.inl rfl) (pe_op op_add (pv 5) pe_int)))))))
      (pss_one (ps_ret (pv 2)))))), ?_⟩
    refine ⟨Nat.zero_le _, fun o no => ?_⟩
    refine ⟨.str p, rfl, p, rfl, for_it walk_str (fun i σ H3 => ∃ (acc : List Nat) (st : Nat) (y4 y5 : Option V), σ = [some (.str p), some (.str z), some (.ref o), some (.int (st : Nat)), y4, y5] ∧ Same H H3 ∧ H3 o = some (.lst (iV acc)) ∧ acc.length = i ∧
      acc ++ emb ((cs p).drop i) ((cs z).drop st) st = emb (cs p) (cs z) 0) ?_ (fun _ _ _ _ _ => trivial) ?_ ?_⟩
    · exact ⟨[], 0, none, none, rfl, same_new no, upd_same, rfl, rfl⟩
    · rintro i x σ H3 H4 hi ⟨acc, st, y4, y5, rfl, sm, eo, la, em⟩ ⟨rfl, c, hc, rfl⟩
      have hpc : (cs p).drop i = c :: (cs p).drop (i + 1) := by
        have hl : i < (cs p).length := by rw [← len_cs]; exact hi
        rw [List.drop_eq_getElem_cons hl]
        congr 1
        have : (cs p)[i]? = some c := by
          show p.cps.toList[i]? = some c
          rw [Array.getElem?_toList]
          exact hc
        rw [List.getElem?_eq_getElem hl] at this
        exact Option.some.inj this
      rw [hpc] at em
      have hfi : fromIndex z.length (st : Int) = st := by
        unfold fromIndex
        rw [if_neg (by omega)]
        omega
      refine ⟨.str z, rfl, rfl, .str ⟨#[c]⟩, rfl, .int st, rfl, z, ⟨#[c]⟩, st, rfl, rfl, ?_⟩
      rcases PySem.StrLaws.find3_spec z c (st : Int) with ⟨hf, hn⟩ | ⟨k, hf, h1, h2, h3, h4⟩
      · rw [hf]
        refine ⟨_, rfl, _, _, rfl, rfl, _, rfl, ?_⟩
        refine iteT ?_
        refine ⟨.ref o, rfl, q _ o sm no ?_⟩
        rw [emb_stop fun v hv => by
          rcases Nat.lt_or_ge v z.length with hl | hl
          · rw [getD_cs hl]
            intro e
            exact hn v (by rw [hfi]; exact hv) hl (Option.some.inj e)
          · rw [List.getElem?_eq_none (by rw [← len_cs]; exact hl)]
            exact (fun e => by cases e), List.append_nil] at em
        rw [← em]
        exact eo
      · rw [hf]
        refine ⟨_, rfl, _, _, rfl, rfl, _, rfl, ?_⟩
        rw [decide_eq_false (by omega)]
        refine iteF ?_
        refine ⟨.ref o, rfl, .inl ⟨rfl, _, SqL.of eo⟩, .int k, rfl, o, _, _, rfl, rfl, eo, ?_, ?_⟩
        · rw [List.length_map]
          have : i < p.length := hi
          exact lt_line (by omega)
        · refine ⟨_, rfl, _, _, rfl, rfl, ?_⟩
          refine ⟨acc ++ [k], k + 1, _, _, rfl, same_put sm no, ?_, by rw [List.length_append, la]; rfl, ?_⟩
          · rw [upd_same, iV_snoc]
          · rw [hfi] at h1
            rw [emb_step (k := k) (by rw [getD_cs h2, h3]) h1 fun v hv hvk => by
              rw [getD_cs (by omega)]
              intro e
              exact h4 v (by rw [hfi]; exact hv) hvk (Option.some.inj e)] at em
            rw [List.append_assoc]
            exact em
    · rintro σ H3 ⟨acc, st, y4, y5, rfl, sm, eo, la, em⟩
      refine ⟨.ref o, rfl, q _ o sm no ?_⟩
      rw [List.drop_of_length_le (by rw [← len_cs]; exact Nat.le_refl _), emb_nil, List.append_nil] at em
      rw [← em]
      exact eo
theorem endO_last (l : List Nat) (x : Nat) : endO (l ++ [x]) 0 = x + 1 := by
  unfold endO
  rw [List.getLast?_concat]
  rfl
def sp_end_of (K : PySem.W.Frag) : Sp := fun vs H Q _ => ∃ (o : Addr) (l : List Nat), vs = [.ref o] ∧ SqL K H o (iV l) ∧ Q (.int (endO l 0 : Nat)) H
theorem ok_end_of (T : Txt K mg a) : FnOk P w K mg base CX0 1 a.f_end_of a.d_end_of ["positions"] (sp_end_of K) := by
  refine T.F_end_of.ok sc_end_of (fun vs H Q E h => ?_) (fun cdv A outer s H vs Q E hr h => ?_)
  · obtain ⟨o, l, rfl, _⟩ := h
    rfl
  · obtain ⟨o, l, rfl, hl, q⟩ := h
    refine ⟨_, (pss_one (ps_ret (pe_ifExp (pt_truth (pv 0) (fun _ => rfl)) (pe_op op_add (pe_ix ix_list (pv 0) (pe_un un_neg pe_int) (fun _ _ => rfl)) pe_int) pe_int))), ?_⟩
    rcases List.eq_nil_or_concat l with e | ⟨l', x, e⟩
    · subst e
      exact ⟨.ref o, rfl, false, .inl ⟨_, hl, rfl⟩, iteF q⟩
    · subst e
      rw [List.concat_eq_append] at hl q
      rw [endO_last] at q
      rw [iV_snoc] at hl
      refine ⟨.ref o, rfl, true, .inl ⟨_, hl, by simp⟩, iteT ⟨.ref o, rfl, 1, rfl, o, _, -1, .int (x : Nat), rfl, rfl, hl, atI_last _ _, _, _, rfl, rfl, ?_⟩⟩
      show Q (.int (((x : Nat) : Int) + 1)) H
      rw [show ((x : Nat) : Int) + 1 = ((x + 1 : Nat) : Int) by omega]
      exact q
def embB (R W : List Nat) : Bool := decide ((emb R W 0).length = R.length)
def sp_embeds : Sp := fun vs H Q _ => ∃ p z : Str, vs = [.str p, .str z] ∧ z.length ≤ 1000 ∧ p.length ≤ 1000 ∧ ∀ H', Same H H' → Q (.bl (embB (cs p) (cs z))) H'
theorem ok_embeds (T : Txt K mg a) : FnOk P w K mg base CX0 2 a.f_embeds a.d_embeds ["part", "word"] sp_embeds := by
  have G_earliest_positions := ok_earliest_positions (P := P) (w := w) (base := base) T
  refine T.F_embeds.ok sc_embeds (fun vs H Q E h => ?_) (fun cdv A outer s H vs Q E hr h => ?_)
  · obtain ⟨p, z, rfl, _⟩ := h
    rfl
  · obtain ⟨p, z, rfl, hz, hp, q⟩ := h
    refine ⟨_, (pss_one (ps_ret (pe_cmpR op_eq (pe_callB call_len_seq (by rfl) T.z_len (by decide +kernel) (pa_cons (pe_call G_earliest_positions (hr.mono (by decide)) (by rfl) T.g_earliest_positions T.F_earliest_positions.kp T.b_earliest_positions .nil pass0 (pa_cons (pv 0) (pa_cons (pv 1) pa_nil))) pa_nil)) (pe_callB call_len_str (by rfl) T.z_len (by decide +kernel) (pa_cons (pv 0) pa_nil)) (nomark _)))), ?_⟩
    refine ⟨.str p, rfl, .str z, rfl, p, z, rfl, hz, hp, fun H1 o sm no eo => ?_⟩
    refine ⟨o, _, rfl, .inl (SqL.of eo), .str p, rfl, p, rfl, le_line (by omega), rfl, ?_⟩
    have e : decide (V.int ((iV (emb (cs p) (cs z) 0)).length : Nat) = V.int (p.length : Nat)) = embB (cs p) (cs z) := by
      unfold embB
      rw [iV_len, len_cs p]
      exact decide_eq_decide.mpr ⟨fun h => by injection h with h; omega, fun h => by rw [h]⟩
    rw [e]
    exact q H1 sm
end
end E94

set_option Elab.async false
set_option linter.all false
set_option maxRecDepth 100000
set_option maxHeartbeats 4000000
namespace E94
open PySem PySem.Spec PyProof.Rows L2 Own Exn Mth Vld Gn StX
section
variable {P : Program} {w : World} {K : PySem.W.Frag} {mg : Str → Option Value} {base : Heap} {a : Ad}
/-- any value where an integer is wanted -/
inductive AnyI (K : PySem.W.Frag) (H : Hp) : V → Value → Prop where
  | int (i : Int) : AnyI K H (.int i) (.type "int")
  | bl (b : Bool) : AnyI K H (.bl b) (.type "bool")
  | oth {v : V} {t : Value} (ty : TyX K H v t) (no : PySem.W.kitOne K t (.type "int") = some false) (ns : ∀ i, v ≠ .int i) : AnyI K H v t
def isI : V → Bool
  | .int _ => true
  | _ => false
def inI (v : V) (lo hi : Int) : Bool := match v with
  | .int i => decide (lo ≤ i ∧ i ≤ hi)
  | _ => false
theorem isI_oth {v : V} (h : ∀ i, v ≠ .int i) : isI v = false := by
  unfold isI
  split
  · exact absurd rfl (h _)
  · rfl
theorem inI_oth {v : V} {lo hi : Int} (h : isI v = false) : inI v lo hi = false := by
  unfold inI
  split
  · cases h
  · rfl
def sp_is_integer (K : PySem.W.Frag) : Sp := fun vs H Q _ => ∃ (v : V) (t : Value), vs = [v] ∧ AnyI K H v t ∧ Q (.bl (isI v)) H
theorem ok_is_integer (T : Txt K mg a) : FnOk P w K mg base CX0 1 a.f_is_integer a.d_is_integer ["value"] (sp_is_integer K) := by
  refine T.F_is_integer.ok sc_is_integer (fun vs H Q E h => ?_) (fun cdv A outer s H vs Q E hr h => ?_)
  · obtain ⟨v, t, rfl, _⟩ := h
    rfl
  · obtain ⟨v, t, rfl, hv, q⟩ := h
    refine ⟨_, (pss_one (ps_ret (pe_and (pe_callB call_isi (by rfl) T.z_isinstance (by decide +kernel) (pa_cons (pv 0) (pa_cons (pe_bltn (v := .ty "int") (by rfl) T.z_int (by decide +kernel) rfl) pa_nil))) (pe_one (pe_not (pe_callB call_isi (by rfl) T.z_isinstance (by decide +kernel) (pa_cons (pv 0) (pa_cons (pe_bltn (v := .ty "bool") (by rfl) T.z_bool (by decide +kernel) rfl) pa_nil)))))))), ?_⟩
    cases hv with
    | int i => exact ⟨.int i, rfl, .int i, .ty "int", .type "int", .type "int", true, rfl, .ty "int", .base (.int i), kit_ty (by decide +kernel), true, rfl, iteT ⟨.int i, rfl, .int i, .ty "bool", .type "int", .type "bool", false, rfl, .ty "bool", .base (.int i), kit_ty (by decide +kernel), false, rfl, q⟩⟩
    | bl b => exact ⟨.bl b, rfl, .bl b, .ty "int", .type "bool", .type "int", true, rfl, .ty "int", .base (.bl b), kit_ty (by decide +kernel), true, rfl, iteT ⟨.bl b, rfl, .bl b, .ty "bool", .type "bool", .type "bool", true, rfl, .ty "bool", .base (.bl b), kit_ty (by decide +kernel), true, rfl, q⟩⟩
    | oth ty no ns =>
      rw [isI_oth ns] at q
      exact ⟨v, rfl, v, .ty "int", t, .type "int", false, rfl, .ty "int", ty, no, false, rfl, iteF q⟩
def sp_is_integer_within (K : PySem.W.Frag) : Sp := fun vs H Q _ => ∃ (v : V) (t : Value) (lo hi : Int), vs = [v, .int lo, .int hi] ∧ AnyI K H v t ∧ Q (.bl (inI v lo hi)) H
theorem ok_is_integer_within (T : Txt K mg a) : FnOk P w K mg base CX0 2 a.f_is_integer_within a.d_is_integer_within ["value", "low", "high"] (sp_is_integer_within K) := by
  have G_is_integer := ok_is_integer (P := P) (w := w) (base := base) T
  refine T.F_is_integer_within.ok sc_is_integer_within (fun vs H Q E h => ?_) (fun cdv A outer s H vs Q E hr h => ?_)
  · obtain ⟨v, t, lo, hi, rfl, _⟩ := h
    rfl
  · obtain ⟨v, t, lo, hi, rfl, hv, q⟩ := h
    refine ⟨_, (pss_one (ps_ret (pe_and (pe_call G_is_integer (hr.mono (by decide)) (by rfl) T.g_is_integer T.F_is_integer.kp T.b_is_integer .nil pass0 (pa_cons (pv 0) pa_nil)) (pe_one (pe_chain op_le op_le (pv 1) (pv 0) (pv 2)))))), ?_⟩
    refine ⟨v, rfl, v, t, rfl, hv, _, rfl, ?_⟩
    cases e : isI v with
    | false => rw [inI_oth e] at q; exact iteF q
    | true =>
      obtain ⟨i, rfl⟩ : ∃ i, v = .int i := by
        unfold isI at e
        split at e
        · exact ⟨_, rfl⟩
        · cases e
      refine iteT ⟨.int lo, rfl, .int i, rfl, lo, i, rfl, rfl, _, rfl, ?_⟩
      have eq : inI (.int i) lo hi = (decide (lo ≤ i) && decide (i ≤ hi)) := by
        show decide (lo ≤ i ∧ i ≤ hi) = _
        rw [Bool.decide_and]
      rw [eq] at q
      by_cases h1 : lo ≤ i
      · rw [decide_eq_true h1] at q ⊢
        exact iteT ⟨.int hi, rfl, i, hi, rfl, rfl, q⟩
      · rw [decide_eq_false h1] at q ⊢
        exact iteF q
end
end E94

set_option Elab.async false
set_option linter.all false
set_option maxRecDepth 100000
set_option maxHeartbeats 4000000
namespace E94
open PySem PySem.Spec PyProof.Rows L2 Own Exn Mth Vld Gn StX
section
variable {P : Program} {w : World} {K : PySem.W.Frag} {mg : Str → Option Value} {base : Heap} {a : Ad}
def fitB (R W : List Nat) (v : V) : Bool := match v with
  | .int i => inI (.int i) 0 (R.length : Nat) && embB (R.drop i.toNat) W
  | _ => false
def sp_is_fitting_core (K : PySem.W.Frag) : Sp := fun vs H Q _ => ∃ (R W : List Nat) (v : V) (t : Value), vs = [.str (mk R), .str (mk W), v] ∧ R.length ≤ 1000 ∧ W.length ≤ 1000 ∧ AnyI K H v t ∧ ∀ H', Same H H' → Q (.bl (fitB R W v)) H'
theorem ok_is_fitting_core (T : Txt K mg a) : FnOk P w K mg base CX0 3 a.f_is_fitting_core a.d_is_fitting_core ["taken", "given", "core"] (sp_is_fitting_core K) := by
  have G_is_integer_within := ok_is_integer_within (P := P) (w := w) (base := base) T
  have G_embeds := ok_embeds (P := P) (w := w) (base := base) T
  refine T.F_is_fitting_core.ok sc_is_fitting_core (fun vs H Q E h => ?_) (fun cdv A outer s H vs Q E hr h => ?_)
  · obtain ⟨R, W, v, t, rfl, _⟩ := h
    rfl
  · obtain ⟨R, W, v, t, rfl, hR, hW, hv, q⟩ := h
    refine ⟨_, (pss_one (ps_ret (pe_and (pe_call G_is_integer_within (hr.mono (by decide)) (by rfl) T.g_is_integer_within T.F_is_integer_within.kp T.b_is_integer_within .nil pass0 (pa_cons (pv 2) (pa_cons pe_int (pa_cons (pe_callB call_len_str (by rfl) T.z_len (by decide +kernel) (pa_cons (pv 0) pa_nil)) pa_nil)))) (pe_one (pe_call G_embeds (hr.mono (by decide)) (by rfl) T.g_embeds T.F_embeds.kp T.b_embeds .nil pass0 (pa_cons (pe_slice sl_str (pv 0) (po_some (pv 2)) po_none) (pa_cons (pv 1) pa_nil))))))), ?_⟩
    refine ⟨v, rfl, .str (mk R), rfl, mk R, rfl, le_line (by rw [len_mk]; omega), v, t, 0, _, rfl, hv, ?_⟩
    rw [len_mk]
    cases e : inI v 0 (R.length : Nat) with
    | false =>
      refine ⟨false, rfl, iteF ?_⟩
      have : fitB R W v = false := by
        unfold fitB
        split
        · rw [e]; rfl
        · rfl
      have q := q H (Same.refl H)
      rw [this] at q
      exact q
    | true =>
      obtain ⟨i, rfl⟩ : ∃ i, v = .int i := by
        unfold inI at e
        split at e
        · exact ⟨_, rfl⟩
        · cases e
      have hi : 0 ≤ i ∧ i ≤ (R.length : Nat) := of_decide_eq_true e
      obtain ⟨n, rfl⟩ : ∃ n : Nat, i = n := ⟨i.toNat, by omega⟩
      refine ⟨true, rfl, iteT ⟨.str (mk R), rfl, .int (n : Nat), rfl, _, rfl, mk R, rfl, le_line (by rw [len_mk]; omega), ?_⟩⟩
      rw [cut_from]
      refine ⟨.str (mk W), rfl, _, _, rfl, by rw [len_mk]; omega, by rw [len_mk, List.length_drop]; omega, fun H1 sm => ?_⟩
      rw [cs_mk, cs_mk]
      have : fitB R W (.int (n : Nat)) = embB (R.drop n) W := by
        show (inI (.int (n : Nat)) 0 (R.length : Nat) && embB (R.drop ((n : Nat) : Int).toNat) W) = _
        rw [e, Int.toNat_natCast]
        rfl
      have q := q H1 sm
      rw [this] at q
      exact q
end
end E94

set_option Elab.async false
set_option linter.all false
set_option maxRecDepth 100000
set_option maxHeartbeats 4000000
namespace E94
open PySem PySem.Spec PyProof.Rows L2 Own Exn Mth Vld Gn StX
section
variable {P : Program} {w : World} {K : PySem.W.Frag} {mg : Str → Option Value} {base : Heap} {a : Ad}
def sp_perform_best : Sp := fun vs H Q _ => ∃ (p : Str) (z : List Nat), vs = [.str p, .str (mk z)] ∧ p.length ≤ 1000 ∧ (∀ c ∈ cs p, c ∈ st16) ∧ z.length ≤ 1000 ∧
  ∀ H' t l, Same H H' → H t = none → H l = none → t ≠ l → H' t = some (.tup [oV (bst (cs p) z), .ref l]) → H' l = some (.lst (iV (cnt (cs p) z))) → Q (.ref t) H'
theorem ok_perform_best (T : Txt K mg a) : FnOk P w K mg base CX0 1 a.f_perform_best a.d_perform_best ["program", "queue"] sp_perform_best := by
  refine T.F_perform_best.ok sc_perform_best (fun vs H Q E h => ?_) (fun cdv A outer s H vs Q E hr h => ?_)
  · obtain ⟨p, z, rfl, _⟩ := h
    rfl
  · obtain ⟨p, z, rfl, hp, hc, hz, q⟩ := h
    refine ⟨_, (pss_cons (ps_set (i := 2) sc_perform_best.nd rfl (Or.inl rfl) (pv 1))
      (pss_cons (ps_set (i := 3) sc_perform_best.nd rfl (Or.inl rfl) (pe_lst pa_nil))
      (pss_cons (ps_for PassesOwn.never rfl (pi_str (pv 0)) (pg_name (i := 4) sc_perform_best.nd rfl (Or.inl rfl))
        (pss_cons (ps_set (i := 5) sc_perform_best.nd rfl (Or.inl rfl) pe_int)
        (pss_cons (ps_if (pt_val (pe_bm0 PySem.F.plainAttrs_str PySem.F.slot_str_islower PySem.F.type_str_islower mt_islower (pv 4)))
          (pss_one (ps_aug (i := 2) sc_perform_best.nd rfl (Or.inl rfl) (pv 4) iop_add_str))
          (pss_cons (ps_set (i := 5) sc_perform_best.nd rfl (Or.inl rfl) (pe_bm PySem.F.plainAttrs_str PySem.F.slot_str_find PySem.F.type_str_find mt_find (pv 2) (pa_cons (pe_lower (pv 4)) pa_nil)))
          (pss_cons (ps_if (pt_cmpR op_lt (pv 5) pe_int (nomark _))
            (pss_one (ps_ret (pe_tup (pa_cons pe_non (pa_cons (pv 3) pa_nil)))))
            pss_nil)
          (pss_one (ps_set (i := 2) sc_perform_best.nd rfl (Or.inl rfl) (pe_slice sl_str (pv 2) (po_some (pe_op op_add (pv 5) pe_int)) po_none))))))
        (pss_one (ps_expr (pe_bm PySem.F.plainAttrs_list PySem.F.slot_list_append PySem.F.type_list_append mt_append (pv 3) (pa_cons (pv 5) pa_nil)))))))
      (pss_one (ps_ret (pe_tup (pa_cons (pv 2) (pa_cons (pv 3) pa_nil)))))))), ?_⟩
    refine ⟨.str (mk z), rfl, Nat.zero_le _, fun o no => ?_⟩
    refine ⟨.str p, rfl, p, rfl, for_it walk_str (fun i σ H3 => ∃ (zi acc : List Nat) (y4 y5 : Option V), σ = [some (.str p), some (.str (mk z)), some (.str (mk zi)), some (.ref o), y4, y5] ∧ Same H H3 ∧ H3 o = some (.lst (iV acc)) ∧ acc.length = i ∧ zi.length ≤ z.length + i ∧
      bst ((cs p).drop i) zi = bst (cs p) z ∧ acc ++ cnt ((cs p).drop i) zi = cnt (cs p) z) ?_ (fun _ _ _ _ _ => trivial) ?_ ?_⟩
    · exact ⟨z, [], none, none, rfl, same_new no, upd_same, rfl, Nat.le_refl _, rfl, rfl⟩
    · rintro i x σ H3 H4 hi ⟨zi, acc, y4, y5, rfl, sm, eo, la, lz, eb, ec⟩ ⟨rfl, c, hcc, rfl⟩
      have hi' : i < p.length := hi
      have hat := str_at hcc
      obtain ⟨u1, u2, u3⟩ := letters c (hc c (List.mem_of_getElem? hat))
      rw [drop_cons hat] at eb ec
      have fin : ∀ (n : Nat) (z2 : List Nat), z2.length ≤ zi.length + 1 → bst ((cs p).drop (i + 1)) z2 = bst (cs p) z → (acc ++ [n]) ++ cnt ((cs p).drop (i + 1)) z2 = cnt (cs p) z →
          (∃ (zi acc : List Nat) (y4 y5 : Option V), [some (.str p), some (.str (mk z)), some (.str (mk z2)), some (.ref o), some (.str (sg c)), some (.int (n : Nat))] = [some (.str p), some (.str (mk z)), some (.str (mk zi)), some (.ref o), y4, y5] ∧ Same H (upd H4 o (.lst (iV acc))) ∧ (upd H4 o (.lst (iV acc))) o = some (.lst (iV acc)) ∧ acc.length = i + 1 ∧ zi.length ≤ z.length + (i + 1) ∧
      bst ((cs p).drop (i + 1)) zi = bst (cs p) z ∧ acc ++ cnt ((cs p).drop (i + 1)) zi = cnt (cs p) z) := fun n z2 h1 h2 h3 =>
        ⟨z2, acc ++ [n], _, _, rfl, same_put sm no, upd_same, by rw [List.length_append, la]; rfl, by omega, h2, h3⟩
      refine ⟨.str (sg c), rfl, rfl, sg c, rfl, rfl, trivial, _, rfl, ?_⟩
      rw [u2]
      by_cases hu : 97 ≤ c
      · rw [decide_eq_true hu]
        rw [bst_put hu] at eb
        rw [cnt_put hu] at ec
        refine iteT ⟨.str (mk zi), rfl, .str (sg c), rfl, mk zi, sg c, rfl, rfl, le_line (by rw [len_mk]; show _ + 1 ≤ _; omega), ?_⟩
        refine ⟨.ref o, rfl, .inl ⟨rfl, _, SqL.of eo⟩, .int 0, rfl, o, _, _, rfl, rfl, eo, lt_line (by rw [iV_len]; omega), ?_⟩
        rw [app_sg]
        refine ⟨zi ++ [c], acc ++ [0], _, _, rfl, same_put sm no, by rw [upd_same, iV_snoc]; rfl, by rw [List.length_append, la]; rfl, by rw [List.length_append]; show _ + 1 ≤ _; omega, eb, by rw [List.append_assoc]; exact ec⟩
      · rw [decide_eq_false hu]
        refine iteF ⟨.str (mk zi), rfl, rfl, .str (sg c), rfl, ⟨_, rfl⟩, sg c, rfl, rfl, line1, mk zi, _, rfl, rfl, ?_⟩
        rw [u3, find_mk, low_up hu]
        cases e : fst? (c + 32) zi with
        | none =>
          rw [bst_fail hu e] at eb
          rw [cnt_fail hu e, List.append_nil] at ec
          refine ⟨_, rfl, _, _, rfl, rfl, _, rfl, iteT ?_⟩
          refine ⟨.ref o, rfl, le_line (show 2 ≤ 100000 by decide), fun t nt => ?_⟩
          have nto : t ≠ o := fun e => by rw [e, eo] at nt; cases nt
          refine q _ t o (sm.trans (same_new nt)) (sm.free nt) no nto ?_ ?_
          · rw [upd_same, ← eb]; rfl
          · rw [upd_ne nto.symm, eo, ← ec]
        | some k =>
          rw [bst_take hu e] at eb
          rw [cnt_take hu e] at ec
          obtain ⟨k1, k2, k3⟩ := fst_lt e
          refine ⟨_, rfl, _, _, rfl, rfl, _, rfl, ?_⟩
          rw [decide_eq_false (show ¬ told (some k) < 0 by show ¬ ((k : Nat) : Int) < 0; omega)]
          refine iteF ⟨_, rfl, _, rfl, _, _, rfl, rfl, _, rfl, mk zi, rfl, le_line (by rw [len_mk]; omega), ?_⟩
          refine ⟨.ref o, rfl, .inl ⟨rfl, _, SqL.of eo⟩, .int (k : Nat), rfl, o, _, _, rfl, rfl, eo, lt_line (by rw [iV_len]; omega), ?_⟩
          rw [show (told (some k) + 1) = ((k + 1 : Nat) : Int) from by show ((k : Nat) : Int) + 1 = _; omega, cut_from]
          refine ⟨zi.drop (k + 1), acc ++ [k], _, _, rfl, same_put sm no, by rw [upd_same, iV_snoc], by rw [List.length_append, la]; rfl, by rw [List.length_drop]; omega, eb, by rw [List.append_assoc]; exact ec⟩
    · rintro σ H3 ⟨zi, acc, y4, y5, rfl, sm, eo, la, lz, eb, ec⟩
      rw [List.drop_of_length_le (show (cs p).length ≤ p.cps.size from Nat.le_of_eq (len_cs p).symm)] at eb ec
      refine ⟨.str (mk zi), rfl, .ref o, rfl, le_line (show 2 ≤ 100000 by decide), fun t nt => ?_⟩
      have nto : t ≠ o := fun e => by rw [e, eo] at nt; cases nt
      refine q _ t o (sm.trans (same_new nt)) (sm.free nt) no nto ?_ ?_
      · rw [upd_same, ← eb]; rfl
      · rw [upd_ne nto.symm, eo, ← ec]; exact congrArg (fun l => some (HO.lst (iV l))) (List.append_nil _).symm
def sp_unlimited_result : Sp := fun vs H Q _ => ∃ (p : Str) (z : List Nat), vs = [.str p, .str (mk z)] ∧ p.length ≤ 1000 ∧ (∀ c ∈ cs p, c ∈ st16) ∧ z.length ≤ 1000 ∧ ∀ H', Same H H' → Q (oV (bst (cs p) z)) H'
theorem ok_unlimited_result (T : Txt K mg a) : FnOk P w K mg base CX0 2 a.f_unlimited_result a.d_unlimited_result ["program", "queue"] sp_unlimited_result := by
  have G_perform_best := ok_perform_best (P := P) (w := w) (base := base) T
  refine T.F_unlimited_result.ok sc_unlimited_result (fun vs H Q E h => ?_) (fun cdv A outer s H vs Q E hr h => ?_)
  · obtain ⟨p, z, rfl, _⟩ := h
    rfl
  · obtain ⟨p, z, rfl, hp, hc, hz, q⟩ := h
    refine ⟨_, (pss_cons (ps_asg (pe_call G_perform_best (hr.mono (by decide)) (by rfl) T.g_perform_best T.F_perform_best.kp T.b_perform_best .nil pass0 (pa_cons (pv 0) (pa_cons (pv 1) pa_nil))) (pg_tup rfl (pgs_cons (pg_name (i := 2) sc_unlimited_result.nd rfl (Or.inl rfl)) (pgs_cons (pg_name (i := 3) sc_unlimited_result.nd rfl (Or.inl rfl)) pgs_nil))))
      (pss_one (ps_ret (pv 2)))), ?_⟩
    refine ⟨.str p, rfl, .str (mk z), rfl, p, z, rfl, hp, hc, hz, fun H' t l sm nt nl ne et el => ?_⟩
    refine ⟨t, _, rfl, SqT.of et, rfl, _, _, rfl, _, _, rfl, rfl, ?_⟩
    exact ⟨_, rfl, q _ sm⟩
end
end E94

set_option Elab.async false
set_option linter.all false
set_option maxRecDepth 100000
set_option maxHeartbeats 4000000
namespace E94
open PySem PySem.Spec PyProof.Rows L2 Own Exn Mth Vld Gn StX
section
variable {P : Program} {w : World} {K : PySem.W.Frag} {mg : Str → Option Value} {base : Heap} {a : Ad}
def sp_within_limit (C : Addr) : Sp := fun vs H Q E => ∃ r : Option (List Nat), vs = [oV r] ∧ (∀ l, r = some l → l.length ≤ 5000) ∧ (tooL r = false → Q (oV r) H) ∧ (tooL r = true → ∀ d, H d = none → E (.ref C) (some d) (upd H d (.xd [(("limit" : Str), .int 400)])))
theorem ok_within_limit (T : Txt K mg a) : FnOk P w K mg base (L2.CX P w) 2 a.f_within_limit a.d_within_limit ["result"] (sp_within_limit a.C_LimitExceeded) := by
  refine T.F_within_limit.okX sc_within_limit (fun vs H Q E h => ?_) (fun cdv A outer s H vs Q E hr h => ?_)
  · obtain ⟨r, rfl, _⟩ := h
    rfl
  · obtain ⟨r, rfl, hl, q1, q2⟩ := h
    refine ⟨_, (pss_cons (ps_if (PW.pt (pw_and (pt_cmpR op_notN (pv 0) pe_non (nomark _)) (pw_and1 (pt_cmpR op_gt (pe_callB call_len_str (by rfl) T.z_len (by decide +kernel) (pa_cons (pv 0) pa_nil)) (pe_glob (v := .int 400) (by rfl) T.c_MAX_LENGTH ⟨_, rfl⟩) (nomark _)))))
        (pss_one (ps_raise rfl (takes_of rfl rfl rfl rfl) (pmk_limit T.e_LimitExceeded hr (pa_cons (pe_glob (v := .int 400) (by rfl) T.c_MAX_LENGTH ⟨_, rfl⟩) pa_nil) (by rfl))))
        pss_nil)
      (pss_one (ps_ret (pv 0)))), ?_⟩
    cases r with
    | none => exact ⟨.non, rfl, rfl, false, rfl, iteF (iteF ⟨.non, rfl, q1 rfl⟩)⟩
    | some l =>
      have hl := hl l rfl
      refine ⟨.str (mk l), rfl, rfl, true, rfl, iteT ⟨.str (mk l), rfl, mk l, rfl, le_line (by rw [len_mk]; omega), _, _, rfl, rfl, _, rfl, ?_⟩⟩
      rw [len_mk]
      by_cases h4 : 400 < l.length
      · rw [decide_eq_true (show (400 : Int) < (l.length : Nat) by omega)]
        exact iteT ⟨.int 400, rfl, fun d hd => q2 (decide_eq_true h4) d hd⟩
      · rw [decide_eq_false (show ¬ (400 : Int) < (l.length : Nat) by omega)]
        exact iteF ⟨.str (mk l), rfl, q1 (decide_eq_false h4)⟩
end
end E94

set_option Elab.async false
set_option linter.all false
set_option maxRecDepth 100000
set_option maxHeartbeats 4000000
namespace E94
open PySem PySem.Spec PyProof.Rows L2 Own Exn Mth Vld Gn StX
section
variable {P : Program} {w : World} {K : PySem.W.Frag} {mg : Str → Option Value} {base : Heap} {a : Ad}
def sp_best_result (a : Ad) (K : PySem.W.Frag) : Sp := fun vs H Q E => ∃ (v u : V) (t1 t2 : Value), vs = [v, u] ∧ AnyV K H v t1 ∧ AnyV K H u t2 ∧
  (okV v "abcdefghABCDEFGH" = false → ∀ H' d, Same H H' → H d = none → H' d = some (.xd [(("value" : Str), v)]) → E (.ref a.C_InvalidProgram) (some d) H') ∧
  (okV v "abcdefghABCDEFGH" = true → okV u "abcdefgh" = false → ∀ H' d, Same H H' → H d = none → H' d = some (.xd [(("value" : Str), u)]) → E (.ref a.C_InvalidWord) (some d) H') ∧
  (∀ p z : Str, v = .str p → u = .str z → okS p "abcdefghABCDEFGH" = true → okS z "abcdefgh" = true → (tooL (bst (cs p) (cs z)) = false → ∀ H', Same H H' → Q (oV (bst (cs p) (cs z))) H') ∧
    (tooL (bst (cs p) (cs z)) = true → ∀ H' d, Same H H' → H d = none → H' d = some (.xd [(("limit" : Str), .int 400)]) → E (.ref a.C_LimitExceeded) (some d) H'))
theorem ok_best_result (T : Txt K mg a) : FnOk P w K mg base (L2.CX P w) 4 a.f_best_result a.d_best_result ["program", "queue"] (sp_best_result a K) := by
  have G_require_word := ok_require_word (P := P) (w := w) (base := base) T
  have G_require_program := ok_require_program (P := P) (w := w) (base := base) T
  have G_unlimited_result := ok_unlimited_result (P := P) (w := w) (base := base) T
  have G_within_limit := ok_within_limit (P := P) (w := w) (base := base) T
  refine T.F_best_result.okX sc_best_result (fun vs H Q E h => ?_) (fun cdv A outer s H vs Q E hr h => ?_)
  · obtain ⟨v, u, t1, t2, rfl, _⟩ := h
    rfl
  · obtain ⟨v, u, t1, t2, rfl, h1, h2, q1, q2, q⟩ := h
    refine ⟨_, (pss_cons (ps_expr (pe_callS G_require_program (hr.mono (by decide)) (by rfl) T.g_require_program T.F_require_program.kp T.b_require_program (fun σ => passAt (takes_of rfl rfl rfl rfl) σ) (pa_cons (pv 0) pa_nil)))
      (pss_cons (ps_expr (pe_callS G_require_word (hr.mono (by decide)) (by rfl) T.g_require_word T.F_require_word.kp T.b_require_word (fun σ => passAt (takes_of rfl rfl rfl rfl) σ) (pa_cons (pv 1) pa_nil)))
      (pss_one (ps_ret (pe_callS G_within_limit (hr.mono (by decide)) (by rfl) T.g_within_limit T.F_within_limit.kp T.b_within_limit (fun σ => passAt (takes_of rfl rfl rfl rfl) σ) (pa_cons (pe_call G_unlimited_result (hr.mono (by decide)) (by rfl) T.g_unlimited_result T.F_unlimited_result.kp T.b_unlimited_result .nil pass0 (pa_cons (pv 0) (pa_cons (pv 1) pa_nil))) pa_nil)))))), ?_⟩
    refine ⟨v, rfl, v, t1, rfl, h1, fun e1 => ⟨u, rfl, u, t2, rfl, h2, fun e2 => ?_, fun e2 d hd => q2 e1 e2 _ d (same_new hd) hd upd_same⟩, fun e1 d hd => q1 e1 _ d (same_new hd) hd upd_same⟩
    obtain ⟨p, rfl, lp, cp⟩ := okV_str e1
    obtain ⟨z, rfl, lz, cz⟩ := okV_str e2
    obtain ⟨qa, qb⟩ := q p z rfl rfl e1 e2
    refine ⟨.str p, rfl, .str z, rfl, p, cs z, by rw [mk_cs]; rfl, by omega, cp, by rw [← len_cs]; omega, fun H' sm => ?_⟩
    refine ⟨_, rfl, fun l el => ?_, fun hh => qa hh H' sm, fun hh d hd => qb hh _ d (sm.trans (same_new hd)) (sm.free hd) upd_same⟩
    have := bst_len _ _ _ el
    rw [← len_cs, ← len_cs] at this
    omega
end
end E94

set_option Elab.async false
set_option linter.all false
set_option maxRecDepth 100000
set_option maxHeartbeats 4000000
namespace E94
open PySem PySem.Spec PyProof.Rows L2 Own Exn Mth Vld Gn StX
section
variable {P : Program} {w : World} {K : PySem.W.Frag} {mg : Str → Option Value} {base : Heap} {a : Ad}
def sp_result_of_puts : Sp := fun vs H Q _ => ∃ (R W : List Nat) (n : Nat), vs = [.str (mk R), .str (mk W), .int (n : Nat)] ∧ R.length ≤ 1000 ∧ W.length ≤ 1000 ∧ ∀ H', Same H H' → Q (.str (mk (W.drop (endO (emb (R.drop n) W 0) 0)))) H'
theorem ok_result_of_puts (T : Txt K mg a) : FnOk P w K mg base CX0 2 a.f_result_of_puts a.d_result_of_puts ["taken", "given", "served"] sp_result_of_puts := by
  have G_earliest_positions := ok_earliest_positions (P := P) (w := w) (base := base) T
  have G_end_of := ok_end_of (P := P) (w := w) (base := base) T
  refine T.F_result_of_puts.ok sc_result_of_puts (fun vs H Q E h => ?_) (fun cdv A outer s H vs Q E hr h => ?_)
  · obtain ⟨R, W, n, rfl, _⟩ := h
    rfl
  · obtain ⟨R, W, n, rfl, hR, hW, q⟩ := h
    refine ⟨_, (pss_one (ps_ret (pe_slice sl_str (pv 1) (po_some (pe_call G_end_of (hr.mono (by decide)) (by rfl) T.g_end_of T.F_end_of.kp T.b_end_of .nil pass0 (pa_cons (pe_call G_earliest_positions (hr.mono (by decide)) (by rfl) T.g_earliest_positions T.F_earliest_positions.kp T.b_earliest_positions .nil pass0 (pa_cons (pe_slice sl_str (pv 0) (po_some (pv 2)) po_none) (pa_cons (pv 1) pa_nil))) pa_nil))) po_none))), ?_⟩
    refine ⟨.str (mk W), rfl, .str (mk R), rfl, .int (n : Nat), rfl, _, rfl, mk R, rfl, le_line (by rw [len_mk]; omega), ?_⟩
    rw [cut_from]
    refine ⟨.str (mk W), rfl, _, _, rfl, by rw [len_mk]; omega, by rw [len_mk, List.length_drop]; omega, fun H1 o sm no eo => ?_⟩
    rw [cs_mk, cs_mk] at eo
    refine ⟨o, _, rfl, SqL.of eo, _, rfl, mk W, rfl, le_line (by rw [len_mk]; omega), ?_⟩
    rw [cut_from]
    exact q H1 sm
def sp_effect_result : Sp := fun vs H Q _ => ∃ (R W : List Nat) (n : Nat) (q0 : List Nat), vs = [.str (mk R), .str (mk W), .int (n : Nat), .str (mk q0)] ∧ R.length ≤ 1000 ∧ W.length ≤ 1000 ∧ q0.length ≤ 1000 ∧ ∀ H', Same H H' → Q (oV (eres R W n q0)) H'
theorem ok_effect_result (T : Txt K mg a) : FnOk P w K mg base CX0 3 a.f_effect_result a.d_effect_result ["taken", "given", "core", "queue"] sp_effect_result := by
  have G_earliest_positions := ok_earliest_positions (P := P) (w := w) (base := base) T
  have G_end_of := ok_end_of (P := P) (w := w) (base := base) T
  have G_result_of_puts := ok_result_of_puts (P := P) (w := w) (base := base) T
  refine T.F_effect_result.ok sc_effect_result (fun vs H Q E h => ?_) (fun cdv A outer s H vs Q E hr h => ?_)
  · obtain ⟨R, W, n, q0, rfl, _⟩ := h
    rfl
  · obtain ⟨R, W, n, q0, rfl, hR, hW, hq, q⟩ := h
    refine ⟨_, (pss_cons (ps_set (i := 4) sc_effect_result.nd rfl (Or.inl rfl) (pe_call G_earliest_positions (hr.mono (by decide)) (by rfl) T.g_earliest_positions T.F_earliest_positions.kp T.b_earliest_positions .nil pass0 (pa_cons (pv 0) (pa_cons (pv 3) pa_nil))))
      (pss_cons (ps_set (i := 5) sc_effect_result.nd rfl (Or.inl rfl) (pe_callB call_len_seq (by rfl) T.z_len (by decide +kernel) (pa_cons (pv 4) pa_nil)))
      (pss_cons (ps_if (pt_cmpR op_lt (pv 5) (pv 2) (nomark _))
        (pss_one (ps_ret pe_non))
        pss_nil)
      (pss_cons (ps_if (pt_cmpR op_eq (pv 5) (pe_callB call_len_str (by rfl) T.z_len (by decide +kernel) (pa_cons (pv 0) pa_nil)) (nomark _))
        (pss_one (ps_ret (pe_op op_add_str (pe_slice sl_str (pv 3) (po_some (pe_call G_end_of (hr.mono (by decide)) (by rfl) T.g_end_of T.F_end_of.kp T.b_end_of .nil pass0 (pa_cons (pv 4) pa_nil))) po_none) (pv 1))))
        pss_nil)
      (pss_one (ps_ret (pe_call G_result_of_puts (hr.mono (by decide)) (by rfl) T.g_result_of_puts T.F_result_of_puts.kp T.b_result_of_puts .nil pass0 (pa_cons (pv 0) (pa_cons (pv 1) (pa_cons (pv 5) pa_nil)))))))))), ?_⟩
    refine ⟨.str (mk R), rfl, .str (mk q0), rfl, _, _, rfl, by rw [len_mk]; omega, by rw [len_mk]; omega, fun H1 o sm no eo => ?_⟩
    rw [cs_mk, cs_mk] at eo
    have hl := emb_le q0 R 0
    refine ⟨.ref o, rfl, o, _, rfl, .inl (SqL.of eo), ?_⟩
    rw [iV_len]
    refine ⟨_, rfl, .int (n : Nat), rfl, _, _, rfl, rfl, _, rfl, ?_⟩
    by_cases h1 : (emb R q0 0).length < n
    · have e : eres R W n q0 = none := by unfold eres; rw [if_pos h1]
      rw [decide_eq_true (show (((emb R q0 0).length : Nat) : Int) < (n : Nat) by omega)]
      have q := q H1 sm
      rw [e] at q
      exact iteT q
    rw [decide_eq_false (show ¬ (((emb R q0 0).length : Nat) : Int) < (n : Nat) by omega)]
    refine iteF ⟨_, rfl, .str (mk R), rfl, mk R, rfl, le_line (by rw [len_mk]; omega), rfl, _, rfl, ?_⟩
    rw [len_mk]
    by_cases h2 : (emb R q0 0).length = R.length
    · have e : eres R W n q0 = some (q0.drop (endO (emb R q0 0) 0) ++ W) := by unfold eres; rw [if_neg h1, if_pos h2]
      rw [decide_eq_true (show V.int ((emb R q0 0).length : Nat) = V.int (R.length : Nat) by rw [h2])]
      refine iteT ⟨.str (mk q0), rfl, .ref o, rfl, o, _, rfl, SqL.of eo, _, rfl, mk q0, rfl, le_line (by rw [len_mk]; omega), ?_⟩
      rw [cut_from]
      refine ⟨.str (mk W), rfl, _, _, rfl, rfl, le_line (by rw [len_mk, len_mk, List.length_drop]; omega), ?_⟩
      rw [app_mk]
      have q := q H1 sm
      rw [e] at q
      exact q
    · have e : eres R W n q0 = some (W.drop (endO (emb (R.drop (emb R q0 0).length) W 0) 0)) := by unfold eres; rw [if_neg h1, if_neg h2]
      rw [decide_eq_false (show ¬ V.int ((emb R q0 0).length : Nat) = V.int (R.length : Nat) from fun z => h2 (by injection z with z; omega))]
      refine iteF ⟨.str (mk R), rfl, .str (mk W), rfl, _, rfl, R, W, (emb R q0 0).length, rfl, hR, hW, fun H2 s2 => ?_⟩
      have q := q H2 (sm.trans s2)
      rw [e] at q
      exact q
end
end E94

set_option Elab.async false
set_option linter.all false
set_option maxRecDepth 100000
set_option maxHeartbeats 4000000
namespace E94
open PySem PySem.Spec PyProof.Rows L2 Own Exn Mth Vld Gn StX
section
variable {P : Program} {w : World} {K : PySem.W.Frag} {mg : Str → Option Value} {base : Heap} {a : Ad}
theorem nTG : ¬ (("taken" : Str) = "given") := by decide +kernel
theorem nTN : ¬ (("taken" : Str) = "needed") := by decide +kernel
theorem nGN : ¬ (("given" : Str) = "needed") := by decide +kernel
/-- the fields of an effect -/
def efl (R W : List Nat) (k : Nat) : List (Str × V) := putF "needed" (.int (k : Nat)) (putF "given" (.str (mk W)) (putF "taken" (.str (mk R)) []))
theorem efl_taken (R W : List Nat) (k : Nat) : (efl R W k).lookup ("taken" : Str) = some (.str (mk R)) := by
  unfold efl
  rw [lookup_putF, if_neg nTN, lookup_putF, if_neg nTG, lookup_putF, if_pos rfl]
theorem efl_given (R W : List Nat) (k : Nat) : (efl R W k).lookup ("given" : Str) = some (.str (mk W)) := by
  unfold efl
  rw [lookup_putF, if_neg nGN, lookup_putF, if_pos rfl]
theorem efl_needed (R W : List Nat) (k : Nat) : (efl R W k).lookup ("needed" : Str) = some (.int (k : Nat)) := by
  unfold efl
  rw [lookup_putF, if_pos rfl]
theorem efl_no (R W : List Nat) (k : Nat) {m : Str} (h1 : ¬ m = "needed") (h2 : ¬ m = "given") (h3 : ¬ m = "taken") : (efl R W k).lookup m = none := by
  unfold efl
  rw [lookup_putF, if_neg h1, lookup_putF, if_neg h2, lookup_putF, if_neg h3]
  rfl
def EffAt (a : Ad) (H : Hp) (e : Addr) (R W : List Nat) (k : Nat) : Prop := ∃ dx, H e = some (.ins a.C_Effect dx (efl R W k))
theorem EffAt.same {H H' : Hp} {e : Addr} {R W : List Nat} {k : Nat} (h : EffAt a H e R W k) (s : Same H H') : EffAt a H' e R W k := by
  obtain ⟨dx, h⟩ := h
  exact ⟨dx, s _ _ h⟩
def sp_is_core (a : Ad) (K : PySem.W.Frag) : Sp := fun vs H Q E => ∃ (v u c : V) (t1 t2 t3 : Value), vs = [v, u, c] ∧ AnyV K H v t1 ∧ AnyV K H u t2 ∧ AnyI K H c t3 ∧
  (okV v "abcdefgh" = false → ∀ d, H d = none → E (.ref a.C_InvalidWord) (some d) (upd H d (.xd [(("value" : Str), v)]))) ∧
  (okV v "abcdefgh" = true → okV u "abcdefgh" = false → ∀ d, H d = none → E (.ref a.C_InvalidWord) (some d) (upd H d (.xd [(("value" : Str), u)]))) ∧
  (∀ R W : List Nat, v = .str (mk R) → u = .str (mk W) → R.length ≤ 400 → W.length ≤ 400 → (∀ c ∈ R, c ∈ lo8) → (∀ c ∈ W, c ∈ lo8) → ∀ H', Same H H' → Q (.bl (fitB R W c)) H')
theorem ok_Effect_is_core (T : Txt K mg a) : FnOk P w K mg base (L2.CX P w) 4 a.f_Effect_is_core a.d_Effect_is_core ["takes", "puts", "core"] (sp_is_core a K) := by
  have G_require_word := ok_require_word (P := P) (w := w) (base := base) T
  have G_is_fitting_core := ok_is_fitting_core (P := P) (w := w) (base := base) T
  refine T.F_Effect_is_core.okX sc_Effect_is_core (fun vs H Q E h => ?_) (fun cdv A outer s H vs Q E hr h => ?_)
  · obtain ⟨v, u, c, t1, t2, t3, rfl, _⟩ := h
    rfl
  · obtain ⟨v, u, c, t1, t2, t3, rfl, h1, h2, h3, q1, q2, q⟩ := h
    refine ⟨_, (pss_cons (ps_expr (pe_callS G_require_word (hr.mono (by decide)) (by rfl) T.g_require_word T.F_require_word.kp T.b_require_word (fun σ => passAt (takes_of rfl rfl rfl rfl) σ) (pa_cons (pv 0) pa_nil)))
      (pss_cons (ps_expr (pe_callS G_require_word (hr.mono (by decide)) (by rfl) T.g_require_word T.F_require_word.kp T.b_require_word (fun σ => passAt (takes_of rfl rfl rfl rfl) σ) (pa_cons (pv 1) pa_nil)))
      (pss_one (ps_ret (pe_call G_is_fitting_core (hr.mono (by decide)) (by rfl) T.g_is_fitting_core T.F_is_fitting_core.kp T.b_is_fitting_core .nil pass0 (pa_cons (pv 0) (pa_cons (pv 1) (pa_cons (pv 2) pa_nil)))))))), ?_⟩
    refine ⟨v, rfl, v, t1, rfl, h1, fun e1 => ⟨u, rfl, u, t2, rfl, h2, fun e2 => ?_, fun e2 d hd => q2 e1 e2 d hd⟩, fun e1 d hd => q1 e1 d hd⟩
    obtain ⟨p, rfl, lp, cp⟩ := okV_str e1
    obtain ⟨z, rfl, lz, cz⟩ := okV_str e2
    rw [len_cs] at lp lz
    refine ⟨.str p, rfl, .str z, rfl, c, rfl, cs p, cs z, c, t3, by rw [mk_cs, mk_cs]; rfl, by omega, by omega, h3, fun H1 sm => ?_⟩
    exact q (cs p) (cs z) (by rw [mk_cs]) (by rw [mk_cs]) lp lz cp cz H1 sm
/-- of a new effect -/
def sp_init (a : Ad) (K : PySem.W.Frag) : Sp := fun vs H Q E => ∃ (x dx : Addr) (v u c : V) (t1 t2 t3 : Value), vs = [.ref x, v, u, c] ∧ H x = some (.ins a.C_Effect dx []) ∧ AnyV K H v t1 ∧ AnyV K H u t2 ∧ AnyI K H c t3 ∧
  (okV v "abcdefgh" = false → ∀ d, H d = none → E (.ref a.C_InvalidWord) (some d) (upd H d (.xd [(("value" : Str), v)]))) ∧
  (okV v "abcdefgh" = true → okV u "abcdefgh" = false → ∀ d, H d = none → E (.ref a.C_InvalidWord) (some d) (upd H d (.xd [(("value" : Str), u)]))) ∧
  (∀ R W : List Nat, v = .str (mk R) → u = .str (mk W) → R.length ≤ 400 → W.length ≤ 400 → (∀ c ∈ R, c ∈ lo8) → (∀ c ∈ W, c ∈ lo8) →
    (fitB R W c = false → ∀ H' d, Same H H' → H d = none → H' d = some (.xd [(("value" : Str), c)]) → E (.ref a.C_InvalidCore) (some d) H') ∧
    (fitB R W c = true → 400 < R.length + W.length → ∀ H' d, Same H H' → H d = none → H' d = some (.xd [(("limit" : Str), .int 400)]) → E (.ref a.C_LimitExceeded) (some d) H') ∧
    (∀ k : Nat, c = .int (k : Nat) → fitB R W c = true → R.length + W.length ≤ 400 → ∀ H', (∀ b o, b ≠ x → H b = some o → H' b = some o) → H' x = some (.ins a.C_Effect dx (efl R W k)) → Q .non H'))
theorem fit_int {R W : List Nat} {c : V} (h : fitB R W c = true) : ∃ k : Nat, c = .int (k : Nat) := by
  unfold fitB at h
  split at h
  · rename_i i
    have h1 := (Bool.and_eq_true_iff.mp h).1
    have h2 : 0 ≤ i ∧ i ≤ (R.length : Nat) := of_decide_eq_true h1
    exact ⟨i.toNat, by rw [Int.toNat_of_nonneg h2.1]⟩
  · cases h
theorem ok_Effect_init (T : Txt K mg a) : FnOk P w K mg base (L2.CX P w) 5 a.f_Effect_init a.d_Effect_init ["self", "takes", "puts", "core"] (sp_init a K) := by
  have G_Effect_is_core := ok_Effect_is_core (P := P) (w := w) (base := base) T
  refine T.F_Effect_init.okX sc_Effect_init (fun vs H Q E h => ?_) (fun cdv A outer s H vs Q E hr h => ?_)
  · obtain ⟨x, dx, v, u, c, t1, t2, t3, rfl, _⟩ := h
    rfl
  · obtain ⟨x, dx, v, u, c, t1, t2, t3, rfl, hx, h1, h2, h3, q1, q2, q⟩ := h
    refine ⟨_, (pss_cons (ps_if (pt_not (pt_val (Cmx.pe_smeth (pe_glob (v := .ref a.C_Effect) (by rfl) T.g_Effect rfl) T.cr_Effect T.sm_Effect_is_core G_Effect_is_core (hr.mono (by decide)) T.b_Effect_is_core (fun σ => passAt (takes_of rfl rfl rfl rfl) σ) (pa_cons (pv 1) (pa_cons (pv 2) (pa_cons (pv 3) pa_nil))))))
        (pss_one (ps_raise rfl (takes_of rfl rfl rfl rfl) (pmk_value T.e_InvalidCore hr (pa_cons (pv 3) pa_nil) (by rfl))))
        pss_nil)
      (pss_cons (ps_if (pt_cmpR op_gt (pe_op op_add (pe_callB call_len_str (by rfl) T.z_len (by decide +kernel) (pa_cons (pv 1) pa_nil)) (pe_callB call_len_str (by rfl) T.z_len (by decide +kernel) (pa_cons (pv 2) pa_nil))) (ClX.pe_cval (pe_glob (v := .ref a.C_Effect) (by rfl) T.g_Effect rfl)) (nomark _))
        (pss_one (ps_raise rfl (takes_of rfl rfl rfl rfl) (pmk_limit T.e_LimitExceeded hr (pa_cons (ClX.pe_cval (pe_glob (v := .ref a.C_Effect) (by rfl) T.g_Effect rfl)) pa_nil) (by rfl))))
        pss_nil)
      (pss_cons (ps_fld (pv 0) (pv 1) rfl)
      (pss_cons (ps_fld (pv 0) (pv 2) rfl)
      (pss_one (ps_fld (pv 0) (pv 3) rfl)))))), ?_⟩
    refine ⟨rfl, v, rfl, u, rfl, c, rfl, v, u, c, t1, t2, t3, rfl, h1, h2, h3, fun e1 d hd => q1 e1 d hd, fun e1 e2 d hd => q2 e1 e2 d hd, fun R W ev eu lR lW cR cW H1 sm => ?_⟩
    subst ev
    subst eu
    obtain ⟨qa, qb, qc⟩ := q R W rfl rfl lR lW cR cW
    cases e : fitB R W c with
    | false =>
      exact ⟨false, rfl, iteT ⟨c, rfl, c, rfl, fun d hd => qa e _ d (sm.trans (same_new hd)) (sm.free hd) upd_same⟩⟩
    | true =>
      refine ⟨true, rfl, iteF ⟨.str (mk R), rfl, mk R, rfl, le_line (by rw [len_mk]; omega), .str (mk W), rfl, mk W, rfl, le_line (by rw [len_mk]; omega), _, _, rfl, rfl, a.C_Effect, _, _, _, rfl, T.cr_Effect, T.cv_Effect_MAX_ITEMS, _, _, rfl, rfl, _, rfl, ?_⟩⟩
      rw [len_mk, len_mk]
      by_cases h4 : 400 < R.length + W.length
      · rw [decide_eq_true (show (400 : Int) < ((R.length : Nat) : Int) + ((W.length : Nat) : Int) by omega)]
        exact iteT ⟨a.C_Effect, _, _, _, rfl, T.cr_Effect, T.cv_Effect_MAX_ITEMS, .int 400, rfl, fun d hd => qb e h4 _ d (sm.trans (same_new hd)) (sm.free hd) upd_same⟩
      · rw [decide_eq_false (show ¬ (400 : Int) < ((R.length : Nat) : Int) + ((W.length : Nat) : Int) by omega)]
        obtain ⟨k, rfl⟩ := fit_int e
        refine iteF ⟨.str (mk R), rfl, .ref x, rfl, x, a.C_Effect, dx, [], rfl, sm _ _ hx, T.cl_Effect, T.n_Effect_taken, (by show 0 < 1000; decide), ?_⟩
        refine ⟨.str (mk W), rfl, .ref x, rfl, x, a.C_Effect, dx, _, rfl, upd_same, T.cl_Effect, T.n_Effect_given, (by show 1 < 1000; decide), ?_⟩
        refine ⟨.int (k : Nat), rfl, .ref x, rfl, x, a.C_Effect, dx, _, rfl, upd_same, T.cl_Effect, T.n_Effect_needed, ?_, ?_⟩
        · show (putF "given" (V.str (mk W)) (putF "taken" (V.str (mk R)) [])).length < 1000
          show (if ("taken" : Str) = "given" then [(("taken" : Str), V.str (mk W))] else [(("taken" : Str), V.str (mk R)), (("given" : Str), V.str (mk W))]).length < 1000
          rw [if_neg nTG]
          show 2 < 1000
          decide
        refine qc k rfl e (by omega) _ (fun b o nb hb => ?_) upd_same
        rw [upd_ne nb, upd_ne nb, upd_ne nb]
        exact sm _ _ hb
def sp_of (a : Ad) (K : PySem.W.Frag) : Sp := fun vs H Q E => ∃ (v : V) (t1 : Value), vs = [.ref a.C_Effect, v] ∧ AnyV K H v t1 ∧
  (okV v "abcdefghABCDEFGH" = false → ∀ H' d, Same H H' → H d = none → H' d = some (.xd [(("value" : Str), v)]) → E (.ref a.C_InvalidProgram) (some d) H') ∧
  (∀ p : List Nat, v = .str (mk p) → p.length ≤ 400 → (∀ c ∈ p, c ∈ st16) → ∀ H' e, Same H H' → H e = none → EffAt a H' e (tkS p) (puS p) (coreN p) → Q (.ref e) H')
theorem fit_core (p : List Nat) : fitB (tkS p) (puS p) (.int (coreN p : Nat)) = true := by
  obtain ⟨_, hle⟩ := pend_core p
  show (inI (.int (coreN p : Nat)) 0 ((tkS p).length : Nat) && embB ((tkS p).drop ((coreN p : Nat) : Int).toNat) (puS p)) = true
  rw [Int.toNat_natCast, Bool.and_eq_true]
  exact ⟨decide_eq_true ⟨by omega, by omega⟩, decide_eq_true (core_fits p)⟩
theorem ok_Effect_of (T : Txt K mg a) : FnOk P w K mg base (L2.CX P w) 7 a.f_Effect_of a.d_Effect_of ["cls", "program"] (sp_of a K) := by
  have G_require_program := ok_require_program (P := P) (w := w) (base := base) T
  have G_program_values := ok_program_values (P := P) (w := w) (base := base) T
  have G_Effect_init := ok_Effect_init (P := P) (w := w) (base := base) T
  refine T.F_Effect_of.okX sc_Effect_of (fun vs H Q E h => ?_) (fun cdv A outer s H vs Q E hr h => ?_)
  · obtain ⟨v, t1, rfl, _⟩ := h
    rfl
  · obtain ⟨v, t1, rfl, h1, q1, q⟩ := h
    refine ⟨_, (pss_cons (ps_expr (pe_callS G_require_program (hr.mono (by decide)) (by rfl) T.g_require_program T.F_require_program.kp T.b_require_program (fun σ => passAt (takes_of rfl rfl rfl rfl) σ) (pa_cons (pv 1) pa_nil)))
      (pss_cons (ps_asg (pe_call G_program_values (hr.mono (by decide)) (by rfl) T.g_program_values T.F_program_values.kp T.b_program_values .nil pass0 (pa_cons (pv 1) pa_nil)) (pg_tup rfl (pgs_cons (pg_name (i := 2) sc_Effect_of.nd rfl (Or.inl rfl)) (pgs_cons (pg_name (i := 3) sc_Effect_of.nd rfl (Or.inl rfl)) (pgs_cons (pg_name (i := 4) sc_Effect_of.nd rfl (Or.inl rfl)) pgs_nil)))))
      (pss_one (ps_ret (Cmx.pe_makeL (i := 0) T.mk_Effect G_Effect_init (hr.mono (by decide)) rfl (Or.inl rfl) T.b_Effect_init (fun σ => passAt (takes_of rfl rfl rfl rfl) σ) (pa_cons (pv 2) (pa_cons (pv 3) (pa_cons (pv 4) pa_nil)))))))), ?_⟩
    refine ⟨v, rfl, v, t1, rfl, h1, fun e1 => ?_, fun e1 d hd => q1 e1 _ d (same_new hd) hd upd_same⟩
    obtain ⟨z, rfl, lz, cz⟩ := okV_str e1
    obtain ⟨p, rfl⟩ : ∃ p, z = mk p := ⟨cs z, (mk_cs z).symm⟩
    rw [cs_mk] at cz
    rw [len_mk] at lz
    have q := q p rfl lz cz
    have hl := parts_len p
    refine ⟨.str (mk p), rfl, mk p, rfl, by rw [len_mk]; omega, by rw [cs_mk]; exact cz, fun H1 t s1 nt et => ?_⟩
    rw [cs_mk] at et
    refine ⟨t, _, rfl, SqT.of et, rfl, _, _, rfl, _, _, rfl, _, _, rfl, rfl, ?_⟩
    refine ⟨rfl, _, rfl, _, rfl, _, rfl, fun x dx nx ndx ne => ?_⟩
    have sx : Same H1 (upd (upd H1 dx (.own x)) x (.ins a.C_Effect dx [])) := fun b o hb => by rw [upd_ne (ne_of_none hb nx), upd_ne (ne_of_none hb ndx)]; exact hb
    have ok1 : okS (mk (tkS p)) "abcdefgh" = true := okS_mk (by omega) (tk_mem cz)
    have ok2 : okS (mk (puS p)) "abcdefgh" = true := okS_mk (by omega) (pu_mem cz)
    refine ⟨x, dx, _, _, _, _, _, _, rfl, upd_same, any_ok ok1, any_ok ok2, .int _, fun e => no_ok ok1 e, fun _ e => no_ok ok2 e, fun R W eR eW lR lW cR cW => ?_⟩
    have eR' : R = tkS p := by injection eR with eR; exact (mk_inj eR).symm
    have eW' : W = puS p := by injection eW with eW; exact (mk_inj eW).symm
    subst eR'
    subst eW'
    refine ⟨(fun hf => by rw [fit_core] at hf; cases hf), (fun _ h4 => by omega), fun k ek hf h4 H' hb hx => ⟨rfl, ?_⟩⟩
    have ek' : k = coreN p := by injection ek with ek; omega
    subst ek'
    refine q H' x (s1.trans fun b o hbo => hb b o (ne_of_none hbo nx) (sx b o hbo)) (s1.free nx) ⟨dx, hx⟩
def sp_apply (a : Ad) (K : PySem.W.Frag) : Sp := fun vs H Q E => ∃ (e : Addr) (R W : List Nat) (k : Nat) (v : V) (t1 : Value), vs = [.ref e, v] ∧ EffAt a H e R W k ∧ R.length ≤ 400 ∧ W.length ≤ 400 ∧ AnyV K H v t1 ∧
  (okV v "abcdefgh" = false → ∀ H' d, Same H H' → H d = none → H' d = some (.xd [(("value" : Str), v)]) → E (.ref a.C_InvalidWord) (some d) H') ∧
  (∀ q0 : List Nat, v = .str (mk q0) → q0.length ≤ 400 → (∀ c ∈ q0, c ∈ lo8) → (tooL (eres R W k q0) = false → ∀ H', Same H H' → Q (oV (eres R W k q0)) H') ∧
    (tooL (eres R W k q0) = true → ∀ H' d, Same H H' → H d = none → H' d = some (.xd [(("limit" : Str), .int 400)]) → E (.ref a.C_LimitExceeded) (some d) H'))
theorem eres_len {R W q r : List Nat} {k : Nat} (h : eres R W k q = some r) : r.length ≤ q.length + W.length := by
  unfold eres at h
  split at h
  · cases h
  · split at h
    · cases h
      rw [List.length_append, List.length_drop]
      omega
    · cases h
      rw [List.length_drop]
      omega
theorem ok_Effect_apply (T : Txt K mg a) : FnOk P w K mg base (L2.CX P w) 4 a.f_Effect_apply a.d_Effect_apply ["self", "queue"] (sp_apply a K) := by
  have G_require_word := ok_require_word (P := P) (w := w) (base := base) T
  have G_effect_result := ok_effect_result (P := P) (w := w) (base := base) T
  have G_within_limit := ok_within_limit (P := P) (w := w) (base := base) T
  refine T.F_Effect_apply.okX sc_Effect_apply (fun vs H Q E h => ?_) (fun cdv A outer s H vs Q E hr h => ?_)
  · obtain ⟨e, R, W, k, v, t1, rfl, _⟩ := h
    rfl
  · obtain ⟨e, R, W, k, v, t1, rfl, ⟨dx, he⟩, lR, lW, h1, q1, q⟩ := h
    refine ⟨_, (pss_cons (ps_expr (pe_callS G_require_word (hr.mono (by decide)) (by rfl) T.g_require_word T.F_require_word.kp T.b_require_word (fun σ => passAt (takes_of rfl rfl rfl rfl) σ) (pa_cons (pv 1) pa_nil)))
      (pss_one (ps_ret (pe_callS G_within_limit (hr.mono (by decide)) (by rfl) T.g_within_limit T.F_within_limit.kp T.b_within_limit (fun σ => passAt (takes_of rfl rfl rfl rfl) σ) (pa_cons (pe_call G_effect_result (hr.mono (by decide)) (by rfl) T.g_effect_result T.F_effect_result.kp T.b_effect_result .nil pass0 (pa_cons (pe_fld (pv 0) rfl) (pa_cons (pe_fld (pv 0) rfl) (pa_cons (pe_fld (pv 0) rfl) (pa_cons (pv 1) pa_nil))))) pa_nil))))), ?_⟩
    refine ⟨v, rfl, v, t1, rfl, h1, fun e1 => ?_, fun e1 d hd => q1 e1 _ d (same_new hd) hd upd_same⟩
    obtain ⟨z, rfl, lz, cz⟩ := okV_str e1
    obtain ⟨q0, rfl⟩ : ∃ p, z = mk p := ⟨cs z, (mk_cs z).symm⟩
    rw [cs_mk] at cz
    rw [len_mk] at lz
    obtain ⟨qa, qb⟩ := q q0 rfl lz cz
    refine ⟨.ref e, rfl, e, a.C_Effect, dx, _, _, rfl, he, T.cl_Effect, T.n_Effect_taken, efl_taken R W k, .ref e, rfl, e, a.C_Effect, dx, _, _, rfl, he, T.cl_Effect, T.n_Effect_given, efl_given R W k, .ref e, rfl, e, a.C_Effect, dx, _, _, rfl, he, T.cl_Effect, T.n_Effect_needed, efl_needed R W k, .str (mk q0), rfl, R, W, k, q0, rfl, by omega, by omega, by omega, fun H1 sm => ?_⟩
    refine ⟨_, rfl, fun l el => ?_, fun hh => qa hh H1 sm, fun hh d hd => qb hh _ d (sm.trans (same_new hd)) (sm.free hd) upd_same⟩
    have := eres_len el
    omega
end
end E94

set_option Elab.async false
set_option linter.all false
set_option maxRecDepth 100000
set_option maxHeartbeats 4000000
namespace E94
open PySem PySem.Spec PyProof.Rows L2 Own Exn Mth Vld Gn StX
section
variable {P : Program} {w : World} {K : PySem.W.Frag} {mg : Str → Option Value} {base : Heap} {a : Ad}
theorem str_iff {R R' : List Nat} : (V.str (mk R) = V.str (mk R')) ↔ R = R' := ⟨fun h => by injection h with h; exact mk_inj h, fun h => by rw [h]⟩
theorem nat_iff {k k' : Nat} : (V.int (k : Nat) = V.int (k' : Nat)) ↔ k = k' := ⟨fun h => by injection h with h; omega, fun h => by rw [h]⟩
def sp_eq (a : Ad) : Sp := fun vs H Q _ => ∃ (e e' : Addr) (R W R' W' : List Nat) (k k' : Nat), vs = [.ref e, .ref e'] ∧ EffAt a H e R W k ∧ EffAt a H e' R' W' k' ∧ Q (.bl (decide (R = R' ∧ W = W' ∧ k = k'))) H
theorem ok_Effect_eq (T : Txt K mg a) (hd : Hd K a) : FnOk P w K mg base CX0 1 a.f_Effect_eq a.d_Effect_eq ["self", "other"] (sp_eq a) := by
  refine T.F_Effect_eq.ok sc_Effect_eq (fun vs H Q E h => ?_) (fun cdv A outer s H vs Q E hr h => ?_)
  · obtain ⟨e, e', R, W, R', W', k, k', rfl, _⟩ := h
    rfl
  · obtain ⟨e, e', R, W, R', W', k, k', rfl, ⟨dx, he⟩, ⟨dx', he'⟩, q⟩ := h
    refine ⟨_, (pss_cons (ps_if (pt_not (pt_val (pe_callB call_isi (by rfl) T.z_isinstance (by decide +kernel) (pa_cons (pv 1) (pa_cons (pe_glob (v := .ref a.C_Effect) (by rfl) T.g_Effect rfl) pa_nil)))))
        (pss_one (ps_ret pe_bl))
        pss_nil)
      (pss_one (ps_ret (pe_and (pe_cmpR op_eq (pe_fld (pv 0) rfl) (pe_fld (pv 1) rfl) (nomark _)) (pe_and (pe_cmpR op_eq (pe_fld (pv 0) rfl) (pe_fld (pv 1) rfl) (nomark _)) (pe_one (pe_cmpR op_eq (pe_fld (pv 0) rfl) (pe_fld (pv 1) rfl) (nomark _)))))))), ?_⟩
    refine ⟨.ref e', rfl, .ref e', .ref a.C_Effect, .ref a.C_Effect, .ref a.C_Effect, true, rfl, .own _, .base (.ins he' T.cl_Effect hd.cc_Effect hd.hn hd.hk hd.mo_Effect), hd.i_Effect_Effect, true, rfl, iteF ?_⟩
    refine ⟨.ref e, rfl, e, a.C_Effect, dx, _, _, rfl, he, T.cl_Effect, T.n_Effect_taken, efl_taken R W k, .ref e', rfl, e', a.C_Effect, dx', _, _, rfl, he', T.cl_Effect, T.n_Effect_taken, efl_taken R' W' k', rfl, _, rfl, ?_⟩
    rw [decide_eq_decide.mpr str_iff]
    by_cases h1 : R = R'
    · rw [decide_eq_true h1]
      refine iteT ⟨.ref e, rfl, e, a.C_Effect, dx, _, _, rfl, he, T.cl_Effect, T.n_Effect_given, efl_given R W k, .ref e', rfl, e', a.C_Effect, dx', _, _, rfl, he', T.cl_Effect, T.n_Effect_given, efl_given R' W' k', rfl, _, rfl, ?_⟩
      rw [decide_eq_decide.mpr str_iff]
      by_cases h2 : W = W'
      · rw [decide_eq_true h2]
        refine iteT ⟨.ref e, rfl, e, a.C_Effect, dx, _, _, rfl, he, T.cl_Effect, T.n_Effect_needed, efl_needed R W k, .ref e', rfl, e', a.C_Effect, dx', _, _, rfl, he', T.cl_Effect, T.n_Effect_needed, efl_needed R' W' k', rfl, ?_⟩
        rw [decide_eq_decide.mpr nat_iff]
        rw [show decide (R = R' ∧ W = W' ∧ k = k') = decide (k = k') from decide_eq_decide.mpr ⟨fun h => h.2.2, fun h => ⟨h1, h2, h⟩⟩] at q
        exact q
      · rw [decide_eq_false h2]
        rw [decide_eq_false fun h => h2 h.2.1] at q
        exact iteF q
    · rw [decide_eq_false h1]
      rw [decide_eq_false fun h => h1 h.1] at q
      exact iteF q
end
end E94

set_option Elab.async false
set_option linter.all false
set_option maxRecDepth 100000
set_option maxHeartbeats 4000000
namespace E94
open PySem PySem.Spec PyProof.Rows L2 Own Exn Mth Vld Gn StX
section
variable {P : Program} {w : World} {K : PySem.W.Frag} {mg : Str → Option Value} {base : Heap} {a : Ad}
def sp_require_item (a : Ad) (K : PySem.W.Frag) : Sp := fun vs H Q E => ∃ (v : V) (t : Value), vs = [v] ∧ AnyV K H v t ∧ (okI v = true → Q .non H) ∧ (okI v = false → ∀ d, H d = none → E (.ref a.C_InvalidWord) (some d) (upd H d (.xd [(("value" : Str), v)])))
theorem ok_require_item (T : Txt K mg a) : FnOk P w K mg base (L2N.CX P w) 3 a.f_require_item a.d_require_item ["value"] (sp_require_item a K) := by
  have G_is_word := ok_is_word (P := P) (w := w) (base := base) T
  refine Tvx.okN T.F_require_item sc_require_item (fun vs H Q E h => ?_) (fun cdv A outer s H vs Q E hr h => ?_)
  · obtain ⟨v, t, rfl, _⟩ := h
    rfl
  · obtain ⟨v, t, rfl, hv, q1, q2⟩ := h
    refine ⟨_, (pss_one (ps_if (PW.pt (pw_or (pt_not (pt_val (pe_call G_is_word (hr.mono (by decide)) (by rfl) T.g_is_word T.F_is_word.kp T.b_is_word .nil pass0 (pa_cons (pv 0) pa_nil)))) (pw_or1 (pt_cmpR op_ne (pe_callB call_len_str (by rfl) T.z_len (by decide +kernel) (pa_cons (pv 0) pa_nil)) pe_int (nomark _)))))
        (pss_one (L2N.ps_raise rfl (L2N.takes_of rfl rfl rfl rfl) (Tvx.pmk5_value T.e_InvalidWord (Spx.dp_of hr) (pa_cons (pv 0) pa_nil) (by rfl)).pmk))
        pss_nil)), ?_⟩
    cases e : okV v "abcdefgh" with
    | false =>
      refine ⟨v, rfl, v, t, rfl, hv, false, by rw [e], iteT (iteT ⟨v, rfl, v, rfl, fun d hd => q2 ?_ d hd⟩)⟩
      cases e2 : okI v with
      | false => rfl
      | true => rw [okI_okV e2] at e; cases e
    | true =>
      obtain ⟨z, rfl, lz, cz⟩ := okV_str e
      refine ⟨.str z, rfl, .str z, t, rfl, hv, true, by rw [e], iteF ⟨.str z, rfl, z, rfl, le_line (by omega), rfl, _, rfl, ?_⟩⟩
      by_cases h1 : z.length = 1
      · have e2 : okI (.str z) = true := by show (okS z "abcdefgh" && _) = true; rw [show okS z "abcdefgh" = true from e, h1]; rfl
        rw [show (!decide (V.int (z.length : Nat) = V.int 1)) = false from by rw [h1]; rfl]
        exact iteF (q1 e2)
      · have e2 : okI (.str z) = false := by show (okS z "abcdefgh" && _) = false; rw [show (z.length == 1) = false from beq_false_of_ne h1, Bool.and_false]
        rw [show (!decide (V.int (z.length : Nat) = V.int 1)) = true from by
          rw [decide_eq_false fun h => h1 (by injection h with h; omega)]
          rfl]
        exact iteT ⟨.str z, rfl, .str z, rfl, fun d hd => q2 e2 d hd⟩
/-- a class of queues: its attributes are read and stored -/
structure QC (K : PySem.W.Frag) (C : Addr) : Prop where
  cl : Cls K C
  na : NoAttr K C "content"
def sp_qinit (a : Ad) (K : PySem.W.Frag) : Sp := fun vs H Q E => ∃ (x dx C : Addr) (v : V) (t : Value), vs = [.ref x, v] ∧ QC K C ∧ H x = some (.ins C dx []) ∧ AnyV K H v t ∧
  (okV v "abcdefgh" = false → ∀ d, H d = none → E (.ref a.C_InvalidWord) (some d) (upd H d (.xd [(("value" : Str), v)]))) ∧ (okV v "abcdefgh" = true → Q .non (upd H x (.ins C dx [(("content" : Str), v)])))
theorem ok_Queue_init (T : Txt K mg a) : FnOk P w K mg base (L2.CX P w) 4 a.f_Queue_init a.d_Queue_init ["self", "word"] (sp_qinit a K) := by
  have G_require_word := ok_require_word (P := P) (w := w) (base := base) T
  refine T.F_Queue_init.ok (CX := L2.CX P w) sc_Queue_init (fun vs H Q E h => ?_) (fun cdv A outer s H vs Q E hr h => ?_)
  · obtain ⟨x, dx, C, v, t, rfl, _⟩ := h
    rfl
  · obtain ⟨x, dx, C, v, t, rfl, hC, hx, hv, q1, q2⟩ := h
    refine ⟨_, (pss_cons (ps_expr (pe_callS G_require_word (hr.mono (by decide)) (by rfl) T.g_require_word T.F_require_word.kp T.b_require_word (fun σ => passAt (takes_of rfl rfl rfl rfl) σ) (pa_cons (pv 1) pa_nil)))
      (pss_one (ps_fld (pv 0) (pv 1) rfl))), ?_⟩
    exact ⟨v, rfl, v, t, rfl, hv, fun e => ⟨v, rfl, .ref x, rfl, x, C, dx, [], rfl, hx, hC.cl, hC.na, (by show 0 < 1000; decide), q2 e⟩, fun e d hd => q1 e d hd⟩
def sp_qword (K : PySem.W.Frag) : Sp := fun vs H Q _ => ∃ (x dx C : Addr) (z : List Nat), vs = [.ref x] ∧ QC K C ∧ H x = some (.ins C dx (qf z)) ∧ Q (.str (mk z)) H
theorem ok_Queue_word (T : Txt K mg a) : FnOk P w K mg base CX0 1 a.f_Queue_word a.d_Queue_word ["self"] (sp_qword K) := by
  refine T.F_Queue_word.ok sc_Queue_word (fun vs H Q E h => ?_) (fun cdv A outer s H vs Q E hr h => ?_)
  · obtain ⟨x, dx, C, z, rfl, _⟩ := h
    rfl
  · obtain ⟨x, dx, C, z, rfl, hC, hx, q⟩ := h
    refine ⟨_, (pss_one (ps_ret (pe_fld (pv 0) rfl))), ?_⟩
    exact ⟨.ref x, rfl, x, C, dx, _, _, rfl, hx, hC.cl, hC.na, lk_q z, q⟩
def sp_qlen (K : PySem.W.Frag) : Sp := fun vs H Q _ => ∃ (x dx C : Addr) (z : List Nat), vs = [.ref x] ∧ QC K C ∧ H x = some (.ins C dx (qf z)) ∧ z.length ≤ 1000 ∧ Q (.int (z.length : Nat)) H
def sp_qrepr (K : PySem.W.Frag) (nm : Str) : Sp := fun vs H Q _ => ∃ (x dx C : Addr) (z : List Nat), vs = [.ref x] ∧ QC K C ∧ H x = some (.ins C dx (qf z)) ∧ z.length ≤ 1000 ∧ (∀ c ∈ z, c ∈ lo8) ∧ Q (.str (nm ++ reprText (mk z) ++ ")")) H
def sp_qput (a : Ad) (K : PySem.W.Frag) : Sp := fun vs H Q E => ∃ (x dx C : Addr) (z : List Nat) (v : V) (t : Value), vs = [.ref x, v] ∧ QC K C ∧ H x = some (.ins C dx (qf z)) ∧ z.length ≤ 400 ∧ AnyV K H v t ∧
  (okI v = false → ∀ d, H d = none → E (.ref a.C_InvalidWord) (some d) (upd H d (.xd [(("value" : Str), v)]))) ∧
  (okI v = true → 400 ≤ z.length → ∀ d, H d = none → E (.ref a.C_LimitExceeded) (some d) (upd H d (.xd [(("limit" : Str), .int 400)]))) ∧
  (∀ c, v = .str (mk [c]) → c ∈ lo8 → z.length < 400 → Q .non (upd H x (.ins C dx (qf (z ++ [c])))))
theorem ok_Queue_put (T : Txt K mg a) : FnOk P w K mg base (L2N.CX P w) 4 a.f_Queue_put a.d_Queue_put ["self", "item"] (sp_qput a K) := by
  have G_require_item := ok_require_item (P := P) (w := w) (base := base) T
  refine Tvx.okN T.F_Queue_put sc_Queue_put (fun vs H Q E h => ?_) (fun cdv A outer s H vs Q E hr h => ?_)
  · obtain ⟨x, dx, C, z, v, t, rfl, _⟩ := h
    rfl
  · obtain ⟨x, dx, C, z, v, t, rfl, hC, hx, lz, hv, q1, q2, q3⟩ := h
    refine ⟨_, (pss_cons (ps_expr (pe_callS G_require_item (hr.mono (by decide)) (by rfl) T.g_require_item T.F_require_item.kp T.b_require_item (fun σ => L2N.passAt (L2N.takes_of rfl rfl rfl rfl) σ) (pa_cons (pv 1) pa_nil)))
      (pss_cons (ps_if (pt_cmpR op_ge (pe_callB call_len_str (by rfl) T.z_len (by decide +kernel) (pa_cons (pe_fld (pv 0) rfl) pa_nil)) (pe_glob (v := .int 400) (by rfl) T.c_MAX_LENGTH ⟨_, rfl⟩) (nomark _))
        (pss_one (L2N.ps_raise rfl (L2N.takes_of rfl rfl rfl rfl) (Tvx.pmk5_limit T.e_LimitExceeded (Spx.dp_of hr) (pa_cons (pe_glob (v := .int 400) (by rfl) T.c_MAX_LENGTH ⟨_, rfl⟩) pa_nil) (by rfl)).pmk))
        pss_nil)
      (pss_one (ps_fldaug (pv 0) (pv 1) in_addS)))), ?_⟩
    refine ⟨v, rfl, v, t, rfl, hv, fun e => ?_, fun e d hd => q1 e d hd⟩
    refine ⟨.ref x, rfl, x, C, dx, _, _, rfl, hx, hC.cl, hC.na, lk_q z, mk z, rfl, le_line (by rw [len_mk]; omega), _, _, rfl, rfl, _, rfl, ?_⟩
    rw [len_mk]
    by_cases h4 : 400 ≤ z.length
    · rw [decide_eq_true (show ((z.length : Nat) : Int) ≥ 400 by omega)]
      exact iteT ⟨.int 400, rfl, fun d hd => q2 e h4 d hd⟩
    · rw [decide_eq_false (show ¬ ((z.length : Nat) : Int) ≥ 400 by omega)]
      obtain ⟨c, rfl, hc⟩ := okI_iff.mp e
      refine iteF ⟨.ref x, rfl, x, C, dx, _, _, rfl, hx, hC.cl, hC.na, lk_q z, .str (mk [c]), rfl, _, _, rfl, rfl, le_line (by rw [len_mk, len_mk]; show _ + 1 ≤ _; omega), dx, _, hx, (by show 1 < 1000; decide), ?_⟩
      rw [app_mk, put_q]
      exact q3 c rfl hc (by omega)
def sp_qtake (a : Ad) (K : PySem.W.Frag) : Sp := fun vs H Q E => ∃ (x dx C : Addr) (z : List Nat) (v : V) (t : Value), vs = [.ref x, v] ∧ QC K C ∧ H x = some (.ins C dx (qf z)) ∧ z.length ≤ 400 ∧ AnyV K H v t ∧
  (okI v = false → ∀ d, H d = none → E (.ref a.C_InvalidWord) (some d) (upd H d (.xd [(("value" : Str), v)]))) ∧
  (∀ c, v = .str (mk [c]) → c ∈ lo8 → (z.head? ≠ some c → ∀ d, H d = none → E (.ref a.C_Missing) (some d) (upd H d (.xd [(("item" : Str), v)]))) ∧ (z.head? = some c → Q (.int 0) (upd H x (.ins C dx (qf z.tail)))))
theorem ok_Queue_take (T : Txt K mg a) : FnOk P w K mg base (L2N.CX P w) 4 a.f_Queue_take a.d_Queue_take ["self", "item"] (sp_qtake a K) := by
  have G_require_item := ok_require_item (P := P) (w := w) (base := base) T
  refine Tvx.okN T.F_Queue_take sc_Queue_take (fun vs H Q E h => ?_) (fun cdv A outer s H vs Q E hr h => ?_)
  · obtain ⟨x, dx, C, z, v, t, rfl, _⟩ := h
    rfl
  · obtain ⟨x, dx, C, z, v, t, rfl, hC, hx, lz, hv, q1, q2⟩ := h
    refine ⟨_, (pss_cons (ps_expr (pe_callS G_require_item (hr.mono (by decide)) (by rfl) T.g_require_item T.F_require_item.kp T.b_require_item (fun σ => L2N.passAt (L2N.takes_of rfl rfl rfl rfl) σ) (pa_cons (pv 1) pa_nil)))
      (pss_cons (ps_if (pt_not (pt_val (pe_bm PySem.F.plainAttrs_str PySem.F.slot_str_startswith PySem.F.type_str_startswith mt_startswith (pe_fld (pv 0) rfl) (pa_cons (pv 1) pa_nil))))
        (pss_one (L2N.ps_raise rfl (L2N.takes_of rfl rfl rfl rfl) (Tvx.pmk5_item T.e_Missing (Spx.dp_of hr) (pa_cons (pv 1) pa_nil) (by rfl)).pmk))
        pss_nil)
      (pss_cons (ps_fld (pv 0) (pe_slice sl_str (pe_fld (pv 0) rfl) (po_some pe_int) po_none) rfl)
      (pss_one (ps_ret pe_int))))), ?_⟩
    refine ⟨v, rfl, v, t, rfl, hv, fun e => ?_, fun e d hd => q1 e d hd⟩
    obtain ⟨c, rfl, hc⟩ := okI_iff.mp e
    obtain ⟨qa, qb⟩ := q2 c rfl hc
    refine ⟨.ref x, rfl, x, C, dx, _, _, rfl, hx, hC.cl, hC.na, lk_q z, rfl, .str (mk [c]), rfl, mk z, _, rfl, rfl, ?_⟩
    rw [show Txt.startswith (mk z) (mk [c]) = decide (z.head? = some c) from starts_mk z c]
    by_cases h1 : z.head? = some c
    · rw [decide_eq_true h1]
      refine ⟨true, rfl, iteF ⟨.ref x, rfl, x, C, dx, _, _, rfl, hx, hC.cl, hC.na, lk_q z, _, rfl, mk z, rfl, le_line (by rw [len_mk]; omega), .ref x, rfl, x, C, dx, _, rfl, hx, hC.cl, hC.na, (by show 1 < 1000; decide), ?_⟩⟩
      rw [show cutS (mk z) (some 1) none = mk z.tail from by rw [show (1 : Int) = ((1 : Nat) : Int) from rfl, cut_from, List.drop_one], put_q]
      exact qb h1
    · rw [decide_eq_false h1]
      exact ⟨false, rfl, iteT ⟨.str (mk [c]), rfl, .str (mk [c]), rfl, fun d hd => qa h1 d hd⟩⟩
/-- one step of a program on a queue of a class that takes as st says -/
def sp_qperform (a : Ad) (C : Addr) (st : List Nat → Nat → Option (List Nat)) : Sp := fun vs H Q E => ∃ (x dx : Addr) (z : List Nat) (c : Nat), vs = [.ref x, .str (mk [c])] ∧ H x = some (.ins C dx (qf z)) ∧ z.length ≤ 400 ∧ c ∈ st16 ∧
  (∀ z', st z c = some z' → Q .non (upd H x (.ins C dx (qf z')))) ∧
  (st z c = none → 97 ≤ c → ∀ d, H d = none → E (.ref a.C_LimitExceeded) (some d) (upd H d (.xd [(("limit" : Str), .int 400)]))) ∧
  (st z c = none → ¬ 97 ≤ c → ∀ d, H d = none → E (.ref a.C_Missing) (some d) (upd H d (.xd [(("item" : Str), .str (mk [c + 32]))])))
theorem low16 {c : Nat} (h : c ∈ st16) : Txt.lower (mk [c]) = mk [lowC c] := (letters c h).2.2
theorem isl16 {c : Nat} (h : c ∈ st16) : Txt.islower (mk [c]) = decide (97 ≤ c) := (letters c h).2.1
theorem item_ok {c : Nat} (h : c ∈ lo8) : okS (mk [c]) "abcdefgh" = true := okS_mk (by simp) (by simpa using h)
theorem okI_no {c : Nat} {R : Prop} (h : c ∈ lo8) (e : okI (.str (mk [c])) = false) : R := by rw [okI_iff.mpr ⟨c, rfl, h⟩] at e; cases e
theorem ok_Queue_perform (T : Txt K mg a) : FnOk P w K mg base (L2N.CX P w) 5 a.f_Queue_perform a.d_Queue_perform ["self", "step"] (sp_qperform a a.C_Queue stepQ) := by
  have G_Queue_put := ok_Queue_put (P := P) (w := w) (base := base) T
  have G_Queue_take := ok_Queue_take (P := P) (w := w) (base := base) T
  have hC : QC K a.C_Queue := ⟨T.cl_Queue, T.n_Queue_content⟩
  refine Tvx.okN T.F_Queue_perform sc_Queue_perform (fun vs H Q E h => ?_) (fun cdv A outer s H vs Q E hr h => ?_)
  · obtain ⟨x, dx, z, c, rfl, _⟩ := h
    rfl
  · obtain ⟨x, dx, z, c, rfl, hx, lz, hc, q1, q2, q3⟩ := h
    refine ⟨_, (pss_one (ps_if (pt_val (pe_bm0 PySem.F.plainAttrs_str PySem.F.slot_str_islower PySem.F.type_str_islower mt_islower (pv 1)))
        (pss_one (ps_expr (Cmx.pe_methX (pv 0) T.cl_Queue T.m_Queue_put G_Queue_put (hr.mono (by decide)) T.b_Queue_put (fun σ => L2N.passAt (L2N.takes_of rfl rfl rfl rfl) σ) (pa_cons (pv 1) pa_nil))))
        (pss_one (ps_expr (Cmx.pe_methX (pv 0) T.cl_Queue T.m_Queue_take G_Queue_take (hr.mono (by decide)) T.b_Queue_take (fun σ => L2N.passAt (L2N.takes_of rfl rfl rfl rfl) σ) (pa_cons (pe_lower (pv 1)) pa_nil)))))), ?_⟩
    refine ⟨.str (mk [c]), rfl, rfl, mk [c], rfl, rfl, trivial, ?_⟩
    rw [isl16 hc]
    by_cases h1 : 97 ≤ c
    · have hc8 : c ∈ lo8 := by rw [mem_st16] at hc; rw [mem_lo8]; omega
      rw [decide_eq_true h1]
      refine ⟨true, rfl, iteT ⟨.ref x, rfl, x, dx, _, rfl, hx, lk_no (by decide +kernel), .str (mk [c]), rfl, x, dx, a.C_Queue, z, _, _, rfl, hC, hx, lz, any_ok (item_ok hc8), fun e => okI_no hc8 e, fun _ h4 d hd => q2 ?_ h1 d hd, fun c' ec _ h4 => ?_⟩⟩
      · unfold stepQ; rw [if_pos h1, if_pos h4]
      · have ec' : c' = c := by injection ec with ec; have := mk_inj ec; simpa using this.symm
        subst ec'
        exact q1 _ (by unfold stepQ; rw [if_pos h1, if_neg (by omega)])
    · have hc8 : c + 32 ∈ lo8 := by rw [mem_st16] at hc; rw [mem_lo8]; omega
      rw [decide_eq_false h1]
      refine ⟨false, rfl, iteF ⟨.ref x, rfl, x, dx, _, rfl, hx, lk_no (by decide +kernel), .str (mk [c]), rfl, ⟨_, rfl⟩, mk [c], rfl, rfl, line1, ?_⟩⟩
      rw [low16 hc, low_up h1]
      refine ⟨x, dx, a.C_Queue, z, _, _, rfl, hC, hx, lz, any_ok (item_ok hc8), fun e => okI_no hc8 e, fun c' ec _ => ?_⟩
      have ec' : c' = c + 32 := by injection ec with ec; have := mk_inj ec; simpa using this.symm
      subst ec'
      refine ⟨fun hn d hd => q3 ?_ h1 d hd, fun hy => q1 _ ?_⟩
      · unfold stepQ; rw [if_neg h1, if_neg hn]
      · unfold stepQ; rw [if_neg h1, if_pos hy]
def sp_qclone (a : Ad) (K : PySem.W.Frag) (D : Addr) : Sp := fun vs H Q _ => ∃ (x dx C : Addr) (z : List Nat), vs = [.ref x] ∧ QC K C ∧ H x = some (.ins C dx (qf z)) ∧ z.length ≤ 400 ∧ (∀ c ∈ z, c ∈ lo8) ∧ ∀ y dy H', Same H H' → H y = none → H' y = some (.ins D dy (qf z)) → Q (.ref y) H'
/-- a new queue with this word -/
theorem init_q {C : Addr} (hC : QC K C) {z : List Nat} (lz : z.length ≤ 400) (cz : ∀ c ∈ z, c ∈ lo8) {v : V} (ev : v = .str (mk z)) {H : Hp} {x dx : Addr} (nx : H x = none) (ndx : H dx = none) {Rf : VK} {E : XK} (q : ∀ H', Same H H' → H' x = some (.ins C dx (qf z)) → Rf .non H') :
    sp_qinit a K [.ref x, v] (upd (upd H dx (.own x)) x (.ins C dx [])) Rf E := by
  subst ev
  have okz : okS (mk z) "abcdefgh" = true := okS_mk lz cz
  refine ⟨x, dx, C, _, _, rfl, hC, upd_same, any_ok okz, fun e => no_ok okz e, fun _ => q _ (fun b o hb => ?_) upd_same⟩
  rw [upd_ne (ne_of_none hb nx), upd_ne (ne_of_none hb nx), upd_ne (ne_of_none hb ndx)]
  exact hb
theorem ok_Queue_clone (T : Txt K mg a) : FnOk P w K mg base (L2.CX P w) 6 a.f_Queue_clone a.d_Queue_clone ["self"] (sp_qclone a K a.C_Queue) := by
  have G_Queue_init := ok_Queue_init (P := P) (w := w) (base := base) T
  have hQ : QC K a.C_Queue := ⟨T.cl_Queue, T.n_Queue_content⟩
  refine T.F_Queue_clone.okX sc_Queue_clone (fun vs H Q E h => ?_) (fun cdv A outer s H vs Q E hr h => ?_)
  · obtain ⟨x, dx, C, z, rfl, _⟩ := h
    rfl
  · obtain ⟨x, dx, C, z, rfl, hC, hx, lz, cz, q⟩ := h
    refine ⟨_, (pss_one (ps_ret (Cmx.pe_makeS T.mk_Queue G_Queue_init (hr.mono (by decide)) (by rfl) T.g_Queue T.b_Queue_init (fun σ => passAt (takes_of rfl rfl rfl rfl) σ) (pa_cons (pe_fld (pv 0) rfl) pa_nil)))), ?_⟩
    exact ⟨.ref x, rfl, x, C, dx, _, _, rfl, hx, hC.cl, hC.na, lk_q z, fun y dy ny ndy ne => init_q hQ lz cz rfl ny ndy fun H' s' hy => ⟨rfl, q y dy H' s' ny hy⟩⟩
def sp_qrun (a : Ad) (K : PySem.W.Frag) (C : Addr) (st : List Nat → Nat → Option (List Nat)) : Sp := fun vs H Q E => ∃ (x dx : Addr) (z : List Nat) (v : V) (t : Value), vs = [.ref x, v] ∧ H x = some (.ins C dx (qf z)) ∧ z.length ≤ 400 ∧ (∀ c ∈ z, c ∈ lo8) ∧ AnyV K H v t ∧
  (okV v "abcdefghABCDEFGH" = false → ∀ d, H d = none → E (.ref a.C_InvalidProgram) (some d) (upd H d (.xd [(("value" : Str), v)]))) ∧
  (∀ p : List Nat, v = .str (mk p) → p.length ≤ 400 → (∀ c ∈ p, c ∈ st16) →
    (∀ z', qrun st p z 0 = .inr z' → ∀ H', But x H H' → H' x = some (.ins C dx (qf z')) → Q .non H') ∧
    (∀ i, qrun st p z 0 = .inl i → ∀ H' d, Same H H' → H d = none → H' d = some (.xd [(("index" : Str), .int (i : Nat))]) → E (.ref a.C_Failed) (some d) H'))
/-- what both kinds of steps keep -/
structure StOk (st : List Nat → Nat → Option (List Nat)) : Prop where
  len : ∀ z c z', z.length ≤ 400 → st z c = some z' → z'.length ≤ 400
  mem : ∀ z c z', (∀ x ∈ z, x ∈ lo8) → c ∈ st16 → st z c = some z' → ∀ x ∈ z', x ∈ lo8
theorem stepQ_ok : StOk stepQ := by
  constructor
  · intro z c z' hz h
    unfold stepQ at h
    split at h
    · split at h
      · cases h
      · cases h
        rw [List.length_append]
        show _ + 1 ≤ _
        omega
    · split at h
      · cases h
        rw [List.length_tail]
        omega
      · cases h
  · intro z c z' hz hc h
    unfold stepQ at h
    split at h
    · split at h
      · cases h
      · cases h
        intro x hx
        rcases List.mem_append.mp hx with g | g
        · exact hz x g
        · rw [List.mem_singleton.mp g, mem_lo8]
          rw [mem_st16] at hc
          omega
    · split at h
      · cases h
        exact fun x hx => hz x (List.mem_of_mem_tail hx)
      · cases h
end
end E94

set_option Elab.async false
set_option linter.all false
set_option maxRecDepth 100000
set_option maxHeartbeats 4000000
namespace E94
open PySem PySem.Spec PyProof.Rows L2 Own Exn Mth Vld Gn StX
section
variable {P : Program} {w : World} {K : PySem.W.Frag} {mg : Str → Option Value} {base : Heap} {a : Ad}
theorem stepL_ok : StOk stepL := by
  constructor
  · intro z c z' hz h
    unfold stepL at h
    split at h
    · split at h
      · cases h
      · cases h
        rw [List.length_append]
        show _ + 1 ≤ _
        omega
    · split at h
      · cases h
      · cases h
        rw [List.length_drop]
        omega
  · intro z c z' hz hc h
    unfold stepL at h
    split at h
    · split at h
      · cases h
      · cases h
        intro x hx
        rcases List.mem_append.mp hx with g | g
        · exact hz x g
        · rw [List.mem_singleton.mp g, mem_lo8]
          rw [mem_st16] at hc
          omega
    · split at h
      · cases h
      · cases h
        exact fun x hx => hz x (List.mem_of_mem_drop hx)
theorem ok_LeakyQueue_init (T : Txt K mg a) (hP : Spx.PFile P) : FnOk P w K mg base (L2.CX P w) 5 a.f_LeakyQueue_init a.d_LeakyQueue_init ["self", "word"] (Spx.spIn a.C_LeakyQueue (sp_qinit a K)) :=
  Spx.in_of (Spx.fn_super hP T.F_LeakyQueue_init sc_LeakyQueue_init rfl rfl rfl rfl (by decide) (by decide) (ok_Queue_init (P := P) (w := w) (base := base) T) T.b_Queue_init (fun _ _ _ => rfl) (fun _ _ _ => rfl) (fun _ _ _ => rfl) (fun cd cc A outer s H E σ => passAt (takes_of rfl rfl rfl rfl) σ)) (fun vs H Q E h => h)
theorem ok_LeakyQueue_put (T : Txt K mg a) (hP : Spx.PFile P) : FnOk P w K mg base (L2N.CX P w) 5 a.f_LeakyQueue_put a.d_LeakyQueue_put ["self", "item"] (Spx.spIn a.C_LeakyQueue (sp_qput a K)) :=
  Spx.in_of (Spx.fn_super hP T.F_LeakyQueue_put sc_LeakyQueue_put rfl rfl rfl rfl (by decide) (by decide) (ok_Queue_put (P := P) (w := w) (base := base) T) T.b_Queue_put (fun _ _ _ => rfl) (fun _ _ _ => rfl) (fun _ _ _ => rfl) (fun cd cc A outer s H E σ => L2N.passAt (L2N.takes_of rfl rfl rfl rfl) σ)) (fun vs H Q E h => h)
theorem ok_LeakyQueue_word (T : Txt K mg a) : FnOk P w K mg base CX0 1 a.f_LeakyQueue_word a.d_LeakyQueue_word ["self"] (sp_qword K) := by
  refine T.F_LeakyQueue_word.ok sc_LeakyQueue_word (fun vs H Q E h => ?_) (fun cdv A outer s H vs Q E hr h => ?_)
  · obtain ⟨x, dx, C, z, rfl, _⟩ := h
    rfl
  · obtain ⟨x, dx, C, z, rfl, hC, hx, q⟩ := h
    refine ⟨_, (pss_one (ps_ret (pe_fld (pv 0) rfl))), ?_⟩
    exact ⟨.ref x, rfl, x, C, dx, _, _, rfl, hx, hC.cl, hC.na, lk_q z, q⟩
def sp_ltake (a : Ad) (K : PySem.W.Frag) : Sp := fun vs H Q E => ∃ (x dx C : Addr) (z : List Nat) (v : V) (t : Value), vs = [.ref x, v] ∧ QC K C ∧ H x = some (.ins C dx (qf z)) ∧ z.length ≤ 400 ∧ AnyV K H v t ∧
  (okI v = false → ∀ d, H d = none → E (.ref a.C_InvalidWord) (some d) (upd H d (.xd [(("value" : Str), v)]))) ∧
  (∀ c, v = .str (mk [c]) → c ∈ lo8 → (fst? c z = none → ∀ d, H d = none → E (.ref a.C_Missing) (some d) (upd H d (.xd [(("item" : Str), v)]))) ∧ (∀ k, fst? c z = some k → Q (.int (k : Nat)) (upd H x (.ins C dx (qf (z.drop (k + 1)))))))
theorem ok_LeakyQueue_take (T : Txt K mg a) : FnOk P w K mg base (L2N.CX P w) 4 a.f_LeakyQueue_take a.d_LeakyQueue_take ["self", "item"] (sp_ltake a K) := by
  have G_require_item := ok_require_item (P := P) (w := w) (base := base) T
  refine Tvx.okN T.F_LeakyQueue_take sc_LeakyQueue_take (fun vs H Q E h => ?_) (fun cdv A outer s H vs Q E hr h => ?_)
  · obtain ⟨x, dx, C, z, v, t, rfl, _⟩ := h
    rfl
  · obtain ⟨x, dx, C, z, v, t, rfl, hC, hx, lz, hv, q1, q2⟩ := h
    refine ⟨_, (pss_cons (ps_expr (pe_callS G_require_item (hr.mono (by decide)) (by rfl) T.g_require_item T.F_require_item.kp T.b_require_item (fun σ => L2N.passAt (L2N.takes_of rfl rfl rfl rfl) σ) (pa_cons (pv 1) pa_nil)))
      (pss_cons (ps_set (i := 2) sc_LeakyQueue_take.nd rfl (Or.inl rfl) (pe_bm PySem.F.plainAttrs_str PySem.F.slot_str_find PySem.F.type_str_find mt_find (pe_fld (pv 0) rfl) (pa_cons (pv 1) pa_nil)))
      (pss_cons (ps_if (pt_cmpR op_lt (pv 2) pe_int (nomark _))
        (pss_one (L2N.ps_raise rfl (L2N.takes_of rfl rfl rfl rfl) (Tvx.pmk5_item T.e_Missing (Spx.dp_of hr) (pa_cons (pv 1) pa_nil) (by rfl)).pmk))
        pss_nil)
      (pss_cons (ps_fld (pv 0) (pe_slice sl_str (pe_fld (pv 0) rfl) (po_some (pe_op op_add (pv 2) pe_int)) po_none) rfl)
      (pss_one (ps_ret (pv 2))))))), ?_⟩
    refine ⟨v, rfl, v, t, rfl, hv, fun e => ?_, fun e d hd => q1 e d hd⟩
    obtain ⟨c, rfl, hc⟩ := okI_iff.mp e
    obtain ⟨qa, qb⟩ := q2 c rfl hc
    refine ⟨.ref x, rfl, x, C, dx, _, _, rfl, hx, hC.cl, hC.na, lk_q z, rfl, .str (mk [c]), rfl, mk z, _, rfl, rfl, ?_⟩
    rw [show Txt.find (mk z) (mk [c]) = told (fst? c z) from find_mk z c]
    cases h1 : fst? c z with
    | none => exact ⟨.int (-1), rfl, _, _, rfl, rfl, _, rfl, iteT ⟨.str (mk [c]), rfl, .str (mk [c]), rfl, fun d hd => qa h1 d hd⟩⟩
    | some k =>
      refine ⟨.int (k : Nat), rfl, _, _, rfl, rfl, _, rfl, ?_⟩
      rw [decide_eq_false (show ¬ ((k : Nat) : Int) < 0 by omega)]
      refine iteF ⟨.ref x, rfl, x, C, dx, _, _, rfl, hx, hC.cl, hC.na, lk_q z, .int (k : Nat), rfl, _, _, rfl, rfl, _, rfl, mk z, rfl, le_line (by rw [len_mk]; omega), .ref x, rfl, x, C, dx, _, rfl, hx, hC.cl, hC.na, (by show 1 < 1000; decide), .int (k : Nat), rfl, ?_⟩
      rw [show ((k : Nat) : Int) + 1 = ((k + 1 : Nat) : Int) by omega, cut_from, put_q]
      exact qb k h1
theorem ok_Queue_performL (T : Txt K mg a) (hP : Spx.PFile P) : FnOk P w K mg base (L2N.CX P w) 6 a.f_Queue_perform a.d_Queue_perform ["self", "step"] (sp_qperform a a.C_LeakyQueue stepL) := by
  have G_LeakyQueue_put := ok_LeakyQueue_put (P := P) (w := w) (base := base) T hP
  have G_LeakyQueue_take := ok_LeakyQueue_take (P := P) (w := w) (base := base) T
  have hC : QC K a.C_LeakyQueue := ⟨T.cl_LeakyQueue, T.n_LeakyQueue_content⟩
  refine Tvx.okN T.F_Queue_perform sc_Queue_perform (fun vs H Q E h => ?_) (fun cdv A outer s H vs Q E hr h => ?_)
  · obtain ⟨x, dx, z, c, rfl, _⟩ := h
    rfl
  · obtain ⟨x, dx, z, c, rfl, hx, lz, hc, q1, q2, q3⟩ := h
    refine ⟨_, (pss_one (ps_if (pt_val (pe_bm0 PySem.F.plainAttrs_str PySem.F.slot_str_islower PySem.F.type_str_islower mt_islower (pv 1)))
        (pss_one (ps_expr (Cmx.pe_methX (pv 0) T.cl_LeakyQueue T.m_LeakyQueue_put G_LeakyQueue_put (hr.mono (by decide)) T.b_LeakyQueue_put (fun σ => L2N.passAt (L2N.takes_of rfl rfl rfl rfl) σ) (pa_cons (pv 1) pa_nil))))
        (pss_one (ps_expr (Cmx.pe_methX (pv 0) T.cl_LeakyQueue T.m_LeakyQueue_take G_LeakyQueue_take (hr.mono (by decide)) T.b_LeakyQueue_take (fun σ => L2N.passAt (L2N.takes_of rfl rfl rfl rfl) σ) (pa_cons (pe_lower (pv 1)) pa_nil)))))), ?_⟩
    refine ⟨.str (mk [c]), rfl, rfl, mk [c], rfl, rfl, trivial, ?_⟩
    rw [isl16 hc]
    by_cases h1 : 97 ≤ c
    · have hc8 : c ∈ lo8 := by rw [mem_st16] at hc; rw [mem_lo8]; omega
      rw [decide_eq_true h1]
      refine ⟨true, rfl, iteT ⟨.ref x, rfl, x, dx, _, rfl, hx, lk_no (by decide +kernel), .str (mk [c]), rfl, ⟨x, dx, _, _, rfl, hx⟩, x, dx, a.C_LeakyQueue, z, _, _, rfl, hC, hx, lz, any_ok (item_ok hc8), fun e => okI_no hc8 e, fun _ h4 d hd => q2 ?_ h1 d hd, fun c' ec _ h4 => ?_⟩⟩
      · unfold stepL; rw [if_pos h1, if_pos h4]
      · have ec' : c' = c := by injection ec with ec; have := mk_inj ec; simpa using this.symm
        subst ec'
        exact q1 _ (by unfold stepL; rw [if_pos h1, if_neg (by omega)])
    · have hc8 : c + 32 ∈ lo8 := by rw [mem_st16] at hc; rw [mem_lo8]; omega
      rw [decide_eq_false h1]
      refine ⟨false, rfl, iteF ⟨.ref x, rfl, x, dx, _, rfl, hx, lk_no (by decide +kernel), .str (mk [c]), rfl, ⟨_, rfl⟩, mk [c], rfl, rfl, line1, ?_⟩⟩
      rw [low16 hc, low_up h1]
      refine ⟨x, dx, a.C_LeakyQueue, z, _, _, rfl, hC, hx, lz, any_ok (item_ok hc8), fun e => okI_no hc8 e, fun c' ec _ => ?_⟩
      have ec' : c' = c + 32 := by injection ec with ec; have := mk_inj ec; simpa using this.symm
      subst ec'
      refine ⟨fun hn d hd => q3 ?_ h1 d hd, fun k hy => q1 _ ?_⟩
      · unfold stepL; rw [if_neg h1, hn]
      · unfold stepL; rw [if_neg h1, hy]
theorem ok_LeakyQueue_clone (T : Txt K mg a) (hP : Spx.PFile P) : FnOk P w K mg base (L2.CX P w) 7 a.f_LeakyQueue_clone a.d_LeakyQueue_clone ["self"] (sp_qclone a K a.C_LeakyQueue) := by
  have G_LeakyQueue_init := ok_LeakyQueue_init (P := P) (w := w) (base := base) T hP
  have hQ : QC K a.C_LeakyQueue := ⟨T.cl_LeakyQueue, T.n_LeakyQueue_content⟩
  refine T.F_LeakyQueue_clone.okX sc_LeakyQueue_clone (fun vs H Q E h => ?_) (fun cdv A outer s H vs Q E hr h => ?_)
  · obtain ⟨x, dx, C, z, rfl, _⟩ := h
    rfl
  · obtain ⟨x, dx, C, z, rfl, hC, hx, lz, cz, q⟩ := h
    refine ⟨_, (pss_one (ps_ret (Cmx.pe_makeS T.mk_LeakyQueue G_LeakyQueue_init (hr.mono (by decide)) (by rfl) T.g_LeakyQueue T.b_LeakyQueue_init (fun σ => passAt (takes_of rfl rfl rfl rfl) σ) (pa_cons (pe_fld (pv 0) rfl) pa_nil)))), ?_⟩
    exact ⟨.ref x, rfl, x, C, dx, _, _, rfl, hx, hC.cl, hC.na, lk_q z, fun y dy ny ndy ne => ⟨⟨y, dy, _, _, rfl, upd_same⟩, init_q hQ lz cz rfl ny ndy fun H' s' hy => ⟨rfl, q y dy H' s' ny hy⟩⟩⟩
theorem ok_Queue_runL (T : Txt K mg a) (hd : Hd K a) (hP : Spx.PFile P) : FnOk P w K mg base (L2.CX P w) 8 a.f_Queue_run a.d_Queue_run ["self", "program"] (sp_qrun a K a.C_LeakyQueue stepL) := by
  have G_require_program := ok_require_program (P := P) (w := w) (base := base) T
  have G_LeakyQueue_clone := ok_LeakyQueue_clone (P := P) (w := w) (base := base) T hP
  have G_Queue_perform := ok_Queue_performL (P := P) (w := w) (base := base) T hP
  have hC : QC K a.C_LeakyQueue := ⟨T.cl_LeakyQueue, T.n_LeakyQueue_content⟩
  refine T.F_Queue_run.okX sc_Queue_run (fun vs H Q E h => ?_) (fun cdv A outer s H vs Q E hr h => ?_)
  · obtain ⟨x, dx, z, v, t, rfl, _⟩ := h
    rfl
  · obtain ⟨x, dx, z, v, t, rfl, hx, lz, cz, hv, q1, q2⟩ := h
    refine ⟨_, (pss_cons (ps_expr (pe_callS G_require_program (hr.mono (by decide)) (by rfl) T.g_require_program T.F_require_program.kp T.b_require_program (fun σ => passAt (takes_of rfl rfl rfl rfl) σ) (pa_cons (pv 1) pa_nil)))
      (pss_cons (ps_set (i := 2) sc_Queue_run.nd rfl (Or.inl rfl) (Cmx.pe_methX0 (pv 0) T.cl_LeakyQueue T.m_LeakyQueue_clone G_LeakyQueue_clone (hr.mono (by decide)) T.b_LeakyQueue_clone (fun σ => passAt (takes_of rfl rfl rfl rfl) σ)))
      (pss_cons (ps_for (passes_of rfl) rfl (pi_enumS (by rfl) T.z_enumerate (pa_cons (pv 1) pa_nil)) (pg_tup rfl (pgs_cons (pg_name (i := 3) sc_Queue_run.nd rfl (Or.inl rfl)) (pgs_cons (pg_name (i := 4) sc_Queue_run.nd rfl (Or.inl rfl)) pgs_nil)))
        (pss_one (Tvx.ps_tryT rfl rfl (Tvx.tst_two ⟨rfl, by decide, .inl T.e_Missing.gC⟩ ⟨rfl, by decide, .inl T.e_LimitExceeded.gC⟩) (fun hd => L2H.passesAt_of rfl hd) (takes_of rfl rfl rfl rfl)
            (fun W pn xe tk ow => by exact (pss_one (ps_expr (Cmx.pe_methX (pv 2) T.cl_LeakyQueue T.m_LeakyQueue_perform G_Queue_perform (hr.mono (by decide)) T.b_Queue_perform (fun σ => L2N.passAt tk σ) (pa_cons (pv 4) pa_nil)))))
            (fun q oq cls d pn hz hf tkS hot => by exact (pss_one (L2H.ps_raiseHN hot tkS (Tvx.pmk5_index T.e_Failed (by have h := Spx.dp_of hr; exact h) (pa_cons (pv 3) pa_nil) (by rfl))))))))
      (pss_one (ps_fld (pv 0) (pe_fld (pv 2) rfl) rfl))))), ?_⟩
    refine ⟨v, rfl, v, t, rfl, hv, fun e1 => ?_, fun e1 d hdd => q1 e1 d hdd⟩
    obtain ⟨zz, rfl, lp, cp⟩ := okV_str e1
    obtain ⟨p, rfl⟩ : ∃ p, zz = mk p := ⟨cs zz, (mk_cs zz).symm⟩
    rw [cs_mk] at cp
    rw [len_mk] at lp
    obtain ⟨qa, qb⟩ := q2 p rfl lp cp
    refine ⟨.ref x, rfl, x, dx, _, rfl, hx, lk_no (by decide +kernel), x, dx, a.C_LeakyQueue, z, rfl, hC, hx, lz, cz, fun y dy H1 s1 ny hy => ?_⟩
    have hyx : y ≠ x := fun e => by rw [e, hx] at ny; cases ny
    refine ⟨.str (mk p), rfl, mk p, rfl, for_it (walk_enumS (z := mk p)) (fun i σ H3 => ∃ (zi : List Nat) (y3 y4 : Option V), σ = [some (.ref x), some (.str (mk p)), some (.ref y), y3, y4] ∧ But y H1 H3 ∧ H3 y = some (.ins a.C_LeakyQueue dy (qf zi)) ∧ zi.length ≤ 400 ∧ (∀ c ∈ zi, c ∈ lo8) ∧ qrun stepL (p.drop i) zi i = qrun stepL p z 0) ?_ (fun _ _ _ _ _ => trivial) ?_ ?_⟩
    · exact ⟨z, none, none, rfl, But.refl, hy, lz, cz, rfl⟩
    · rintro i u σ H3 H4 hi ⟨zi, y3, y4, rfl, b3, hy3, lzi, czi, hq⟩ ⟨Tp, c, rfl, nT, rfl, hc⟩
      have hT : Tp ≠ y := fun e => by rw [e, hy3] at nT; cases nT
      have hpc : p[i]? = some c := by have := str_at hc; rwa [cs_mk] at this
      have hc16 := cp c (List.mem_of_getElem? hpc)
      rw [drop_cons hpc] at hq
      have hy4 : (upd H3 Tp (.tup [.int (i : Nat), .str ⟨#[c]⟩])) y = some (.ins a.C_LeakyQueue dy (qf zi)) := by rw [upd_ne hT.symm]; exact hy3
      have b4 : But y H1 (upd H3 Tp (.tup [.int (i : Nat), .str ⟨#[c]⟩])) := fun b o nb hb => by
        rw [upd_ne (ne_of_none (b3 b o nb hb) nT)]
        exact b3 b o nb hb
      refine ⟨Tp, _, rfl, SqT.of upd_same, rfl, _, _, rfl, _, _, rfl, rfl, ?_⟩
      generalize upd H3 Tp (.tup [.int (i : Nat), .str ⟨#[c]⟩]) = H4 at hy4 b4
      have fail : ∀ {H5 : Hp}, Same H4 H5 → stepL zi c = none → ∀ d, H5 d = none → E (.ref a.C_Failed) (some d) (upd H5 d (.xd [(("index" : Str), .int (i : Nat))])) := fun {H5} s5 hn d hdn => by
        rw [qrun_no hn] at hq
        have sm : Same H H5 := fun b o hb => s5 _ _ (b4 b o (ne_of_none hb ny) (s1 _ _ hb))
        exact qb i hq.symm _ d (sm.trans (same_new hdn)) (sm.free hdn) upd_same
      refine ⟨.ref y, rfl, y, dy, _, rfl, hy4, lk_no (by decide +kernel), .str (mk [c]), rfl, y, dy, zi, c, rfl, hy4, lzi, hc16, fun z' hs => ?_, fun hn h97 d hdn => ⟨true, hd.xa_Limit, fun _ q0 nq0 => ⟨.int (i : Nat), rfl, .int (i : Nat), rfl, fun d2 hd2 => fail (same_new hdn) hn d2 hd2⟩, (fun h => nomatch h)⟩, fun hn h97 d hdn => ⟨true, hd.xa_Missing, fun _ q0 nq0 => ⟨.int (i : Nat), rfl, .int (i : Nat), rfl, fun d2 hd2 => fail (same_new hdn) hn d2 hd2⟩, (fun h => nomatch h)⟩⟩
      rw [qrun_yes hs] at hq
      exact ⟨z', _, _, rfl, b4.put, upd_same, stepL_ok.len _ _ _ lzi hs, stepL_ok.mem _ _ _ czi hc16 hs, hq⟩
    · rintro σ H3 ⟨zi, y3, y4, rfl, b3, hy3, lzi, czi, hq⟩
      have e9 : (mk p).cps.size = p.length := len_mk p
      rw [e9, List.drop_length, qrun_nil] at hq
      have hx3 : H3 x = some (.ins a.C_LeakyQueue dx (qf z)) := b3 _ _ hyx.symm (s1 _ _ hx)
      refine ⟨.ref y, rfl, y, a.C_LeakyQueue, dy, _, _, rfl, hy3, hC.cl, hC.na, lk_q zi, .ref x, rfl, x, a.C_LeakyQueue, dx, _, rfl, hx3, hC.cl, hC.na, (by show 1 < 1000; decide), ?_⟩
      rw [put_q]
      refine qa zi hq.symm _ (fun b o nb hb => ?_) upd_same
      rw [upd_ne nb]
      exact b3 b o (ne_of_none hb ny) (s1 _ _ hb)
theorem ok_LeakyQueue_run (T : Txt K mg a) (hd : Hd K a) (hP : Spx.PFile P) : FnOk P w K mg base (L2.CX P w) 9 a.f_LeakyQueue_run a.d_LeakyQueue_run ["self", "program"] (Spx.spIn a.C_LeakyQueue (sp_qrun a K a.C_LeakyQueue stepL)) :=
  Spx.in_of (Spx.fn_super hP T.F_LeakyQueue_run sc_LeakyQueue_run rfl rfl rfl rfl (by decide) (by decide) (ok_Queue_runL (P := P) (w := w) (base := base) T hd hP) T.b_Queue_run (fun _ _ _ => rfl) (fun _ _ _ => rfl) (fun _ _ _ => rfl) (fun cd cc A outer s H E σ => passAt (takes_of rfl rfl rfl rfl) σ)) (fun vs H Q E h => h)
end
end E94

set_option Elab.async false
set_option linter.all false
set_option maxRecDepth 100000
set_option maxHeartbeats 4000000
namespace E94
open PySem PySem.Spec PyProof.Rows L2 Own Exn Mth Vld Gn StX
section
variable {P : Program} {w : World} {K : PySem.W.Frag} {mg : Str → Option Value} {base : Heap} {a : Ad}
theorem ok_LeakyQueue_len (T : Txt K mg a) : FnOk P w K mg base CX0 1 a.f_LeakyQueue_len a.d_LeakyQueue_len ["self"] (sp_qlen K) := by
  refine T.F_LeakyQueue_len.ok sc_LeakyQueue_len (fun vs H Q E h => ?_) (fun cdv A outer s H vs Q E hr h => ?_)
  · obtain ⟨x, dx, C, z, rfl, _⟩ := h
    rfl
  · obtain ⟨x, dx, C, z, rfl, hC, hx, lz, q⟩ := h
    refine ⟨_, (pss_one (ps_ret (pe_callB call_len_str (by rfl) T.z_len (by decide +kernel) (pa_cons (pe_fld (pv 0) rfl) pa_nil)))), ?_⟩
    refine ⟨.ref x, rfl, x, C, dx, _, _, rfl, hx, hC.cl, hC.na, lk_q z, mk z, rfl, le_line (by rw [len_mk]; omega), ?_⟩
    rw [len_mk]
    exact q
end
end E94

set_option Elab.async false
set_option linter.all false
set_option maxRecDepth 100000
set_option maxHeartbeats 4000000
namespace E94
open PySem PySem.Spec PyProof.Rows L2 Own Exn Mth Vld Gn StX
section
variable {P : Program} {w : World} {K : PySem.W.Frag} {mg : Str → Option Value} {base : Heap} {a : Ad}
/-- a number from lo on -/
def fromB (v : V) (lo : Int) : Bool := match v with
  | .int i => decide (lo ≤ i)
  | _ => false
def sp_reqfrom (C : Addr) (K : PySem.W.Frag) : Sp := fun vs H Q E => ∃ (v : V) (t : Value) (lo : Int), vs = [v, .int lo] ∧ AnyI K H v t ∧ (fromB v lo = true → Q .non H) ∧ (fromB v lo = false → ∀ d, H d = none → E (.ref C) (some d) (upd H d (.xd [(("value" : Str), v)])))
theorem ok_require_number_from (T : Txt K mg a) : FnOk P w K mg base (L2.CX P w) 3 a.f_require_number_from a.d_require_number_from ["value", "low"] (sp_reqfrom a.C_InvalidNumber K) := by
  have G_is_integer := ok_is_integer (P := P) (w := w) (base := base) T
  refine T.F_require_number_from.okX sc_require_number_from (fun vs H Q E h => ?_) (fun cdv A outer s H vs Q E hr h => ?_)
  · obtain ⟨v, t, lo, rfl, _⟩ := h
    rfl
  · obtain ⟨v, t, lo, rfl, hv, q1, q2⟩ := h
    refine ⟨_, (pss_one (ps_if (PW.pt (pw_or (pt_not (pt_val (pe_call G_is_integer (hr.mono (by decide)) (by rfl) T.g_is_integer T.F_is_integer.kp T.b_is_integer .nil pass0 (pa_cons (pv 0) pa_nil)))) (pw_or1 (pt_cmpR op_lt (pv 0) (pv 1) (nomark _)))))
        (pss_one (ps_raise rfl (takes_of rfl rfl rfl rfl) (pmk_value T.e_InvalidNumber hr (pa_cons (pv 0) pa_nil) (by rfl))))
        pss_nil)), ?_⟩
    refine ⟨v, rfl, v, t, rfl, hv, _, rfl, ?_⟩
    cases e : isI v with
    | false =>
      have e2 : fromB v lo = false := by
        cases v with
        | int i => cases e
        | _ => rfl
      exact iteT (iteT ⟨v, rfl, v, rfl, fun d hd => q2 e2 d hd⟩)
    | true =>
      obtain ⟨i, rfl⟩ : ∃ i, v = .int i := by
        unfold isI at e
        split at e
        · exact ⟨_, rfl⟩
        · cases e
      refine iteF ⟨.int i, rfl, .int lo, rfl, _, _, rfl, rfl, _, rfl, ?_⟩
      by_cases h : lo ≤ i
      · rw [decide_eq_false (show ¬ i < lo by omega)]
        exact iteF (q1 (decide_eq_true h))
      · rw [decide_eq_true (show i < lo by omega)]
        exact iteT ⟨.int i, rfl, .int i, rfl, fun d hd => q2 (decide_eq_false h) d hd⟩
/-- a number of steps, at most n -/
def sp_reqcount (a : Ad) (K : PySem.W.Frag) : Sp := fun vs H Q E => ∃ (v : V) (t : Value) (n : Nat), vs = [v, .int (n : Nat)] ∧ AnyI K H v t ∧ (fromB v 1 = false → ∀ d, H d = none → E (.ref a.C_InvalidNumber) (some d) (upd H d (.xd [(("value" : Str), v)]))) ∧
  (∀ i : Int, v = .int i → 1 ≤ i → (n : Int) < i → ∀ d, H d = none → E (.ref a.C_NothingToUndo) (some d) (upd H d (.xd [(("count" : Str), v)]))) ∧ (∀ k : Nat, v = .int (k : Nat) → 1 ≤ k → k ≤ n → Q .non H)
theorem ok_require_count (T : Txt K mg a) : FnOk P w K mg base (L2.CX P w) 4 a.f_require_count a.d_require_count ["count", "available"] (sp_reqcount a K) := by
  have G_require_number_from := ok_require_number_from (P := P) (w := w) (base := base) T
  refine T.F_require_count.okX sc_require_count (fun vs H Q E h => ?_) (fun cdv A outer s H vs Q E hr h => ?_)
  · obtain ⟨v, t, n, rfl, _⟩ := h
    rfl
  · obtain ⟨v, t, n, rfl, hv, q1, q2, q3⟩ := h
    refine ⟨_, (pss_cons (ps_expr (pe_callS G_require_number_from (hr.mono (by decide)) (by rfl) T.g_require_number_from T.F_require_number_from.kp T.b_require_number_from (fun σ => passAt (takes_of rfl rfl rfl rfl) σ) (pa_cons (pv 0) (pa_cons pe_int pa_nil))))
      (pss_one (ps_if (pt_cmpR op_gt (pv 0) (pv 1) (nomark _))
        (pss_one (ps_raise rfl (takes_of rfl rfl rfl rfl) (pmk_count T.e_NothingToUndo hr (pa_cons (pv 0) pa_nil) (by rfl))))
        pss_nil))), ?_⟩
    refine ⟨v, rfl, v, t, 1, rfl, hv, fun e => ?_, fun e d hd => q1 e d hd⟩
    obtain ⟨i, rfl, hi⟩ : ∃ i : Int, v = .int i ∧ 1 ≤ i := by
      unfold fromB at e
      split at e
      · exact ⟨_, rfl, of_decide_eq_true e⟩
      · cases e
    refine ⟨.int i, rfl, .int (n : Nat), rfl, _, _, rfl, rfl, _, rfl, ?_⟩
    by_cases h : (n : Int) < i
    · rw [decide_eq_true (show i > ((n : Nat) : Int) by omega)]
      exact iteT ⟨.int i, rfl, .int i, rfl, fun d hd => q2 i rfl hi h d hd⟩
    · rw [decide_eq_false (show ¬ i > ((n : Nat) : Int) by omega)]
      obtain ⟨k, rfl⟩ : ∃ k : Nat, i = k := ⟨i.toNat, by omega⟩
      exact iteF (q3 k rfl (by omega) (by omega))
end
end E94

set_option Elab.async false
set_option linter.all false
set_option maxRecDepth 100000
set_option maxHeartbeats 4000000
namespace E94
open PySem PySem.Spec PyProof.Rows L2 Own Exn Mth Vld Gn StX
section
variable {P : Program} {w : World} {K : PySem.W.Frag} {mg : Str → Option Value} {base : Heap} {a : Ad}
/-- the fields of a session -/
def sfl (z0 D C pr : List Nat) (e : Addr) : List (Str × V) := [(("initial" : Str), .str (mk z0)), (("done" : Str), .str (mk D)), (("cancelled" : Str), .str (mk C)), (("present" : Str), .str (mk pr)), (("reached" : Str), .ref e)]
theorem sfl_initial (z0 D C pr : List Nat) (e : Addr) : (sfl z0 D C pr e).lookup ("initial" : Str) = some (.str (mk z0)) := rfl
theorem sfl_done (z0 D C pr : List Nat) (e : Addr) : (sfl z0 D C pr e).lookup ("done" : Str) = some (.str (mk D)) := by rfl
theorem sfl_cancelled (z0 D C pr : List Nat) (e : Addr) : (sfl z0 D C pr e).lookup ("cancelled" : Str) = some (.str (mk C)) := by rfl
theorem sfl_present (z0 D C pr : List Nat) (e : Addr) : (sfl z0 D C pr e).lookup ("present" : Str) = some (.str (mk pr)) := by rfl
theorem sfl_reached (z0 D C pr : List Nat) (e : Addr) : (sfl z0 D C pr e).lookup ("reached" : Str) = some (.ref e) := by rfl
/-- what is known of a session's word, steps and cancelled steps -/
structure Ses (z0 D C : List Nat) : Prop where
  l0 : z0.length ≤ 400
  c0 : ∀ c ∈ z0, c ∈ lo8
  l : (D ++ C).length ≤ 400
  c : ∀ c ∈ D ++ C, c ∈ st16
  ok : ∀ k, ∃ r, bst ((D ++ C).take k) z0 = some r ∧ r.length ≤ 400
theorem Ses.at {z0 D C : List Nat} (h : Ses z0 D C) : ∃ pr, bst D z0 = some pr ∧ pr.length ≤ 400 := by
  have := h.ok D.length
  rwa [List.take_left'] at this
  rfl
theorem Ses.cD {z0 D C : List Nat} (h : Ses z0 D C) : ∀ c ∈ D, c ∈ st16 := fun c hc => h.c c (List.mem_append_left _ hc)
theorem Ses.cC {z0 D C : List Nat} (h : Ses z0 D C) : ∀ c ∈ C, c ∈ st16 := fun c hc => h.c c (List.mem_append_right _ hc)
theorem Ses.lD {z0 D C : List Nat} (h : Ses z0 D C) : D.length ≤ 400 := by have := h.l; rw [List.length_append] at this; omega
theorem Ses.lC {z0 D C : List Nat} (h : Ses z0 D C) : C.length ≤ 400 := by have := h.l; rw [List.length_append] at this; omega
/-- the same steps, divided elsewhere -/
theorem Ses.move {z0 D C D' C' : List Nat} (h : Ses z0 D C) (e : D' ++ C' = D ++ C) : Ses z0 D' C' := ⟨h.l0, h.c0, by rw [e]; exact h.l, by rw [e]; exact h.c, by rw [e]; exact h.ok⟩
theorem ses_new {z0 : List Nat} (l : z0.length ≤ 400) (c : ∀ x ∈ z0, x ∈ lo8) : Ses z0 [] [] := ⟨l, c, by simp, fun x hx => by simp at hx, fun k => ⟨z0, by rw [List.append_nil, List.take_nil]; rfl, l⟩⟩
theorem qrun_pre : ∀ (p z z' : List Nat) (i : Nat), z.length ≤ 400 → qrun stepL p z i = .inr z' → ∀ j, ∃ r, bst (p.take j) z = some r ∧ r.length ≤ 400
  | [], z, z', i, hz, h, j => ⟨z, by rw [List.take_nil]; rfl, hz⟩
  | c :: p, z, z', i, hz, h, 0 => ⟨z, rfl, hz⟩
  | c :: p, z, z', i, hz, h, j + 1 => by
    cases e : stepL z c with
    | none => rw [qrun_no e] at h; cases h
    | some y =>
      rw [qrun_yes e] at h
      obtain ⟨r, hr, lr⟩ := qrun_pre p y z' (i + 1) (stepL_ok.len _ _ _ hz e) h j
      refine ⟨r, ?_, lr⟩
      rw [List.take_succ_cons]
      unfold stepL at e
      by_cases h1 : 97 ≤ c
      · rw [if_pos h1] at e
        split at e
        · cases e
        · cases e
          rw [bst_put h1]
          exact hr
      · rw [if_neg h1] at e
        split at e
        · cases e
        · rename_i k hk
          cases e
          rw [bst_take h1 hk]
          exact hr
theorem qrun_bst {p z z' : List Nat} {i : Nat} (hz : z.length ≤ 400) (h : qrun stepL p z i = .inr z') : bst p z = some z' := by
  have key : ∀ (p z z' : List Nat) (i : Nat), qrun stepL p z i = .inr z' → bst p z = some z' := by
    intro p
    induction p with
    | nil => intro z z' i h; cases h; rfl
    | cons c p ih =>
      intro z z' i h
      cases e : stepL z c with
      | none => rw [qrun_no e] at h; cases h
      | some y =>
        rw [qrun_yes e] at h
        have ih := ih y z' (i + 1) h
        unfold stepL at e
        by_cases h1 : 97 ≤ c
        · rw [if_pos h1] at e
          split at e
          · cases e
          · cases e
            rw [bst_put h1]
            exact ih
        · rw [if_neg h1] at e
          split at e
          · cases e
          · rename_i k hk
            cases e
            rw [bst_take h1 hk]
            exact ih
  exact key p z z' i h
theorem Ses.run {z0 D C p pr pr' : List Nat} (h : Ses z0 D C) (hD : bst D z0 = some pr) (hl : pr.length ≤ 400) (hq : qrun stepL p pr 0 = .inr pr') (cp : ∀ c ∈ p, c ∈ st16) (l : D.length + p.length ≤ 400) : Ses z0 (D ++ p) [] := by
  refine ⟨h.l0, h.c0, by rw [List.append_nil, List.length_append]; exact l, fun c hc => ?_, fun k => ?_⟩
  · rw [List.append_nil] at hc
    rcases List.mem_append.mp hc with g | g
    · exact h.cD c g
    · exact cp c g
  · rw [List.append_nil, List.take_append]
    by_cases hk : k ≤ D.length
    · rw [show k - D.length = 0 by omega, List.take_zero, List.append_nil]
      have := h.ok k
      rwa [List.take_append_of_le_length hk] at this
    · rw [List.take_of_length_le (by omega), bst_app, hD]
      exact qrun_pre p pr pr' 0 hl hq _
/-- a session in the heap -/
def SesAt (a : Ad) (H : Hp) (x : Addr) (z0 D C : List Nat) : Prop := Ses z0 D C ∧ ∃ (dx e : Addr) (pr : List Nat), bst D z0 = some pr ∧ pr.length ≤ 400 ∧ H x = some (.ins a.C_Session dx (sfl z0 D C pr e)) ∧ EffAt a H e (tkS D) (puS D) (coreN D)
theorem SesAt.same {H H' : Hp} {x : Addr} {z0 D C : List Nat} (h : SesAt a H x z0 D C) (s : Same H H') : SesAt a H' x z0 D C := by
  obtain ⟨h0, dx, e, pr, h1, h2, h3, h4⟩ := h
  exact ⟨h0, dx, e, pr, h1, h2, s _ _ h3, h4.same s⟩
def sp_move (a : Ad) : Sp := fun vs H Q E => ∃ (x dx : Addr) (z0 D C : List Nat) (fs : List (Str × V)), vs = [.ref x, .str (mk D), .str (mk C)] ∧ H x = some (.ins a.C_Session dx fs) ∧ (fs = [(("initial" : Str), .str (mk z0))] ∨ ∃ D' C' pr' e', fs = sfl z0 D' C' pr' e') ∧ Ses z0 D C ∧
  ∀ H', But x H H' → SesAt a H' x z0 D C → Q .non H'
theorem ok_Session_move (T : Txt K mg a) : FnOk P w K mg base (L2.CX P w) 8 a.f_Session_move a.d_Session_move ["self", "done", "cancelled"] (sp_move a) := by
  have G_unlimited_result := ok_unlimited_result (P := P) (w := w) (base := base) T
  have G_Effect_of := ok_Effect_of (P := P) (w := w) (base := base) T
  refine T.F_Session_move.okX sc_Session_move (fun vs H Q E h => ?_) (fun cdv A outer s H vs Q E hr h => ?_)
  · obtain ⟨x, dx, z0, D, C, fs, rfl, _⟩ := h
    rfl
  · obtain ⟨x, dx, z0, D, C, fs, rfl, hx, hfs, ses, q⟩ := h
    refine ⟨_, (pss_cons (ps_fld (pv 0) (pv 1) rfl)
      (pss_cons (ps_fld (pv 0) (pv 2) rfl)
      (pss_cons (ps_fld (pv 0) (pe_call G_unlimited_result (hr.mono (by decide)) (by rfl) T.g_unlimited_result T.F_unlimited_result.kp T.b_unlimited_result .nil pass0 (pa_cons (pv 1) (pa_cons (pe_fld (pv 0) rfl) pa_nil))) rfl)
      (pss_one (ps_fld (pv 0) (Cmx.pe_cmethS (pe_glob (v := .ref a.C_Effect) (by rfl) T.g_Effect rfl) T.cr_Effect T.cm_Effect_of G_Effect_of (hr.mono (by decide)) T.b_Effect_of (fun σ => passAt (takes_of rfl rfl rfl rfl) σ) (pa_cons (pv 1) pa_nil)) rfl))))), ?_⟩
    obtain ⟨pr, hpr, lpr⟩ := ses.at
    have okD : okS (mk D) "abcdefghABCDEFGH" = true := okS_mk ses.lD ses.cD
    have lenD := ses.lD
    have l0 := ses.l0
    have lt5 : ∀ n : Nat, Nat.ble n 5 = true → n < 1000 := fun n h => Nat.lt_of_le_of_lt (Nat.le_of_ble_eq_true h) (by decide)
    obtain ⟨g0, g1, g2, g3, g4, g5⟩ : fs.length < 1000 ∧ (putF "done" (.str (mk D)) fs).length < 1000 ∧ (putF "cancelled" (.str (mk C)) (putF "done" (.str (mk D)) fs)).length < 1000 ∧ (putF "present" (.str (mk pr)) (putF "cancelled" (.str (mk C)) (putF "done" (.str (mk D)) fs))).length < 1000 ∧
        (putF "cancelled" (.str (mk C)) (putF "done" (.str (mk D)) fs)).lookup ("initial" : Str) = some (.str (mk z0)) ∧ ∀ e, putF "reached" (.ref e) (putF "present" (.str (mk pr)) (putF "cancelled" (.str (mk C)) (putF "done" (.str (mk D)) fs))) = sfl z0 D C pr e := by
      rcases hfs with rfl | ⟨D', C', pr', e', rfl⟩
      · exact ⟨lt5 _ rfl, lt5 _ rfl, lt5 _ rfl, lt5 _ rfl, rfl, fun _ => rfl⟩
      · exact ⟨lt5 _ rfl, lt5 _ rfl, lt5 _ rfl, lt5 _ rfl, rfl, fun _ => rfl⟩
    refine ⟨.str (mk D), rfl, .ref x, rfl, x, a.C_Session, dx, _, rfl, hx, T.cl_Session, T.n_Session_done, g0, ?_⟩
    refine ⟨.str (mk C), rfl, .ref x, rfl, x, a.C_Session, dx, _, rfl, upd_same, T.cl_Session, T.n_Session_cancelled, g1, ?_⟩
    refine ⟨.str (mk D), rfl, .ref x, rfl, x, a.C_Session, dx, _, _, rfl, upd_same, T.cl_Session, T.n_Session_initial, g4, mk D, z0, rfl, by rw [len_mk]; omega, by rw [cs_mk]; exact ses.cD, by omega, fun H1 s1 => ?_⟩
    rw [cs_mk, hpr]
    refine ⟨.ref x, rfl, x, a.C_Session, dx, _, rfl, s1 _ _ upd_same, T.cl_Session, T.n_Session_present, g2, ?_⟩
    have hx1 := s1 _ _ (upd_same (H := upd H x (.ins a.C_Session dx (putF "done" (.str (mk D)) fs))) (a := x) (o := .ins a.C_Session dx (putF "cancelled" (.str (mk C)) (putF "done" (.str (mk D)) fs))))
    refine ⟨rfl, .str (mk D), rfl, .str (mk D), _, rfl, any_ok okD, (fun e => no_ok okD e), fun p ep lp cp H2 e s2 ne hE => ?_⟩
    have ep' : p = D := by injection ep with ep; exact (mk_inj ep).symm
    subst ep'
    refine ⟨.ref x, rfl, x, a.C_Session, dx, _, rfl, s2 _ _ upd_same, T.cl_Session, T.n_Session_reached, g3, ?_⟩
    have nex : e ≠ x := fun h => by rw [h, upd_same] at ne; cases ne
    refine q _ (fun b o nb hb => ?_) ⟨ses, dx, e, pr, hpr, lpr, ?_, ?_⟩
    · rw [upd_ne nb]
      refine s2 _ _ ?_
      rw [upd_ne nb]
      refine s1 _ _ ?_
      rw [upd_ne nb, upd_ne nb]
      exact hb
    · rw [upd_same]
      exact congrArg (fun f => some (HO.ins a.C_Session dx f)) (g5 e)
    · obtain ⟨de, he⟩ := hE
      exact ⟨de, by rw [upd_ne nex]; exact he⟩
def sp_sinit (a : Ad) (K : PySem.W.Frag) : Sp := fun vs H Q E => ∃ (x dx : Addr) (v : V) (t : Value), vs = [.ref x, v] ∧ H x = some (.ins a.C_Session dx []) ∧ AnyV K H v t ∧
  (okV v "abcdefgh" = false → ∀ d, H d = none → E (.ref a.C_InvalidWord) (some d) (upd H d (.xd [(("value" : Str), v)]))) ∧
  (∀ z0, v = .str (mk z0) → z0.length ≤ 400 → (∀ c ∈ z0, c ∈ lo8) → ∀ H', But x H H' → SesAt a H' x z0 [] [] → Q .non H')
theorem ok_Session_init (T : Txt K mg a) : FnOk P w K mg base (L2.CX P w) 9 a.f_Session_init a.d_Session_init ["self", "word"] (sp_sinit a K) := by
  have G_require_word := ok_require_word (P := P) (w := w) (base := base) T
  have G_Session_move := ok_Session_move (P := P) (w := w) (base := base) T
  refine T.F_Session_init.ok (CX := L2.CX P w) sc_Session_init (fun vs H Q E h => ?_) (fun cdv A outer s H vs Q E hr h => ?_)
  · obtain ⟨x, dx, v, t, rfl, _⟩ := h
    rfl
  · obtain ⟨x, dx, v, t, rfl, hx, hv, q1, q2⟩ := h
    refine ⟨_, (pss_cons (ps_expr (pe_callS G_require_word (hr.mono (by decide)) (by rfl) T.g_require_word T.F_require_word.kp T.b_require_word (fun σ => passAt (takes_of rfl rfl rfl rfl) σ) (pa_cons (pv 1) pa_nil)))
      (pss_cons (ps_fld (pv 0) (pv 1) rfl)
      (pss_one (ps_expr (Cmx.pe_methX (pv 0) T.cl_Session T.m_Session_move G_Session_move (hr.mono (by decide)) T.b_Session_move (fun σ => passAt (takes_of rfl rfl rfl rfl) σ) (pa_cons pe_str (pa_cons pe_str pa_nil))))))), ?_⟩
    refine ⟨v, rfl, v, t, rfl, hv, fun e1 => ?_, fun e1 d hd => q1 e1 d hd⟩
    obtain ⟨z, rfl, lz, cz⟩ := okV_str e1
    obtain ⟨z0, rfl⟩ : ∃ p, z = mk p := ⟨cs z, (mk_cs z).symm⟩
    rw [cs_mk] at cz
    rw [len_mk] at lz
    have q := q2 z0 rfl lz cz
    have e0 : ("" : Str) = mk [] := by decide +kernel
    refine ⟨.str (mk z0), rfl, .ref x, rfl, x, a.C_Session, dx, [], rfl, hx, T.cl_Session, T.n_Session_initial, (by show 0 < 1000; decide), ?_⟩
    refine ⟨.ref x, rfl, x, dx, _, rfl, upd_same, rfl, x, dx, z0, [], [], _, by rw [e0], upd_same, .inl rfl, ses_new lz cz, fun H' b' h' => ?_⟩
    exact q H' (fun b o nb hb => b' b o nb (by rw [upd_ne nb]; exact hb)) h'
/-- a session that can be made -/
theorem init_s {z0 : List Nat} (lz : z0.length ≤ 400) (cz : ∀ c ∈ z0, c ∈ lo8) {v : V} (ev : v = .str (mk z0)) {H : Hp} {x dx : Addr} (nx : H x = none) (ndx : H dx = none) {Rf : VK} {E : XK} (q : ∀ H', Same H H' → SesAt a H' x z0 [] [] → Rf .non H') :
    sp_sinit a K [.ref x, v] (upd (upd H dx (.own x)) x (.ins a.C_Session dx [])) Rf E := by
  subst ev
  have okz : okS (mk z0) "abcdefgh" = true := okS_mk lz cz
  refine ⟨x, dx, _, _, rfl, upd_same, any_ok okz, (fun e => no_ok okz e), fun z ez _ _ H' b' h' => ?_⟩
  have ez' : z = z0 := by injection ez with ez; exact (mk_inj ez).symm
  subst ez'
  refine q H' (fun b o hb => b' b o (ne_of_none hb nx) ?_) h'
  rw [upd_ne (ne_of_none hb nx), upd_ne (ne_of_none hb ndx)]
  exact hb
def sp_sget (a : Ad) (f : List Nat → List Nat → List Nat → List Nat → Addr → V) : Sp := fun vs H Q _ => ∃ (x dx e : Addr) (z0 D C pr : List Nat), vs = [.ref x] ∧ H x = some (.ins a.C_Session dx (sfl z0 D C pr e)) ∧ Q (f z0 D C pr e) H
theorem ok_Session_word (T : Txt K mg a) : FnOk P w K mg base CX0 1 a.f_Session_word a.d_Session_word ["self"] (sp_sget a fun _ _ _ pr _ => .str (mk pr)) := by
  refine T.F_Session_word.ok sc_Session_word (fun vs H Q E h => ?_) (fun cdv A outer s H vs Q E hr h => ?_)
  · obtain ⟨x, dx, e, z0, D, C, pr, rfl, _⟩ := h
    rfl
  · obtain ⟨x, dx, e, z0, D, C, pr, rfl, hx, q⟩ := h
    refine ⟨_, (pss_one (ps_ret (pe_fld (pv 0) rfl))), ?_⟩
    exact ⟨.ref x, rfl, x, a.C_Session, dx, _, _, rfl, hx, T.cl_Session, T.n_Session_present, sfl_present _ _ _ _ _, q⟩
theorem ok_Session_program (T : Txt K mg a) : FnOk P w K mg base CX0 1 a.f_Session_program a.d_Session_program ["self"] (sp_sget a fun _ D _ _ _ => .str (mk D)) := by
  refine T.F_Session_program.ok sc_Session_program (fun vs H Q E h => ?_) (fun cdv A outer s H vs Q E hr h => ?_)
  · obtain ⟨x, dx, e, z0, D, C, pr, rfl, _⟩ := h
    rfl
  · obtain ⟨x, dx, e, z0, D, C, pr, rfl, hx, q⟩ := h
    refine ⟨_, (pss_one (ps_ret (pe_fld (pv 0) rfl))), ?_⟩
    exact ⟨.ref x, rfl, x, a.C_Session, dx, _, _, rfl, hx, T.cl_Session, T.n_Session_done, sfl_done _ _ _ _ _, q⟩
theorem ok_Session_effect (T : Txt K mg a) : FnOk P w K mg base CX0 1 a.f_Session_effect a.d_Session_effect ["self"] (sp_sget a fun _ _ _ _ e => .ref e) := by
  refine T.F_Session_effect.ok sc_Session_effect (fun vs H Q E h => ?_) (fun cdv A outer s H vs Q E hr h => ?_)
  · obtain ⟨x, dx, e, z0, D, C, pr, rfl, _⟩ := h
    rfl
  · obtain ⟨x, dx, e, z0, D, C, pr, rfl, hx, q⟩ := h
    refine ⟨_, (pss_one (ps_ret (pe_fld (pv 0) rfl))), ?_⟩
    exact ⟨.ref x, rfl, x, a.C_Session, dx, _, _, rfl, hx, T.cl_Session, T.n_Session_reached, sfl_reached _ _ _ _ _, q⟩
def sp_slen (a : Ad) : Sp := fun vs H Q _ => ∃ (x dx e : Addr) (z0 D C pr : List Nat), vs = [.ref x] ∧ H x = some (.ins a.C_Session dx (sfl z0 D C pr e)) ∧ D.length ≤ 1000 ∧ Q (.int (D.length : Nat)) H
theorem ok_Session_len (T : Txt K mg a) : FnOk P w K mg base CX0 1 a.f_Session_len a.d_Session_len ["self"] (sp_slen a) := by
  refine T.F_Session_len.ok sc_Session_len (fun vs H Q E h => ?_) (fun cdv A outer s H vs Q E hr h => ?_)
  · obtain ⟨x, dx, e, z0, D, C, pr, rfl, _⟩ := h
    rfl
  · obtain ⟨x, dx, e, z0, D, C, pr, rfl, hx, l, q⟩ := h
    refine ⟨_, (pss_one (ps_ret (pe_callB call_len_str (by rfl) T.z_len (by decide +kernel) (pa_cons (pe_fld (pv 0) rfl) pa_nil)))), ?_⟩
    refine ⟨.ref x, rfl, x, a.C_Session, dx, _, _, rfl, hx, T.cl_Session, T.n_Session_done, sfl_done _ _ _ _ _, mk D, rfl, le_line (by rw [len_mk]; omega), ?_⟩
    rw [len_mk]
    exact q
/-- a session's run -/
def sp_srun (a : Ad) (K : PySem.W.Frag) : Sp := fun vs H Q E => ∃ (x : Addr) (z0 D C pr : List Nat) (v : V) (t : Value), vs = [.ref x, v] ∧ SesAt a H x z0 D C ∧ bst D z0 = some pr ∧ (∀ H', Same H H' → AnyV K H' v t) ∧
  (okV v "abcdefghABCDEFGH" = false → ∀ H' d, Same H H' → H d = none → H' d = some (.xd [(("value" : Str), v)]) → E (.ref a.C_InvalidProgram) (some d) H') ∧
  (∀ p : List Nat, v = .str (mk p) → p.length ≤ 400 → (∀ c ∈ p, c ∈ st16) →
    (∀ i, qrun stepL p pr 0 = .inl i → ∀ H' d, Same H H' → H d = none → H' d = some (.xd [(("index" : Str), .int (i : Nat))]) → E (.ref a.C_Failed) (some d) H') ∧
    (∀ pr', qrun stepL p pr 0 = .inr pr' → 400 < D.length + p.length → ∀ H' d, Same H H' → H d = none → H' d = some (.xd [(("limit" : Str), .int 400)]) → E (.ref a.C_LimitExceeded) (some d) H') ∧
    (∀ pr', qrun stepL p pr 0 = .inr pr' → D.length + p.length ≤ 400 → ∀ H', But x H H' → SesAt a H' x z0 (D ++ p) (if p = [] then C else []) → Q (.int (((pr.length : Nat) : Int) + ((puS p).length : Nat) - ((tkS p).length : Nat) - ((pr'.length : Nat) : Int))) H'))
theorem ok_Session_run (T : Txt K mg a) (hd : Hd K a) (hP : Spx.PFile P) : FnOk P w K mg base (L2.CX P w) 10 a.f_Session_run a.d_Session_run ["self", "program"] (sp_srun a K) := by
  have G_LeakyQueue_init := ok_LeakyQueue_init (P := P) (w := w) (base := base) T hP
  have G_LeakyQueue_run := ok_LeakyQueue_run (P := P) (w := w) (base := base) T hd hP
  have G_LeakyQueue_len := ok_LeakyQueue_len (P := P) (w := w) (base := base) T
  have G_put_items := ok_put_items (P := P) (w := w) (base := base) T
  have G_take_items := ok_take_items (P := P) (w := w) (base := base) T
  have G_Session_move := ok_Session_move (P := P) (w := w) (base := base) T
  have hC : QC K a.C_LeakyQueue := ⟨T.cl_LeakyQueue, T.n_LeakyQueue_content⟩
  refine T.F_Session_run.okX sc_Session_run (fun vs H Q E h => ?_) (fun cdv A outer s H vs Q E hr h => ?_)
  · obtain ⟨x, z0, D, C, pr, v, t, rfl, _⟩ := h
    rfl
  · obtain ⟨x, z0, D, C, pr, v, t, rfl, ⟨ses, dx, e, pr0, hpr0, lpr, hx, hE⟩, hpr, hv, q1, q2⟩ := h
    have epr : pr0 = pr := by rw [hpr] at hpr0; injection hpr0 with h; exact h.symm
    subst epr
    refine ⟨_, (pss_cons (ps_set (i := 2) sc_Session_run.nd rfl (Or.inl rfl) (Cmx.pe_makeS T.mk_LeakyQueue G_LeakyQueue_init (hr.mono (by decide)) (by rfl) T.g_LeakyQueue T.b_LeakyQueue_init (fun σ => passAt (takes_of rfl rfl rfl rfl) σ) (pa_cons (pe_fld (pv 0) rfl) pa_nil)))
      (pss_cons (ps_expr (Cmx.pe_methX (pv 2) T.cl_LeakyQueue T.m_LeakyQueue_run G_LeakyQueue_run (hr.mono (by decide)) T.b_LeakyQueue_run (fun σ => passAt (takes_of rfl rfl rfl rfl) σ) (pa_cons (pv 1) pa_nil)))
      (pss_cons (ps_if (pt_cmpR op_gt (pe_op op_add (pe_callB call_len_str (by rfl) T.z_len (by decide +kernel) (pa_cons (pe_fld (pv 0) rfl) pa_nil)) (pe_callB call_len_str (by rfl) T.z_len (by decide +kernel) (pa_cons (pv 1) pa_nil))) (pe_glob (v := .int 400) (by rfl) T.c_MAX_LENGTH ⟨_, rfl⟩) (nomark _))
        (pss_one (ps_raise rfl (takes_of rfl rfl rfl rfl) (pmk_limit T.e_LimitExceeded hr (pa_cons (pe_glob (v := .int 400) (by rfl) T.c_MAX_LENGTH ⟨_, rfl⟩) pa_nil) (by rfl))))
        pss_nil)
      (pss_cons (ps_set (i := 3) sc_Session_run.nd rfl (Or.inl rfl) (pe_op op_sub (pe_op op_sub (pe_op op_add (pe_callB call_len_str (by rfl) T.z_len (by decide +kernel) (pa_cons (pe_fld (pv 0) rfl) pa_nil)) (pe_callB call_len_str (by rfl) T.z_len (by decide +kernel) (pa_cons (pe_call G_put_items (hr.mono (by decide)) (by rfl) T.g_put_items T.F_put_items.kp T.b_put_items .nil pass0 (pa_cons (pv 1) pa_nil)) pa_nil))) (pe_callB call_len_str (by rfl) T.z_len (by decide +kernel) (pa_cons (pe_call G_take_items (hr.mono (by decide)) (by rfl) T.g_take_items T.F_take_items.kp T.b_take_items .nil pass0 (pa_cons (pv 1) pa_nil)) pa_nil))) (pe_callB (Ows.call_lenOwn T.m_LeakyQueue_len.at_ T.m_LeakyQueue_len.fn (G_LeakyQueue_len.raw T.b_LeakyQueue_len .nil) (hr.mono (by decide)) pass0) (by rfl) T.z_len (by decide +kernel) (pa_cons (pv 2) pa_nil))))
      (pss_cons (ps_expr (Cmx.pe_methX (pv 0) T.cl_Session T.m_Session_move G_Session_move (hr.mono (by decide)) T.b_Session_move (fun σ => passAt (takes_of rfl rfl rfl rfl) σ) (pa_cons (pe_op op_add_str (pe_fld (pv 0) rfl) (pv 1)) (pa_cons (pe_ifExp (pt_truth (pv 1) (fun _ => rfl)) pe_str (pe_fld (pv 0) rfl)) pa_nil))))
      (pss_one (ps_ret (pv 3)))))))), ?_⟩
    have lD := ses.lD
    have lC := ses.lC
    have cpr : ∀ c ∈ pr0, c ∈ lo8 := bst_mem D z0 pr0 ses.cD ses.c0 hpr
    refine ⟨.ref x, rfl, x, a.C_Session, dx, _, _, rfl, hx, T.cl_Session, T.n_Session_present, sfl_present _ _ _ _ _, fun y dy ny ndy ne => ⟨⟨y, dy, _, _, rfl, upd_same⟩, init_q hC lpr cpr rfl ny ndy fun H1 s1 hy => ⟨rfl, ?_⟩⟩⟩
    have hyx : y ≠ x := fun e => by rw [e, hx] at ny; cases ny
    refine ⟨.ref y, rfl, y, dy, _, rfl, hy, lk_no (by decide +kernel), v, rfl, ⟨y, dy, _, _, rfl, hy⟩, y, dy, pr0, v, t, rfl, hy, lpr, cpr, hv _ s1, fun e1 d hdn => q1 e1 _ d (s1.trans (same_new hdn)) (s1.free hdn) upd_same, fun p ep lp cp => ⟨fun pr' hq H2 b2 hy2 => ?_, fun i hq H2 d s2 nd hd2 => (q2 p ep lp cp).1 i hq H2 d (s1.trans s2) (s1.free nd) hd2⟩⟩
    subst ep
    obtain ⟨_, qb, qc⟩ := q2 p rfl lp cp
    have s2 : Same H H2 := fun b o hb => b2 b o (ne_of_none hb ny) (s1 _ _ hb)
    have hx2 := s2 _ _ hx
    have lpr' : pr'.length ≤ 400 := by
      obtain ⟨r, hr', lr⟩ := qrun_pre p pr0 pr' 0 lpr hq p.length
      rw [List.take_length, qrun_bst lpr hq] at hr'
      injection hr' with h
      rw [h]
      exact lr
    refine ⟨.ref x, rfl, x, a.C_Session, dx, _, _, rfl, hx2, T.cl_Session, T.n_Session_done, sfl_done _ _ _ _ _, mk D, rfl, le_line (by rw [len_mk]; omega), .str (mk p), rfl, mk p, rfl, le_line (by rw [len_mk]; omega), _, _, rfl, rfl, _, _, rfl, rfl, _, rfl, ?_⟩
    rw [len_mk, len_mk]
    by_cases h4 : 400 < D.length + p.length
    · rw [decide_eq_true (show ((D.length : Nat) : Int) + ((p.length : Nat) : Int) > 400 by omega)]
      exact iteT ⟨.int 400, rfl, fun d hdn => qb pr' hq h4 _ d (s2.trans (same_new hdn)) (s2.free hdn) upd_same⟩
    · rw [decide_eq_false (show ¬ ((D.length : Nat) : Int) + ((p.length : Nat) : Int) > 400 by omega)]
      refine iteF ⟨.ref x, rfl, x, a.C_Session, dx, _, _, rfl, hx2, T.cl_Session, T.n_Session_present, sfl_present _ _ _ _ _, mk pr0, rfl, le_line (by rw [len_mk]; omega), .str (mk p), rfl, mk p, rfl, by rw [len_mk]; omega, by rw [cs_mk]; exact cp, fun H3 s3 => ?_⟩
      have hl := parts_len p
      rw [cs_mk]
      refine ⟨mk (puS p), rfl, le_line (by rw [len_mk]; omega), _, _, rfl, rfl, .str (mk p), rfl, mk p, rfl, by rw [len_mk]; omega, by rw [cs_mk]; exact cp, fun H4 s4 => ?_⟩
      rw [cs_mk]
      have hy4 := s4 _ _ (s3 _ _ hy2)
      refine ⟨mk (tkS p), rfl, le_line (by rw [len_mk]; omega), _, _, rfl, rfl, .ref y, rfl, y, dy, _, rfl, hy4, y, dy, a.C_LeakyQueue, pr', rfl, hC, hy4, by omega, _, rfl, by omega, by omega, _, _, rfl, rfl, ?_⟩
      rw [len_mk, len_mk, len_mk]
      have s4' := s2.trans (s3.trans s4)
      have hx4 := s4' _ _ hx
      have ld : (mk D).length + (mk p).length ≤ 1000 := by rw [len_mk, len_mk]; omega
      refine ⟨.ref x, rfl, x, dx, _, rfl, hx4, rfl, .ref x, rfl, x, a.C_Session, dx, _, _, rfl, hx4, T.cl_Session, T.n_Session_done, sfl_done _ _ _ _ _, .str (mk p), rfl, mk D, mk p, rfl, rfl, le_line (by omega), .str (mk p), rfl, decide (p ≠ []), ⟨le_line (by rw [len_mk]; omega), ?_⟩, ?_⟩
      · rw [len_mk]
        cases p with
        | nil => rfl
        | cons c p =>
          rw [decide_eq_true (fun h => nomatch h)]
          rw [List.length_cons, bne_iff_ne.mpr (by omega)]
      rw [app_mk]
      have e0 : ("" : Str) = mk [] := by decide +kernel
      by_cases hp : p = []
      · rw [decide_eq_false (fun h => h hp)]
        subst hp
        rw [List.append_nil] at qc ⊢
        refine iteF ⟨.ref x, rfl, x, a.C_Session, dx, _, _, rfl, hx4, T.cl_Session, T.n_Session_cancelled, sfl_cancelled _ _ _ _ _, x, dx, z0, D, C, _, rfl, hx4, .inr ⟨_, _, _, _, rfl⟩, ses, fun H5 b5 h5 => ?_⟩
        rw [if_pos rfl] at qc
        exact ⟨_, rfl, qc pr' hq (by omega) H5 (fun b o nb hb => b5 b o nb (s4' _ _ hb)) h5⟩
      · rw [decide_eq_true hp]
        rw [if_neg hp] at qc
        refine iteT ⟨x, dx, z0, D ++ p, [], _, by rw [e0], hx4, .inr ⟨_, _, _, _, rfl⟩, ses.run hpr lpr hq cp (by omega), fun H5 b5 h5 => ?_⟩
        exact ⟨_, rfl, qc pr' hq (by omega) H5 (fun b o nb hb => b5 b o nb (s4' _ _ hb)) h5⟩
def sp_sundo (a : Ad) (K : PySem.W.Frag) : Sp := fun vs H Q E => ∃ (x : Addr) (z0 D C : List Nat) (v : V) (t : Value), vs = [.ref x, v] ∧ SesAt a H x z0 D C ∧ AnyI K H v t ∧
  (fromB v 1 = false → ∀ d, H d = none → E (.ref a.C_InvalidNumber) (some d) (upd H d (.xd [(("value" : Str), v)]))) ∧
  (∀ i : Int, v = .int i → 1 ≤ i → (D.length : Int) < i → ∀ d, H d = none → E (.ref a.C_NothingToUndo) (some d) (upd H d (.xd [(("count" : Str), v)]))) ∧
  (∀ k : Nat, v = .int (k : Nat) → 1 ≤ k → k ≤ D.length → ∀ H', But x H H' → SesAt a H' x z0 (D.take (D.length - k)) (D.drop (D.length - k) ++ C) → Q (.str (mk (D.drop (D.length - k)))) H')
theorem ok_Session_undo (T : Txt K mg a) : FnOk P w K mg base (L2.CX P w) 9 a.f_Session_undo a.d_Session_undo ["self", "count"] (sp_sundo a K) := by
  have G_require_count := ok_require_count (P := P) (w := w) (base := base) T
  have G_Session_move := ok_Session_move (P := P) (w := w) (base := base) T
  refine T.F_Session_undo.ok (CX := L2.CX P w) sc_Session_undo (fun vs H Q E h => ?_) (fun cdv A outer s H vs Q E hr h => ?_)
  · obtain ⟨x, z0, D, C, v, t, rfl, _⟩ := h
    rfl
  · obtain ⟨x, z0, D, C, v, t, rfl, ⟨ses, dx, e, pr, hpr, lpr, hx, hE⟩, hv, q1, q2, q3⟩ := h
    refine ⟨_, (pss_cons (ps_expr (pe_callS G_require_count (hr.mono (by decide)) (by rfl) T.g_require_count T.F_require_count.kp T.b_require_count (fun σ => passAt (takes_of rfl rfl rfl rfl) σ) (pa_cons (pv 1) (pa_cons (pe_callB call_len_str (by rfl) T.z_len (by decide +kernel) (pa_cons (pe_fld (pv 0) rfl) pa_nil)) pa_nil))))
      (pss_cons (ps_set (i := 2) sc_Session_undo.nd rfl (Or.inl rfl) (pe_op op_sub (pe_callB call_len_str (by rfl) T.z_len (by decide +kernel) (pa_cons (pe_fld (pv 0) rfl) pa_nil)) (pv 1)))
      (pss_cons (ps_set (i := 3) sc_Session_undo.nd rfl (Or.inl rfl) (pe_slice sl_str (pe_fld (pv 0) rfl) (po_some (pv 2)) po_none))
      (pss_cons (ps_expr (Cmx.pe_methX (pv 0) T.cl_Session T.m_Session_move G_Session_move (hr.mono (by decide)) T.b_Session_move (fun σ => passAt (takes_of rfl rfl rfl rfl) σ) (pa_cons (pe_slice sl_str (pe_fld (pv 0) rfl) po_none (po_some (pv 2))) (pa_cons (pe_op op_add_str (pv 3) (pe_fld (pv 0) rfl)) pa_nil))))
      (pss_one (ps_ret (pv 3))))))), ?_⟩
    have lD := ses.lD
    have lC := ses.lC
    refine ⟨v, rfl, .ref x, rfl, x, a.C_Session, dx, _, _, rfl, hx, T.cl_Session, T.n_Session_done, sfl_done _ _ _ _ _, mk D, rfl, le_line (by rw [len_mk]; omega), ?_⟩
    rw [len_mk]
    refine ⟨v, t, D.length, rfl, hv, fun e1 d hd => q1 e1 d hd, fun i ei h1 h2 d hd => q2 i ei h1 h2 d hd, fun k ek h1 h2 => ?_⟩
    subst ek
    have q := q3 k rfl h1 h2
    refine ⟨.ref x, rfl, x, a.C_Session, dx, _, _, rfl, hx, T.cl_Session, T.n_Session_done, sfl_done _ _ _ _ _, mk D, rfl, le_line (by rw [len_mk]; omega), .int (k : Nat), rfl, _, _, rfl, rfl, ?_⟩
    rw [len_mk]
    have ed : ((D.length : Nat) : Int) - ((k : Nat) : Int) = ((D.length - k : Nat) : Int) := by omega
    refine ⟨.ref x, rfl, x, a.C_Session, dx, _, _, rfl, hx, T.cl_Session, T.n_Session_done, sfl_done _ _ _ _ _, _, rfl, _, rfl, mk D, rfl, le_line (by rw [len_mk]; omega), ?_⟩
    rw [ed, cut_from]
    refine ⟨.ref x, rfl, x, dx, _, rfl, hx, rfl, .ref x, rfl, x, a.C_Session, dx, _, _, rfl, hx, T.cl_Session, T.n_Session_done, sfl_done _ _ _ _ _, _, rfl, _, rfl, mk D, rfl, le_line (by rw [len_mk]; omega), ?_⟩
    rw [ed, cut_to]
    refine ⟨_, rfl, .ref x, rfl, x, a.C_Session, dx, _, _, rfl, hx, T.cl_Session, T.n_Session_cancelled, sfl_cancelled _ _ _ _ _, _, _, rfl, rfl, le_line (by rw [len_mk, len_mk, List.length_drop]; omega), ?_⟩
    rw [app_mk]
    refine ⟨x, dx, z0, _, _, _, rfl, hx, .inr ⟨_, _, _, _, rfl⟩, ses.move (by rw [← List.append_assoc, List.take_append_drop]), fun H' b' h' => ?_⟩
    exact ⟨_, rfl, q H' b' h'⟩
def sp_sredo (a : Ad) (K : PySem.W.Frag) : Sp := fun vs H Q E => ∃ (x : Addr) (z0 D C : List Nat) (v : V) (t : Value), vs = [.ref x, v] ∧ SesAt a H x z0 D C ∧ AnyI K H v t ∧
  (fromB v 1 = false → ∀ d, H d = none → E (.ref a.C_InvalidNumber) (some d) (upd H d (.xd [(("value" : Str), v)]))) ∧
  (∀ i : Int, v = .int i → 1 ≤ i → (C.length : Int) < i → ∀ d, H d = none → E (.ref a.C_NothingToUndo) (some d) (upd H d (.xd [(("count" : Str), v)]))) ∧
  (∀ k : Nat, v = .int (k : Nat) → 1 ≤ k → k ≤ C.length → ∀ H', But x H H' → SesAt a H' x z0 (D ++ C.take k) (C.drop k) → Q (.str (mk (C.take k))) H')
theorem ok_Session_redo (T : Txt K mg a) : FnOk P w K mg base (L2.CX P w) 9 a.f_Session_redo a.d_Session_redo ["self", "count"] (sp_sredo a K) := by
  have G_require_count := ok_require_count (P := P) (w := w) (base := base) T
  have G_Session_move := ok_Session_move (P := P) (w := w) (base := base) T
  refine T.F_Session_redo.ok (CX := L2.CX P w) sc_Session_redo (fun vs H Q E h => ?_) (fun cdv A outer s H vs Q E hr h => ?_)
  · obtain ⟨x, z0, D, C, v, t, rfl, _⟩ := h
    rfl
  · obtain ⟨x, z0, D, C, v, t, rfl, ⟨ses, dx, e, pr, hpr, lpr, hx, hE⟩, hv, q1, q2, q3⟩ := h
    refine ⟨_, (pss_cons (ps_expr (pe_callS G_require_count (hr.mono (by decide)) (by rfl) T.g_require_count T.F_require_count.kp T.b_require_count (fun σ => passAt (takes_of rfl rfl rfl rfl) σ) (pa_cons (pv 1) (pa_cons (pe_callB call_len_str (by rfl) T.z_len (by decide +kernel) (pa_cons (pe_fld (pv 0) rfl) pa_nil)) pa_nil))))
      (pss_cons (ps_set (i := 2) sc_Session_redo.nd rfl (Or.inl rfl) (pe_slice sl_str (pe_fld (pv 0) rfl) po_none (po_some (pv 1))))
      (pss_cons (ps_expr (Cmx.pe_methX (pv 0) T.cl_Session T.m_Session_move G_Session_move (hr.mono (by decide)) T.b_Session_move (fun σ => passAt (takes_of rfl rfl rfl rfl) σ) (pa_cons (pe_op op_add_str (pe_fld (pv 0) rfl) (pv 2)) (pa_cons (pe_slice sl_str (pe_fld (pv 0) rfl) (po_some (pv 1)) po_none) pa_nil))))
      (pss_one (ps_ret (pv 2)))))), ?_⟩
    have lD := ses.lD
    have lC := ses.lC
    refine ⟨v, rfl, .ref x, rfl, x, a.C_Session, dx, _, _, rfl, hx, T.cl_Session, T.n_Session_cancelled, sfl_cancelled _ _ _ _ _, mk C, rfl, le_line (by rw [len_mk]; omega), ?_⟩
    rw [len_mk]
    refine ⟨v, t, C.length, rfl, hv, fun e1 d hd => q1 e1 d hd, fun i ei h1 h2 d hd => q2 i ei h1 h2 d hd, fun k ek h1 h2 => ?_⟩
    subst ek
    have q := q3 k rfl h1 h2
    refine ⟨.ref x, rfl, x, a.C_Session, dx, _, _, rfl, hx, T.cl_Session, T.n_Session_cancelled, sfl_cancelled _ _ _ _ _, .int (k : Nat), rfl, _, rfl, mk C, rfl, le_line (by rw [len_mk]; omega), ?_⟩
    rw [cut_to]
    refine ⟨.ref x, rfl, x, dx, _, rfl, hx, rfl, .ref x, rfl, x, a.C_Session, dx, _, _, rfl, hx, T.cl_Session, T.n_Session_done, sfl_done _ _ _ _ _, _, rfl, _, _, rfl, rfl, le_line (by rw [len_mk, len_mk, List.length_take]; omega), ?_⟩
    refine ⟨.ref x, rfl, x, a.C_Session, dx, _, _, rfl, hx, T.cl_Session, T.n_Session_cancelled, sfl_cancelled _ _ _ _ _, .int (k : Nat), rfl, _, rfl, mk C, rfl, le_line (by rw [len_mk]; omega), ?_⟩
    rw [cut_from, app_mk]
    refine ⟨x, dx, z0, _, _, _, rfl, hx, .inr ⟨_, _, _, _, rfl⟩, ses.move (by rw [List.append_assoc, List.take_append_drop]), fun H' b' h' => ?_⟩
    exact ⟨_, rfl, q H' b' h'⟩
end
end E94

set_option Elab.async false
set_option linter.all false
set_option maxRecDepth 100000
set_option maxHeartbeats 4000000
namespace E94
open PySem PySem.Spec PyProof.Rows L2 Own Exn Mth Vld Gn StX
section
variable {P : Program} {w : World} {K : PySem.W.Frag} {mg : Str → Option Value} {base : Heap} {a : Ad}
def shS (z0 D : List Nat) : Str := "Session(" ++ reprText (mk z0) ++ ", " ++ reprText (mk D) ++ ")"
def sp_srepr (a : Ad) : Sp := fun vs H Q _ => ∃ (x dx e : Addr) (z0 D C pr : List Nat), vs = [.ref x] ∧ H x = some (.ins a.C_Session dx (sfl z0 D C pr e)) ∧ z0.length ≤ 400 ∧ D.length ≤ 400 ∧ (∀ c ∈ z0, c ∈ lo8) ∧ (∀ c ∈ D, c ∈ st16) ∧ Q (.str (shS z0 D)) H
theorem ok_Session_repr (T : Txt K mg a) : FnOk P w K mg base CX0 1 a.f_Session_repr a.d_Session_repr ["self"] (sp_srepr a) := by
  refine T.F_Session_repr.ok sc_Session_repr (fun vs H Q E h => ?_) (fun cdv A outer s H vs Q E hr h => ?_)
  · obtain ⟨x, dx, e, z0, D, C, pr, rfl, _⟩ := h
    rfl
  · obtain ⟨x, dx, e, z0, D, C, pr, rfl, hx, l0, lD, c0, cD, q⟩ := h
    refine ⟨_, (pss_one (ps_ret (pe_joined (.cons pe_str (.cons (pe_fmtR (pe_fld (pv 0) rfl)) (.cons pe_str (.cons (pe_fmtR (pe_fld (pv 0) rfl)) (.cons pe_str .nil)))))))), ?_⟩
    have h1 := repr_len (st_of_lo c0)
    have h2 := repr_len cD
    have k0 : ("Session(" : Str).length = 8 := by decide +kernel
    have k1 : (")" : Str).length = 1 := by decide +kernel
    have k2 : (", " : Str).length = 2 := by decide +kernel
    have e0 : (Str.empty ++ ("Session(" : Str)) = "Session(" := by decide +kernel
    refine ⟨"Session(", rfl, by rw [e0, k0]; exact le_line (by decide), .ref x, rfl, x, a.C_Session, dx, _, _, rfl, hx, T.cl_Session, T.n_Session_initial, sfl_initial _ _ _ _ _, .inl ⟨mk z0, rfl, le_line (by omega), reprText (mk z0), rfl, ?_, ", ", rfl, ?_, .ref x, rfl, x, a.C_Session, dx, _, _, rfl, hx, T.cl_Session, T.n_Session_done, sfl_done _ _ _ _ _, .inl ⟨mk D, rfl, le_line (by omega), reprText (mk D), rfl, ?_, ")", rfl, ?_, ?_⟩⟩⟩
    · rw [e0, len_app, k0]; exact le_line (by omega)
    · rw [e0, len_app, len_app, k0, k2]; exact le_line (by omega)
    · rw [e0, len_app, len_app, len_app, k0, k2]; exact le_line (by omega)
    · rw [e0, len_app, len_app, len_app, len_app, k0, k1, k2]; exact le_line (by omega)
    · rw [e0]
      exact q
end
end E94

set_option Elab.async false
set_option linter.all false
set_option maxRecDepth 100000
set_option maxHeartbeats 4000000
namespace E94
open PySem PySem.Spec PyProof.Rows L2 Own Exn Mth Vld Gn StX
section
variable {P : Program} {w : World} {K : PySem.W.Frag} {mg : Str → Option Value} {base : Heap} {a : Ad}
def sp_Lpool (K : PySem.W.Frag) : Sp := fun vs H Q _ => ∃ (s : Addr) (k : Int) (ns : List Int), vs = [.ref s, .int k] ∧ SqL K H s (ns.map V.int) ∧ ns.length ≤ 1000 ∧ 0 ≤ k ∧ k ≤ 1000 ∧
  ∀ H' p, Same H H' → H p = none → Pool H' p → Q (.ref p) H'
theorem ok_Lpool (T : Txt K mg a) : FnOk P w K mg base CX0 1 a.f_Lpool a.d_Lpool ["_law_script", "_law_index"] (sp_Lpool K) := by
  refine T.F_Lpool.ok sc_Lpool (fun vs H Q E h => ?_) (fun cdv A outer s H vs Q E hr h => ?_)
  · obtain ⟨s, k, ns, rfl, _⟩ := h
    rfl
  · obtain ⟨sc, k, ns, rfl, hS, hns, hk0, hk1, q⟩ := h
    refine ⟨_, (pss_cons (ps_set (i := 2) sc_Lpool.nd rfl (Or.inl rfl) (pe_ix ix_list (pe_op op_cat (pe_slice sl_list (pv 0) (po_some (pv 1)) (po_some (pe_op op_add (pv 1) pe_int))) (pe_lst (pa_cons pe_int pa_nil))) pe_int (fun _ _ => rfl)))
      (pss_cons (ps_set (i := 3) sc_Lpool.nd rfl (Or.inl rfl) (pe_callB (call_max2 rfl) (by rfl) T.z_max (by decide +kernel) (pa_cons (pv 2) (pa_cons (pe_op op_sub (pe_un un_neg pe_int) (pv 2)) pa_nil))))
      (pss_cons (ps_set (i := 4) sc_Lpool.nd rfl (Or.inl rfl) (pe_op op_mod (pe_op op_mul (pe_op op_add (pe_op op_add (pe_op op_add (pe_op op_mod (pv 3) pe_int) (pe_op op_mul (pe_op op_mul pe_int (pv 1)) (pv 1))) (pe_op op_mul pe_int (pv 1))) pe_int) pe_int) pe_int))
      (pss_one (ps_ret (pe_lst (pa_cons (pe_op op_mul (pv 3) (pe_callTy call_int1 (by rfl) T.z_int (by decide +kernel) (pa_cons (pe_cmpR op_ge (pv 3) (pe_op op_pow pe_int pe_int) (nomark _)) pa_nil))) (pa_cons (pe_op op_mod (pe_op op_mul (pv 4) (pv 4)) pe_int) pa_nil)))))))), ?_⟩
    refine ⟨.ref sc, rfl, .int k, rfl, k, rfl, .int k, rfl, k, 1, rfl, rfl, k + 1, rfl, sc, _, rfl, hS, fun c nc => ?_⟩
    obtain ⟨l, hl⟩ := cut_int ns (some k) (some (k + 1))
    have hlen := cutV_length (ns.map V.int) (some k) (some (k + 1))
    rw [hl] at hlen ⊢
    have s1 : Same H (upd H c (.lst (l.map V.int))) := same_new nc
    refine ⟨le_line (by decide), fun d nd => ?_⟩
    have ndc : d ≠ c := fun e => by rw [e, upd_same] at nd; cases nd
    have s2 := s1.trans (same_new (o := .lst [V.int 0]) nd)
    obtain ⟨x, r, hx⟩ : ∃ x r, l.map V.int ++ [V.int 0] = V.int x :: r := by
      cases l with
      | nil => exact ⟨0, _, rfl⟩
      | cons y l => exact ⟨y, _, rfl⟩
    refine ⟨c, d, l.map V.int, [V.int 0], rfl, rfl, by rw [upd_ne ndc.symm, upd_same], upd_same, ?_, fun e ne => ?_⟩
    · rw [List.length_map] at hlen ⊢
      rw [List.length_map] at hlen
      exact le_line (by rw [List.length_singleton]; omega)
    have s3 := s2.trans (same_new (o := .lst (l.map V.int ++ [V.int 0])) ne)
    refine ⟨e, _, 0, V.int x, rfl, rfl, SqL.of upd_same, atI_nat (j := 0) (by rw [hx]; rfl), ?_⟩
    -- the number
    refine ⟨.int x, rfl, 1, rfl, .int x, rfl, -1, x, rfl, rfl, _, _, rfl, ?_⟩
    obtain ⟨n, hn, hn0⟩ : ∃ n, (if -1 - x > x then -1 - x else x) = n ∧ 0 ≤ n := by
      refine ⟨_, rfl, ?_⟩
      split <;> omega
    rw [hn]
    have e1 : n % 2147483629 < 2147483629 := Int.emod_lt_of_pos _ (by decide)
    have e0 : 0 ≤ n % 2147483629 := Int.emod_nonneg _ (by decide)
    have k2 : 0 ≤ 7919 * k * k ∧ 7919 * k * k ≤ 7919 * 1000 * 1000 := by
      constructor
      · exact Int.mul_nonneg (by omega) hk0
      · exact Int.mul_le_mul (by omega) hk1 hk0 (by decide)
    refine ⟨.int n, rfl, n, 2147483629, rfl, rfl, (show (0 : Int) < 2147483629 by decide), .int k, rfl, 7919, k, rfl, rfl, .inl ⟨by decide, by decide⟩, .int k, rfl, 7919 * k, k, rfl, rfl, .inl ⟨by omega, by omega⟩, _, _, rfl, rfl,
      .int k, rfl, 31, k, rfl, rfl, .inl ⟨by decide, by decide⟩, _, _, rfl, rfl, _, _, rfl, rfl, _, 48271, rfl, rfl, .inr ⟨by decide, by decide⟩, _, 2147483647, rfl, rfl, (show (0 : Int) < 2147483647 by decide), ?_⟩
    obtain ⟨mx, hm, hm0, hm1⟩ : ∃ mx, ((n % 2147483629 + 7919 * k * k + 31 * k + 17) * 48271) % 2147483647 = mx ∧ 0 ≤ mx ∧ mx < 2147483647 :=
      ⟨_, rfl, Int.emod_nonneg _ (by decide), Int.emod_lt_of_pos _ (by decide)⟩
    dsimp only
    rw [hm]
    refine ⟨.int n, rfl, .int n, rfl, 10, 18, rfl, rfl, ⟨by decide, by decide, by decide⟩, _, _, rfl, rfl, .inr ⟨_, rfl, ?_⟩⟩
    have hb : ∀ b : Bool, (0 : Int) ≤ (if b = true then 1 else 0) ∧ (if b = true then (1 : Int) else 0) ≤ 1 := by intro b; cases b <;> decide
    have hb' := hb (decide ((10 : Int) ^ (18 : Int).toNat ≤ n))
    refine ⟨n, _, rfl, rfl, .inr ⟨by omega, by omega⟩, .int mx, rfl, .int mx, rfl, mx, mx, rfl, rfl, .inl ⟨by omega, by omega⟩, _, 2147483629, rfl, rfl, (show (0 : Int) < 2147483629 by decide), le_line (show 2 ≤ 100000 by decide), fun p np => ?_⟩
    have h1 : 0 ≤ mx * mx % 2147483629 := Int.emod_nonneg _ (by decide)
    have h2 : mx * mx % 2147483629 < 2147483629 := Int.emod_lt_of_pos _ (by decide)
    exact q _ p (s3.trans (same_new np)) (s3.free np) ⟨_, _, upd_same, Int.mul_nonneg hn0 hb'.1, h1, by omega⟩
def sp_Ldraw : Sp := fun vs H Q _ => ∃ (p : Addr) (k : Int), vs = [.ref p, .int k] ∧ Pool H p ∧ 1 ≤ k ∧ k ≤ 1000000 ∧
  ∀ n m d : Int, 0 ≤ n → 0 ≤ m → m < 2147483647 → 0 ≤ d → d < k → Q (.int d) (upd H p (.lst [.int n, .int m]))
theorem ok_Ldraw (T : Txt K mg a) : FnOk P w K mg base CX0 1 a.f_Ldraw a.d_Ldraw ["_law_pool_here", "_law_bound"] sp_Ldraw := by
  refine T.F_Ldraw.ok sc_Ldraw (fun vs H Q E h => ?_) (fun cdv A outer s H vs Q E hr h => ?_)
  · obtain ⟨p, k, rfl, _⟩ := h
    rfl
  · obtain ⟨p, k, rfl, ⟨n, m, hp, hn, hm0, hm1⟩, hk0, hk1, q⟩ := h
    refine ⟨_, (pss_cons (ps_if (pt_cmpR op_gt (pe_ix ix_list (pv 0) pe_int (fun _ _ => rfl)) pe_int (nomark _))
        (pss_cons (ps_set (i := 2) sc_Ldraw.nd rfl (Or.inl rfl) (pe_op op_mod (pe_ix ix_list (pv 0) pe_int (fun _ _ => rfl)) (pv 1)))
        (pss_cons (ps_asg (pe_op op_fdiv (pe_ix ix_list (pv 0) pe_int (fun _ _ => rfl)) (pv 1)) (pg_sub (pv 0) pe_int set_list))
        (pss_one (ps_ret (pv 2)))))
        pss_nil)
      (pss_cons (ps_asg (pe_op op_mod (pe_op op_add (pe_op op_mul (pe_ix ix_list (pv 0) pe_int (fun _ _ => rfl)) pe_int) pe_int) pe_int) (pg_sub (pv 0) pe_int set_list))
      (pss_one (ps_ret (pe_op op_mod (pe_op op_fdiv (pe_op op_mod (pe_op op_mul (pe_ix ix_list (pv 0) pe_int (fun _ _ => rfl)) (pe_ix ix_list (pv 0) pe_int (fun _ _ => rfl))) pe_int) pe_int) (pv 1)))))), ?_⟩
    refine ⟨.ref p, rfl, p, _, 0, _, rfl, rfl, SqL.of hp, atI_nat (j := 0) rfl, _, _, rfl, rfl, _, rfl, ite2 (fun e => ?_) (fun e => ?_)⟩
    · refine ⟨.ref p, rfl, p, _, 0, _, rfl, rfl, SqL.of hp, atI_nat (j := 0) rfl, .int k, rfl, n, k, rfl, rfl, by omega, ?_⟩
      refine ⟨.ref p, rfl, p, _, 0, _, rfl, rfl, SqL.of hp, atI_nat (j := 0) rfl, .int k, rfl, n, k, rfl, rfl, ⟨by omega, by omega⟩, ?_⟩
      refine ⟨.ref p, rfl, p, _, 0, 0, rfl, rfl, hp, rfl, ?_⟩
      refine ⟨_, rfl, ?_⟩
      exact q (n / k) m (n % k) (Int.ediv_nonneg hn (by omega)) hm0 hm1 (Int.emod_nonneg _ (by omega)) (Int.emod_lt_of_pos _ (by omega))
    · refine ⟨.ref p, rfl, p, _, 1, _, rfl, rfl, SqL.of hp, atI_nat (j := 1) rfl, m, 48271, rfl, rfl, .inr ⟨by decide, by decide⟩, _, _, rfl, rfl, _, 2147483647, rfl, rfl, (show (0 : Int) < 2147483647 by decide), ?_⟩
      obtain ⟨x, hx, hx0, hx1⟩ : ∃ x, (m * 48271 + 12345) % 2147483647 = x ∧ 0 ≤ x ∧ x < 2147483647 := ⟨_, rfl, Int.emod_nonneg _ (by decide), Int.emod_lt_of_pos _ (by decide)⟩
      dsimp only
      rw [hx]
      refine ⟨.ref p, rfl, p, _, 1, 1, rfl, rfl, hp, rfl, ?_⟩
      have hp2 : (upd H p (.lst ([V.int n, V.int m].set 1 (.int x)))) p = some (.lst [.int n, .int x]) := upd_same
      refine ⟨.ref p, rfl, p, _, 1, _, rfl, rfl, SqL.of hp2, atI_nat (j := 1) rfl, .ref p, rfl, p, _, 1, _, rfl, rfl, SqL.of hp2, atI_nat (j := 1) rfl, x, x, rfl, rfl, .inl ⟨by omega, by omega⟩, _, 2147483629, rfl, rfl, (show (0 : Int) < 2147483629 by decide),
        _, 64, rfl, rfl, ⟨by decide, by decide⟩, .int k, rfl, _, k, rfl, rfl, by omega, ?_⟩
      exact q n x _ hn hx0 hx1 (Int.emod_nonneg _ (by omega)) (Int.emod_lt_of_pos _ (by omega))
end
end E94

set_option Elab.async false
set_option linter.all false
set_option maxRecDepth 100000
set_option maxHeartbeats 4000000
namespace E94
open PySem PySem.Spec PyProof.Rows L2 Own Exn Mth Vld Gn StX
section
variable {P : Program} {w : World} {K : PySem.W.Frag} {mg : Str → Option Value} {base : Heap} {a : Ad}
def sp_Lletters : Sp := fun vs H Q _ => ∃ p : Addr, vs = [.ref p] ∧ Pool H p ∧ ∀ H' l, Pool H' p → But p H H' → 1 ≤ l.length → l.length ≤ 4 → (∀ c ∈ l, c ∈ lo8) → Q (.str (mk l)) H'
theorem ok_Lletters (T : Txt K mg a) : FnOk P w K mg base CX0 2 a.f_Lletters a.d_Lletters ["_law_pool_here"] sp_Lletters := by
  have G_Ldraw := ok_Ldraw (P := P) (w := w) (base := base) T
  refine T.F_Lletters.ok sc_Lletters (fun vs H Q E h => ?_) (fun cdv A outer s H vs Q E hr h => ?_)
  · obtain ⟨p, rfl, _⟩ := h
    rfl
  · obtain ⟨p, rfl, hP, q⟩ := h
    refine ⟨_, (pss_cons (ps_par (i := 1) (j := 2) (by rfl) sc_Lletters.nd rfl rfl (by decide) rfl rfl (pa_cons (pe_callTy (call_list_str rfl) (by rfl) T.z_list (by decide +kernel) (pa_cons pe_str pa_nil)) (pa_cons pe_str pa_nil)) (by rfl))
      (pss_cons (ps_for PassesOwn.never rfl (pi_range1 (by rfl) T.z_range (pa_cons (pe_op op_add pe_int (pe_call G_Ldraw (hr.mono (by decide)) (by rfl) T.g_Ldraw T.F_Ldraw.kp T.b_Ldraw .nil pass0 (pa_cons (pv 0) (pa_cons pe_int pa_nil)))) pa_nil)) (pg_name (i := 3) sc_Lletters.nd rfl (Or.inl rfl))
        (pss_one (ps_set (i := 2) sc_Lletters.nd rfl (Or.inl rfl) (pe_op op_add_str (pv 2) (pe_bm PySem.F.plainAttrs_list PySem.F.slot_list_pop PySem.F.type_list_pop mt_popAt (pv 1) (pa_cons (pe_call G_Ldraw (hr.mono (by decide)) (by rfl) T.g_Ldraw T.F_Ldraw.kp T.b_Ldraw .nil pass0 (pa_cons (pv 0) (pa_cons (pe_callB call_len_seq (by rfl) T.z_len (by decide +kernel) (pa_cons (pv 1) pa_nil)) pa_nil))) pa_nil))))))
      (pss_one (ps_ret (pv 2))))), ?_⟩
    refine ⟨"abcdefgh", rfl, le_line (by decide +kernel), fun L nL => ?_⟩
    have Lp : L ≠ p := fun e => by obtain ⟨n, m, hp, _⟩ := hP; rw [e, hp] at nL; cases nL
    have hP1 : Pool (upd H L (.lst (sgV "abcdefgh"))) p := by obtain ⟨n, m, hp, h⟩ := hP; exact ⟨n, m, by rw [upd_ne Lp.symm]; exact hp, h⟩
    refine ⟨_, _, rfl, .ref p, rfl, p, 4, rfl, hP1, by decide, by decide, fun n1 m1 d h1 h2 h3 h4 h5 => ?_⟩
    refine ⟨1, d, rfl, rfl, _, rfl, by omega, by omega, ?_⟩
    refine for_it walk_range (fun i σ H3 => ∃ (left found : List Nat) (y3 : Option V), σ = [some (.ref p), some (.ref L), some (.str (mk found)), y3] ∧ Pool H3 p ∧ But p H H3 ∧ H3 L = some (.lst (sV left)) ∧ found.length = i ∧ left.length + i = 8 ∧ (∀ c ∈ left, c ∈ lo8) ∧ (∀ c ∈ found, c ∈ lo8)) ?_ (fun _ _ _ _ _ => trivial) ?_ ?_
    · refine ⟨lo8, [], none, rfl, ⟨n1, m1, upd_same, h1, h2, h3⟩, (But.refl.new nL).put, by rw [upd_ne Lp, upd_same]; rfl, rfl, by decide +kernel, fun c h => h, fun c h => by cases h⟩
    · rintro i x σ H3 H4 hi ⟨left, found, y3, rfl, hP3, b3, eL, lf, ll, cl, cf⟩ ⟨rfl, rfl⟩
      have hi4 : i < 4 := by omega
      refine ⟨.str (mk found), rfl, .ref L, rfl, .inl ⟨rfl, _, SqL.of eL⟩, .ref p, rfl, .ref L, rfl, L, _, rfl, .inl (SqL.of eL), p, _, rfl, hP3, ?_, ?_, fun n2 m2 e g1 g2 g3 g4 g5 => ?_⟩
      · rw [sV_len]; omega
      · rw [sV_len]; omega
      rw [sV_len] at g5
      obtain ⟨j, rfl⟩ : ∃ j : Nat, e = j := ⟨e.toNat, by omega⟩
      have hj : j < left.length := by omega
      have eL2 : (upd H4 p (.lst [.int n2, .int m2])) L = some (.lst (sV left)) := by rw [upd_ne Lp]; exact eL
      refine ⟨L, sV left, j, j, .str (sg left[j]), rfl, rfl, eL2, by omega, by omega, ?_, ?_, ?_⟩
      · rw [seqIndex_of (by omega) (by rw [sV_len]; omega)]
        rfl
      · rw [List.getElem?_map, List.getElem?_eq_getElem hj]
        rfl
      refine ⟨_, _, rfl, rfl, le_line (by rw [len_mk]; show _ + 1 ≤ _; omega), ?_⟩
      rw [app_sg]
      refine ⟨left.eraseIdx j, found ++ [left[j]], _, rfl, ⟨n2, m2, by rw [upd_ne Lp.symm, upd_same], g1, g2, g3⟩, b3.put.new nL, ?_, by rw [List.length_append, lf]; rfl, by rw [List.length_eraseIdx_of_lt hj]; omega, fun c hc => cl c (List.mem_of_mem_eraseIdx hc), fun c hc => ?_⟩
      · rw [upd_same]
        exact congrArg (fun l => some (HO.lst l)) (by rw [erase_map])
      · rcases List.mem_append.mp hc with h | h
        · exact cf c h
        · rw [List.mem_singleton.mp h]; exact cl _ (List.getElem_mem hj)
    · rintro σ H3 ⟨left, found, y3, rfl, hP3, b3, eL, lf, ll, cl, cf⟩
      exact ⟨.str (mk found), rfl, q H3 found hP3 b3 (by omega) (by omega) cf⟩
def sp_Litems : Sp := fun vs H Q _ => ∃ (p : Addr) (l : List Nat) (m : Int), vs = [.ref p, .str (mk l), .int m] ∧ Pool H p ∧ 1 ≤ l.length ∧ l.length ≤ 1000 ∧ 0 ≤ m ∧ m ≤ 100 ∧
  ∀ H' z, Pool H' p → But p H H' → (z.length : Int) ≤ m → (∀ c ∈ z, c ∈ l) → Q (.str (mk z)) H'
theorem ok_Litems (T : Txt K mg a) : FnOk P w K mg base CX0 2 a.f_Litems a.d_Litems ["_law_pool_here", "_law_letters_here", "_law_most"] sp_Litems := by
  have G_Ldraw := ok_Ldraw (P := P) (w := w) (base := base) T
  refine T.F_Litems.ok sc_Litems (fun vs H Q E h => ?_) (fun cdv A outer s H vs Q E hr h => ?_)
  · obtain ⟨p, l, m, rfl, _⟩ := h
    rfl
  · obtain ⟨p, l, m, rfl, hP, hl1, hl2, hm0, hm1, q⟩ := h
    refine ⟨_, (pss_one (ps_ret (pe_join pe_str (pe_lc (own := [("_law_at", 3)]) (g := gName 3) (by rfl) sc_Litems.nd (pi_range1 (by rfl) T.z_range (pa_cons (pe_call G_Ldraw (hr.mono (by decide)) (by rfl) T.g_Ldraw T.F_Ldraw.kp T.b_Ldraw .nil pass0 (pa_cons (pv 0) (pa_cons (pe_op op_add (pv 2) pe_int) pa_nil))) pa_nil)) (blkOk_by (own := [("_law_at", 3)]) (N := N_Litems) (sc := defScope s_Litems) (by decide +kernel)) (fun _ _ _ _ _ => pg_name (i := 3) sc_Litems.nd rfl (Or.inl rfl)) (fun _ _ _ _ _ => pts_nil) (fun _ _ _ _ _ => (pe_ix ix_str (pv 1) (pe_call G_Ldraw (hr.mono (by decide)) (by rfl) T.g_Ldraw T.F_Ldraw.kp T.b_Ldraw .nil pass0 (pa_cons (pv 0) (pa_cons (pe_callB (Cmx.call_lenT : CallR _ (.builtin "len") Cmx.rLenT) (by rfl) T.z_len (by decide +kernel) (pa_cons (pv 1) pa_nil)) pa_nil))) (fun _ _ => rfl))))))), ?_⟩
    refine ⟨⟨_, rfl⟩, .ref p, rfl, .int m, rfl, m, 1, rfl, rfl, p, m + 1, rfl, hP, by omega, by omega, fun n1 m1 d h1 h2 h3 h4 h5 => ?_⟩
    refine ⟨d, rfl, by omega, by omega, fun D hD => ?_⟩
    have hDp : D ≠ p := fun e => by rw [e, upd_same] at hD; cases hD
    have hDH : H D = none := by rw [upd_ne hDp] at hD; exact hD
    refine lc_it walk_range (fun i H3 => ∃ acc : List Nat, Pool H3 p ∧ But p H H3 ∧ H3 D = some (.lst (sV acc)) ∧ acc.length = i ∧ ∀ c ∈ acc, c ∈ l) ?_ (fun _ _ _ _ => trivial) ?_ ?_
    · exact ⟨[], ⟨n1, m1, by rw [upd_ne hDp.symm, upd_same], h1, h2, h3⟩, (But.put But.refl).new hDH, upd_same, rfl, fun c hc => by cases hc⟩
    · rintro i x H3 H4 hi ⟨acc, hP3, b3, eD, la, hc⟩ ⟨rfl, rfl⟩
      refine ⟨rfl, .str (mk l), rfl, .ref p, rfl, .str (mk l), rfl, mk l, rfl, le_line (by rw [len_mk]; omega), p, _, rfl, hP3, by rw [len_mk]; omega, by rw [len_mk]; omega, fun n2 m2 e g1 g2 g3 g4 g5 => ?_⟩
      rw [len_mk] at g5
      obtain ⟨j, rfl⟩ : ∃ j : Nat, e = j := ⟨e.toNat, by omega⟩
      have hj : j < l.length := by omega
      refine ⟨_, j, l[j], rfl, rfl, le_line (by rw [len_mk]; omega), atI_nat (by show (cs (mk l))[j]? = _; rw [cs_mk]; exact List.getElem?_eq_getElem hj), sV acc, by rw [upd_ne hDp]; exact eD, ?_, acc ++ [l[j]], ⟨n2, m2, by rw [upd_ne hDp.symm, upd_same], g1, g2, g3⟩, b3.put.new hDH, by rw [upd_same, sV_snoc], by rw [List.length_append, la]; rfl, ?_⟩
      · rw [sV_len]
        exact lt_line (by omega)
      · intro y hy
        rcases List.mem_append.mp hy with h | h
        · exact hc y h
        · rw [List.mem_singleton.mp h]; exact List.getElem_mem hj
    · rintro H3 ⟨acc, hP3, b3, eD, la, hc⟩
      have lj : Txt.join "" (acc.map sg) = mk acc := str_cs (join_signs acc)
      refine ⟨"", D, acc.map sg, rfl, rfl, .inl (SqL.of (by rw [eD, sV_eq])), ?_, ?_⟩
      · rw [sum_ones, List.length_map]
        show _ + _ * 0 ≤ 16777216
        omega
      · rw [lj]
        exact q H3 _ hP3 b3 (by omega) hc
end
end E94

set_option Elab.async false
set_option linter.all false
set_option maxRecDepth 100000
set_option maxHeartbeats 4000000
namespace E94
open PySem PySem.Spec PyProof.Rows L2 Own Exn Mth Vld Gn StX
section
variable {P : Program} {w : World} {K : PySem.W.Frag} {mg : Str → Option Value} {base : Heap} {a : Ad}
def Shows (d : PyData) : Prop := d.showable = true ∧ d.hasDict = false ∧ d.depth ≤ 60 ∧ d.shown.length ≤ 100000
instance (d : PyData) : Decidable (Shows d) := by unfold Shows; infer_instance
theorem sq_but {H H' : Hp} {x a0 : Addr} {C dx : Addr} {fs : List (Str × V)} {xs : List V} (hx : H x = some (.ins C dx fs)) (b : But x H H') (h : SqL K H a0 xs) : SqL K H' a0 xs := by
  rcases h with (h | ⟨o, h⟩) | h
  · exact .inl (.inl (b _ _ (fun e => by rw [e, hx] at h; cases h) h))
  · exact .inl (.inr ⟨o, b _ _ (fun e => by rw [e, hx] at h; cases h) h⟩)
  · exact .inr h
theorem sqt_but {H H' : Hp} {x a0 : Addr} {C dx : Addr} {fs : List (Str × V)} {xs : List V} (hx : H x = some (.ins C dx fs)) (b : But x H H') (h : SqT K H a0 xs) : SqT K H' a0 xs := by
  rcases h with (h | ⟨o, h⟩) | h
  · exact .inl (.inl (b _ _ (fun e => by rw [e, hx] at h; cases h) h))
  · exact .inl (.inr ⟨o, b _ _ (fun e => by rw [e, hx] at h; cases h) h⟩)
  · exact .inr h
mutual
theorem dp_but {H H' : Hp} {x : Addr} {C dx : Addr} {fs : List (Str × V)} (hx : H x = some (.ins C dx fs)) (b : But x H H') : ∀ {v : V} {d : PyData}, Dp K H v d → Dp K H' v d
  | _, _, .non => .non
  | _, _, .bl b => .bl b
  | _, _, .int i => .int i
  | _, _, .str x => .str x
  | _, _, .lst h hs => .lst (sq_but hx b h) (dpAll_but hx b hs)
  | _, _, .tup h hs => .tup (sqt_but hx b h) (dpAll_but hx b hs)
theorem dpAll_but {H H' : Hp} {x : Addr} {C dx : Addr} {fs : List (Str × V)} (hx : H x = some (.ins C dx fs)) (b : But x H H') : ∀ {vs : List V} {ds : List PyData}, DpAll K H vs ds → DpAll K H' vs ds
  | _, _, .nil => .nil
  | _, _, .cons h hs => .cons (dp_but hx b h) (dpAll_but hx b hs)
end
theorem rep_dp {v : V} {d : PyData} {H : Hp} {Q : VK} (h : Dp K H v d) (s : Shows d) (q : Q (.str d.shown) H) : rReprR K [v] H Q := .inl ⟨v, d, rfl, h, s.1, s.2.1, s.2.2.1, le_line s.2.2.2, q⟩
/-- but for two places -/
def But2 (p x : Addr) (H H' : Hp) : Prop := ∀ b o, b ≠ p → b ≠ x → H b = some o → H' b = some o
theorem pool_but {H H' : Hp} {p x : Addr} {C dx : Addr} {fs : List (Str × V)} (h : Pool H p) (hx : H x = some (.ins C dx fs)) (b : But x H H') : Pool H' p := by
  obtain ⟨n, m, hp, r⟩ := h
  exact ⟨n, m, b _ _ (fun e => by rw [e, hx] at hp; cases hp) hp, r⟩
theorem pool_keep {H H' : Hp} {p : Addr} (h : Pool H p) (s : Same H H') : Pool H' p := by
  obtain ⟨n, m, hp, r⟩ := h
  exact ⟨n, m, s _ _ hp, r⟩
theorem lo_mem {g : List Nat} (h : ∀ c ∈ g, c ∈ st16) : ∀ c ∈ g.map lowC, c ∈ lo8 := by
  intro c hc
  obtain ⟨x, hx, rfl⟩ := List.mem_map.mp hc
  have := h x hx
  rw [mem_st16] at this
  rw [mem_lo8]
  unfold lowC
  split <;> omega
theorem in_ints (i : Int) : ∀ ns : List Int, inV (.int i) (ns.map V.int) = decide (i ∈ ns) := by
  intro ns
  unfold inV
  induction ns with
  | nil => rfl
  | cons n ns ih =>
    rw [List.map_cons, List.any_cons, ih]
    show (decide (n = i) || _) = _
    rw [← Bool.decide_or]
    refine decide_eq_decide.mpr ?_
    rw [List.mem_cons]
    exact or_congr eq_comm Iff.rfl
theorem flat_ints (ns : List Int) : (ns.map V.int).all flatV = true := by
  rw [List.all_eq_true]
  intro x hx
  obtain ⟨n, _, rfl⟩ := List.mem_map.mp hx
  rfl
end
end E94

set_option Elab.async false
set_option linter.all false
set_option maxRecDepth 100000
set_option maxHeartbeats 4000000
namespace E94
open PySem PySem.Spec PyProof.Rows L2 Own Exn Mth Vld Gn StX
section
variable {P : Program} {w : World} {K : PySem.W.Frag} {mg : Str → Option Value} {base : Heap} {a : Ad}
/-- own == of sessions -/
def sp_seq (a : Ad) : Sp := fun vs H Q _ => ∃ (x y dx dy e1 e2 : Addr) (z1 D1 C1 p1 z2 D2 C2 p2 : List Nat), vs = [.ref x, .ref y] ∧ H x = some (.ins a.C_Session dx (sfl z1 D1 C1 p1 e1)) ∧ H y = some (.ins a.C_Session dy (sfl z2 D2 C2 p2 e2)) ∧ Q (.bl (decide (p1 = p2 ∧ D1 = D2))) H
theorem ty_ses (T : Txt K mg a) (hd : Hd K a) {H : Hp} {y dy : Addr} {fs : List (Str × V)} (h : H y = some (.ins a.C_Session dy fs)) : TyX K H (.ref y) (.ref a.C_Session) := .base (.ins h T.cl_Session hd.cc_Session hd.hn hd.hk hd.mo_Session)
theorem ok_Session_eq (T : Txt K mg a) (hd : Hd K a) : FnOk P w K mg base CX0 1 a.f_Session_eq a.d_Session_eq ["self", "other"] (sp_seq a) := by
  refine T.F_Session_eq.ok sc_Session_eq (fun vs H Q E h => ?_) (fun cdv A outer s H vs Q E hr h => ?_)
  · obtain ⟨x, y, dx, dy, e1, e2, z1, D1, C1, p1, z2, D2, C2, p2, rfl, _⟩ := h
    rfl
  · obtain ⟨x, y, dx, dy, e1, e2, z1, D1, C1, p1, z2, D2, C2, p2, rfl, hx, hy, q⟩ := h
    refine ⟨_, (pss_one (ps_ret (pe_and (pe_callB call_isi (by rfl) T.z_isinstance (by decide +kernel) (pa_cons (pv 1) (pa_cons (pe_glob (v := .ref a.C_Session) (by rfl) T.g_Session rfl) pa_nil))) (pe_and (pe_cmpR op_eq (pe_fld (pv 0) rfl) (pe_fld (pv 1) rfl) (nomark _)) (pe_one (pe_cmpR op_eq (pe_fld (pv 0) rfl) (pe_fld (pv 1) rfl) (nomark _))))))), ?_⟩
    refine ⟨.ref y, rfl, _, _, _, _, true, rfl, .own _, ty_ses T hd hy, hd.i_Session_Session, true, rfl, iteT ?_⟩
    refine ⟨.ref x, rfl, x, a.C_Session, dx, _, _, rfl, hx, T.cl_Session, T.n_Session_present, sfl_present _ _ _ _ _, .ref y, rfl, y, a.C_Session, dy, _, _, rfl, hy, T.cl_Session, T.n_Session_present, sfl_present _ _ _ _ _, rfl, _, rfl, ?_⟩
    rw [decide_eq_decide.mpr str_iff]
    by_cases h1 : p1 = p2
    · rw [decide_eq_true h1]
      refine iteT ⟨.ref x, rfl, x, a.C_Session, dx, _, _, rfl, hx, T.cl_Session, T.n_Session_done, sfl_done _ _ _ _ _, .ref y, rfl, y, a.C_Session, dy, _, _, rfl, hy, T.cl_Session, T.n_Session_done, sfl_done _ _ _ _ _, rfl, ?_⟩
      rw [decide_eq_decide.mpr str_iff]
      rw [show decide (p1 = p2 ∧ D1 = D2) = decide (D1 = D2) from decide_eq_decide.mpr ⟨fun h => h.2, fun h => ⟨h1, h⟩⟩] at q
      exact q
    · rw [decide_eq_false h1]
      rw [decide_eq_false fun h => h1 h.1] at q
      exact iteF q
def shE (R W : List Nat) (k : Nat) : Str := "Effect(" ++ reprText (mk R) ++ ", " ++ reprText (mk W) ++ ", " ++ (toString ((k : Nat) : Int) : Str) ++ ")"
def sp_effrepr (a : Ad) : Sp := fun vs H Q _ => ∃ (e : Addr) (R W : List Nat) (k : Nat), vs = [.ref e] ∧ EffAt a H e R W k ∧ R.length ≤ 400 ∧ W.length ≤ 400 ∧ k ≤ 400 ∧ (∀ c ∈ R, c ∈ lo8) ∧ (∀ c ∈ W, c ∈ lo8) ∧ Q (.str (shE R W k)) H
theorem num400 : ∀ k, k < 401 → (toString ((k : Nat) : Int) : Str).length ≤ 3 ∧ ((k : Nat) : Int).natAbs.log2 < 1920 ∧ PyData.strOk (toString ((k : Nat) : Int) : Str) = true := by decide +kernel
theorem ok_Effect_repr (T : Txt K mg a) : FnOk P w K mg base CX0 1 a.f_Effect_repr a.d_Effect_repr ["self"] (sp_effrepr a) := by
  refine T.F_Effect_repr.ok sc_Effect_repr (fun vs H Q E h => ?_) (fun cdv A outer s H vs Q E hr h => ?_)
  · obtain ⟨e, R, W, k, rfl, _⟩ := h
    rfl
  · obtain ⟨e, R, W, k, rfl, ⟨dx, hx⟩, lR, lW, lk, cR, cW, q⟩ := h
    refine ⟨_, (pss_one (ps_ret (pe_joined (.cons pe_str (.cons (pe_fmtR (pe_fld (pv 0) rfl)) (.cons pe_str (.cons (pe_fmtR (pe_fld (pv 0) rfl)) (.cons pe_str (.cons (pe_fmtR (pe_fld (pv 0) rfl)) (.cons pe_str .nil)))))))))), ?_⟩
    have h1 := repr_len (st_of_lo cR)
    have h2 := repr_len (st_of_lo cW)
    obtain ⟨h3, h4, _⟩ := num400 k (by omega)
    have l0 : ("Effect(" : Str).length = 7 := by decide +kernel
    have l1 : (")" : Str).length = 1 := by decide +kernel
    have l2 : (", " : Str).length = 2 := by decide +kernel
    have e0 : (Str.empty ++ ("Effect(" : Str)) = "Effect(" := by decide +kernel
    refine ⟨"Effect(", rfl, by rw [e0, l0]; exact le_line (by decide), .ref e, rfl, e, a.C_Effect, dx, _, _, rfl, hx, T.cl_Effect, T.n_Effect_taken, efl_taken R W k, .inl ⟨mk R, rfl, le_line (by omega), reprText (mk R), rfl, ?_, ", ", rfl, ?_, .ref e, rfl, e, a.C_Effect, dx, _, _, rfl, hx, T.cl_Effect, T.n_Effect_given, efl_given R W k, .inl ⟨mk W, rfl, le_line (by omega), reprText (mk W), rfl, ?_, ", ", rfl, ?_, .ref e, rfl, e, a.C_Effect, dx, _, _, rfl, hx, T.cl_Effect, T.n_Effect_needed, efl_needed R W k, .inr ⟨(k : Nat), rfl, h4, toString ((k : Nat) : Int), rfl, ?_, ")", rfl, ?_, ?_⟩⟩⟩⟩
    · rw [e0, len_app, l0]; exact le_line (by omega)
    · rw [e0, len_app, len_app, l0, l2]; exact le_line (by omega)
    · rw [e0, len_app, len_app, len_app, l0, l2]; exact le_line (by omega)
    · rw [e0, len_app, len_app, len_app, len_app, l0, l2]; exact le_line (by omega)
    · rw [e0, len_app, len_app, len_app, len_app, len_app, l0, l2]; exact le_line (by omega)
    · rw [e0, len_app, len_app, len_app, len_app, len_app, len_app, l0, l1, l2]; exact le_line (by omega)
    · rw [e0]
      exact q
theorem repr_lenS {x : Str} (h : PyData.strOk x = true) : (reprText x).length ≤ 10 * x.length + 2 := by
  refine PySem.StrLaws.reprText_len x fun c hc => ?_
  unfold PyData.strOk at h
  rw [← Array.all_toList, List.all_eq_true] at h
  exact Nat.lt_trans (of_decide_eq_true (h c hc)) (by decide)
theorem strOk_app {x y : Str} (hx : PyData.strOk x = true) (hy : PyData.strOk y = true) : PyData.strOk (x ++ y) = true := by
  unfold PyData.strOk at hx hy ⊢
  rw [← Array.all_toList, List.all_eq_true] at hx hy ⊢
  intro c hc
  rw [show (x ++ y).cps.toList = x.cps.toList ++ y.cps.toList from Array.toList_append] at hc
  rcases List.mem_append.mp hc with h | h
  · exact hx c h
  · exact hy c h
theorem rok {z : List Nat} (h : ∀ c ∈ z, c ∈ st16) : PyData.strOk (reprText (mk z)) = true := repr_ok (by rw [cs_mk]; exact fun c hc => st16_abc c (h c hc))
theorem shE_ok {R W : List Nat} {k : Nat} (lR : R.length ≤ 100) (lW : W.length ≤ 100) (lk : k ≤ 400) (cR : ∀ c ∈ R, c ∈ lo8) (cW : ∀ c ∈ W, c ∈ lo8) : PyData.strOk (shE R W k) = true ∧ (shE R W k).length ≤ 3000 := by
  have h1 := repr_len (st_of_lo cR)
  have h2 := repr_len (st_of_lo cW)
  obtain ⟨h3, h4, h5⟩ := num400 k (by omega)
  have l0 : ("Effect(" : Str).length = 7 := by decide +kernel
  have l1 : (")" : Str).length = 1 := by decide +kernel
  have l2 : (", " : Str).length = 2 := by decide +kernel
  refine ⟨strOk_app (strOk_app (strOk_app (strOk_app (strOk_app (strOk_app (by decide +kernel) (rok (st_of_lo cR))) (by decide +kernel)) (rok (st_of_lo cW))) (by decide +kernel)) h5) (by decide +kernel), ?_⟩
  unfold shE
  rw [len_app, len_app, len_app, len_app, len_app, len_app, l0, l1, l2]
  omega
theorem shS_ok {z D : List Nat} (lz : z.length ≤ 100) (lD : D.length ≤ 100) (cz : ∀ c ∈ z, c ∈ lo8) (cD : ∀ c ∈ D, c ∈ st16) : PyData.strOk (shS z D) = true ∧ (shS z D).length ≤ 3000 := by
  have h1 := repr_len (st_of_lo cz)
  have h2 := repr_len cD
  have l0 : ("Session(" : Str).length = 8 := by decide +kernel
  have l1 : (")" : Str).length = 1 := by decide +kernel
  have l2 : (", " : Str).length = 2 := by decide +kernel
  refine ⟨strOk_app (strOk_app (strOk_app (strOk_app (by decide +kernel) (rok (st_of_lo cz))) (by decide +kernel)) (rok cD)) (by decide +kernel), ?_⟩
  unfold shS
  rw [len_app, len_app, len_app, len_app, l0, l1, l2]
  omega
/-- what is shown of a session -/
def lst5 (z D pr : List Nat) : PyData := .list [.str (mk pr), .str (mk D), .str (shE (tkS D) (puS D) (coreN D)), .int (D.length : Nat), .str (shS z D)]
theorem lst5_sh {z D pr : List Nat} (lz : z.length ≤ 100) (lD : D.length ≤ 100) (lp : pr.length ≤ 300) (cz : ∀ c ∈ z, c ∈ lo8) (cD : ∀ c ∈ D, c ∈ st16) (cp : ∀ c ∈ pr, c ∈ lo8) : Shows (lst5 z D pr) := by
  have hl := parts_len D
  obtain ⟨_, hle⟩ := pend_core D
  obtain ⟨h1, h2⟩ := shE_ok (k := coreN D) (by omega) (by omega) (by omega) (tk_mem cD) (pu_mem cD)
  obtain ⟨h3, h4⟩ := shS_ok lz lD cz cD
  obtain ⟨n1, n2, _⟩ := num400 D.length (by omega)
  have r1 := repr_lenS h1
  have r2 := repr_lenS h3
  have r3 := repr_len cD
  have r4 := repr_len (st_of_lo cp)
  refine ⟨?_, rfl, by show 1 ≤ 60; decide, ?_⟩
  · unfold lst5
    simp only [PyData.showable, PyData.showableAll, Bool.and_true, Bool.true_and]
    exact decide_eq_true n2
  · have e := listText_len_le [reprText (mk pr), reprText (mk D), reprText (shE (tkS D) (puS D) (coreN D)), toString ((D.length : Nat) : Int), reprText (shS z D)]
    unfold lst5
    simp only [PyData.shown, PyData.shownAll]
    simp only [List.map_cons, List.map_nil, List.sum_cons, List.sum_nil, List.length_cons, List.length_nil] at e
    omega
theorem qrun_of : ∀ (p z r : List Nat) (i : Nat), z.length + p.length ≤ 400 → bst p z = some r → qrun stepL p z i = .inr r
  | [], z, r, i, _, h => by cases h; rfl
  | c :: p, z, r, i, hl, h => by
    rw [List.length_cons] at hl
    by_cases h1 : 97 ≤ c
    · rw [bst_put h1] at h
      rw [qrun_yes (show stepL z c = some (z ++ [c]) by unfold stepL; rw [if_pos h1, if_neg (by omega)])]
      exact qrun_of p _ r _ (by rw [List.length_append]; show _ + 1 + _ ≤ _; omega) h
    · cases e : fst? (c + 32) z with
      | none => rw [bst_fail h1 e] at h; cases h
      | some k =>
        rw [bst_take h1 e] at h
        rw [qrun_yes (show stepL z c = some (z.drop (k + 1)) by unfold stepL; rw [if_neg h1, e])]
        exact qrun_of p _ r _ (by rw [List.length_drop]; omega) h
theorem pu_app (p q : List Nat) : puS (p ++ q) = puS p ++ puS q := by unfold puS; rw [List.filter_append]
theorem tk_app (p q : List Nat) : tkS (p ++ q) = tkS p ++ tkS q := by unfold tkS; rw [List.filter_append, List.map_append]
/-- a session where another object changed -/
theorem SesAt.but {H H' : Hp} {x y : Addr} {z0 D C : List Nat} {xs : List V} (h : SesAt a H x z0 D C) (hy : H y = some (.lst xs)) (b : But y H H') : SesAt a H' x z0 D C := by
  obtain ⟨h0, dx, e, pr, h1, h2, h3, ⟨de, h4⟩⟩ := h
  refine ⟨h0, dx, e, pr, h1, h2, b _ _ (fun q => by rw [q, hy] at h3; cases h3) h3, de, b _ _ (fun q => by rw [q, hy] at h4; cases h4) h4⟩
theorem SesAt.butI {H H' : Hp} {x y C' dy : Addr} {z0 D C : List Nat} {fs : List (Str × V)} (h : SesAt a H x z0 D C) (hy : H y = some (.ins C' dy fs)) (hl : fs.length ≠ 3) (nxy : x ≠ y) (b : But y H H') : SesAt a H' x z0 D C := by
  obtain ⟨h0, dx, e, pr, h1, h2, h3, ⟨de, h4⟩⟩ := h
  refine ⟨h0, dx, e, pr, h1, h2, b _ _ nxy h3, de, b _ _ (fun q => ?_) h4⟩
  rw [q, hy] at h4
  injection h4 with h4
  injection h4 with _ _ h4
  rw [h4] at hl
  exact hl rfl
theorem SesAt.nf {H : Hp} {x : Addr} {z0 D C : List Nat} (h : SesAt a H x z0 D C) : ∃ dx fs, H x = some (.ins a.C_Session dx fs) ∧ fs.length ≠ 3 := by
  obtain ⟨h0, dx, e, pr, h1, h2, h3, _⟩ := h
  exact ⟨dx, _, h3, by show (5 : Nat) ≠ 3; decide⟩
end
end E94

set_option Elab.async false
set_option linter.all false
set_option maxRecDepth 100000
set_option maxHeartbeats 4000000
namespace E94
open PySem PySem.Spec PyProof.Rows L2 Own Exn Mth Vld Gn StX
section
variable {P : Program} {w : World} {K : PySem.W.Frag} {mg : Str → Option Value} {base : Heap} {a : Ad}
def sp_Lshown (a : Ad) : Sp := fun vs H Q _ => ∃ (x : Addr) (z0 D C pr : List Nat), vs = [.ref x] ∧ SesAt a H x z0 D C ∧ bst D z0 = some pr ∧ z0.length ≤ 100 ∧ D.length ≤ 100 ∧ ∀ H', Same H H' → Q (.str (lst5 z0 D pr).shown) H'
theorem ok_Lshown (T : Txt K mg a) : FnG P w K mg base CX0 3 a.f_Lshown a.d_Lshown ["_law_box"] (sp_Lshown a) := by
  have G_Session_word := ok_Session_word (P := P) (w := w) (base := base) T
  have G_Session_program := ok_Session_program (P := P) (w := w) (base := base) T
  have G_Session_effect := ok_Session_effect (P := P) (w := w) (base := base) T
  have G_Session_len := ok_Session_len (P := P) (w := w) (base := base) T
  have G_Session_repr := ok_Session_repr (P := P) (w := w) (base := base) T
  have G_Effect_repr := ok_Effect_repr (P := P) (w := w) (base := base) T
  refine Fun_okG T.F_Lshown sc_Lshown (fun vs H Q E h => ?_) (fun cdv A outer s H vs Q E hg hr h => ?_)
  · obtain ⟨x, z0, D, C, pr, rfl, _⟩ := h
    rfl
  · obtain ⟨x, z0, D, C, pr, rfl, ⟨ses, dx, e, pr0, hpr0, lpr0, hx, hE⟩, hpr, lz, lD, q⟩ := h
    have epr : pr0 = pr := by rw [hpr] at hpr0; injection hpr0 with h; exact h.symm
    subst epr
    refine ⟨_, (pss_one (ps_ret (pe_callB (call_reprR hg hr) (by rfl) T.z_repr (by decide +kernel) (pa_cons (pe_lst (pa_cons (pe_prop (pv 0) T.cl_Session T.q_Session_word G_Session_word (hr.mono (by decide)) T.b_Session_word .nil pass0 rfl) (pa_cons (pe_prop (pv 0) T.cl_Session T.q_Session_program G_Session_program (hr.mono (by decide)) T.b_Session_program .nil pass0 rfl) (pa_cons (pe_callB (Ows.call_reprOwn T.m_Effect_repr.at_ T.m_Effect_repr.fn (G_Effect_repr.raw T.b_Effect_repr .nil) (hr.mono (by decide)) pass0) (by rfl) T.z_repr (by decide +kernel) (pa_cons (pe_prop (pv 0) T.cl_Session T.q_Session_effect G_Session_effect (hr.mono (by decide)) T.b_Session_effect .nil pass0 rfl) pa_nil)) (pa_cons (pe_callB (Ows.call_lenOwn T.m_Session_len.at_ T.m_Session_len.fn (G_Session_len.raw T.b_Session_len .nil) (hr.mono (by decide)) pass0) (by rfl) T.z_len (by decide +kernel) (pa_cons (pv 0) pa_nil)) (pa_cons (pe_callB (Ows.call_reprOwn T.m_Session_repr.at_ T.m_Session_repr.fn (G_Session_repr.raw T.b_Session_repr .nil) (hr.mono (by decide)) pass0) (by rfl) T.z_repr (by decide +kernel) (pa_cons (pv 0) pa_nil)) pa_nil)))))) pa_nil)))), ?_⟩
    obtain ⟨de, he⟩ := id hE
    have hl := parts_len D
    obtain ⟨_, hle⟩ := pend_core D
    have lb := bst_len _ _ _ hpr
    have cpr : ∀ c ∈ pr0, c ∈ lo8 := bst_mem D z0 pr0 ses.cD ses.c0 hpr
    have sh := lst5_sh lz lD (by omega) ses.c0 ses.cD cpr
    refine ⟨.ref x, rfl, x, dx, _, rfl, hx, x, dx, e, z0, D, C, pr0, rfl, hx, .ref x, rfl, x, dx, _, rfl, hx, x, dx, e, z0, D, C, pr0, rfl, hx, .ref x, rfl, x, dx, _, rfl, hx, x, dx, e, z0, D, C, pr0, rfl, hx, e, de, _, rfl, he, e, _, _, _, rfl, hE, by omega, by omega, by omega, tk_mem ses.cD, pu_mem ses.cD, _, rfl,
      .ref x, rfl, x, dx, _, rfl, hx, x, dx, e, z0, D, C, pr0, rfl, hx, by omega, _, rfl, by omega, by omega, .ref x, rfl, x, dx, _, rfl, hx, x, dx, e, z0, D, C, pr0, rfl, hx, by omega, by omega, ses.c0, ses.cD, _, rfl, le_line (show 5 ≤ 100000 by decide), fun L nL => ?_⟩
    exact rep_dp (d := lst5 z0 D pr0) (.lst (SqL.of upd_same) (.cons (.str _) (.cons (.str _) (.cons (.str _) (.cons (.int _) (.cons (.str _) .nil)))))) sh (q _ (same_new nL))
theorem in_up : ∀ c ∈ st16, decide (c ∈ cs "ABCDEFGH") = decide (c < 97) := by decide +kernel
def sp_Lcounted (a : Ad) : Sp := fun vs H Q _ => ∃ (x : Addr) (z0 D C pr : List Nat), vs = [.str (mk z0), .str (mk D), .ref x, .int (((z0.length : Nat) : Int) + ((puS D).length : Nat) - ((tkS D).length : Nat) - ((pr.length : Nat) : Int))] ∧ SesAt a H x z0 D C ∧ bst D z0 = some pr ∧ ∀ H', Same H H' → Q (.bl true) H'
theorem ok_Lcounted (T : Txt K mg a) : FnOk P w K mg base CX0 3 a.f_Lcounted a.d_Lcounted ["_law_items_here", "_law_code", "_law_box", "_law_lost"] (sp_Lcounted a) := by
  have G_Session_word := ok_Session_word (P := P) (w := w) (base := base) T
  refine T.F_Lcounted.ok sc_Lcounted (fun vs H Q E h => ?_) (fun cdv A outer s H vs Q E hr h => ?_)
  · obtain ⟨x, z0, D, C, pr, rfl, _⟩ := h
    rfl
  · obtain ⟨x, z0, D, C, pr, rfl, hS, hpr, q⟩ := h
    refine ⟨_, (pss_cons (ps_set (i := 4) sc_Lcounted.nd rfl (Or.inl rfl) (pe_callB call_len_seq (by rfl) T.z_len (by decide +kernel) (pa_cons (pe_lc (own := [("_law_sign", 5)]) (g := gName 5) (by rfl) sc_Lcounted.nd (pi_str (pv 1)) (blkOk_by (own := [("_law_sign", 5)]) (N := N_Lcounted) (sc := defScope s_Lcounted) (by decide +kernel)) (fun _ _ _ _ _ => pg_name (i := 5) sc_Lcounted.nd rfl (Or.inl rfl)) (fun _ _ _ _ _ => (pts_one (pt_cmpR op_in_sign (pv 5) pe_str (by rfl)))) (fun _ _ _ _ _ => (pv 5))) pa_nil)))
      (pss_one (ps_ret (pe_cmpR op_eq (pe_op op_sub (pe_op op_add (pe_callB call_len_str (by rfl) T.z_len (by decide +kernel) (pa_cons (pv 0) pa_nil)) (pe_callB call_len_str (by rfl) T.z_len (by decide +kernel) (pa_cons (pv 1) pa_nil))) (pv 4)) (pe_op op_add (pe_op op_add (pv 3) (pv 4)) (pe_callB call_len_str (by rfl) T.z_len (by decide +kernel) (pa_cons (pe_prop (pv 2) T.cl_Session T.q_Session_word G_Session_word (hr.mono (by decide)) T.b_Session_word .nil pass0 rfl) pa_nil))) (nomark _))))), ?_⟩
    have lD := hS.1.lD
    have l0 := hS.1.l0
    refine ⟨.str (mk D), rfl, mk D, rfl, fun L nL => ?_⟩
    refine lc_it walk_str (fun i H3 => Same H H3 ∧ ∃ g : List Nat, H3 L = some (.lst (sV g)) ∧ g.length = (tkS (D.take i)).length ∧ g.length ≤ i) ?_ (fun _ _ _ _ => trivial) ?_ ?_
    · exact ⟨same_new nL, [], upd_same, rfl, Nat.le_refl _⟩
    · rintro i u H3 H4 hi ⟨sm, g, eL, lg, lgi⟩ ⟨rfl, c, hc, rfl⟩
      have hpc : D[i]? = some c := by have := str_at hc; rwa [cs_mk] at this
      have c16 := hS.1.cD c (List.mem_of_getElem? hpc)
      have hi' : i < D.length := (List.getElem?_eq_some_iff.mp hpc).1
      refine ⟨rfl, .str (sg c), rfl, c, "ABCDEFGH", rfl, rfl, _, rfl, ?_⟩
      rw [show decide (c ∈ cs "ABCDEFGH") = decide (c < 97) from in_up c c16, app_tail hpc, tkS_snoc]
      by_cases hu : c < 97
      · rw [decide_eq_true hu, if_pos hu]
        refine iteT ⟨.str (sg c), rfl, _, eL, lt_line (by rw [sV_len]; omega), same_put sm nL, g ++ [c], by rw [upd_same, sV_snoc], ?_, ?_⟩
        · rw [List.length_append, List.length_append, lg]; rfl
        · rw [List.length_append]; show _ + 1 ≤ _; omega
      · rw [decide_eq_false hu, if_neg hu, List.append_nil]
        exact iteF ⟨sm, g, eL, lg, by omega⟩
    rintro H3 ⟨sm, g, eL, lg, lgi⟩
    have e9 : (mk D).cps.size = D.length := len_mk D
    rw [e9, List.take_length] at lg
    obtain ⟨ses, dx, e, pr0, hpr0, lpr0, hx, hE⟩ := hS.same sm
    have epr : pr0 = pr := by rw [hpr] at hpr0; injection hpr0 with h; exact h.symm
    subst epr
    refine ⟨L, sV g, rfl, .inl (SqL.of eL), .str (mk z0), rfl, mk z0, rfl, le_line (by rw [len_mk]; omega), .str (mk D), rfl, mk D, rfl, le_line (by rw [len_mk]; omega), _, _, rfl, rfl, _, rfl, _, _, rfl, rfl, _, rfl, _, rfl, _, _, rfl, rfl, .ref x, rfl, x, dx, _, rfl, hx, x, dx, e, z0, D, C, pr0, rfl, hx, mk pr0, rfl, le_line (by rw [len_mk]; omega), _, _, rfl, rfl, rfl, ?_⟩
    have hl := parts_len D
    rw [len_mk, len_mk, len_mk, sV_len, lg, decide_eq_true (congrArg V.int (by omega))]
    exact q _ sm
def sp_Lmoved (a : Ad) : Sp := fun vs H Q _ => ∃ (p x : Addr) (l z0 D C : List Nat), vs = [.ref p, .ref x, .str (mk l)] ∧ Pool H p ∧ SesAt a H x z0 D C ∧ 1 ≤ l.length ∧ l.length ≤ 4 ∧ (∀ c ∈ l, c ∈ lo8) ∧ (D ++ C).length ≤ 100 ∧
  ∀ H' D' C' b, Pool H' p → SesAt a H' x z0 D' C' → (D' ++ C').length ≤ (D ++ C).length + 4 → But2 p x H H' → Q (.bl b) H'
theorem ok_Lmoved (T : Txt K mg a) (hd : Hd K a) (hP : Spx.PFile P) : FnOk P w K mg base CX0 11 a.f_Lmoved a.d_Lmoved ["_law_pool_here", "_law_box", "_law_letters_here"] (sp_Lmoved a) := by
  have G_Ldraw := ok_Ldraw (P := P) (w := w) (base := base) T
  have G_Litems := ok_Litems (P := P) (w := w) (base := base) T
  have G_Session_run := ok_Session_run (P := P) (w := w) (base := base) T hd hP
  have G_Session_undo := ok_Session_undo (P := P) (w := w) (base := base) T
  have G_Session_redo := ok_Session_redo (P := P) (w := w) (base := base) T
  refine T.F_Lmoved.ok sc_Lmoved (fun vs H Q E h => ?_) (fun cdv A outer s H vs Q E hr h => ?_)
  · obtain ⟨p, x, l, z0, D, C, rfl, _⟩ := h
    rfl
  · obtain ⟨p, x, l, z0, D, C, rfl, hP0, hS0, l1, l4, cl, lDC, q⟩ := h
    refine ⟨_, (pss_cons (ps_set (i := 3) sc_Lmoved.nd rfl (Or.inl rfl) (pe_call G_Ldraw (hr.mono (by decide)) (by rfl) T.g_Ldraw T.F_Ldraw.kp T.b_Ldraw .nil pass0 (pa_cons (pv 0) (pa_cons pe_int pa_nil))))
      (pss_cons (L2.ps_tryM (Wout := fun _ _ _ _ => False) rfl rfl sc_Lmoved.nd takes0
          (fun W pn xe tk ow => by exact (pss_one (ps_if (pt_cmpR op_lt (pv 3) pe_int (nomark _))
            (pss_one (ps_expr (Cmx.pe_methX (pv 1) T.cl_Session T.m_Session_run G_Session_run (hr.mono (by decide)) T.b_Session_run (fun σ => passAt tk σ) (pa_cons (pe_call G_Litems (hr.mono (by decide)) (by rfl) T.g_Litems T.F_Litems.kp T.b_Litems .nil pass0 (pa_cons (pv 0) (pa_cons (pe_op op_add_str (pv 2) (pe_upper (pv 2))) (pa_cons pe_int pa_nil)))) pa_nil))))
            (pss_one (ps_if (pt_cmpR op_eq (pv 3) pe_int (nomark _))
              (pss_one (ps_expr (Cmx.pe_methX (pv 1) T.cl_Session T.m_Session_undo G_Session_undo (hr.mono (by decide)) T.b_Session_undo (fun σ => passAt tk σ) (pa_cons (pe_op op_add pe_int (pe_call G_Ldraw (hr.mono (by decide)) (by rfl) T.g_Ldraw T.F_Ldraw.kp T.b_Ldraw .nil pass0 (pa_cons (pv 0) (pa_cons pe_int pa_nil)))) pa_nil))))
              (pss_one (ps_expr (Cmx.pe_methX (pv 1) T.cl_Session T.m_Session_redo G_Session_redo (hr.mono (by decide)) T.b_Session_redo (fun σ => passAt tk σ) (pa_cons (pe_op op_add pe_int (pe_call G_Ldraw (hr.mono (by decide)) (by rfl) T.g_Ldraw T.F_Ldraw.kp T.b_Ldraw .nil pass0 (pa_cons (pv 0) (pa_cons pe_int pa_nil)))) pa_nil)))))))))
          (.only ⟨rfl, by decide, .inl T.e_Failed.gC⟩ (fun q oq cls d pn hz hf => by exact (pss_one (ps_ret pe_bl)))
          (.only ⟨rfl, by decide, .inl T.e_NothingToUndo.gC⟩ (fun q oq cls d pn hz hf => by exact (pss_one (ps_ret pe_bl)))
          .nil)))
      (pss_one (ps_ret pe_bl)))), ?_⟩
    have lDC' : D.length + C.length ≤ 100 := by rw [List.length_append] at lDC; omega
    obtain ⟨pn, pm, hp0, pok⟩ := id hP0
    refine ⟨.ref p, rfl, p, 5, rfl, hP0, by decide, by decide, fun n1 w1 d1 a1 a2 a3 a4 a5 => ?_⟩
    have bp : But p H (upd H p (.lst [.int n1, .int w1])) := But.refl.put
    have hS1 := hS0.but hp0 bp
    have hP1 : Pool (upd H p (.lst [.int n1, .int w1])) p := ⟨n1, w1, upd_same, a1, a2, a3⟩
    generalize upd H p (.lst [.int n1, .int w1]) = H1 at bp hS1 hP1
    obtain ⟨n2, w2, hp1, _⟩ := id hP1
    obtain ⟨ses, dx, e, pr, hpr, lpr, hx, hE⟩ := id hS1
    refine ⟨.int d1, rfl, _, _, rfl, rfl, _, rfl, ?_⟩
    by_cases h3 : d1 < 3
    · rw [decide_eq_true h3]
      refine iteT ⟨.ref x, rfl, x, dx, _, rfl, hx, rfl, .ref p, rfl, .str (mk l), rfl, .str (mk l), rfl, ⟨_, rfl⟩, mk l, rfl, rfl, by rw [len_mk]; omega, _, _, rfl, rfl, ?_, ?_⟩
      · rw [up_mk cl, len_mk, len_mk, List.length_map]
        exact le_line (by omega)
      rw [up_mk cl, app_mk]
      refine ⟨p, _, 4, rfl, hP1, by rw [List.length_append]; omega, by rw [List.length_append, List.length_map]; omega, by decide, by decide, fun HI g hPI bI lg cg => ?_⟩
      have cg16 : ∀ c ∈ g, c ∈ st16 := fun c hc => by
        rcases List.mem_append.mp (cg c hc) with h | h
        · exact st16_of_lo8 (cl c h)
        · obtain ⟨y, hy, rfl⟩ := List.mem_map.mp h
          exact st16_of_up (cl y hy)
      have hSI := hS1.but hp1 bI
      obtain ⟨_, dxI, eI, prI, hprI, _, hxI, _⟩ := id hSI
      have okg : okS (mk g) "abcdefghABCDEFGH" = true := okS_mk (by omega) cg16
      have bI2 : But2 p x H HI := fun b o g1 g2 hb => bI b o g1 (bp b o g1 hb)
      refine ⟨x, z0, D, C, prI, _, _, rfl, hSI, hprI, (fun H' _ => any_ok okg), (fun e => no_ok okg e), fun p' ep lp cp => ?_⟩
      have e : p' = g := by injection ep with ep; exact (mk_inj ep).symm
      subst e
      refine ⟨fun i hq H' d s' _ hd' => ⟨true, hd.x_Failed_Failed, fun _ q0 _ => ?_, (fun h => nomatch h)⟩, fun pr' hq h4 => by omega, fun pr' hq h4 HJ bJ hSJ => ?_⟩
      · exact q _ D C false (pool_keep hPI s') (hSI.same s') (by omega) fun b o g1 g2 hb => s' _ _ (bI2 b o g1 g2 hb)
      · refine q HJ _ _ true (pool_but hPI hxI bJ) hSJ ?_ fun b o g1 g2 hb => bJ b o g2 (bI2 b o g1 g2 hb)
        rw [List.length_append, List.length_append, List.length_append]
        split
        · omega
        · simp; omega
    · rw [decide_eq_false h3]
      have num : ∀ (k2 : Nat), fromB (.int (1 + ((k2 : Nat) : Int))) 1 = true := fun k2 => decide_eq_true (by omega)
      refine iteF ⟨.int d1, rfl, rfl, _, rfl, ?_⟩
      by_cases h4 : d1 = 3
      · subst h4
        refine iteT ⟨.ref x, rfl, x, dx, _, rfl, hx, rfl, .ref p, rfl, p, 3, rfl, hP1, by decide, by decide, fun n3 w3 d3 c1 c2 c3 c4 c5 => ⟨1, d3, rfl, rfl, ?_⟩⟩
        have bq : But p H1 (upd H1 p (.lst [.int n3, .int w3])) := But.refl.put
        have hS2 := hS1.but hp1 bq
        have hP2 : Pool (upd H1 p (.lst [.int n3, .int w3])) p := ⟨n3, w3, upd_same, c1, c2, c3⟩
        have b2 : But2 p x H (upd H1 p (.lst [.int n3, .int w3])) := fun b o g1 g2 hb => bq b o g1 (bp b o g1 hb)
        generalize upd H1 p (.lst [.int n3, .int w3]) = H2 at hS2 hP2 b2
        obtain ⟨_, dx2, e2, pr2, _, _, hx2, _⟩ := id hS2
        obtain ⟨k2, rfl⟩ : ∃ k : Nat, d3 = k := ⟨d3.toNat, by omega⟩
        refine ⟨x, z0, D, C, _, _, rfl, hS2, .int _, (fun e => by rw [num] at e; cases e), fun i ei g1 g2 d nd => ⟨false, hd.x_NothingToUndo_Failed, (fun h => nomatch h), fun _ => ⟨true, hd.x_NothingToUndo_NothingToUndo, fun _ q0 _ => ?_, (fun h => nomatch h)⟩⟩, fun k ek g1 g2 HJ bJ hSJ => ?_⟩
        · have s' := same_new (o := .xd [(("count" : Str), .int (1 + ((k2 : Nat) : Int)))]) nd
          exact q _ D C false (pool_keep hP2 s') (hS2.same s') (by omega) fun b o g1 g2 hb => s' _ _ (b2 b o g1 g2 hb)
        · refine q HJ _ _ true (pool_but hP2 hx2 bJ) hSJ ?_ fun b o g1 g2 hb => bJ b o g2 (b2 b o g1 g2 hb)
          rw [← List.append_assoc, List.take_append_drop]
          omega
      · rw [decide_eq_false (fun h => h4 (by injection h))]
        refine iteF ⟨.ref x, rfl, x, dx, _, rfl, hx, rfl, .ref p, rfl, p, 2, rfl, hP1, by decide, by decide, fun n3 w3 d3 c1 c2 c3 c4 c5 => ⟨1, d3, rfl, rfl, ?_⟩⟩
        have bq : But p H1 (upd H1 p (.lst [.int n3, .int w3])) := But.refl.put
        have hS2 := hS1.but hp1 bq
        have hP2 : Pool (upd H1 p (.lst [.int n3, .int w3])) p := ⟨n3, w3, upd_same, c1, c2, c3⟩
        have b2 : But2 p x H (upd H1 p (.lst [.int n3, .int w3])) := fun b o g1 g2 hb => bq b o g1 (bp b o g1 hb)
        generalize upd H1 p (.lst [.int n3, .int w3]) = H2 at hS2 hP2 b2
        obtain ⟨_, dx2, e2, pr2, _, _, hx2, _⟩ := id hS2
        obtain ⟨k2, rfl⟩ : ∃ k : Nat, d3 = k := ⟨d3.toNat, by omega⟩
        refine ⟨x, z0, D, C, _, _, rfl, hS2, .int _, (fun e => by rw [num] at e; cases e), fun i ei g1 g2 d nd => ⟨false, hd.x_NothingToUndo_Failed, (fun h => nomatch h), fun _ => ⟨true, hd.x_NothingToUndo_NothingToUndo, fun _ q0 _ => ?_, (fun h => nomatch h)⟩⟩, fun k ek g1 g2 HJ bJ hSJ => ?_⟩
        · have s' := same_new (o := .xd [(("count" : Str), .int (1 + ((k2 : Nat) : Int)))]) nd
          exact q _ D C false (pool_keep hP2 s') (hS2.same s') (by omega) fun b o g1 g2 hb => s' _ _ (b2 b o g1 g2 hb)
        · refine q HJ _ _ true (pool_but hP2 hx2 bJ) hSJ ?_ fun b o g1 g2 hb => bJ b o g2 (b2 b o g1 g2 hb)
          rw [List.append_assoc, List.take_append_drop]
          omega
end
end E94

set_option Elab.async false
set_option linter.all false
set_option maxRecDepth 100000
set_option maxHeartbeats 4000000
namespace E94
open PySem PySem.Spec PyProof.Rows L2 Own Exn Mth Vld Gn StX
section
variable {P : Program} {w : World} {K : PySem.W.Frag} {mg : Str → Option Value} {base : Heap} {a : Ad}
def sp_law (K : PySem.W.Frag) : Sp := fun vs H Q _ => ∃ (s : Addr) (ns : List Int), vs = [.ref s] ∧ SqL K H s (ns.map V.int) ∧ ns.length ≤ 63 ∧ ∀ H', Q (.bl true) H'
/-- a run that can be done -/
theorem srun_ok {H : Hp} {x : Addr} {z0 D C pr p pr' : List Nat} {v : V} {Rf : VK} {E : XK} (hS : SesAt a H x z0 D C) (hpr : bst D z0 = some pr) (ev : v = .str (mk p)) (cp : ∀ c ∈ p, c ∈ st16) (hl : z0.length + D.length + p.length ≤ 400) (hb : bst p pr = some pr')
    (q : ∀ H', But x H H' → SesAt a H' x z0 (D ++ p) (if p = [] then C else []) → Rf (.int (((pr.length : Nat) : Int) + ((puS p).length : Nat) - ((tkS p).length : Nat) - ((pr'.length : Nat) : Int))) H') : sp_srun a K [.ref x, v] H Rf E := by
  subst ev
  have okp : okS (mk p) "abcdefghABCDEFGH" = true := okS_mk (by omega) cp
  have lb := bst_len _ _ _ hpr
  have hq := qrun_of p pr pr' 0 (by omega) hb
  refine ⟨x, z0, D, C, pr, _, _, rfl, hS, hpr, (fun H' _ => any_ok okp), (fun e => no_ok okp e), fun p' ep lp cp' => ?_⟩
  have e : p' = p := by injection ep with ep; exact (mk_inj ep).symm
  subst e
  refine ⟨fun i h => (by rw [hq] at h; cases h), fun pr2 h h4 => (by omega), fun pr2 h h4 H' b' h' => ?_⟩
  rw [hq] at h
  cases h
  exact q H' b' h'
theorem nil_if {α : Type} {p : List Nat} : (if p = [] then ([] : List α) else []) = [] := by split <;> rfl
theorem ok_law (T : Txt K mg a) (hdd : Hd K a) (hP : Spx.PFile P) : FnG P w K mg base CX0 14 a.f_law a.d_law ["_law_script"] (sp_law K) := by
  have G_Lpool := ok_Lpool (P := P) (w := w) (base := base) T
  have G_Ldraw := ok_Ldraw (P := P) (w := w) (base := base) T
  have G_Lletters := ok_Lletters (P := P) (w := w) (base := base) T
  have G_Litems := ok_Litems (P := P) (w := w) (base := base) T
  have G_Lmoved := ok_Lmoved (P := P) (w := w) (base := base) T hdd hP
  have G_Lshown := ok_Lshown (P := P) (w := w) (base := base) T
  have G_Lcounted := ok_Lcounted (P := P) (w := w) (base := base) T
  have G_best_result := ok_best_result (P := P) (w := w) (base := base) T
  have G_Effect_apply := ok_Effect_apply (P := P) (w := w) (base := base) T
  have G_Effect_of := ok_Effect_of (P := P) (w := w) (base := base) T
  have G_Effect_eq := ok_Effect_eq (P := P) (w := w) (base := base) T hdd
  have G_LeakyQueue_init := ok_LeakyQueue_init (P := P) (w := w) (base := base) T hP
  have G_LeakyQueue_run := ok_LeakyQueue_run (P := P) (w := w) (base := base) T hdd hP
  have G_LeakyQueue_word := ok_LeakyQueue_word (P := P) (w := w) (base := base) T
  have G_Session_init := ok_Session_init (P := P) (w := w) (base := base) T
  have G_Session_run := ok_Session_run (P := P) (w := w) (base := base) T hdd hP
  have G_Session_eq := ok_Session_eq (P := P) (w := w) (base := base) T hdd
  have G_Session_word := ok_Session_word (P := P) (w := w) (base := base) T
  have G_Session_program := ok_Session_program (P := P) (w := w) (base := base) T
  have G_Session_effect := ok_Session_effect (P := P) (w := w) (base := base) T
  have hC : QC K a.C_LeakyQueue := ⟨T.cl_LeakyQueue, T.n_LeakyQueue_content⟩
  refine Fun_okG T.F_law sc_law (fun vs H Q E h => ?_) (fun cdv A outer s H vs Q E hg hr hh => ?_)
  · obtain ⟨s, ns, rfl, _⟩ := h
    rfl
  · obtain ⟨sc, ns, rfl, hS, hns, q⟩ := hh
    refine ⟨_, (pss_cons (ps_for PassesOwn.never rfl (pi_range1 (by rfl) T.z_range (pa_cons (pe_callB (call_max2 rfl) (by rfl) T.z_max (by decide +kernel) (pa_cons pe_int (pa_cons (pe_callB (call_min2 rfl) (by rfl) T.z_min (by decide +kernel) (pa_cons pe_int (pa_cons (pe_callB call_len_seq (by rfl) T.z_len (by decide +kernel) (pa_cons (pv 0) pa_nil)) pa_nil))) pa_nil))) pa_nil)) (pg_name (i := 1) sc_law.nd rfl (Or.inl rfl))
        (pss_cons (ps_set (i := 2) sc_law.nd rfl (Or.inl rfl) (pe_call G_Lpool (hr.mono (by decide)) (by rfl) T.g_Lpool T.F_Lpool.kp T.b_Lpool .nil pass0 (pa_cons (pv 0) (pa_cons (pv 1) pa_nil))))
        (pss_cons (ps_set (i := 3) sc_law.nd rfl (Or.inl rfl) (pe_call G_Lletters (hr.mono (by decide)) (by rfl) T.g_Lletters T.F_Lletters.kp T.b_Lletters .nil pass0 (pa_cons (pv 2) pa_nil)))
        (pss_cons (ps_set (i := 4) sc_law.nd rfl (Or.inl rfl) (pe_call G_Litems (hr.mono (by decide)) (by rfl) T.g_Litems T.F_Litems.kp T.b_Litems .nil pass0 (pa_cons (pv 2) (pa_cons (pv 3) (pa_cons pe_int pa_nil)))))
        (pss_cons (ps_set (i := 5) sc_law.nd rfl (Or.inl rfl) (Cmx.pe_makeS T.mk_Session G_Session_init (hr.mono (by decide)) (by rfl) T.g_Session T.b_Session_init (fun σ => passAt takes0 σ) (pa_cons (pv 4) pa_nil)))
        (pss_one (ps_for PassesOwn.never rfl (pi_range1 (by rfl) T.z_range (pa_cons (pe_call G_Ldraw (hr.mono (by decide)) (by rfl) T.g_Ldraw T.F_Ldraw.kp T.b_Ldraw .nil pass0 (pa_cons (pv 2) (pa_cons pe_int pa_nil))) pa_nil)) (pg_name (i := 6) sc_law.nd rfl (Or.inl rfl))
          (pss_cons (ps_expr (pe_call G_Lmoved (hr.mono (by decide)) (by rfl) T.g_Lmoved T.F_Lmoved.kp T.b_Lmoved .nil pass0 (pa_cons (pv 2) (pa_cons (pv 5) (pa_cons (pv 3) pa_nil)))))
          (pss_cons (ps_par (i := 7) (j := 8) (by rfl) sc_law.nd rfl rfl (by decide) rfl rfl (pa_cons (pe_prop (pv 5) T.cl_Session T.q_Session_program G_Session_program (hr.mono (by decide)) T.b_Session_program .nil pass0 rfl) (pa_cons (Cmx.pe_makeS T.mk_Session G_Session_init (hr.mono (by decide)) (by rfl) T.g_Session T.b_Session_init (fun σ => passAt takes0 σ) (pa_cons (pv 4) pa_nil)) pa_nil)) (by rfl))
          (pss_cons (ps_set (i := 9) sc_law.nd rfl (Or.inl rfl) (Cmx.pe_methX (pv 8) T.cl_Session T.m_Session_run G_Session_run (hr.mono (by decide)) T.b_Session_run (fun σ => passAt takes0 σ) (pa_cons (pv 7) pa_nil)))
          (pss_cons (ps_if (PW.pt (pw_or (pt_not (pt_cmpR (Ows.op_ownD (C := a.C_Session) (op := .Eq) (fun _ _ => rfl) T.m_Session_eq.at_ T.m_Session_eq.fn (G_Session_eq.raw T.b_Session_eq .nil) (hr.mono (by decide)) pass0) (pv 5) (pv 8) (nomark _))) (pw_or (pt_cmpR (Ows.op_neOwn (C := a.C_Session) hdd.ne_Session hdd.mo_Session T.m_Session_eq.at_ T.m_Session_eq.fn (G_Session_eq.raw T.b_Session_eq .nil) (hr.mono (by decide)) pass0) (pv 5) (pv 8) (nomark _)) (pw_or1 (pt_cmpR op_ne (pe_callG G_Lshown hg (hr.mono (by decide)) (by rfl) T.g_Lshown T.F_Lshown.kp T.b_Lshown pass0 (pa_cons (pv 5) pa_nil)) (pe_callG G_Lshown hg (hr.mono (by decide)) (by rfl) T.g_Lshown T.F_Lshown.kp T.b_Lshown pass0 (pa_cons (pv 8) pa_nil)) (nomark _))))))
            (pss_one (ps_ret pe_bl))
            pss_nil)
          (pss_cons (ps_if (PW.pt (pw_or (pt_cmpR op_ne (pe_prop (pv 5) T.cl_Session T.q_Session_word G_Session_word (hr.mono (by decide)) T.b_Session_word .nil pass0 rfl) (pe_callS G_best_result (hr.mono (by decide)) (by rfl) T.g_best_result T.F_best_result.kp T.b_best_result (fun σ => passAt takes0 σ) (pa_cons (pv 7) (pa_cons (pv 4) pa_nil))) (nomark _)) (pw_or1 (pt_cmpR op_ne (Cmx.pe_methX (pe_prop (pv 5) T.cl_Session T.q_Session_effect G_Session_effect (hr.mono (by decide)) T.b_Session_effect .nil pass0 rfl) T.cl_Effect T.m_Effect_apply G_Effect_apply (hr.mono (by decide)) T.b_Effect_apply (fun σ => passAt takes0 σ) (pa_cons (pv 4) pa_nil)) (pe_prop (pv 5) T.cl_Session T.q_Session_word G_Session_word (hr.mono (by decide)) T.b_Session_word .nil pass0 rfl) (nomark _)))))
            (pss_one (ps_ret pe_bl))
            pss_nil)
          (pss_cons (ps_set (i := 10) sc_law.nd rfl (Or.inl rfl) (Cmx.pe_makeS T.mk_LeakyQueue G_LeakyQueue_init (hr.mono (by decide)) (by rfl) T.g_LeakyQueue T.b_LeakyQueue_init (fun σ => passAt takes0 σ) (pa_cons (pv 4) pa_nil)))
          (pss_cons (ps_expr (Cmx.pe_methX (pv 10) T.cl_LeakyQueue T.m_LeakyQueue_run G_LeakyQueue_run (hr.mono (by decide)) T.b_LeakyQueue_run (fun σ => passAt takes0 σ) (pa_cons (pv 7) pa_nil)))
          (pss_cons (ps_if (PW.pt (pw_or (pt_cmpR op_ne (pe_prop (pv 10) T.cl_LeakyQueue T.q_LeakyQueue_word G_LeakyQueue_word (hr.mono (by decide)) T.b_LeakyQueue_word .nil pass0 rfl) (pe_prop (pv 5) T.cl_Session T.q_Session_word G_Session_word (hr.mono (by decide)) T.b_Session_word .nil pass0 rfl) (nomark _)) (pw_or1 (pt_not (pt_val (pe_call G_Lcounted (hr.mono (by decide)) (by rfl) T.g_Lcounted T.F_Lcounted.kp T.b_Lcounted .nil pass0 (pa_cons (pv 4) (pa_cons (pv 7) (pa_cons (pv 5) (pa_cons (pv 9) pa_nil))))))))))
            (pss_one (ps_ret pe_bl))
            pss_nil)
          (pss_cons (ps_set (i := 11) sc_law.nd rfl (Or.inl rfl) (pe_call G_Ldraw (hr.mono (by decide)) (by rfl) T.g_Ldraw T.F_Ldraw.kp T.b_Ldraw .nil pass0 (pa_cons (pv 2) (pa_cons (pe_op op_add (pe_callB call_len_str (by rfl) T.z_len (by decide +kernel) (pa_cons (pv 7) pa_nil)) pe_int) pa_nil))))
          (pss_cons (ps_set (i := 12) sc_law.nd rfl (Or.inl rfl) (Cmx.pe_makeS T.mk_Session G_Session_init (hr.mono (by decide)) (by rfl) T.g_Session T.b_Session_init (fun σ => passAt takes0 σ) (pa_cons (pv 4) pa_nil)))
          (pss_cons (ps_if (PW.pt (pw_or (pt_cmpR op_ne (pe_op op_add (Cmx.pe_methX (pv 12) T.cl_Session T.m_Session_run G_Session_run (hr.mono (by decide)) T.b_Session_run (fun σ => passAt takes0 σ) (pa_cons (pe_slice sl_str (pv 7) po_none (po_some (pv 11))) pa_nil)) (Cmx.pe_methX (pv 12) T.cl_Session T.m_Session_run G_Session_run (hr.mono (by decide)) T.b_Session_run (fun σ => passAt takes0 σ) (pa_cons (pe_slice sl_str (pv 7) (po_some (pv 11)) po_none) pa_nil))) (pv 9) (nomark _)) (pw_or1 (pt_cmpR op_ne (pe_callG G_Lshown hg (hr.mono (by decide)) (by rfl) T.g_Lshown T.F_Lshown.kp T.b_Lshown pass0 (pa_cons (pv 12) pa_nil)) (pe_callG G_Lshown hg (hr.mono (by decide)) (by rfl) T.g_Lshown T.F_Lshown.kp T.b_Lshown pass0 (pa_cons (pv 5) pa_nil)) (nomark _)))))
            (pss_one (ps_ret pe_bl))
            pss_nil)
          (pss_one (ps_if (pt_not (pt_cmpR (Ows.op_ownD (C := a.C_Effect) (op := .Eq) (fun _ _ => rfl) T.m_Effect_eq.at_ T.m_Effect_eq.fn (G_Effect_eq.raw T.b_Effect_eq .nil) (hr.mono (by decide)) pass0) (pe_prop (pv 5) T.cl_Session T.q_Session_effect G_Session_effect (hr.mono (by decide)) T.b_Session_effect .nil pass0 rfl) (Cmx.pe_cmethS (pe_glob (v := .ref a.C_Effect) (by rfl) T.g_Effect rfl) T.cr_Effect T.cm_Effect_of G_Effect_of (hr.mono (by decide)) T.b_Effect_of (fun σ => passAt takes0 σ) (pa_cons (pv 7) pa_nil)) (nomark _)))
            (pss_one (ps_ret pe_bl))
            pss_nil))))))))))))))))))))
      (pss_one (ps_ret pe_bl))), ?_⟩
    refine ⟨.ref sc, rfl, sc, _, rfl, .inl hS, _, _, rfl, _, _, rfl, _, rfl, ?_, ?_, for_it walk_range (fun i σ H5 => ∃ y1 y2 y3 y4 y5 y6 y7 y8 y9 y10 y11 y12 : Option V, σ = [some (.ref sc), y1, y2, y3, y4, y5, y6, y7, y8, y9, y10, y11, y12] ∧ Same H H5) ?_ (fun _ _ _ _ _ => trivial) ?_ ?_⟩
    · split <;> omega
    · rw [List.length_map]
      split
      · split <;> omega
      · omega
    · exact ⟨_, _, _, _, _, _, _, _, _, _, _, _, rfl, Same.refl _⟩
    · rintro i xx σ H5 H5' hi ⟨y1, y2, y3, y4, y5, y6, y7, y8, y9, y10, y11, y12, rfl, sm0⟩ ⟨rfl, rfl⟩
      have hi20 : i < 30 := by
        rw [List.length_map] at hi
        split at hi
        · split at hi <;> omega
        · omega
      refine ⟨.ref sc, rfl, .int (0 + (i : Nat)), rfl, sc, 0 + (i : Nat), ns, rfl, sm0.seq hS, by omega, by omega, by omega, fun H6 p s6 np hP6 => ?_⟩
      refine ⟨.ref p, rfl, p, rfl, hP6, fun H7 l hP7 b7 l1 l4 cl => ?_⟩
      refine ⟨.ref p, rfl, .str (mk l), rfl, p, l, 5, rfl, hP7, l1, by omega, by decide, by decide, fun H8 z0 hP8 b8 lz0 cz0 => ?_⟩
      have cz : ∀ c ∈ z0, c ∈ lo8 := fun c hc => cl c (cz0 c hc)
      have lz : z0.length ≤ 5 := by omega
      have b68 : But p H6 H8 := fun b o nb hb => b8 b o nb (b7 b o nb hb)
      refine ⟨.str (mk z0), rfl, fun x dx nx ndx ne => init_s (z0 := z0) (by omega) cz rfl nx ndx fun HA sA hSA => ⟨rfl, ?_⟩⟩
      have npx : x ≠ p := fun e => by obtain ⟨n, m, hp, _⟩ := hP8; rw [e, hp] at nx; cases nx
      have hPA := pool_keep hP8 sA
      obtain ⟨pn0, pm0, hpA, _⟩ := id hPA
      refine ⟨.ref p, rfl, p, 13, rfl, hPA, by decide, by decide, fun n1 w1 dj a1 a2 a3 a4 a5 => ⟨dj, rfl, by omega, by omega, ?_⟩⟩
      refine for_it walk_range (fun j σ HG => ∃ (D C : List Nat) (y1 y6 y7 y8 y9 y10 y11 y12 : Option V), σ = [some (.ref sc), y1, some (.ref p), some (.str (mk l)), some (.str (mk z0)), some (.ref x), y6, y7, y8, y9, y10, y11, y12] ∧ Pool HG p ∧ SesAt a HG x z0 D C ∧ (D ++ C).length ≤ 4 * j ∧ But2 p x H8 HG) ?_ (fun _ _ _ _ _ => trivial) ?_ ?_
      · have bp : But p HA (upd HA p (.lst [.int n1, .int w1])) := But.refl.put
        exact ⟨[], [], _, _, _, _, _, _, _, _, rfl, ⟨n1, w1, upd_same, a1, a2, a3⟩, hSA.but hpA bp, Nat.le_refl _, fun b o g1 g2 hb => bp b o g1 (sA _ _ hb)⟩
      · rintro j u σ HG HG' hj ⟨D0, C0, y1, y6, y7, y8, y9, y10, y11, y12, rfl, hPG, hSG, lDC, bG⟩ ⟨rfl, rfl⟩
        have hj13 : j < 13 := by omega
        refine ⟨.ref p, rfl, .ref x, rfl, .str (mk l), rfl, p, x, l, z0, D0, C0, rfl, hPG, hSG, l1, l4, cl, by omega, fun H1 D C bb hP1 hS1 lDC1 b1 => ?_⟩
        have lDC' : D.length + C.length ≤ 52 := by rw [List.length_append] at lDC1; omega
        have b81 : But2 p x H8 H1 := fun b o g1 g2 hb => b1 b o g1 g2 (bG b o g1 g2 hb)
        obtain ⟨ses, dx1, e1, pr, hpr, lpr, hx1, hE1⟩ := id hS1
        have cD := ses.cD
        have cpr : ∀ c ∈ pr, c ∈ lo8 := bst_mem D z0 pr cD cz hpr
        have lb := bst_len _ _ _ hpr
        -- a new session
        refine ⟨.ref x, rfl, x, dx1, _, rfl, hx1, x, dx1, e1, z0, D, C, pr, rfl, hx1, .str (mk z0), rfl, fun o do_ no ndo neo => init_s (z0 := z0) (by omega) cz rfl no ndo fun H2 s2 hO2 => ⟨rfl, .str (mk D), .ref o, rfl, ?_⟩⟩
        have xo : x ≠ o := ne_of_none hx1 no
        obtain ⟨do2, fo2, ho2, lo2⟩ := hO2.nf
        refine ⟨.ref o, rfl, ?_⟩
        obtain ⟨_, do3, eo3, po3, hpo3, _, ho3, _⟩ := id hO2
        refine ⟨o, do3, _, rfl, ho3, rfl, .str (mk D), rfl, ?_⟩
        dsimp only [tNil]
        refine srun_ok (p := D) (pr' := pr) hO2 rfl rfl cD (by show _ + 0 + _ ≤ _; omega) hpr fun H3 b3 hO3 => ?_
        rw [List.nil_append, nil_if] at hO3
        have hS3 : SesAt a H3 x z0 D C := (hS1.same s2).butI ho2 lo2 xo b3
        have hP3 : Pool H3 p := pool_but (pool_keep hP1 s2) ho2 b3
        have s13 : Same H1 H3 := fun b o' hb => b3 b o' (ne_of_none hb no) (s2 _ _ hb)
        obtain ⟨_, dx3, e3, pr3, hpr3, _, hx3, hE3⟩ := id hS3
        have ep3 : pr3 = pr := by rw [hpr] at hpr3; injection hpr3 with h; exact h.symm
        subst ep3
        obtain ⟨_, do4, eo4, po4, hpo4, _, ho4, _⟩ := id hO3
        have ep4 : po4 = pr3 := by rw [hpr] at hpo4; injection hpo4 with h; exact h.symm
        subst ep4
        have dt : decide (po4 = po4 ∧ D = D) = true := decide_eq_true ⟨rfl, rfl⟩
        refine ⟨.ref x, rfl, .ref o, rfl, x, dx3, _, _, rfl, hx3, ty_ses T hdd ho4, hdd.nf_Session, x, o, dx3, do4, _, _, _, _, _, _, _, _, _, _, rfl, hx3, ho4, ?_⟩
        rw [dt]
        refine ⟨true, rfl, iteF ⟨.ref x, rfl, .ref o, rfl, x, dx3, _, _, rfl, hx3, ty_ses T hdd ho4, hdd.nf_Session, x, o, dx3, do4, _, _, _, _, _, _, _, _, _, _, rfl, hx3, ho4, _, rfl, ?_⟩⟩
        rw [dt]
        refine ⟨false, rfl, iteF ?_⟩
        refine ⟨.ref x, rfl, x, z0, D, C, po4, rfl, hS3, hpr, by omega, by omega, fun H4 s4 => ⟨.ref o, rfl, o, z0, D, [], po4, rfl, hO3.same s4, hpr, by omega, by omega, fun H5 s5 => ⟨rfl, _, rfl, iteNS rfl ?_⟩⟩⟩
        have s35 := s4.trans s5
        have hS5 := hS3.same s35
        have hx5 := s35 _ _ hx3
        -- the best result, and by the effect
        have okD : okS (mk D) "abcdefghABCDEFGH" = true := okS_mk (by omega) cD
        have okz : okS (mk z0) "abcdefgh" = true := okS_mk (by omega) cz
        have tooF : tooL (some po4) = false := decide_eq_false (by omega)
        refine ⟨.ref x, rfl, x, dx3, _, rfl, hx5, x, dx3, e3, z0, D, C, po4, rfl, hx5, .str (mk D), rfl, .str (mk z0), rfl, _, _, _, _, rfl, any_ok okD, any_ok okz, (fun e => no_ok okD e), (fun _ e => no_ok okz e), fun pp zz epp ezz _ _ => ?_⟩
        have epp' : cs pp = D := by injection epp with epp; rw [← epp, cs_mk]
        have ezz' : cs zz = z0 := by injection ezz with ezz; rw [← ezz, cs_mk]
        rw [epp', ezz', hpr]
        refine ⟨fun _ H6 s6' => ?_, fun h => by rw [tooF] at h; cases h⟩
        refine ⟨rfl, _, rfl, iteNS rfl ?_⟩
        have s36 := s35.trans s6'
        have hx6 := s36 _ _ hx3
        have hE6 := hE3.same s36
        obtain ⟨de6, he6⟩ := id hE6
        have hpl := parts_len D
        refine ⟨.ref x, rfl, x, dx3, _, rfl, hx6, x, dx3, e3, z0, D, C, po4, rfl, hx6, e3, de6, _, rfl, he6, efl_no _ _ _ (by decide +kernel) (by decide +kernel) (by decide +kernel), .str (mk z0), rfl, e3, _, _, _, _, _, rfl, hE6, by omega, by omega, any_ok okz, (fun e => no_ok okz e), fun q0 eq0 _ _ => ?_⟩
        have eq0' : q0 = z0 := by injection eq0 with eq0; exact (mk_inj eq0).symm
        subst eq0'
        rw [eres_bst, hpr]
        refine ⟨fun _ H7' s7' => ?_, fun h => by rw [tooF] at h; cases h⟩
        have s37 := s36.trans s7'
        have hx7 := s37 _ _ hx3
        refine ⟨.ref x, rfl, x, dx3, _, rfl, hx7, x, dx3, e3, q0, D, C, po4, rfl, hx7, rfl, _, rfl, iteNS rfl ?_⟩
        -- a queue
        refine ⟨.str (mk q0), rfl, fun y dy ny ndy ney => ⟨⟨y, dy, _, _, rfl, upd_same⟩, init_q hC (by omega) cz rfl ny ndy fun H9 s9 hy9 => ⟨rfl, ?_⟩⟩⟩
        have hqr := qrun_of D q0 po4 0 (by omega) hpr
        refine ⟨.ref y, rfl, y, dy, _, rfl, hy9, lk_no (by decide +kernel), .str (mk D), rfl, ⟨y, dy, _, _, rfl, hy9⟩, y, dy, q0, _, _, rfl, hy9, by omega, cz, any_ok okD, (fun e => no_ok okD e), fun p' ep lp cp => ?_⟩
        have ep' : p' = D := by injection ep with ep; exact (mk_inj ep).symm
        subst ep'
        refine ⟨fun z' hq HB bB hyB => ?_, fun i' hq => by rw [hqr] at hq; cases hq⟩
        have ez' : z' = po4 := by rw [hqr] at hq; injection hq with h; exact h.symm
        subst ez'
        have xy : x ≠ y := ne_of_none hx7 ny
        have hS9 := (hS3.same s37).same s9
        have hSB : SesAt a HB x q0 p' C := hS9.butI hy9 (by show (1 : Nat) ≠ 3; decide) xy bB
        have hPB : Pool HB p := pool_but (pool_keep hP3 (s37.trans s9)) hy9 bB
        have s3B : Same H3 HB := fun b o' hb => bB b o' (ne_of_none (s37 _ _ hb) ny) (s9 _ _ (s37 _ _ hb))
        have hxB := s3B _ _ hx3
        refine ⟨.ref y, rfl, y, dy, _, rfl, hyB, y, dy, a.C_LeakyQueue, z', rfl, hC, hyB, .ref x, rfl, x, dx3, _, rfl, hxB, x, dx3, e3, q0, p', C, z', rfl, hxB, rfl, _, rfl, iteNS rfl ?_⟩
        refine ⟨.str (mk q0), rfl, .str (mk p'), rfl, .ref x, rfl, _, rfl, x, q0, p', C, z', rfl, hSB, hpr, fun HC sC => ⟨true, rfl, iteF ?_⟩⟩
        -- in two parts
        have hPC := pool_keep hPB sC
        obtain ⟨pn1, pm1, hpC, _⟩ := id hPC
        refine ⟨.ref p, rfl, .str (mk p'), rfl, mk p', rfl, le_line (by rw [len_mk]; omega), _, _, rfl, rfl, p, _, rfl, hPC, by rw [len_mk]; omega, by rw [len_mk]; omega, fun n2 w2 d2 c1 c2 c3 c4 c5 => ?_⟩
        rw [len_mk] at c5
        obtain ⟨k, rfl⟩ : ∃ k : Nat, d2 = k := ⟨d2.toNat, by omega⟩
        have bq : But p HC (upd HC p (.lst [.int n2, .int w2])) := But.refl.put
        have hSD := (hSB.same sC).but hpC bq
        have hPD : Pool (upd HC p (.lst [.int n2, .int w2])) p := ⟨n2, w2, upd_same, c1, c2, c3⟩
        have b3D : But p H3 (upd HC p (.lst [.int n2, .int w2])) := fun b o' g1 hb => bq b o' g1 (sC _ _ (s3B _ _ hb))
        generalize upd HC p (.lst [.int n2, .int w2]) = HD at hSD hPD b3D
        refine ⟨.str (mk q0), rfl, fun t dt' nt ndt net => init_s (z0 := q0) (by omega) cz rfl nt ndt fun HE sE hTE => ⟨rfl, ?_⟩⟩
        obtain ⟨sesD, dxD, eD, prD, hprD, _, hxD, _⟩ := id hSD
        have xt : x ≠ t := ne_of_none hxD nt
        obtain ⟨_, dtE, etE, ptE, hptE, _, htE, _⟩ := id hTE
        obtain ⟨ru, hru, _⟩ := (hTE.1.run (p := p') (pr := q0) (pr' := z') rfl (by omega) hqr cp (by show 0 + _ ≤ _; omega)).ok k
        rw [List.nil_append, List.append_nil] at hru
        have htail : bst (p'.drop k) ru = some z' := by
          have := hpr
          rw [← List.take_append_drop k p', bst_app, hru] at this
          exact this
        have ct : ∀ c ∈ p'.take k, c ∈ st16 := fun c hc => cp c (List.mem_of_mem_take hc)
        have cd : ∀ c ∈ p'.drop k, c ∈ st16 := fun c hc => cp c (List.mem_of_mem_drop hc)
        have lt_ : (p'.take k).length ≤ 52 := by rw [List.length_take]; omega
        have ld_ : (p'.take k).length + (p'.drop k).length = p'.length := by rw [List.length_take, List.length_drop]; omega
        refine ⟨.ref t, rfl, t, dtE, _, rfl, htE, rfl, .str (mk p'), rfl, .int (k : Nat), rfl, _, rfl, mk p', rfl, le_line (by rw [len_mk]; omega), ?_⟩
        rw [cut_to]
        dsimp only [tNil]
        refine srun_ok (p := p'.take k) (pr' := ru) hTE rfl rfl ct (by show _ + 0 + _ ≤ _; omega) hru fun HF bF hTF => ?_
        rw [List.nil_append, nil_if] at hTF
        have hSF : SesAt a HF x q0 p' C := (hSD.same sE).butI htE (by show (5 : Nat) ≠ 3; decide) xt bF
        have hPF : Pool HF p := pool_but (pool_keep hPD sE) htE bF
        obtain ⟨_, dtF, etF, ptF, hptF, _, htF, _⟩ := id hTF
        refine ⟨.ref t, rfl, t, dtF, _, rfl, htF, rfl, .str (mk p'), rfl, .int (k : Nat), rfl, _, rfl, mk p', rfl, le_line (by rw [len_mk]; omega), ?_⟩
        rw [cut_from]
        dsimp only [tNil]
        refine srun_ok (p := p'.drop k) (pr' := z') hTF hru rfl cd (by omega) htail fun HI bI hTI => ?_
        rw [List.take_append_drop, nil_if] at hTI
        have hSI : SesAt a HI x q0 p' C := hSF.butI htF (by show (5 : Nat) ≠ 3; decide) xt bI
        have hPI : Pool HI p := pool_but hPF htF bI
        refine ⟨_, _, rfl, rfl, _, rfl, rfl, _, rfl, iteNS ?_ ?_⟩
        · refine congrArg V.int ?_
          have u1 : (puS p').length = (puS (p'.take k)).length + (puS (p'.drop k)).length := by rw [← List.length_append, ← pu_app, List.take_append_drop]
          have u2 : (tkS p').length = (tkS (p'.take k)).length + (tkS (p'.drop k)).length := by rw [← List.length_append, ← tk_app, List.take_append_drop]
          omega
        refine ⟨.ref t, rfl, t, q0, p', [], z', rfl, hTI, hpr, by omega, by omega, fun HJ sJ => ⟨.ref x, rfl, x, q0, p', C, z', rfl, hSI.same sJ, hpr, by omega, by omega, fun HK sK => ⟨rfl, _, rfl, iteNS rfl ?_⟩⟩⟩
        have sIK := sJ.trans sK
        have hSK := hSI.same sIK
        obtain ⟨_, dxK, eK, prK, hprK, _, hxK, hEK⟩ := id hSK
        refine ⟨.ref x, rfl, x, dxK, _, rfl, hxK, x, dxK, eK, q0, p', C, prK, rfl, hxK, rfl, .str (mk p'), rfl, .str (mk p'), _, rfl, any_ok okD, (fun e => no_ok okD e), fun pz epz _ _ HL e2 sL ne2 hE2 => ?_⟩
        have epz' : pz = p' := by injection epz with epz; exact (mk_inj epz).symm
        subst epz'
        have hEL := hEK.same sL
        obtain ⟨deL, heL⟩ := id hEL
        obtain ⟨de2, he2⟩ := id hE2
        refine ⟨eK, deL, _, _, rfl, heL, .base (.ins he2 T.cl_Effect hdd.cc_Effect hdd.hn hdd.hk hdd.mo_Effect), hdd.nf_Effect, eK, e2, _, _, _, _, _, _, rfl, hEL, hE2, ?_⟩
        rw [decide_eq_true ⟨rfl, rfl, rfl⟩]
        refine ⟨true, rfl, iteF ⟨pz, C, _, _, _, _, _, _, _, _, rfl, pool_keep (pool_keep hPI sIK) sL, hSK.same sL, ?_, fun b o' g1 g2 hb => ?_⟩⟩
        · rw [List.length_append] at lDC1 ⊢
          omega
        · have hb1 := b81 b o' g1 g2 hb
          have hb3 := b3D b o' g1 (s13 _ _ hb1)
          have nbt : b ≠ t := ne_of_none hb3 nt
          exact sL _ _ (sIK _ _ (bI b o' nbt (bF b o' nbt (sE _ _ hb3))))
      · rintro σ HG ⟨D, C, y1, y6, y7, y8, y9, y10, y11, y12, rfl, hPG, hSG, lDC, bG⟩
        refine ⟨_, _, _, _, _, _, _, _, _, _, _, _, rfl, sm0.trans fun b o hb => ?_⟩
        have nbp : b ≠ p := ne_of_none hb np
        have h8 := b68 b o nbp (s6 _ _ hb)
        exact bG b o nbp (ne_of_none h8 nx) h8
    · rintro σ H5 ⟨y1, y2, y3, y4, y5, y6, y7, y8, y9, y10, y11, y12, rfl, sm0⟩
      exact q _
end
end E94

set_option Elab.async false
set_option linter.all false
set_option maxRecDepth 100000
set_option maxHeartbeats 0
namespace E94
open PySem PySem.Spec PyProof.Rows L2 Own Exn Mth Vld
def ch0 : Hk.Ch := fun K => (decide (PySem.W.nsIn K mainGlobals "is_integer" = some (some (.ref (He.ga K "is_integer")))) && (Hk.fnB K (He.ga K "is_integer") "is_integer" && (Hk.clN K (He.ga K "is_integer") && Hk.dfN K (He.ga K "is_integer"))))
def ch1 : Hk.Ch := fun K => (decide (PySem.W.nsIn K mainGlobals "is_integer_within" = some (some (.ref (He.ga K "is_integer_within")))) && (Hk.fnB K (He.ga K "is_integer_within") "is_integer_within" && (Hk.clN K (He.ga K "is_integer_within") && Hk.dfN K (He.ga K "is_integer_within"))))
def ch2 : Hk.Ch := fun K => (decide (PySem.W.nsIn K mainGlobals "require_number_from" = some (some (.ref (He.ga K "require_number_from")))) && (Hk.fnB K (He.ga K "require_number_from") "require_number_from" && (Hk.clN K (He.ga K "require_number_from") && Hk.dfN K (He.ga K "require_number_from"))))
def ch3 : Hk.Ch := fun K => (decide (PySem.W.nsIn K mainGlobals "is_string_of" = some (some (.ref (He.ga K "is_string_of")))) && (Hk.fnB K (He.ga K "is_string_of") "is_string_of" && (Hk.clN K (He.ga K "is_string_of") && Hk.dfI K (He.ga K "is_string_of") 400)))
def ch4 : Hk.Ch := fun K => (decide (PySem.W.nsIn K mainGlobals "is_word" = some (some (.ref (He.ga K "is_word")))) && (Hk.fnB K (He.ga K "is_word") "is_word" && (Hk.clN K (He.ga K "is_word") && Hk.dfN K (He.ga K "is_word"))))
def ch5 : Hk.Ch := fun K => (decide (PySem.W.nsIn K mainGlobals "require_word" = some (some (.ref (He.ga K "require_word")))) && (Hk.fnB K (He.ga K "require_word") "require_word" && (Hk.clN K (He.ga K "require_word") && Hk.dfN K (He.ga K "require_word"))))
def ch6 : Hk.Ch := fun K => (decide (PySem.W.nsIn K mainGlobals "earliest_positions" = some (some (.ref (He.ga K "earliest_positions")))) && (Hk.fnB K (He.ga K "earliest_positions") "earliest_positions" && (Hk.clN K (He.ga K "earliest_positions") && Hk.dfN K (He.ga K "earliest_positions"))))
def ch7 : Hk.Ch := fun K => (decide (PySem.W.nsIn K mainGlobals "end_of" = some (some (.ref (He.ga K "end_of")))) && (Hk.fnB K (He.ga K "end_of") "end_of" && (Hk.clN K (He.ga K "end_of") && Hk.dfN K (He.ga K "end_of"))))
def ch8 : Hk.Ch := fun K => (decide (PySem.W.nsIn K mainGlobals "embeds" = some (some (.ref (He.ga K "embeds")))) && (Hk.fnB K (He.ga K "embeds") "embeds" && (Hk.clN K (He.ga K "embeds") && Hk.dfN K (He.ga K "embeds"))))
def ch9 : Hk.Ch := fun K => (decide (PySem.W.nsIn K mainGlobals "is_program" = some (some (.ref (He.ga K "is_program")))) && (Hk.fnB K (He.ga K "is_program") "is_program" && (Hk.clN K (He.ga K "is_program") && Hk.dfN K (He.ga K "is_program"))))
def ch10 : Hk.Ch := fun K => (decide (PySem.W.nsIn K mainGlobals "require_program" = some (some (.ref (He.ga K "require_program")))) && (Hk.fnB K (He.ga K "require_program") "require_program" && (Hk.clN K (He.ga K "require_program") && Hk.dfN K (He.ga K "require_program"))))
def ch11 : Hk.Ch := fun K => (decide (PySem.W.nsIn K mainGlobals "take_items" = some (some (.ref (He.ga K "take_items")))) && (Hk.fnB K (He.ga K "take_items") "take_items" && (Hk.clN K (He.ga K "take_items") && Hk.dfN K (He.ga K "take_items"))))
def ch12 : Hk.Ch := fun K => (decide (PySem.W.nsIn K mainGlobals "put_items" = some (some (.ref (He.ga K "put_items")))) && (Hk.fnB K (He.ga K "put_items") "put_items" && (Hk.clN K (He.ga K "put_items") && Hk.dfN K (He.ga K "put_items"))))
def ch13 : Hk.Ch := fun K => (decide (PySem.W.nsIn K mainGlobals "counts_before_takes" = some (some (.ref (He.ga K "counts_before_takes")))) && (Hk.fnB K (He.ga K "counts_before_takes") "counts_before_takes" && (Hk.clN K (He.ga K "counts_before_takes") && Hk.dfN K (He.ga K "counts_before_takes"))))
def ch14 : Hk.Ch := fun K => (decide (PySem.W.nsIn K mainGlobals "is_fitting_core" = some (some (.ref (He.ga K "is_fitting_core")))) && (Hk.fnB K (He.ga K "is_fitting_core") "is_fitting_core" && (Hk.clN K (He.ga K "is_fitting_core") && Hk.dfN K (He.ga K "is_fitting_core"))))
def ch15 : Hk.Ch := fun K => (decide (PySem.W.nsIn K mainGlobals "program_core" = some (some (.ref (He.ga K "program_core")))) && (Hk.fnB K (He.ga K "program_core") "program_core" && (Hk.clN K (He.ga K "program_core") && Hk.dfN K (He.ga K "program_core"))))
def ch16 : Hk.Ch := fun K => (decide (PySem.W.nsIn K mainGlobals "program_values" = some (some (.ref (He.ga K "program_values")))) && (Hk.fnB K (He.ga K "program_values") "program_values" && (Hk.clN K (He.ga K "program_values") && Hk.dfN K (He.ga K "program_values"))))
def ch17 : Hk.Ch := fun K => (decide (PySem.W.nsIn K mainGlobals "effect_result" = some (some (.ref (He.ga K "effect_result")))) && (Hk.fnB K (He.ga K "effect_result") "effect_result" && (Hk.clN K (He.ga K "effect_result") && Hk.dfN K (He.ga K "effect_result"))))
def ch18 : Hk.Ch := fun K => (decide (PySem.W.nsIn K mainGlobals "result_of_puts" = some (some (.ref (He.ga K "result_of_puts")))) && (Hk.fnB K (He.ga K "result_of_puts") "result_of_puts" && (Hk.clN K (He.ga K "result_of_puts") && Hk.dfN K (He.ga K "result_of_puts"))))
def ch19 : Hk.Ch := fun K => (decide (PySem.W.nsIn K mainGlobals "perform_best" = some (some (.ref (He.ga K "perform_best")))) && (Hk.fnB K (He.ga K "perform_best") "perform_best" && (Hk.clN K (He.ga K "perform_best") && Hk.dfN K (He.ga K "perform_best"))))
def ch20 : Hk.Ch := fun K => (decide (PySem.W.nsIn K mainGlobals "unlimited_result" = some (some (.ref (He.ga K "unlimited_result")))) && (Hk.fnB K (He.ga K "unlimited_result") "unlimited_result" && (Hk.clN K (He.ga K "unlimited_result") && Hk.dfN K (He.ga K "unlimited_result"))))
def ch21 : Hk.Ch := fun K => (decide (PySem.W.nsIn K mainGlobals "within_limit" = some (some (.ref (He.ga K "within_limit")))) && (Hk.fnB K (He.ga K "within_limit") "within_limit" && (Hk.clN K (He.ga K "within_limit") && Hk.dfN K (He.ga K "within_limit"))))
def ch22 : Hk.Ch := fun K => (decide (PySem.W.nsIn K mainGlobals "best_result" = some (some (.ref (He.ga K "best_result")))) && (Hk.fnB K (He.ga K "best_result") "best_result" && (Hk.clN K (He.ga K "best_result") && Hk.dfN K (He.ga K "best_result"))))
def ch23 : Hk.Ch := fun K => (decide (PySem.W.nsIn K mainGlobals "require_item" = some (some (.ref (He.ga K "require_item")))) && (Hk.fnB K (He.ga K "require_item") "require_item" && (Hk.clN K (He.ga K "require_item") && Hk.dfN K (He.ga K "require_item"))))
def ch24 : Hk.Ch := fun K => (decide (PySem.W.nsIn K mainGlobals "require_count" = some (some (.ref (He.ga K "require_count")))) && (Hk.fnB K (He.ga K "require_count") "require_count" && (Hk.clN K (He.ga K "require_count") && Hk.dfN K (He.ga K "require_count"))))
def ch25 : Hk.Ch := fun K => (decide (PySem.W.nsIn K mainGlobals "_law_pool" = some (some (.ref (He.ga K "_law_pool")))) && (Hk.fnB K (He.ga K "_law_pool") "_law_pool" && (Hk.clN K (He.ga K "_law_pool") && Hk.dfN K (He.ga K "_law_pool"))))
def ch26 : Hk.Ch := fun K => (decide (PySem.W.nsIn K mainGlobals "_law_draw" = some (some (.ref (He.ga K "_law_draw")))) && (Hk.fnB K (He.ga K "_law_draw") "_law_draw" && (Hk.clN K (He.ga K "_law_draw") && Hk.dfN K (He.ga K "_law_draw"))))
def ch27 : Hk.Ch := fun K => (decide (PySem.W.nsIn K mainGlobals "_law_letters" = some (some (.ref (He.ga K "_law_letters")))) && (Hk.fnB K (He.ga K "_law_letters") "_law_letters" && (Hk.clN K (He.ga K "_law_letters") && Hk.dfN K (He.ga K "_law_letters"))))
def ch28 : Hk.Ch := fun K => (decide (PySem.W.nsIn K mainGlobals "_law_items" = some (some (.ref (He.ga K "_law_items")))) && (Hk.fnB K (He.ga K "_law_items") "_law_items" && (Hk.clN K (He.ga K "_law_items") && Hk.dfN K (He.ga K "_law_items"))))
def ch29 : Hk.Ch := fun K => (decide (PySem.W.nsIn K mainGlobals "_law_moved" = some (some (.ref (He.ga K "_law_moved")))) && (Hk.fnB K (He.ga K "_law_moved") "_law_moved" && (Hk.clN K (He.ga K "_law_moved") && Hk.dfN K (He.ga K "_law_moved"))))
def ch30 : Hk.Ch := fun K => (decide (PySem.W.nsIn K mainGlobals "_law_shown" = some (some (.ref (He.ga K "_law_shown")))) && (Hk.fnB K (He.ga K "_law_shown") "_law_shown" && (Hk.clN K (He.ga K "_law_shown") && Hk.dfN K (He.ga K "_law_shown"))))
def ch31 : Hk.Ch := fun K => (decide (PySem.W.nsIn K mainGlobals "_law_counted" = some (some (.ref (He.ga K "_law_counted")))) && (Hk.fnB K (He.ga K "_law_counted") "_law_counted" && (Hk.clN K (He.ga K "_law_counted") && Hk.dfN K (He.ga K "_law_counted"))))
def ch32 : Hk.Ch := fun K => (decide (PySem.W.nsIn K mainGlobals "law" = some (some (.ref (He.ga K "law")))) && (Hk.fnB K (He.ga K "law") "law" && (Hk.clN K (He.ga K "law") && Hk.dfN K (He.ga K "law"))))
def ch33 : Hk.Ch := fun K => Hk.conS K "ITEMS" "abcdefgh"
def ch34 : Hk.Ch := fun K => Hk.conI K "MAX_LENGTH" 400
def ch35 : Hk.Ch := fun K => Hk.conS K "STEPS" "abcdefghABCDEFGH"
def ch36 : Hk.Ch := fun K => decide (PySem.W.nsIn K mainGlobals "isinstance" = some none)
def ch37 : Hk.Ch := fun K => decide (PySem.W.nsIn K mainGlobals "int" = some none)
def ch38 : Hk.Ch := fun K => decide (PySem.W.nsIn K mainGlobals "bool" = some none)
def ch39 : Hk.Ch := fun K => decide (PySem.W.nsIn K mainGlobals "str" = some none)
def ch40 : Hk.Ch := fun K => decide (PySem.W.nsIn K mainGlobals "len" = some none)
def ch41 : Hk.Ch := fun K => decide (PySem.W.nsIn K mainGlobals "min" = some none)
def ch42 : Hk.Ch := fun K => decide (PySem.W.nsIn K mainGlobals "max" = some none)
def ch43 : Hk.Ch := fun K => decide (PySem.W.nsIn K mainGlobals "range" = some none)
def ch44 : Hk.Ch := fun K => decide (PySem.W.nsIn K mainGlobals "list" = some none)
def ch45 : Hk.Ch := fun K => decide (PySem.W.nsIn K mainGlobals "repr" = some none)
def ch46 : Hk.Ch := fun K => decide (PySem.W.nsIn K mainGlobals "classmethod" = some none)
def ch47 : Hk.Ch := fun K => decide (PySem.W.nsIn K mainGlobals "staticmethod" = some none)
def ch48 : Hk.Ch := fun K => decide (PySem.W.nsIn K mainGlobals "property" = some none)
def ch49 : Hk.Ch := fun K => decide (PySem.W.nsIn K mainGlobals "enumerate" = some none)
def ch50 : Hk.Ch := fun K => decide (PySem.W.nsIn K mainGlobals "super" = some none)
def ch51 : Hk.Ch := fun K => decide (PySem.W.nsIn K mainGlobals "LeakError" = some (some (.ref (He.ga K "LeakError"))))
def ch52 : Hk.Ch := fun K => (decide (PySem.W.nsIn K mainGlobals "InvalidWord" = some (some (.ref (He.ga K "InvalidWord")))) && (decide (PySem.W.findIn K (.ref (He.ga K "InvalidWord")) "__init__" = some (some (.ref (He.ma K (He.ga K "InvalidWord") "__init__")))) && ((Hk.fnB K (He.ma K (He.ga K "InvalidWord") "__init__") "InvalidWord.__init__" && (Hk.clN K (He.ma K (He.ga K "InvalidWord") "__init__") && (Hk.dfN K (He.ma K (He.ga K "InvalidWord") "__init__") && Hk.kwN K (He.ma K (He.ga K "InvalidWord") "__init__")))) && ecB K (He.ga K "InvalidWord") (He.ma K (He.ga K "InvalidWord") "__init__") "value" [.type "ValueError", .type "Exception", .type "BaseException", .type "object"] "ValueError.__new__")))
def ch53 : Hk.Ch := fun K => (decide (PySem.W.nsIn K mainGlobals "InvalidProgram" = some (some (.ref (He.ga K "InvalidProgram")))) && (decide (PySem.W.findIn K (.ref (He.ga K "InvalidProgram")) "__init__" = some (some (.ref (He.ma K (He.ga K "InvalidProgram") "__init__")))) && ((Hk.fnB K (He.ma K (He.ga K "InvalidProgram") "__init__") "InvalidProgram.__init__" && (Hk.clN K (He.ma K (He.ga K "InvalidProgram") "__init__") && (Hk.dfN K (He.ma K (He.ga K "InvalidProgram") "__init__") && Hk.kwN K (He.ma K (He.ga K "InvalidProgram") "__init__")))) && ecB K (He.ga K "InvalidProgram") (He.ma K (He.ga K "InvalidProgram") "__init__") "value" [.type "ValueError", .type "Exception", .type "BaseException", .type "object"] "ValueError.__new__")))
def ch54 : Hk.Ch := fun K => (decide (PySem.W.nsIn K mainGlobals "InvalidCore" = some (some (.ref (He.ga K "InvalidCore")))) && (decide (PySem.W.findIn K (.ref (He.ga K "InvalidCore")) "__init__" = some (some (.ref (He.ma K (He.ga K "InvalidCore") "__init__")))) && ((Hk.fnB K (He.ma K (He.ga K "InvalidCore") "__init__") "InvalidCore.__init__" && (Hk.clN K (He.ma K (He.ga K "InvalidCore") "__init__") && (Hk.dfN K (He.ma K (He.ga K "InvalidCore") "__init__") && Hk.kwN K (He.ma K (He.ga K "InvalidCore") "__init__")))) && ecB K (He.ga K "InvalidCore") (He.ma K (He.ga K "InvalidCore") "__init__") "value" [.type "ValueError", .type "Exception", .type "BaseException", .type "object"] "ValueError.__new__")))
def ch55 : Hk.Ch := fun K => (decide (PySem.W.nsIn K mainGlobals "InvalidNumber" = some (some (.ref (He.ga K "InvalidNumber")))) && (decide (PySem.W.findIn K (.ref (He.ga K "InvalidNumber")) "__init__" = some (some (.ref (He.ma K (He.ga K "InvalidNumber") "__init__")))) && ((Hk.fnB K (He.ma K (He.ga K "InvalidNumber") "__init__") "InvalidNumber.__init__" && (Hk.clN K (He.ma K (He.ga K "InvalidNumber") "__init__") && (Hk.dfN K (He.ma K (He.ga K "InvalidNumber") "__init__") && Hk.kwN K (He.ma K (He.ga K "InvalidNumber") "__init__")))) && ecB K (He.ga K "InvalidNumber") (He.ma K (He.ga K "InvalidNumber") "__init__") "value" [.type "ValueError", .type "Exception", .type "BaseException", .type "object"] "ValueError.__new__")))
def ch56 : Hk.Ch := fun K => (decide (PySem.W.nsIn K mainGlobals "Missing" = some (some (.ref (He.ga K "Missing")))) && (decide (PySem.W.findIn K (.ref (He.ga K "Missing")) "__init__" = some (some (.ref (He.ma K (He.ga K "Missing") "__init__")))) && ((Hk.fnB K (He.ma K (He.ga K "Missing") "__init__") "Missing.__init__" && (Hk.clN K (He.ma K (He.ga K "Missing") "__init__") && (Hk.dfN K (He.ma K (He.ga K "Missing") "__init__") && Hk.kwN K (He.ma K (He.ga K "Missing") "__init__")))) && ecB K (He.ga K "Missing") (He.ma K (He.ga K "Missing") "__init__") "item" [.type "LookupError", .type "Exception", .type "BaseException", .type "object"] "LookupError.__new__")))
def ch57 : Hk.Ch := fun K => (decide (PySem.W.nsIn K mainGlobals "LimitExceeded" = some (some (.ref (He.ga K "LimitExceeded")))) && (decide (PySem.W.findIn K (.ref (He.ga K "LimitExceeded")) "__init__" = some (some (.ref (He.ma K (He.ga K "LimitExceeded") "__init__")))) && ((Hk.fnB K (He.ma K (He.ga K "LimitExceeded") "__init__") "LimitExceeded.__init__" && (Hk.clN K (He.ma K (He.ga K "LimitExceeded") "__init__") && (Hk.dfN K (He.ma K (He.ga K "LimitExceeded") "__init__") && Hk.kwN K (He.ma K (He.ga K "LimitExceeded") "__init__")))) && ecB K (He.ga K "LimitExceeded") (He.ma K (He.ga K "LimitExceeded") "__init__") "limit" [.type "OverflowError", .type "ArithmeticError", .type "Exception", .type "BaseException", .type "object"] "OverflowError.__new__")))
def ch58 : Hk.Ch := fun K => (decide (PySem.W.nsIn K mainGlobals "Failed" = some (some (.ref (He.ga K "Failed")))) && (decide (PySem.W.findIn K (.ref (He.ga K "Failed")) "__init__" = some (some (.ref (He.ma K (He.ga K "Failed") "__init__")))) && ((Hk.fnB K (He.ma K (He.ga K "Failed") "__init__") "Failed.__init__" && (Hk.clN K (He.ma K (He.ga K "Failed") "__init__") && (Hk.dfN K (He.ma K (He.ga K "Failed") "__init__") && Hk.kwN K (He.ma K (He.ga K "Failed") "__init__")))) && ecB K (He.ga K "Failed") (He.ma K (He.ga K "Failed") "__init__") "index" [.type "RuntimeError", .type "Exception", .type "BaseException", .type "object"] "RuntimeError.__new__")))
def ch59 : Hk.Ch := fun K => (decide (PySem.W.nsIn K mainGlobals "NothingToUndo" = some (some (.ref (He.ga K "NothingToUndo")))) && (decide (PySem.W.findIn K (.ref (He.ga K "NothingToUndo")) "__init__" = some (some (.ref (He.ma K (He.ga K "NothingToUndo") "__init__")))) && ((Hk.fnB K (He.ma K (He.ga K "NothingToUndo") "__init__") "NothingToUndo.__init__" && (Hk.clN K (He.ma K (He.ga K "NothingToUndo") "__init__") && (Hk.dfN K (He.ma K (He.ga K "NothingToUndo") "__init__") && Hk.kwN K (He.ma K (He.ga K "NothingToUndo") "__init__")))) && ecB K (He.ga K "NothingToUndo") (He.ma K (He.ga K "NothingToUndo") "__init__") "count" [.type "RuntimeError", .type "Exception", .type "BaseException", .type "object"] "RuntimeError.__new__")))
def ch60 : Hk.Ch := fun K => (decide (PySem.W.nsIn K mainGlobals "Effect" = some (some (.ref (He.ga K "Effect")))) && (PySem.W.plainGet K (He.ga K "Effect") Str.empty && (PySem.W.hasDictIn K (He.ga K "Effect") && (PySem.W.plainOver K (He.ga K "Effect") && (decide (PySem.W.findIn K (.ref (He.ga K "Effect")) "__setattr__" = some (some (.builtin "object.__setattr__"))) && (PySem.W.makesIn K (He.ga K "Effect") && (PySem.W.keepIn K (.ref (He.ga K "Effect")) && (PySem.W.readsIn K (He.ga K "Effect") (.type "type") && (decide (PySem.W.specialIn K (.ref (He.ga K "Effect")) "__getattribute__" = some (some (.builtin "type.__getattribute__"))) && (decide (PySem.W.findIn K (.ref (He.ga K "Effect")) "taken" = some none) && (decide (PySem.W.findIn K (.ref (He.ga K "Effect")) "given" = some none) && decide (PySem.W.findIn K (.ref (He.ga K "Effect")) "needed" = some none))))))))))))
def ch61 : Hk.Ch := fun K => (decide (PySem.W.nsIn K mainGlobals "Queue" = some (some (.ref (He.ga K "Queue")))) && (PySem.W.plainGet K (He.ga K "Queue") Str.empty && (PySem.W.hasDictIn K (He.ga K "Queue") && (PySem.W.plainOver K (He.ga K "Queue") && (decide (PySem.W.findIn K (.ref (He.ga K "Queue")) "__setattr__" = some (some (.builtin "object.__setattr__"))) && (PySem.W.makesIn K (He.ga K "Queue") && (PySem.W.keepIn K (.ref (He.ga K "Queue")) && (PySem.W.readsIn K (He.ga K "Queue") (.type "type") && (decide (PySem.W.specialIn K (.ref (He.ga K "Queue")) "__getattribute__" = some (some (.builtin "type.__getattribute__"))) && decide (PySem.W.findIn K (.ref (He.ga K "Queue")) "content" = some none))))))))))
def ch62 : Hk.Ch := fun K => (decide (PySem.W.nsIn K mainGlobals "LeakyQueue" = some (some (.ref (He.ga K "LeakyQueue")))) && (PySem.W.plainGet K (He.ga K "LeakyQueue") Str.empty && (PySem.W.hasDictIn K (He.ga K "LeakyQueue") && (PySem.W.plainOver K (He.ga K "LeakyQueue") && (decide (PySem.W.findIn K (.ref (He.ga K "LeakyQueue")) "__setattr__" = some (some (.builtin "object.__setattr__"))) && (PySem.W.makesIn K (He.ga K "LeakyQueue") && (PySem.W.keepIn K (.ref (He.ga K "LeakyQueue")) && (PySem.W.readsIn K (He.ga K "LeakyQueue") (.type "type") && (decide (PySem.W.specialIn K (.ref (He.ga K "LeakyQueue")) "__getattribute__" = some (some (.builtin "type.__getattribute__"))) && decide (PySem.W.findIn K (.ref (He.ga K "LeakyQueue")) "content" = some none))))))))))
def ch63 : Hk.Ch := fun K => (decide (PySem.W.nsIn K mainGlobals "Session" = some (some (.ref (He.ga K "Session")))) && (PySem.W.plainGet K (He.ga K "Session") Str.empty && (PySem.W.hasDictIn K (He.ga K "Session") && (PySem.W.plainOver K (He.ga K "Session") && (decide (PySem.W.findIn K (.ref (He.ga K "Session")) "__setattr__" = some (some (.builtin "object.__setattr__"))) && (PySem.W.makesIn K (He.ga K "Session") && (PySem.W.keepIn K (.ref (He.ga K "Session")) && (PySem.W.readsIn K (He.ga K "Session") (.type "type") && (decide (PySem.W.specialIn K (.ref (He.ga K "Session")) "__getattribute__" = some (some (.builtin "type.__getattribute__"))) && (decide (PySem.W.findIn K (.ref (He.ga K "Session")) "initial" = some none) && (decide (PySem.W.findIn K (.ref (He.ga K "Session")) "done" = some none) && (decide (PySem.W.findIn K (.ref (He.ga K "Session")) "cancelled" = some none) && (decide (PySem.W.findIn K (.ref (He.ga K "Session")) "present" = some none) && decide (PySem.W.findIn K (.ref (He.ga K "Session")) "reached" = some none))))))))))))))
def ch64 : Hk.Ch := fun K => Hk.valB K (He.ga K "Effect") "MAX_ITEMS" 400
def ch65 : Hk.Ch := fun K => (decide (PySem.W.findIn K (.ref (He.ga K "Effect")) "__init__" = some (some (.ref (He.ma K (He.ga K "Effect") "__init__")))) && (PySem.W.isFn K (.ref (He.ma K (He.ga K "Effect") "__init__")) && (Hk.fnB K (He.ma K (He.ga K "Effect") "__init__") "Effect.__init__" && (Hk.clN K (He.ma K (He.ga K "Effect") "__init__") && Hk.dfN K (He.ma K (He.ga K "Effect") "__init__")))))
def ch66 : Hk.Ch := fun K => (Hk.clsB K (He.ga K "Effect") "of" "classmethod.__get__" && (Hk.recB K (Hk.clsA K (He.ga K "Effect") "of") "classmethod" && (PySem.W.fnIn K (Hk.recA K (Hk.clsA K (He.ga K "Effect") "of") "classmethod") && (Hk.fnB K (Hk.recA K (Hk.clsA K (He.ga K "Effect") "of") "classmethod") "Effect.of" && (Hk.clN K (Hk.recA K (Hk.clsA K (He.ga K "Effect") "of") "classmethod") && Hk.dfN K (Hk.recA K (Hk.clsA K (He.ga K "Effect") "of") "classmethod"))))))
def ch67 : Hk.Ch := fun K => (Hk.clsB K (He.ga K "Effect") "is_core" "staticmethod.__get__" && (Hk.recB K (Hk.clsA K (He.ga K "Effect") "is_core") "staticmethod" && (Hk.fnB K (Hk.recA K (Hk.clsA K (He.ga K "Effect") "is_core") "staticmethod") "Effect.is_core" && (Hk.clN K (Hk.recA K (Hk.clsA K (He.ga K "Effect") "is_core") "staticmethod") && Hk.dfN K (Hk.recA K (Hk.clsA K (He.ga K "Effect") "is_core") "staticmethod")))))
def ch68 : Hk.Ch := fun K => (decide (PySem.W.findIn K (.ref (He.ga K "Effect")) "apply" = some (some (.ref (He.ma K (He.ga K "Effect") "apply")))) && (PySem.W.isFn K (.ref (He.ma K (He.ga K "Effect") "apply")) && (Hk.fnB K (He.ma K (He.ga K "Effect") "apply") "Effect.apply" && (Hk.clN K (He.ma K (He.ga K "Effect") "apply") && Hk.dfN K (He.ma K (He.ga K "Effect") "apply")))))
def ch69 : Hk.Ch := fun K => (decide (PySem.W.findIn K (.ref (He.ga K "Effect")) "__eq__" = some (some (.ref (He.ma K (He.ga K "Effect") "__eq__")))) && (PySem.W.isFn K (.ref (He.ma K (He.ga K "Effect") "__eq__")) && (Hk.fnB K (He.ma K (He.ga K "Effect") "__eq__") "Effect.__eq__" && (Hk.clN K (He.ma K (He.ga K "Effect") "__eq__") && Hk.dfN K (He.ma K (He.ga K "Effect") "__eq__")))))
def ch70 : Hk.Ch := fun K => (decide (PySem.W.findIn K (.ref (He.ga K "Effect")) "__repr__" = some (some (.ref (He.ma K (He.ga K "Effect") "__repr__")))) && (PySem.W.isFn K (.ref (He.ma K (He.ga K "Effect") "__repr__")) && (Hk.fnB K (He.ma K (He.ga K "Effect") "__repr__") "Effect.__repr__" && (Hk.clN K (He.ma K (He.ga K "Effect") "__repr__") && Hk.dfN K (He.ma K (He.ga K "Effect") "__repr__")))))
def ch71 : Hk.Ch := fun K => (decide (PySem.W.findIn K (.ref (He.ga K "Queue")) "__init__" = some (some (.ref (He.ma K (He.ga K "Queue") "__init__")))) && (PySem.W.isFn K (.ref (He.ma K (He.ga K "Queue") "__init__")) && (Hk.fnB K (He.ma K (He.ga K "Queue") "__init__") "Queue.__init__" && (Hk.clN K (He.ma K (He.ga K "Queue") "__init__") && Hk.dfS K (He.ma K (He.ga K "Queue") "__init__") ""))))
def ch72 : Hk.Ch := fun K => (decide (PySem.W.findIn K (.ref (He.ga K "Queue")) "word" = some (some (.ref (He.ma K (He.ga K "Queue") "word")))) && (decide (PySem.W.specialIn K (.ref (He.ma K (He.ga K "Queue") "word")) "__get__" = some (some (.builtin "property.__get__"))) && (decide (PySem.W.takesIn K (.ref (He.ma K (He.ga K "Queue") "word")) = some true) && (Hk.recB K (He.ma K (He.ga K "Queue") "word") "property" && (Hk.fnB K (Hk.recA K (He.ma K (He.ga K "Queue") "word") "property") "Queue.word" && (Hk.clN K (Hk.recA K (He.ma K (He.ga K "Queue") "word") "property") && Hk.dfN K (Hk.recA K (He.ma K (He.ga K "Queue") "word") "property")))))))
def ch73 : Hk.Ch := fun K => (decide (PySem.W.findIn K (.ref (He.ga K "Queue")) "put" = some (some (.ref (He.ma K (He.ga K "Queue") "put")))) && (PySem.W.isFn K (.ref (He.ma K (He.ga K "Queue") "put")) && (Hk.fnB K (He.ma K (He.ga K "Queue") "put") "Queue.put" && (Hk.clN K (He.ma K (He.ga K "Queue") "put") && Hk.dfN K (He.ma K (He.ga K "Queue") "put")))))
def ch74 : Hk.Ch := fun K => (decide (PySem.W.findIn K (.ref (He.ga K "Queue")) "take" = some (some (.ref (He.ma K (He.ga K "Queue") "take")))) && (PySem.W.isFn K (.ref (He.ma K (He.ga K "Queue") "take")) && (Hk.fnB K (He.ma K (He.ga K "Queue") "take") "Queue.take" && (Hk.clN K (He.ma K (He.ga K "Queue") "take") && Hk.dfN K (He.ma K (He.ga K "Queue") "take")))))
def ch75 : Hk.Ch := fun K => (decide (PySem.W.findIn K (.ref (He.ga K "Queue")) "perform" = some (some (.ref (He.ma K (He.ga K "Queue") "perform")))) && (PySem.W.isFn K (.ref (He.ma K (He.ga K "Queue") "perform")) && (Hk.fnB K (He.ma K (He.ga K "Queue") "perform") "Queue.perform" && (Hk.clN K (He.ma K (He.ga K "Queue") "perform") && Hk.dfN K (He.ma K (He.ga K "Queue") "perform")))))
def ch76 : Hk.Ch := fun K => (decide (PySem.W.findIn K (.ref (He.ga K "Queue")) "run" = some (some (.ref (He.ma K (He.ga K "Queue") "run")))) && (PySem.W.isFn K (.ref (He.ma K (He.ga K "Queue") "run")) && (Hk.fnB K (He.ma K (He.ga K "Queue") "run") "Queue.run" && (Hk.clN K (He.ma K (He.ga K "Queue") "run") && Hk.dfN K (He.ma K (He.ga K "Queue") "run")))))
def ch77 : Hk.Ch := fun K => (decide (PySem.W.findIn K (.ref (He.ga K "Queue")) "clone" = some (some (.ref (He.ma K (He.ga K "Queue") "clone")))) && (PySem.W.isFn K (.ref (He.ma K (He.ga K "Queue") "clone")) && (Hk.fnB K (He.ma K (He.ga K "Queue") "clone") "Queue.clone" && (Hk.clN K (He.ma K (He.ga K "Queue") "clone") && Hk.dfN K (He.ma K (He.ga K "Queue") "clone")))))
def ch78 : Hk.Ch := fun K => (PySem.W.isClsIn K (He.ga K "LeakyQueue") && (decide (PySem.W.mroIn K (He.ga K "LeakyQueue") (.ref (He.ga K "LeakyQueue")) = some true) && (decide (PySem.W.nsIn K cStatics "thirdparty.any" = some none) && (decide (PySem.W.ks_superIn K (He.ga K "LeakyQueue") (He.ga K "LeakyQueue") "__init__" = some (some (.ref (He.ma K (He.ga K "Queue") "__init__")))) && (decide (PySem.W.typeIn K (.ref (He.ma K (He.ga K "Queue") "__init__")) = some (.type "function")) && (PySem.W.fnIn K (He.ma K (He.ga K "Queue") "__init__") && (decide (PySem.W.findIn K (.ref (He.ga K "LeakyQueue")) "__init__" = some (some (.ref (He.ma K (He.ga K "LeakyQueue") "__init__")))) && (PySem.W.isFn K (.ref (He.ma K (He.ga K "LeakyQueue") "__init__")) && (Hk.fnB K (He.ma K (He.ga K "LeakyQueue") "__init__") "LeakyQueue.__init__" && (Hk.clS K (He.ma K (He.ga K "LeakyQueue") "__init__") (He.ga K "LeakyQueue") && (Hk.cdS K (He.ma K (He.ga K "LeakyQueue") "__init__") && Hk.dfS K (He.ma K (He.ga K "LeakyQueue") "__init__") "")))))))))))
def ch79 : Hk.Ch := fun K => (decide (PySem.W.findIn K (.ref (He.ga K "LeakyQueue")) "word" = some (some (.ref (He.ma K (He.ga K "LeakyQueue") "word")))) && (decide (PySem.W.specialIn K (.ref (He.ma K (He.ga K "LeakyQueue") "word")) "__get__" = some (some (.builtin "property.__get__"))) && (decide (PySem.W.takesIn K (.ref (He.ma K (He.ga K "LeakyQueue") "word")) = some true) && (Hk.recB K (He.ma K (He.ga K "LeakyQueue") "word") "property" && (Hk.fnB K (Hk.recA K (He.ma K (He.ga K "LeakyQueue") "word") "property") "LeakyQueue.word" && (Hk.clN K (Hk.recA K (He.ma K (He.ga K "LeakyQueue") "word") "property") && Hk.dfN K (Hk.recA K (He.ma K (He.ga K "LeakyQueue") "word") "property")))))))
def ch80 : Hk.Ch := fun K => (PySem.W.isClsIn K (He.ga K "LeakyQueue") && (decide (PySem.W.mroIn K (He.ga K "LeakyQueue") (.ref (He.ga K "LeakyQueue")) = some true) && (decide (PySem.W.nsIn K cStatics "thirdparty.any" = some none) && (decide (PySem.W.ks_superIn K (He.ga K "LeakyQueue") (He.ga K "LeakyQueue") "put" = some (some (.ref (He.ma K (He.ga K "Queue") "put")))) && (decide (PySem.W.typeIn K (.ref (He.ma K (He.ga K "Queue") "put")) = some (.type "function")) && (PySem.W.fnIn K (He.ma K (He.ga K "Queue") "put") && (decide (PySem.W.findIn K (.ref (He.ga K "LeakyQueue")) "put" = some (some (.ref (He.ma K (He.ga K "LeakyQueue") "put")))) && (PySem.W.isFn K (.ref (He.ma K (He.ga K "LeakyQueue") "put")) && (Hk.fnB K (He.ma K (He.ga K "LeakyQueue") "put") "LeakyQueue.put" && (Hk.clS K (He.ma K (He.ga K "LeakyQueue") "put") (He.ga K "LeakyQueue") && (Hk.cdS K (He.ma K (He.ga K "LeakyQueue") "put") && Hk.dfN K (He.ma K (He.ga K "LeakyQueue") "put"))))))))))))
def ch81 : Hk.Ch := fun K => (decide (PySem.W.findIn K (.ref (He.ga K "LeakyQueue")) "take" = some (some (.ref (He.ma K (He.ga K "LeakyQueue") "take")))) && (PySem.W.isFn K (.ref (He.ma K (He.ga K "LeakyQueue") "take")) && (Hk.fnB K (He.ma K (He.ga K "LeakyQueue") "take") "LeakyQueue.take" && (Hk.clN K (He.ma K (He.ga K "LeakyQueue") "take") && Hk.dfN K (He.ma K (He.ga K "LeakyQueue") "take")))))
def ch82 : Hk.Ch := fun K => (PySem.W.isClsIn K (He.ga K "LeakyQueue") && (decide (PySem.W.mroIn K (He.ga K "LeakyQueue") (.ref (He.ga K "LeakyQueue")) = some true) && (decide (PySem.W.nsIn K cStatics "thirdparty.any" = some none) && (decide (PySem.W.ks_superIn K (He.ga K "LeakyQueue") (He.ga K "LeakyQueue") "run" = some (some (.ref (He.ma K (He.ga K "Queue") "run")))) && (decide (PySem.W.typeIn K (.ref (He.ma K (He.ga K "Queue") "run")) = some (.type "function")) && (PySem.W.fnIn K (He.ma K (He.ga K "Queue") "run") && (decide (PySem.W.findIn K (.ref (He.ga K "LeakyQueue")) "run" = some (some (.ref (He.ma K (He.ga K "LeakyQueue") "run")))) && (PySem.W.isFn K (.ref (He.ma K (He.ga K "LeakyQueue") "run")) && (Hk.fnB K (He.ma K (He.ga K "LeakyQueue") "run") "LeakyQueue.run" && (Hk.clS K (He.ma K (He.ga K "LeakyQueue") "run") (He.ga K "LeakyQueue") && (Hk.cdS K (He.ma K (He.ga K "LeakyQueue") "run") && Hk.dfN K (He.ma K (He.ga K "LeakyQueue") "run"))))))))))))
def ch83 : Hk.Ch := fun K => (decide (PySem.W.findIn K (.ref (He.ga K "LeakyQueue")) "clone" = some (some (.ref (He.ma K (He.ga K "LeakyQueue") "clone")))) && (PySem.W.isFn K (.ref (He.ma K (He.ga K "LeakyQueue") "clone")) && (Hk.fnB K (He.ma K (He.ga K "LeakyQueue") "clone") "LeakyQueue.clone" && (Hk.clN K (He.ma K (He.ga K "LeakyQueue") "clone") && Hk.dfN K (He.ma K (He.ga K "LeakyQueue") "clone")))))
def ch84 : Hk.Ch := fun K => (decide (PySem.W.findIn K (.ref (He.ga K "LeakyQueue")) "__len__" = some (some (.ref (He.ma K (He.ga K "LeakyQueue") "__len__")))) && (PySem.W.isFn K (.ref (He.ma K (He.ga K "LeakyQueue") "__len__")) && (Hk.fnB K (He.ma K (He.ga K "LeakyQueue") "__len__") "LeakyQueue.__len__" && (Hk.clN K (He.ma K (He.ga K "LeakyQueue") "__len__") && Hk.dfN K (He.ma K (He.ga K "LeakyQueue") "__len__")))))
def ch85 : Hk.Ch := fun K => (decide (PySem.W.findIn K (.ref (He.ga K "Session")) "__init__" = some (some (.ref (He.ma K (He.ga K "Session") "__init__")))) && (PySem.W.isFn K (.ref (He.ma K (He.ga K "Session") "__init__")) && (Hk.fnB K (He.ma K (He.ga K "Session") "__init__") "Session.__init__" && (Hk.clN K (He.ma K (He.ga K "Session") "__init__") && Hk.dfS K (He.ma K (He.ga K "Session") "__init__") ""))))
def ch86 : Hk.Ch := fun K => (decide (PySem.W.findIn K (.ref (He.ga K "Session")) "move" = some (some (.ref (He.ma K (He.ga K "Session") "move")))) && (PySem.W.isFn K (.ref (He.ma K (He.ga K "Session") "move")) && (Hk.fnB K (He.ma K (He.ga K "Session") "move") "Session.move" && (Hk.clN K (He.ma K (He.ga K "Session") "move") && Hk.dfN K (He.ma K (He.ga K "Session") "move")))))
def ch87 : Hk.Ch := fun K => (decide (PySem.W.findIn K (.ref (He.ga K "Session")) "word" = some (some (.ref (He.ma K (He.ga K "Session") "word")))) && (decide (PySem.W.specialIn K (.ref (He.ma K (He.ga K "Session") "word")) "__get__" = some (some (.builtin "property.__get__"))) && (decide (PySem.W.takesIn K (.ref (He.ma K (He.ga K "Session") "word")) = some true) && (Hk.recB K (He.ma K (He.ga K "Session") "word") "property" && (Hk.fnB K (Hk.recA K (He.ma K (He.ga K "Session") "word") "property") "Session.word" && (Hk.clN K (Hk.recA K (He.ma K (He.ga K "Session") "word") "property") && Hk.dfN K (Hk.recA K (He.ma K (He.ga K "Session") "word") "property")))))))
def ch88 : Hk.Ch := fun K => (decide (PySem.W.findIn K (.ref (He.ga K "Session")) "program" = some (some (.ref (He.ma K (He.ga K "Session") "program")))) && (decide (PySem.W.specialIn K (.ref (He.ma K (He.ga K "Session") "program")) "__get__" = some (some (.builtin "property.__get__"))) && (decide (PySem.W.takesIn K (.ref (He.ma K (He.ga K "Session") "program")) = some true) && (Hk.recB K (He.ma K (He.ga K "Session") "program") "property" && (Hk.fnB K (Hk.recA K (He.ma K (He.ga K "Session") "program") "property") "Session.program" && (Hk.clN K (Hk.recA K (He.ma K (He.ga K "Session") "program") "property") && Hk.dfN K (Hk.recA K (He.ma K (He.ga K "Session") "program") "property")))))))
def ch89 : Hk.Ch := fun K => (decide (PySem.W.findIn K (.ref (He.ga K "Session")) "effect" = some (some (.ref (He.ma K (He.ga K "Session") "effect")))) && (decide (PySem.W.specialIn K (.ref (He.ma K (He.ga K "Session") "effect")) "__get__" = some (some (.builtin "property.__get__"))) && (decide (PySem.W.takesIn K (.ref (He.ma K (He.ga K "Session") "effect")) = some true) && (Hk.recB K (He.ma K (He.ga K "Session") "effect") "property" && (Hk.fnB K (Hk.recA K (He.ma K (He.ga K "Session") "effect") "property") "Session.effect" && (Hk.clN K (Hk.recA K (He.ma K (He.ga K "Session") "effect") "property") && Hk.dfN K (Hk.recA K (He.ma K (He.ga K "Session") "effect") "property")))))))
def ch90 : Hk.Ch := fun K => (decide (PySem.W.findIn K (.ref (He.ga K "Session")) "run" = some (some (.ref (He.ma K (He.ga K "Session") "run")))) && (PySem.W.isFn K (.ref (He.ma K (He.ga K "Session") "run")) && (Hk.fnB K (He.ma K (He.ga K "Session") "run") "Session.run" && (Hk.clN K (He.ma K (He.ga K "Session") "run") && Hk.dfN K (He.ma K (He.ga K "Session") "run")))))
def ch91 : Hk.Ch := fun K => (decide (PySem.W.findIn K (.ref (He.ga K "Session")) "undo" = some (some (.ref (He.ma K (He.ga K "Session") "undo")))) && (PySem.W.isFn K (.ref (He.ma K (He.ga K "Session") "undo")) && (Hk.fnB K (He.ma K (He.ga K "Session") "undo") "Session.undo" && (Hk.clN K (He.ma K (He.ga K "Session") "undo") && Hk.dfI K (He.ma K (He.ga K "Session") "undo") 1))))
def ch92 : Hk.Ch := fun K => (decide (PySem.W.findIn K (.ref (He.ga K "Session")) "redo" = some (some (.ref (He.ma K (He.ga K "Session") "redo")))) && (PySem.W.isFn K (.ref (He.ma K (He.ga K "Session") "redo")) && (Hk.fnB K (He.ma K (He.ga K "Session") "redo") "Session.redo" && (Hk.clN K (He.ma K (He.ga K "Session") "redo") && Hk.dfI K (He.ma K (He.ga K "Session") "redo") 1))))
def ch93 : Hk.Ch := fun K => (decide (PySem.W.findIn K (.ref (He.ga K "Session")) "__eq__" = some (some (.ref (He.ma K (He.ga K "Session") "__eq__")))) && (PySem.W.isFn K (.ref (He.ma K (He.ga K "Session") "__eq__")) && (Hk.fnB K (He.ma K (He.ga K "Session") "__eq__") "Session.__eq__" && (Hk.clN K (He.ma K (He.ga K "Session") "__eq__") && Hk.dfN K (He.ma K (He.ga K "Session") "__eq__")))))
def ch94 : Hk.Ch := fun K => (decide (PySem.W.findIn K (.ref (He.ga K "Session")) "__len__" = some (some (.ref (He.ma K (He.ga K "Session") "__len__")))) && (PySem.W.isFn K (.ref (He.ma K (He.ga K "Session") "__len__")) && (Hk.fnB K (He.ma K (He.ga K "Session") "__len__") "Session.__len__" && (Hk.clN K (He.ma K (He.ga K "Session") "__len__") && Hk.dfN K (He.ma K (He.ga K "Session") "__len__")))))
def ch95 : Hk.Ch := fun K => (decide (PySem.W.findIn K (.ref (He.ga K "Session")) "__repr__" = some (some (.ref (He.ma K (He.ga K "Session") "__repr__")))) && (PySem.W.isFn K (.ref (He.ma K (He.ga K "Session") "__repr__")) && (Hk.fnB K (He.ma K (He.ga K "Session") "__repr__") "Session.__repr__" && (Hk.clN K (He.ma K (He.ga K "Session") "__repr__") && Hk.dfN K (He.ma K (He.ga K "Session") "__repr__")))))
def ch96 : Hk.Ch := fun K => decide (PySem.W.findIn K (.ref (He.ga K "LeakyQueue")) "perform" = some (some (.ref (He.ma K (He.ga K "Queue") "perform"))))
def ch97 : Hk.Ch := fun K => decide (PySem.W.specialIn K (.builtin "object.__class__") "__get__" = some (some (.builtin "getset_descriptor.__get__")))
def ch98 : Hk.Ch := fun K => decide (PySem.W.takesIn K (.builtin "object.__class__") = some true)
def ch99 : Hk.Ch := fun K => decide (PySem.W.exmOne K (.ref (He.ga K "Failed")) (.ref (He.ga K "Failed")) = some true)
def ch100 : Hk.Ch := fun K => decide (PySem.W.exmOne K (.ref (He.ga K "NothingToUndo")) (.ref (He.ga K "NothingToUndo")) = some true)
def ch101 : Hk.Ch := fun K => decide (PySem.W.exmOne K (.ref (He.ga K "NothingToUndo")) (.ref (He.ga K "Failed")) = some false)
def ch102 : Hk.Ch := fun K => decide (PySem.W.kitOne K (.ref (He.ga K "Effect")) (.ref (He.ga K "Effect")) = some true)
def ch103 : Hk.Ch := fun K => decide (PySem.W.kitOne K (.ref (He.ga K "Session")) (.ref (He.ga K "Session")) = some true)
def ch104 : Hk.Ch := fun K => decide (PySem.W.notFirst K (He.ga K "Effect") (.ref (He.ga K "Effect")) = true)
def ch105 : Hk.Ch := fun K => decide (PySem.W.findIn K (.ref (He.ga K "Effect")) "__class__" = some (some (.builtin "object.__class__")))
def ch106 : Hk.Ch := fun K => decide (PySem.W.mroIn K (He.ga K "Effect") (.type "object") = some true)
def ch107 : Hk.Ch := fun K => decide (PySem.W.exmAny K (.ref (He.ga K "Missing")) [.ref (He.ga K "Missing"), .ref (He.ga K "LimitExceeded")] = some true)
def ch108 : Hk.Ch := fun K => decide (PySem.W.exmAny K (.ref (He.ga K "LimitExceeded")) [.ref (He.ga K "Missing"), .ref (He.ga K "LimitExceeded")] = some true)
def ch109 : Hk.Ch := fun K => decide (PySem.W.notFirst K (He.ga K "Session") (.ref (He.ga K "Session")) = true)
def ch110 : Hk.Ch := fun K => decide (PySem.W.findIn K (.ref (He.ga K "Session")) "__class__" = some (some (.builtin "object.__class__")))
def ch111 : Hk.Ch := fun K => decide (PySem.W.mroIn K (He.ga K "Session") (.type "object") = some true)
def ch112 : Hk.Ch := fun K => decide (PySem.W.findIn K (.ref (He.ga K "Session")) "__ne__" = some (some (.builtin "object.__ne__")))
def cs0 : List Hk.Ch := [ch0, ch1, ch2, ch3, ch4, ch5, ch6, ch7, ch8, ch9, ch10, ch11, ch12, ch13, ch14, ch15, ch16, ch17, ch18, ch19, ch20, ch21, ch22, ch23, ch24, ch25, ch26, ch27, ch28, ch29]
def cs1 : List Hk.Ch := [ch30, ch31, ch32, ch33, ch34, ch35, ch36, ch37, ch38, ch39, ch40, ch41, ch42, ch43, ch44, ch45, ch46, ch47, ch48, ch49, ch50, ch51, ch52, ch53, ch54, ch55, ch56, ch57, ch58, ch59]
def cs2 : List Hk.Ch := [ch60, ch61, ch62, ch63, ch64, ch65, ch66, ch67, ch68, ch69, ch70, ch71, ch72, ch73, ch74, ch75, ch76, ch77, ch78, ch79, ch80, ch81, ch82, ch83, ch84, ch85, ch86, ch87, ch88, ch89]
def cs3 : List Hk.Ch := [ch90, ch91, ch92, ch93, ch94, ch95, ch96, ch97, ch98, ch99, ch100, ch101, ch102, ch103, ch104, ch105, ch106, ch107, ch108, ch109, ch110, ch111, ch112]
def cs_ : List Hk.Ch := cs0 ++ (cs1 ++ (cs2 ++ (cs3)))
def fn0 : Hk.Fn := (fun K => (He.ga K "is_integer"), Hk.exS "is_integer" "is_integer" s_is_integer)
def fn1 : Hk.Fn := (fun K => (He.ga K "is_integer_within"), Hk.exS "is_integer_within" "is_integer_within" s_is_integer_within)
def fn2 : Hk.Fn := (fun K => (He.ga K "require_number_from"), Hk.exS "require_number_from" "require_number_from" s_require_number_from)
def fn3 : Hk.Fn := (fun K => (He.ga K "is_string_of"), Hk.exS "is_string_of" "is_string_of" s_is_string_of)
def fn4 : Hk.Fn := (fun K => (He.ga K "is_word"), Hk.exS "is_word" "is_word" s_is_word)
def fn5 : Hk.Fn := (fun K => (He.ga K "require_word"), Hk.exS "require_word" "require_word" s_require_word)
def fn6 : Hk.Fn := (fun K => (He.ga K "earliest_positions"), Hk.exS "earliest_positions" "earliest_positions" s_earliest_positions)
def fn7 : Hk.Fn := (fun K => (He.ga K "end_of"), Hk.exS "end_of" "end_of" s_end_of)
def fn8 : Hk.Fn := (fun K => (He.ga K "embeds"), Hk.exS "embeds" "embeds" s_embeds)
def fn9 : Hk.Fn := (fun K => (He.ga K "is_program"), Hk.exS "is_program" "is_program" s_is_program)
def fn10 : Hk.Fn := (fun K => (He.ga K "require_program"), Hk.exS "require_program" "require_program" s_require_program)
def fn11 : Hk.Fn := (fun K => (He.ga K "take_items"), Hk.exS "take_items" "take_items" s_take_items)
def fn12 : Hk.Fn := (fun K => (He.ga K "put_items"), Hk.exS "put_items" "put_items" s_put_items)
def fn13 : Hk.Fn := (fun K => (He.ga K "counts_before_takes"), Hk.exS "counts_before_takes" "counts_before_takes" s_counts_before_takes)
def fn14 : Hk.Fn := (fun K => (He.ga K "is_fitting_core"), Hk.exS "is_fitting_core" "is_fitting_core" s_is_fitting_core)
def fn15 : Hk.Fn := (fun K => (He.ga K "program_core"), Hk.exS "program_core" "program_core" s_program_core)
def fn16 : Hk.Fn := (fun K => (He.ga K "program_values"), Hk.exS "program_values" "program_values" s_program_values)
def fn17 : Hk.Fn := (fun K => (He.ga K "effect_result"), Hk.exS "effect_result" "effect_result" s_effect_result)
def fn18 : Hk.Fn := (fun K => (He.ga K "result_of_puts"), Hk.exS "result_of_puts" "result_of_puts" s_result_of_puts)
def fn19 : Hk.Fn := (fun K => (He.ga K "perform_best"), Hk.exS "perform_best" "perform_best" s_perform_best)
def fn20 : Hk.Fn := (fun K => (He.ga K "unlimited_result"), Hk.exS "unlimited_result" "unlimited_result" s_unlimited_result)
def fn21 : Hk.Fn := (fun K => (He.ga K "within_limit"), Hk.exS "within_limit" "within_limit" s_within_limit)
def fn22 : Hk.Fn := (fun K => (He.ga K "best_result"), Hk.exS "best_result" "best_result" s_best_result)
def fn23 : Hk.Fn := (fun K => (He.ga K "require_item"), Hk.exS "require_item" "require_item" s_require_item)
def fn24 : Hk.Fn := (fun K => (He.ga K "require_count"), Hk.exS "require_count" "require_count" s_require_count)
def fn25 : Hk.Fn := (fun K => (He.ga K "_law_pool"), Hk.exS "_law_pool" "_law_pool" s_Lpool)
def fn26 : Hk.Fn := (fun K => (He.ga K "_law_draw"), Hk.exS "_law_draw" "_law_draw" s_Ldraw)
def fn27 : Hk.Fn := (fun K => (He.ga K "_law_letters"), Hk.exS "_law_letters" "_law_letters" s_Lletters)
def fn28 : Hk.Fn := (fun K => (He.ga K "_law_items"), Hk.exS "_law_items" "_law_items" s_Litems)
def fn29 : Hk.Fn := (fun K => (He.ga K "_law_moved"), Hk.exS "_law_moved" "_law_moved" s_Lmoved)
def fn30 : Hk.Fn := (fun K => (He.ga K "_law_shown"), Hk.exS "_law_shown" "_law_shown" s_Lshown)
def fn31 : Hk.Fn := (fun K => (He.ga K "_law_counted"), Hk.exS "_law_counted" "_law_counted" s_Lcounted)
def fn32 : Hk.Fn := (fun K => (He.ga K "law"), Hk.exS "law" "law" s_law)
def fn33 : Hk.Fn := (fun K => (He.ma K (He.ga K "InvalidWord") "__init__"), Hk.exS "__init__" "InvalidWord.__init__" (inClass (topS 3) 0))
def fn34 : Hk.Fn := (fun K => (He.ma K (He.ga K "InvalidProgram") "__init__"), Hk.exS "__init__" "InvalidProgram.__init__" (inClass (topS 4) 0))
def fn35 : Hk.Fn := (fun K => (He.ma K (He.ga K "InvalidCore") "__init__"), Hk.exS "__init__" "InvalidCore.__init__" (inClass (topS 5) 0))
def fn36 : Hk.Fn := (fun K => (He.ma K (He.ga K "InvalidNumber") "__init__"), Hk.exS "__init__" "InvalidNumber.__init__" (inClass (topS 6) 0))
def fn37 : Hk.Fn := (fun K => (He.ma K (He.ga K "Missing") "__init__"), Hk.exS "__init__" "Missing.__init__" (inClass (topS 8) 0))
def fn38 : Hk.Fn := (fun K => (He.ma K (He.ga K "LimitExceeded") "__init__"), Hk.exS "__init__" "LimitExceeded.__init__" (inClass (topS 9) 0))
def fn39 : Hk.Fn := (fun K => (He.ma K (He.ga K "Failed") "__init__"), Hk.exS "__init__" "Failed.__init__" (inClass (topS 10) 0))
def fn40 : Hk.Fn := (fun K => (He.ma K (He.ga K "NothingToUndo") "__init__"), Hk.exS "__init__" "NothingToUndo.__init__" (inClass (topS 11) 0))
def fn41 : Hk.Fn := (fun K => (He.ma K (He.ga K "Effect") "__init__"), Hk.exS "__init__" "Effect.__init__" s_Effect_init)
def fn42 : Hk.Fn := (fun K => (Hk.recA K (Hk.clsA K (He.ga K "Effect") "of") "classmethod"), Hk.exS "of" "Effect.of" s_Effect_of)
def fn43 : Hk.Fn := (fun K => (Hk.recA K (Hk.clsA K (He.ga K "Effect") "is_core") "staticmethod"), Hk.exS "is_core" "Effect.is_core" s_Effect_is_core)
def fn44 : Hk.Fn := (fun K => (He.ma K (He.ga K "Effect") "apply"), Hk.exS "apply" "Effect.apply" s_Effect_apply)
def fn45 : Hk.Fn := (fun K => (He.ma K (He.ga K "Effect") "__eq__"), Hk.exS "__eq__" "Effect.__eq__" s_Effect_eq)
def fn46 : Hk.Fn := (fun K => (He.ma K (He.ga K "Effect") "__repr__"), Hk.exS "__repr__" "Effect.__repr__" s_Effect_repr)
def fn47 : Hk.Fn := (fun K => (He.ma K (He.ga K "Queue") "__init__"), Hk.exS "__init__" "Queue.__init__" s_Queue_init)
def fn48 : Hk.Fn := (fun K => (Hk.recA K (He.ma K (He.ga K "Queue") "word") "property"), Hk.exS "word" "Queue.word" s_Queue_word)
def fn49 : Hk.Fn := (fun K => (He.ma K (He.ga K "Queue") "put"), Hk.exS "put" "Queue.put" s_Queue_put)
def fn50 : Hk.Fn := (fun K => (He.ma K (He.ga K "Queue") "take"), Hk.exS "take" "Queue.take" s_Queue_take)
def fn51 : Hk.Fn := (fun K => (He.ma K (He.ga K "Queue") "perform"), Hk.exS "perform" "Queue.perform" s_Queue_perform)
def fn52 : Hk.Fn := (fun K => (He.ma K (He.ga K "Queue") "run"), Hk.exS "run" "Queue.run" s_Queue_run)
def fn53 : Hk.Fn := (fun K => (He.ma K (He.ga K "Queue") "clone"), Hk.exS "clone" "Queue.clone" s_Queue_clone)
def fn54 : Hk.Fn := (fun K => (He.ma K (He.ga K "LeakyQueue") "__init__"), Hk.exS "__init__" "LeakyQueue.__init__" s_LeakyQueue_init)
def fn55 : Hk.Fn := (fun K => (Hk.recA K (He.ma K (He.ga K "LeakyQueue") "word") "property"), Hk.exS "word" "LeakyQueue.word" s_LeakyQueue_word)
def fn56 : Hk.Fn := (fun K => (He.ma K (He.ga K "LeakyQueue") "put"), Hk.exS "put" "LeakyQueue.put" s_LeakyQueue_put)
def fn57 : Hk.Fn := (fun K => (He.ma K (He.ga K "LeakyQueue") "take"), Hk.exS "take" "LeakyQueue.take" s_LeakyQueue_take)
def fn58 : Hk.Fn := (fun K => (He.ma K (He.ga K "LeakyQueue") "run"), Hk.exS "run" "LeakyQueue.run" s_LeakyQueue_run)
def fn59 : Hk.Fn := (fun K => (He.ma K (He.ga K "LeakyQueue") "clone"), Hk.exS "clone" "LeakyQueue.clone" s_LeakyQueue_clone)
def fn60 : Hk.Fn := (fun K => (He.ma K (He.ga K "LeakyQueue") "__len__"), Hk.exS "__len__" "LeakyQueue.__len__" s_LeakyQueue_len)
def fn61 : Hk.Fn := (fun K => (He.ma K (He.ga K "Session") "__init__"), Hk.exS "__init__" "Session.__init__" s_Session_init)
def fn62 : Hk.Fn := (fun K => (He.ma K (He.ga K "Session") "move"), Hk.exS "move" "Session.move" s_Session_move)
def fn63 : Hk.Fn := (fun K => (Hk.recA K (He.ma K (He.ga K "Session") "word") "property"), Hk.exS "word" "Session.word" s_Session_word)
def fn64 : Hk.Fn := (fun K => (Hk.recA K (He.ma K (He.ga K "Session") "program") "property"), Hk.exS "program" "Session.program" s_Session_program)
def fn65 : Hk.Fn := (fun K => (Hk.recA K (He.ma K (He.ga K "Session") "effect") "property"), Hk.exS "effect" "Session.effect" s_Session_effect)
def fn66 : Hk.Fn := (fun K => (He.ma K (He.ga K "Session") "run"), Hk.exS "run" "Session.run" s_Session_run)
def fn67 : Hk.Fn := (fun K => (He.ma K (He.ga K "Session") "undo"), Hk.exS "undo" "Session.undo" s_Session_undo)
def fn68 : Hk.Fn := (fun K => (He.ma K (He.ga K "Session") "redo"), Hk.exS "redo" "Session.redo" s_Session_redo)
def fn69 : Hk.Fn := (fun K => (He.ma K (He.ga K "Session") "__eq__"), Hk.exS "__eq__" "Session.__eq__" s_Session_eq)
def fn70 : Hk.Fn := (fun K => (He.ma K (He.ga K "Session") "__len__"), Hk.exS "__len__" "Session.__len__" s_Session_len)
def fn71 : Hk.Fn := (fun K => (He.ma K (He.ga K "Session") "__repr__"), Hk.exS "__repr__" "Session.__repr__" s_Session_repr)
def fs0 : List Hk.Fn := [fn0, fn1, fn2, fn3, fn4, fn5, fn6, fn7, fn8, fn9, fn10, fn11, fn12, fn13, fn14, fn15, fn16, fn17, fn18, fn19, fn20, fn21, fn22, fn23, fn24, fn25, fn26, fn27, fn28, fn29]
def fs1 : List Hk.Fn := [fn30, fn31, fn32, fn33, fn34, fn35, fn36, fn37, fn38, fn39, fn40, fn41, fn42, fn43, fn44, fn45, fn46, fn47, fn48, fn49, fn50, fn51, fn52, fn53, fn54, fn55, fn56, fn57, fn58, fn59]
def fs2 : List Hk.Fn := [fn60, fn61, fn62, fn63, fn64, fn65, fn66, fn67, fn68, fn69, fn70, fn71]
def fs_ : List Hk.Fn := fs0 ++ (fs1 ++ (fs2))
theorem txt_of {K : PySem.W.Frag} {h : Heap} {mg : Str → Option Value} (X : K.In h) (G : h.Ns mainGlobals mg) (c : Hk.Says cs_ fs_ K) : ∃ a, Txt K mg a ∧ Hd K a := by
  have g0 := c.ch 0 (f := ch0) rfl
  obtain ⟨g0_0, g0_1⟩ := He.ba g0
  have a1 := of_decide_eq_true g0_0
  obtain ⟨_, _, _, _, _, _, _, _, _, l1, c1, k1⟩ := Hk.fn0 (c.fn 0 rfl) g0_1
  have g1 := c.ch 1 (f := ch1) rfl
  obtain ⟨g1_0, g1_1⟩ := He.ba g1
  have a2 := of_decide_eq_true g1_0
  obtain ⟨_, _, _, _, _, _, _, _, _, l2, c2, k2⟩ := Hk.fn0 (c.fn 1 rfl) g1_1
  have g2 := c.ch 2 (f := ch2) rfl
  obtain ⟨g2_0, g2_1⟩ := He.ba g2
  have a3 := of_decide_eq_true g2_0
  obtain ⟨_, _, _, _, _, _, _, _, _, l3, c3, k3⟩ := Hk.fn0 (c.fn 2 rfl) g2_1
  have g3 := c.ch 3 (f := ch3) rfl
  obtain ⟨g3_0, g3_1⟩ := He.ba g3
  have a4 := of_decide_eq_true g3_0
  obtain ⟨_, _, _, _, _, _, _, _, _, _, _, _, _, _, _, t4, l4, c4, k4⟩ := Hk.fn1i (c.fn 3 rfl) g3_1
  have g4 := c.ch 4 (f := ch4) rfl
  obtain ⟨g4_0, g4_1⟩ := He.ba g4
  have a5 := of_decide_eq_true g4_0
  obtain ⟨_, _, _, _, _, _, _, _, _, l5, c5, k5⟩ := Hk.fn0 (c.fn 4 rfl) g4_1
  have g5 := c.ch 5 (f := ch5) rfl
  obtain ⟨g5_0, g5_1⟩ := He.ba g5
  have a6 := of_decide_eq_true g5_0
  obtain ⟨_, _, _, _, _, _, _, _, _, l6, c6, k6⟩ := Hk.fn0 (c.fn 5 rfl) g5_1
  have g6 := c.ch 6 (f := ch6) rfl
  obtain ⟨g6_0, g6_1⟩ := He.ba g6
  have a7 := of_decide_eq_true g6_0
  obtain ⟨_, _, _, _, _, _, _, _, _, l7, c7, k7⟩ := Hk.fn0 (c.fn 6 rfl) g6_1
  have g7 := c.ch 7 (f := ch7) rfl
  obtain ⟨g7_0, g7_1⟩ := He.ba g7
  have a8 := of_decide_eq_true g7_0
  obtain ⟨_, _, _, _, _, _, _, _, _, l8, c8, k8⟩ := Hk.fn0 (c.fn 7 rfl) g7_1
  have g8 := c.ch 8 (f := ch8) rfl
  obtain ⟨g8_0, g8_1⟩ := He.ba g8
  have a9 := of_decide_eq_true g8_0
  obtain ⟨_, _, _, _, _, _, _, _, _, l9, c9, k9⟩ := Hk.fn0 (c.fn 8 rfl) g8_1
  have g9 := c.ch 9 (f := ch9) rfl
  obtain ⟨g9_0, g9_1⟩ := He.ba g9
  have a10 := of_decide_eq_true g9_0
  obtain ⟨_, _, _, _, _, _, _, _, _, l10, c10, k10⟩ := Hk.fn0 (c.fn 9 rfl) g9_1
  have g10 := c.ch 10 (f := ch10) rfl
  obtain ⟨g10_0, g10_1⟩ := He.ba g10
  have a11 := of_decide_eq_true g10_0
  obtain ⟨_, _, _, _, _, _, _, _, _, l11, c11, k11⟩ := Hk.fn0 (c.fn 10 rfl) g10_1
  have g11 := c.ch 11 (f := ch11) rfl
  obtain ⟨g11_0, g11_1⟩ := He.ba g11
  have a12 := of_decide_eq_true g11_0
  obtain ⟨_, _, _, _, _, _, _, _, _, l12, c12, k12⟩ := Hk.fn0 (c.fn 11 rfl) g11_1
  have g12 := c.ch 12 (f := ch12) rfl
  obtain ⟨g12_0, g12_1⟩ := He.ba g12
  have a13 := of_decide_eq_true g12_0
  obtain ⟨_, _, _, _, _, _, _, _, _, l13, c13, k13⟩ := Hk.fn0 (c.fn 12 rfl) g12_1
  have g13 := c.ch 13 (f := ch13) rfl
  obtain ⟨g13_0, g13_1⟩ := He.ba g13
  have a14 := of_decide_eq_true g13_0
  obtain ⟨_, _, _, _, _, _, _, _, _, l14, c14, k14⟩ := Hk.fn0 (c.fn 13 rfl) g13_1
  have g14 := c.ch 14 (f := ch14) rfl
  obtain ⟨g14_0, g14_1⟩ := He.ba g14
  have a15 := of_decide_eq_true g14_0
  obtain ⟨_, _, _, _, _, _, _, _, _, l15, c15, k15⟩ := Hk.fn0 (c.fn 14 rfl) g14_1
  have g15 := c.ch 15 (f := ch15) rfl
  obtain ⟨g15_0, g15_1⟩ := He.ba g15
  have a16 := of_decide_eq_true g15_0
  obtain ⟨_, _, _, _, _, _, _, _, _, l16, c16, k16⟩ := Hk.fn0 (c.fn 15 rfl) g15_1
  have g16 := c.ch 16 (f := ch16) rfl
  obtain ⟨g16_0, g16_1⟩ := He.ba g16
  have a17 := of_decide_eq_true g16_0
  obtain ⟨_, _, _, _, _, _, _, _, _, l17, c17, k17⟩ := Hk.fn0 (c.fn 16 rfl) g16_1
  have g17 := c.ch 17 (f := ch17) rfl
  obtain ⟨g17_0, g17_1⟩ := He.ba g17
  have a18 := of_decide_eq_true g17_0
  obtain ⟨_, _, _, _, _, _, _, _, _, l18, c18, k18⟩ := Hk.fn0 (c.fn 17 rfl) g17_1
  have g18 := c.ch 18 (f := ch18) rfl
  obtain ⟨g18_0, g18_1⟩ := He.ba g18
  have a19 := of_decide_eq_true g18_0
  obtain ⟨_, _, _, _, _, _, _, _, _, l19, c19, k19⟩ := Hk.fn0 (c.fn 18 rfl) g18_1
  have g19 := c.ch 19 (f := ch19) rfl
  obtain ⟨g19_0, g19_1⟩ := He.ba g19
  have a20 := of_decide_eq_true g19_0
  obtain ⟨_, _, _, _, _, _, _, _, _, l20, c20, k20⟩ := Hk.fn0 (c.fn 19 rfl) g19_1
  have g20 := c.ch 20 (f := ch20) rfl
  obtain ⟨g20_0, g20_1⟩ := He.ba g20
  have a21 := of_decide_eq_true g20_0
  obtain ⟨_, _, _, _, _, _, _, _, _, l21, c21, k21⟩ := Hk.fn0 (c.fn 20 rfl) g20_1
  have g21 := c.ch 21 (f := ch21) rfl
  obtain ⟨g21_0, g21_1⟩ := He.ba g21
  have a22 := of_decide_eq_true g21_0
  obtain ⟨_, _, _, _, _, _, _, _, _, l22, c22, k22⟩ := Hk.fn0 (c.fn 21 rfl) g21_1
  have g22 := c.ch 22 (f := ch22) rfl
  obtain ⟨g22_0, g22_1⟩ := He.ba g22
  have a23 := of_decide_eq_true g22_0
  obtain ⟨_, _, _, _, _, _, _, _, _, l23, c23, k23⟩ := Hk.fn0 (c.fn 22 rfl) g22_1
  have g23 := c.ch 23 (f := ch23) rfl
  obtain ⟨g23_0, g23_1⟩ := He.ba g23
  have a24 := of_decide_eq_true g23_0
  obtain ⟨_, _, _, _, _, _, _, _, _, l24, c24, k24⟩ := Hk.fn0 (c.fn 23 rfl) g23_1
  have g24 := c.ch 24 (f := ch24) rfl
  obtain ⟨g24_0, g24_1⟩ := He.ba g24
  have a25 := of_decide_eq_true g24_0
  obtain ⟨_, _, _, _, _, _, _, _, _, l25, c25, k25⟩ := Hk.fn0 (c.fn 24 rfl) g24_1
  have g25 := c.ch 25 (f := ch25) rfl
  obtain ⟨g25_0, g25_1⟩ := He.ba g25
  have a26 := of_decide_eq_true g25_0
  obtain ⟨_, _, _, _, _, _, _, _, _, l26, c26, k26⟩ := Hk.fn0 (c.fn 25 rfl) g25_1
  have g26 := c.ch 26 (f := ch26) rfl
  obtain ⟨g26_0, g26_1⟩ := He.ba g26
  have a27 := of_decide_eq_true g26_0
  obtain ⟨_, _, _, _, _, _, _, _, _, l27, c27, k27⟩ := Hk.fn0 (c.fn 26 rfl) g26_1
  have g27 := c.ch 27 (f := ch27) rfl
  obtain ⟨g27_0, g27_1⟩ := He.ba g27
  have a28 := of_decide_eq_true g27_0
  obtain ⟨_, _, _, _, _, _, _, _, _, l28, c28, k28⟩ := Hk.fn0 (c.fn 27 rfl) g27_1
  have g28 := c.ch 28 (f := ch28) rfl
  obtain ⟨g28_0, g28_1⟩ := He.ba g28
  have a29 := of_decide_eq_true g28_0
  obtain ⟨_, _, _, _, _, _, _, _, _, l29, c29, k29⟩ := Hk.fn0 (c.fn 28 rfl) g28_1
  have g29 := c.ch 29 (f := ch29) rfl
  obtain ⟨g29_0, g29_1⟩ := He.ba g29
  have a30 := of_decide_eq_true g29_0
  obtain ⟨_, _, _, _, _, _, _, _, _, l30, c30, k30⟩ := Hk.fn0 (c.fn 29 rfl) g29_1
  have g30 := c.ch 30 (f := ch30) rfl
  obtain ⟨g30_0, g30_1⟩ := He.ba g30
  have a31 := of_decide_eq_true g30_0
  obtain ⟨_, _, _, _, _, _, _, _, _, l31, c31, k31⟩ := Hk.fn0 (c.fn 30 rfl) g30_1
  have g31 := c.ch 31 (f := ch31) rfl
  obtain ⟨g31_0, g31_1⟩ := He.ba g31
  have a32 := of_decide_eq_true g31_0
  obtain ⟨_, _, _, _, _, _, _, _, _, l32, c32, k32⟩ := Hk.fn0 (c.fn 31 rfl) g31_1
  have g32 := c.ch 32 (f := ch32) rfl
  obtain ⟨g32_0, g32_1⟩ := He.ba g32
  have a33 := of_decide_eq_true g32_0
  obtain ⟨_, _, _, _, _, _, _, _, _, l33, c33, k33⟩ := Hk.fn0 (c.fn 32 rfl) g32_1
  have g33 := c.ch 33 (f := ch33) rfl
  have g33_0 : Hk.conS K "ITEMS" "abcdefgh" = true := g33
  obtain ⟨_, v_ITEMS⟩ := Hk.conS_ok g33_0
  have g34 := c.ch 34 (f := ch34) rfl
  have g34_0 : Hk.conI K "MAX_LENGTH" 400 = true := g34
  obtain ⟨_, v_MAX_LENGTH⟩ := Hk.conI_ok g34_0
  have g35 := c.ch 35 (f := ch35) rfl
  have g35_0 : Hk.conS K "STEPS" "abcdefghABCDEFGH" = true := g35
  obtain ⟨_, v_STEPS⟩ := Hk.conS_ok g35_0
  have g36 := c.ch 36 (f := ch36) rfl
  have g36_0 : decide (PySem.W.nsIn K mainGlobals "isinstance" = some none) = true := g36
  have z_isinstance := of_decide_eq_true g36_0
  have g37 := c.ch 37 (f := ch37) rfl
  have g37_0 : decide (PySem.W.nsIn K mainGlobals "int" = some none) = true := g37
  have z_int := of_decide_eq_true g37_0
  have g38 := c.ch 38 (f := ch38) rfl
  have g38_0 : decide (PySem.W.nsIn K mainGlobals "bool" = some none) = true := g38
  have z_bool := of_decide_eq_true g38_0
  have g39 := c.ch 39 (f := ch39) rfl
  have g39_0 : decide (PySem.W.nsIn K mainGlobals "str" = some none) = true := g39
  have z_str := of_decide_eq_true g39_0
  have g40 := c.ch 40 (f := ch40) rfl
  have g40_0 : decide (PySem.W.nsIn K mainGlobals "len" = some none) = true := g40
  have z_len := of_decide_eq_true g40_0
  have g41 := c.ch 41 (f := ch41) rfl
  have g41_0 : decide (PySem.W.nsIn K mainGlobals "min" = some none) = true := g41
  have z_min := of_decide_eq_true g41_0
  have g42 := c.ch 42 (f := ch42) rfl
  have g42_0 : decide (PySem.W.nsIn K mainGlobals "max" = some none) = true := g42
  have z_max := of_decide_eq_true g42_0
  have g43 := c.ch 43 (f := ch43) rfl
  have g43_0 : decide (PySem.W.nsIn K mainGlobals "range" = some none) = true := g43
  have z_range := of_decide_eq_true g43_0
  have g44 := c.ch 44 (f := ch44) rfl
  have g44_0 : decide (PySem.W.nsIn K mainGlobals "list" = some none) = true := g44
  have z_list := of_decide_eq_true g44_0
  have g45 := c.ch 45 (f := ch45) rfl
  have g45_0 : decide (PySem.W.nsIn K mainGlobals "repr" = some none) = true := g45
  have z_repr := of_decide_eq_true g45_0
  have g46 := c.ch 46 (f := ch46) rfl
  have g46_0 : decide (PySem.W.nsIn K mainGlobals "classmethod" = some none) = true := g46
  have z_classmethod := of_decide_eq_true g46_0
  have g47 := c.ch 47 (f := ch47) rfl
  have g47_0 : decide (PySem.W.nsIn K mainGlobals "staticmethod" = some none) = true := g47
  have z_staticmethod := of_decide_eq_true g47_0
  have g48 := c.ch 48 (f := ch48) rfl
  have g48_0 : decide (PySem.W.nsIn K mainGlobals "property" = some none) = true := g48
  have z_property := of_decide_eq_true g48_0
  have g49 := c.ch 49 (f := ch49) rfl
  have g49_0 : decide (PySem.W.nsIn K mainGlobals "enumerate" = some none) = true := g49
  have z_enumerate := of_decide_eq_true g49_0
  have g50 := c.ch 50 (f := ch50) rfl
  have g50_0 : decide (PySem.W.nsIn K mainGlobals "super" = some none) = true := g50
  have z_super := of_decide_eq_true g50_0
  have g51 := c.ch 51 (f := ch51) rfl
  have g51_0 : decide (PySem.W.nsIn K mainGlobals "LeakError" = some (some (.ref (He.ga K "LeakError")))) = true := g51
  have n_LeakError := of_decide_eq_true g51_0
  have g52 := c.ch 52 (f := ch52) rfl
  obtain ⟨g52_0, r52_0⟩ := He.ba g52
  obtain ⟨g52_1, r52_1⟩ := He.ba r52_0
  obtain ⟨g52_2, g52_3⟩ := He.ba r52_1
  have n_InvalidWord := of_decide_eq_true g52_0
  have i_InvalidWord := of_decide_eq_true g52_1
  obtain ⟨_, _, _, _, _, _, _, _, m_InvalidWord, d_InvalidWord⟩ := Hk.fnx (c.fn 33 rfl) g52_2
  have h_InvalidWord := g52_3
  have g53 := c.ch 53 (f := ch53) rfl
  obtain ⟨g53_0, r53_0⟩ := He.ba g53
  obtain ⟨g53_1, r53_1⟩ := He.ba r53_0
  obtain ⟨g53_2, g53_3⟩ := He.ba r53_1
  have n_InvalidProgram := of_decide_eq_true g53_0
  have i_InvalidProgram := of_decide_eq_true g53_1
  obtain ⟨_, _, _, _, _, _, _, _, m_InvalidProgram, d_InvalidProgram⟩ := Hk.fnx (c.fn 34 rfl) g53_2
  have h_InvalidProgram := g53_3
  have g54 := c.ch 54 (f := ch54) rfl
  obtain ⟨g54_0, r54_0⟩ := He.ba g54
  obtain ⟨g54_1, r54_1⟩ := He.ba r54_0
  obtain ⟨g54_2, g54_3⟩ := He.ba r54_1
  have n_InvalidCore := of_decide_eq_true g54_0
  have i_InvalidCore := of_decide_eq_true g54_1
  obtain ⟨_, _, _, _, _, _, _, _, m_InvalidCore, d_InvalidCore⟩ := Hk.fnx (c.fn 35 rfl) g54_2
  have h_InvalidCore := g54_3
  have g55 := c.ch 55 (f := ch55) rfl
  obtain ⟨g55_0, r55_0⟩ := He.ba g55
  obtain ⟨g55_1, r55_1⟩ := He.ba r55_0
  obtain ⟨g55_2, g55_3⟩ := He.ba r55_1
  have n_InvalidNumber := of_decide_eq_true g55_0
  have i_InvalidNumber := of_decide_eq_true g55_1
  obtain ⟨_, _, _, _, _, _, _, _, m_InvalidNumber, d_InvalidNumber⟩ := Hk.fnx (c.fn 36 rfl) g55_2
  have h_InvalidNumber := g55_3
  have g56 := c.ch 56 (f := ch56) rfl
  obtain ⟨g56_0, r56_0⟩ := He.ba g56
  obtain ⟨g56_1, r56_1⟩ := He.ba r56_0
  obtain ⟨g56_2, g56_3⟩ := He.ba r56_1
  have n_Missing := of_decide_eq_true g56_0
  have i_Missing := of_decide_eq_true g56_1
  obtain ⟨_, _, _, _, _, _, _, _, m_Missing, d_Missing⟩ := Hk.fnx (c.fn 37 rfl) g56_2
  have h_Missing := g56_3
  have g57 := c.ch 57 (f := ch57) rfl
  obtain ⟨g57_0, r57_0⟩ := He.ba g57
  obtain ⟨g57_1, r57_1⟩ := He.ba r57_0
  obtain ⟨g57_2, g57_3⟩ := He.ba r57_1
  have n_LimitExceeded := of_decide_eq_true g57_0
  have i_LimitExceeded := of_decide_eq_true g57_1
  obtain ⟨_, _, _, _, _, _, _, _, m_LimitExceeded, d_LimitExceeded⟩ := Hk.fnx (c.fn 38 rfl) g57_2
  have h_LimitExceeded := g57_3
  have g58 := c.ch 58 (f := ch58) rfl
  obtain ⟨g58_0, r58_0⟩ := He.ba g58
  obtain ⟨g58_1, r58_1⟩ := He.ba r58_0
  obtain ⟨g58_2, g58_3⟩ := He.ba r58_1
  have n_Failed := of_decide_eq_true g58_0
  have i_Failed := of_decide_eq_true g58_1
  obtain ⟨_, _, _, _, _, _, _, _, m_Failed, d_Failed⟩ := Hk.fnx (c.fn 39 rfl) g58_2
  have h_Failed := g58_3
  have g59 := c.ch 59 (f := ch59) rfl
  obtain ⟨g59_0, r59_0⟩ := He.ba g59
  obtain ⟨g59_1, r59_1⟩ := He.ba r59_0
  obtain ⟨g59_2, g59_3⟩ := He.ba r59_1
  have n_NothingToUndo := of_decide_eq_true g59_0
  have i_NothingToUndo := of_decide_eq_true g59_1
  obtain ⟨_, _, _, _, _, _, _, _, m_NothingToUndo, d_NothingToUndo⟩ := Hk.fnx (c.fn 40 rfl) g59_2
  have h_NothingToUndo := g59_3
  have g60 := c.ch 60 (f := ch60) rfl
  obtain ⟨g60_0, r60_0⟩ := He.ba g60
  obtain ⟨g60_1, r60_1⟩ := He.ba r60_0
  obtain ⟨g60_2, r60_2⟩ := He.ba r60_1
  obtain ⟨g60_3, r60_3⟩ := He.ba r60_2
  obtain ⟨g60_4, r60_4⟩ := He.ba r60_3
  obtain ⟨g60_5, r60_5⟩ := He.ba r60_4
  obtain ⟨g60_6, r60_6⟩ := He.ba r60_5
  obtain ⟨g60_7, r60_7⟩ := He.ba r60_6
  obtain ⟨g60_8, r60_8⟩ := He.ba r60_7
  obtain ⟨g60_9, r60_9⟩ := He.ba r60_8
  obtain ⟨g60_10, g60_11⟩ := He.ba r60_9
  have n_Effect := of_decide_eq_true g60_0
  have pg_Effect := g60_1
  have hd_Effect := g60_2
  have po_Effect := g60_3
  have sa_Effect := of_decide_eq_true g60_4
  have mi_Effect := g60_5
  have kc_Effect := g60_6
  have rd_Effect := g60_7
  have ga_Effect := of_decide_eq_true g60_8
  have na_Effect_taken := of_decide_eq_true g60_9
  have na_Effect_given := of_decide_eq_true g60_10
  have na_Effect_needed := of_decide_eq_true g60_11
  have g61 := c.ch 61 (f := ch61) rfl
  obtain ⟨g61_0, r61_0⟩ := He.ba g61
  obtain ⟨g61_1, r61_1⟩ := He.ba r61_0
  obtain ⟨g61_2, r61_2⟩ := He.ba r61_1
  obtain ⟨g61_3, r61_3⟩ := He.ba r61_2
  obtain ⟨g61_4, r61_4⟩ := He.ba r61_3
  obtain ⟨g61_5, r61_5⟩ := He.ba r61_4
  obtain ⟨g61_6, r61_6⟩ := He.ba r61_5
  obtain ⟨g61_7, r61_7⟩ := He.ba r61_6
  obtain ⟨g61_8, g61_9⟩ := He.ba r61_7
  have n_Queue := of_decide_eq_true g61_0
  have pg_Queue := g61_1
  have hd_Queue := g61_2
  have po_Queue := g61_3
  have sa_Queue := of_decide_eq_true g61_4
  have mi_Queue := g61_5
  have kc_Queue := g61_6
  have rd_Queue := g61_7
  have ga_Queue := of_decide_eq_true g61_8
  have na_Queue_content := of_decide_eq_true g61_9
  have g62 := c.ch 62 (f := ch62) rfl
  obtain ⟨g62_0, r62_0⟩ := He.ba g62
  obtain ⟨g62_1, r62_1⟩ := He.ba r62_0
  obtain ⟨g62_2, r62_2⟩ := He.ba r62_1
  obtain ⟨g62_3, r62_3⟩ := He.ba r62_2
  obtain ⟨g62_4, r62_4⟩ := He.ba r62_3
  obtain ⟨g62_5, r62_5⟩ := He.ba r62_4
  obtain ⟨g62_6, r62_6⟩ := He.ba r62_5
  obtain ⟨g62_7, r62_7⟩ := He.ba r62_6
  obtain ⟨g62_8, g62_9⟩ := He.ba r62_7
  have n_LeakyQueue := of_decide_eq_true g62_0
  have pg_LeakyQueue := g62_1
  have hd_LeakyQueue := g62_2
  have po_LeakyQueue := g62_3
  have sa_LeakyQueue := of_decide_eq_true g62_4
  have mi_LeakyQueue := g62_5
  have kc_LeakyQueue := g62_6
  have rd_LeakyQueue := g62_7
  have ga_LeakyQueue := of_decide_eq_true g62_8
  have na_LeakyQueue_content := of_decide_eq_true g62_9
  have g63 := c.ch 63 (f := ch63) rfl
  obtain ⟨g63_0, r63_0⟩ := He.ba g63
  obtain ⟨g63_1, r63_1⟩ := He.ba r63_0
  obtain ⟨g63_2, r63_2⟩ := He.ba r63_1
  obtain ⟨g63_3, r63_3⟩ := He.ba r63_2
  obtain ⟨g63_4, r63_4⟩ := He.ba r63_3
  obtain ⟨g63_5, r63_5⟩ := He.ba r63_4
  obtain ⟨g63_6, r63_6⟩ := He.ba r63_5
  obtain ⟨g63_7, r63_7⟩ := He.ba r63_6
  obtain ⟨g63_8, r63_8⟩ := He.ba r63_7
  obtain ⟨g63_9, r63_9⟩ := He.ba r63_8
  obtain ⟨g63_10, r63_10⟩ := He.ba r63_9
  obtain ⟨g63_11, r63_11⟩ := He.ba r63_10
  obtain ⟨g63_12, g63_13⟩ := He.ba r63_11
  have n_Session := of_decide_eq_true g63_0
  have pg_Session := g63_1
  have hd_Session := g63_2
  have po_Session := g63_3
  have sa_Session := of_decide_eq_true g63_4
  have mi_Session := g63_5
  have kc_Session := g63_6
  have rd_Session := g63_7
  have ga_Session := of_decide_eq_true g63_8
  have na_Session_initial := of_decide_eq_true g63_9
  have na_Session_done := of_decide_eq_true g63_10
  have na_Session_cancelled := of_decide_eq_true g63_11
  have na_Session_present := of_decide_eq_true g63_12
  have na_Session_reached := of_decide_eq_true g63_13
  have g64 := c.ch 64 (f := ch64) rfl
  have g64_0 : Hk.valB K (He.ga K "Effect") "MAX_ITEMS" 400 = true := g64
  obtain ⟨_, va_Effect_MAX_ITEMS⟩ := Hk.valB_ok g64_0
  have g65 := c.ch 65 (f := ch65) rfl
  obtain ⟨g65_0, r65_0⟩ := He.ba g65
  obtain ⟨g65_1, g65_2⟩ := He.ba r65_0
  have a_Effect_init := of_decide_eq_true g65_0
  have if_Effect_init := g65_1
  obtain ⟨_, _, _, _, _, _, _, _, _, l_Effect_init, c_Effect_init, k_Effect_init⟩ := Hk.fn0 (c.fn 41 rfl) g65_2
  have g66 := c.ch 66 (f := ch66) rfl
  obtain ⟨g66_0, r66_0⟩ := He.ba g66
  obtain ⟨g66_1, r66_1⟩ := He.ba r66_0
  obtain ⟨g66_2, g66_3⟩ := He.ba r66_1
  have a_Effect_of := Hk.clsB_ok g66_0
  obtain ⟨_, rc_Effect_of⟩ := Hk.recB_ok g66_1
  have fi_Effect_of := g66_2
  obtain ⟨_, _, _, _, _, _, _, _, _, l_Effect_of, c_Effect_of, k_Effect_of⟩ := Hk.fn0 (c.fn 42 rfl) g66_3
  have g67 := c.ch 67 (f := ch67) rfl
  obtain ⟨g67_0, r67_0⟩ := He.ba g67
  obtain ⟨g67_1, g67_2⟩ := He.ba r67_0
  have a_Effect_is_core := Hk.clsB_ok g67_0
  obtain ⟨_, rc_Effect_is_core⟩ := Hk.recB_ok g67_1
  obtain ⟨_, _, _, _, _, _, _, _, _, l_Effect_is_core, c_Effect_is_core, k_Effect_is_core⟩ := Hk.fn0 (c.fn 43 rfl) g67_2
  have g68 := c.ch 68 (f := ch68) rfl
  obtain ⟨g68_0, r68_0⟩ := He.ba g68
  obtain ⟨g68_1, g68_2⟩ := He.ba r68_0
  have a_Effect_apply := of_decide_eq_true g68_0
  have if_Effect_apply := g68_1
  obtain ⟨_, _, _, _, _, _, _, _, _, l_Effect_apply, c_Effect_apply, k_Effect_apply⟩ := Hk.fn0 (c.fn 44 rfl) g68_2
  have g69 := c.ch 69 (f := ch69) rfl
  obtain ⟨g69_0, r69_0⟩ := He.ba g69
  obtain ⟨g69_1, g69_2⟩ := He.ba r69_0
  have a_Effect_eq := of_decide_eq_true g69_0
  have if_Effect_eq := g69_1
  obtain ⟨_, _, _, _, _, _, _, _, _, l_Effect_eq, c_Effect_eq, k_Effect_eq⟩ := Hk.fn0 (c.fn 45 rfl) g69_2
  have g70 := c.ch 70 (f := ch70) rfl
  obtain ⟨g70_0, r70_0⟩ := He.ba g70
  obtain ⟨g70_1, g70_2⟩ := He.ba r70_0
  have a_Effect_repr := of_decide_eq_true g70_0
  have if_Effect_repr := g70_1
  obtain ⟨_, _, _, _, _, _, _, _, _, l_Effect_repr, c_Effect_repr, k_Effect_repr⟩ := Hk.fn0 (c.fn 46 rfl) g70_2
  have g71 := c.ch 71 (f := ch71) rfl
  obtain ⟨g71_0, r71_0⟩ := He.ba g71
  obtain ⟨g71_1, g71_2⟩ := He.ba r71_0
  have a_Queue_init := of_decide_eq_true g71_0
  have if_Queue_init := g71_1
  obtain ⟨_, _, _, _, _, _, _, _, _, _, _, _, _, _, _, t_Queue_init, l_Queue_init, c_Queue_init, k_Queue_init⟩ := Hk.fn1s (c.fn 47 rfl) g71_2
  have g72 := c.ch 72 (f := ch72) rfl
  obtain ⟨g72_0, r72_0⟩ := He.ba g72
  obtain ⟨g72_1, r72_1⟩ := He.ba r72_0
  obtain ⟨g72_2, r72_2⟩ := He.ba r72_1
  obtain ⟨g72_3, g72_4⟩ := He.ba r72_2
  have a_Queue_word := of_decide_eq_true g72_0
  have gt_Queue_word := of_decide_eq_true g72_1
  have tk_Queue_word := of_decide_eq_true g72_2
  obtain ⟨_, rc_Queue_word⟩ := Hk.recB_ok g72_3
  obtain ⟨_, _, _, _, _, _, _, _, _, l_Queue_word, c_Queue_word, k_Queue_word⟩ := Hk.fn0 (c.fn 48 rfl) g72_4
  have g73 := c.ch 73 (f := ch73) rfl
  obtain ⟨g73_0, r73_0⟩ := He.ba g73
  obtain ⟨g73_1, g73_2⟩ := He.ba r73_0
  have a_Queue_put := of_decide_eq_true g73_0
  have if_Queue_put := g73_1
  obtain ⟨_, _, _, _, _, _, _, _, _, l_Queue_put, c_Queue_put, k_Queue_put⟩ := Hk.fn0 (c.fn 49 rfl) g73_2
  have g74 := c.ch 74 (f := ch74) rfl
  obtain ⟨g74_0, r74_0⟩ := He.ba g74
  obtain ⟨g74_1, g74_2⟩ := He.ba r74_0
  have a_Queue_take := of_decide_eq_true g74_0
  have if_Queue_take := g74_1
  obtain ⟨_, _, _, _, _, _, _, _, _, l_Queue_take, c_Queue_take, k_Queue_take⟩ := Hk.fn0 (c.fn 50 rfl) g74_2
  have g75 := c.ch 75 (f := ch75) rfl
  obtain ⟨g75_0, r75_0⟩ := He.ba g75
  obtain ⟨g75_1, g75_2⟩ := He.ba r75_0
  have a_Queue_perform := of_decide_eq_true g75_0
  have if_Queue_perform := g75_1
  obtain ⟨_, _, _, _, _, _, _, _, _, l_Queue_perform, c_Queue_perform, k_Queue_perform⟩ := Hk.fn0 (c.fn 51 rfl) g75_2
  have g76 := c.ch 76 (f := ch76) rfl
  obtain ⟨g76_0, r76_0⟩ := He.ba g76
  obtain ⟨g76_1, g76_2⟩ := He.ba r76_0
  have a_Queue_run := of_decide_eq_true g76_0
  have if_Queue_run := g76_1
  obtain ⟨_, _, _, _, _, _, _, _, _, l_Queue_run, c_Queue_run, k_Queue_run⟩ := Hk.fn0 (c.fn 52 rfl) g76_2
  have g77 := c.ch 77 (f := ch77) rfl
  obtain ⟨g77_0, r77_0⟩ := He.ba g77
  obtain ⟨g77_1, g77_2⟩ := He.ba r77_0
  have a_Queue_clone := of_decide_eq_true g77_0
  have if_Queue_clone := g77_1
  obtain ⟨_, _, _, _, _, _, _, _, _, l_Queue_clone, c_Queue_clone, k_Queue_clone⟩ := Hk.fn0 (c.fn 53 rfl) g77_2
  have g78 := c.ch 78 (f := ch78) rfl
  obtain ⟨g78_0, r78_0⟩ := He.ba g78
  obtain ⟨g78_1, r78_1⟩ := He.ba r78_0
  obtain ⟨g78_2, r78_2⟩ := He.ba r78_1
  obtain ⟨g78_3, r78_3⟩ := He.ba r78_2
  obtain ⟨g78_4, r78_4⟩ := He.ba r78_3
  obtain ⟨g78_5, r78_5⟩ := He.ba r78_4
  obtain ⟨g78_6, r78_6⟩ := He.ba r78_5
  obtain ⟨g78_7, g78_8⟩ := He.ba r78_6
  have y_LeakyQueue_init := g78_0
  have sb_LeakyQueue_init := of_decide_eq_true g78_1
  have op_LeakyQueue_init := of_decide_eq_true g78_2
  have at_LeakyQueue_init := of_decide_eq_true g78_3
  have ty_LeakyQueue_init := of_decide_eq_true g78_4
  have fi_LeakyQueue_init := g78_5
  have a_LeakyQueue_init := of_decide_eq_true g78_6
  have if_LeakyQueue_init := g78_7
  obtain ⟨_, _, _, _, _, _, _, _, _, _, _, _, _, _, _, _, _, _, _, _, _, _, _, _, t_LeakyQueue_init, u_LeakyQueue_init, w_LeakyQueue_init, x_LeakyQueue_init, l_LeakyQueue_init, c_LeakyQueue_init, k_LeakyQueue_init⟩ := Hk.fnk1s (c.fn 54 rfl) g78_8
  have g79 := c.ch 79 (f := ch79) rfl
  obtain ⟨g79_0, r79_0⟩ := He.ba g79
  obtain ⟨g79_1, r79_1⟩ := He.ba r79_0
  obtain ⟨g79_2, r79_2⟩ := He.ba r79_1
  obtain ⟨g79_3, g79_4⟩ := He.ba r79_2
  have a_LeakyQueue_word := of_decide_eq_true g79_0
  have gt_LeakyQueue_word := of_decide_eq_true g79_1
  have tk_LeakyQueue_word := of_decide_eq_true g79_2
  obtain ⟨_, rc_LeakyQueue_word⟩ := Hk.recB_ok g79_3
  obtain ⟨_, _, _, _, _, _, _, _, _, l_LeakyQueue_word, c_LeakyQueue_word, k_LeakyQueue_word⟩ := Hk.fn0 (c.fn 55 rfl) g79_4
  have g80 := c.ch 80 (f := ch80) rfl
  obtain ⟨g80_0, r80_0⟩ := He.ba g80
  obtain ⟨g80_1, r80_1⟩ := He.ba r80_0
  obtain ⟨g80_2, r80_2⟩ := He.ba r80_1
  obtain ⟨g80_3, r80_3⟩ := He.ba r80_2
  obtain ⟨g80_4, r80_4⟩ := He.ba r80_3
  obtain ⟨g80_5, r80_5⟩ := He.ba r80_4
  obtain ⟨g80_6, r80_6⟩ := He.ba r80_5
  obtain ⟨g80_7, g80_8⟩ := He.ba r80_6
  have y_LeakyQueue_put := g80_0
  have sb_LeakyQueue_put := of_decide_eq_true g80_1
  have op_LeakyQueue_put := of_decide_eq_true g80_2
  have at_LeakyQueue_put := of_decide_eq_true g80_3
  have ty_LeakyQueue_put := of_decide_eq_true g80_4
  have fi_LeakyQueue_put := g80_5
  have a_LeakyQueue_put := of_decide_eq_true g80_6
  have if_LeakyQueue_put := g80_7
  obtain ⟨_, _, _, _, _, _, _, _, _, _, _, _, _, _, _, _, _, _, u_LeakyQueue_put, w_LeakyQueue_put, x_LeakyQueue_put, l_LeakyQueue_put, c_LeakyQueue_put, k_LeakyQueue_put⟩ := Hk.fnk0 (c.fn 56 rfl) g80_8
  have g81 := c.ch 81 (f := ch81) rfl
  obtain ⟨g81_0, r81_0⟩ := He.ba g81
  obtain ⟨g81_1, g81_2⟩ := He.ba r81_0
  have a_LeakyQueue_take := of_decide_eq_true g81_0
  have if_LeakyQueue_take := g81_1
  obtain ⟨_, _, _, _, _, _, _, _, _, l_LeakyQueue_take, c_LeakyQueue_take, k_LeakyQueue_take⟩ := Hk.fn0 (c.fn 57 rfl) g81_2
  have g82 := c.ch 82 (f := ch82) rfl
  obtain ⟨g82_0, r82_0⟩ := He.ba g82
  obtain ⟨g82_1, r82_1⟩ := He.ba r82_0
  obtain ⟨g82_2, r82_2⟩ := He.ba r82_1
  obtain ⟨g82_3, r82_3⟩ := He.ba r82_2
  obtain ⟨g82_4, r82_4⟩ := He.ba r82_3
  obtain ⟨g82_5, r82_5⟩ := He.ba r82_4
  obtain ⟨g82_6, r82_6⟩ := He.ba r82_5
  obtain ⟨g82_7, g82_8⟩ := He.ba r82_6
  have y_LeakyQueue_run := g82_0
  have sb_LeakyQueue_run := of_decide_eq_true g82_1
  have op_LeakyQueue_run := of_decide_eq_true g82_2
  have at_LeakyQueue_run := of_decide_eq_true g82_3
  have ty_LeakyQueue_run := of_decide_eq_true g82_4
  have fi_LeakyQueue_run := g82_5
  have a_LeakyQueue_run := of_decide_eq_true g82_6
  have if_LeakyQueue_run := g82_7
  obtain ⟨_, _, _, _, _, _, _, _, _, _, _, _, _, _, _, _, _, _, u_LeakyQueue_run, w_LeakyQueue_run, x_LeakyQueue_run, l_LeakyQueue_run, c_LeakyQueue_run, k_LeakyQueue_run⟩ := Hk.fnk0 (c.fn 58 rfl) g82_8
  have g83 := c.ch 83 (f := ch83) rfl
  obtain ⟨g83_0, r83_0⟩ := He.ba g83
  obtain ⟨g83_1, g83_2⟩ := He.ba r83_0
  have a_LeakyQueue_clone := of_decide_eq_true g83_0
  have if_LeakyQueue_clone := g83_1
  obtain ⟨_, _, _, _, _, _, _, _, _, l_LeakyQueue_clone, c_LeakyQueue_clone, k_LeakyQueue_clone⟩ := Hk.fn0 (c.fn 59 rfl) g83_2
  have g84 := c.ch 84 (f := ch84) rfl
  obtain ⟨g84_0, r84_0⟩ := He.ba g84
  obtain ⟨g84_1, g84_2⟩ := He.ba r84_0
  have a_LeakyQueue_len := of_decide_eq_true g84_0
  have if_LeakyQueue_len := g84_1
  obtain ⟨_, _, _, _, _, _, _, _, _, l_LeakyQueue_len, c_LeakyQueue_len, k_LeakyQueue_len⟩ := Hk.fn0 (c.fn 60 rfl) g84_2
  have g85 := c.ch 85 (f := ch85) rfl
  obtain ⟨g85_0, r85_0⟩ := He.ba g85
  obtain ⟨g85_1, g85_2⟩ := He.ba r85_0
  have a_Session_init := of_decide_eq_true g85_0
  have if_Session_init := g85_1
  obtain ⟨_, _, _, _, _, _, _, _, _, _, _, _, _, _, _, t_Session_init, l_Session_init, c_Session_init, k_Session_init⟩ := Hk.fn1s (c.fn 61 rfl) g85_2
  have g86 := c.ch 86 (f := ch86) rfl
  obtain ⟨g86_0, r86_0⟩ := He.ba g86
  obtain ⟨g86_1, g86_2⟩ := He.ba r86_0
  have a_Session_move := of_decide_eq_true g86_0
  have if_Session_move := g86_1
  obtain ⟨_, _, _, _, _, _, _, _, _, l_Session_move, c_Session_move, k_Session_move⟩ := Hk.fn0 (c.fn 62 rfl) g86_2
  have g87 := c.ch 87 (f := ch87) rfl
  obtain ⟨g87_0, r87_0⟩ := He.ba g87
  obtain ⟨g87_1, r87_1⟩ := He.ba r87_0
  obtain ⟨g87_2, r87_2⟩ := He.ba r87_1
  obtain ⟨g87_3, g87_4⟩ := He.ba r87_2
  have a_Session_word := of_decide_eq_true g87_0
  have gt_Session_word := of_decide_eq_true g87_1
  have tk_Session_word := of_decide_eq_true g87_2
  obtain ⟨_, rc_Session_word⟩ := Hk.recB_ok g87_3
  obtain ⟨_, _, _, _, _, _, _, _, _, l_Session_word, c_Session_word, k_Session_word⟩ := Hk.fn0 (c.fn 63 rfl) g87_4
  have g88 := c.ch 88 (f := ch88) rfl
  obtain ⟨g88_0, r88_0⟩ := He.ba g88
  obtain ⟨g88_1, r88_1⟩ := He.ba r88_0
  obtain ⟨g88_2, r88_2⟩ := He.ba r88_1
  obtain ⟨g88_3, g88_4⟩ := He.ba r88_2
  have a_Session_program := of_decide_eq_true g88_0
  have gt_Session_program := of_decide_eq_true g88_1
  have tk_Session_program := of_decide_eq_true g88_2
  obtain ⟨_, rc_Session_program⟩ := Hk.recB_ok g88_3
  obtain ⟨_, _, _, _, _, _, _, _, _, l_Session_program, c_Session_program, k_Session_program⟩ := Hk.fn0 (c.fn 64 rfl) g88_4
  have g89 := c.ch 89 (f := ch89) rfl
  obtain ⟨g89_0, r89_0⟩ := He.ba g89
  obtain ⟨g89_1, r89_1⟩ := He.ba r89_0
  obtain ⟨g89_2, r89_2⟩ := He.ba r89_1
  obtain ⟨g89_3, g89_4⟩ := He.ba r89_2
  have a_Session_effect := of_decide_eq_true g89_0
  have gt_Session_effect := of_decide_eq_true g89_1
  have tk_Session_effect := of_decide_eq_true g89_2
  obtain ⟨_, rc_Session_effect⟩ := Hk.recB_ok g89_3
  obtain ⟨_, _, _, _, _, _, _, _, _, l_Session_effect, c_Session_effect, k_Session_effect⟩ := Hk.fn0 (c.fn 65 rfl) g89_4
  have g90 := c.ch 90 (f := ch90) rfl
  obtain ⟨g90_0, r90_0⟩ := He.ba g90
  obtain ⟨g90_1, g90_2⟩ := He.ba r90_0
  have a_Session_run := of_decide_eq_true g90_0
  have if_Session_run := g90_1
  obtain ⟨_, _, _, _, _, _, _, _, _, l_Session_run, c_Session_run, k_Session_run⟩ := Hk.fn0 (c.fn 66 rfl) g90_2
  have g91 := c.ch 91 (f := ch91) rfl
  obtain ⟨g91_0, r91_0⟩ := He.ba g91
  obtain ⟨g91_1, g91_2⟩ := He.ba r91_0
  have a_Session_undo := of_decide_eq_true g91_0
  have if_Session_undo := g91_1
  obtain ⟨_, _, _, _, _, _, _, _, _, _, _, _, _, _, _, t_Session_undo, l_Session_undo, c_Session_undo, k_Session_undo⟩ := Hk.fn1i (c.fn 67 rfl) g91_2
  have g92 := c.ch 92 (f := ch92) rfl
  obtain ⟨g92_0, r92_0⟩ := He.ba g92
  obtain ⟨g92_1, g92_2⟩ := He.ba r92_0
  have a_Session_redo := of_decide_eq_true g92_0
  have if_Session_redo := g92_1
  obtain ⟨_, _, _, _, _, _, _, _, _, _, _, _, _, _, _, t_Session_redo, l_Session_redo, c_Session_redo, k_Session_redo⟩ := Hk.fn1i (c.fn 68 rfl) g92_2
  have g93 := c.ch 93 (f := ch93) rfl
  obtain ⟨g93_0, r93_0⟩ := He.ba g93
  obtain ⟨g93_1, g93_2⟩ := He.ba r93_0
  have a_Session_eq := of_decide_eq_true g93_0
  have if_Session_eq := g93_1
  obtain ⟨_, _, _, _, _, _, _, _, _, l_Session_eq, c_Session_eq, k_Session_eq⟩ := Hk.fn0 (c.fn 69 rfl) g93_2
  have g94 := c.ch 94 (f := ch94) rfl
  obtain ⟨g94_0, r94_0⟩ := He.ba g94
  obtain ⟨g94_1, g94_2⟩ := He.ba r94_0
  have a_Session_len := of_decide_eq_true g94_0
  have if_Session_len := g94_1
  obtain ⟨_, _, _, _, _, _, _, _, _, l_Session_len, c_Session_len, k_Session_len⟩ := Hk.fn0 (c.fn 70 rfl) g94_2
  have g95 := c.ch 95 (f := ch95) rfl
  obtain ⟨g95_0, r95_0⟩ := He.ba g95
  obtain ⟨g95_1, g95_2⟩ := He.ba r95_0
  have a_Session_repr := of_decide_eq_true g95_0
  have if_Session_repr := g95_1
  obtain ⟨_, _, _, _, _, _, _, _, _, l_Session_repr, c_Session_repr, k_Session_repr⟩ := Hk.fn0 (c.fn 71 rfl) g95_2
  have g96 := c.ch 96 (f := ch96) rfl
  have g96_0 : decide (PySem.W.findIn K (.ref (He.ga K "LeakyQueue")) "perform" = some (some (.ref (He.ma K (He.ga K "Queue") "perform")))) = true := g96
  have ia_LeakyQueue_perform := of_decide_eq_true g96_0
  have g97 := c.ch 97 (f := ch97) rfl
  have g97_0 : decide (PySem.W.specialIn K (.builtin "object.__class__") "__get__" = some (some (.builtin "getset_descriptor.__get__"))) = true := g97
  have hd_hn := of_decide_eq_true g97_0
  have g98 := c.ch 98 (f := ch98) rfl
  have g98_0 : decide (PySem.W.takesIn K (.builtin "object.__class__") = some true) = true := g98
  have hd_hk := of_decide_eq_true g98_0
  have g99 := c.ch 99 (f := ch99) rfl
  have g99_0 : decide (PySem.W.exmOne K (.ref (He.ga K "Failed")) (.ref (He.ga K "Failed")) = some true) = true := g99
  have hd_x_Failed_Failed := of_decide_eq_true g99_0
  have g100 := c.ch 100 (f := ch100) rfl
  have g100_0 : decide (PySem.W.exmOne K (.ref (He.ga K "NothingToUndo")) (.ref (He.ga K "NothingToUndo")) = some true) = true := g100
  have hd_x_NothingToUndo_NothingToUndo := of_decide_eq_true g100_0
  have g101 := c.ch 101 (f := ch101) rfl
  have g101_0 : decide (PySem.W.exmOne K (.ref (He.ga K "NothingToUndo")) (.ref (He.ga K "Failed")) = some false) = true := g101
  have hd_x_NothingToUndo_Failed := of_decide_eq_true g101_0
  have g102 := c.ch 102 (f := ch102) rfl
  have g102_0 : decide (PySem.W.kitOne K (.ref (He.ga K "Effect")) (.ref (He.ga K "Effect")) = some true) = true := g102
  have hd_i_Effect_Effect := of_decide_eq_true g102_0
  have g103 := c.ch 103 (f := ch103) rfl
  have g103_0 : decide (PySem.W.kitOne K (.ref (He.ga K "Session")) (.ref (He.ga K "Session")) = some true) = true := g103
  have hd_i_Session_Session := of_decide_eq_true g103_0
  have g104 := c.ch 104 (f := ch104) rfl
  have g104_0 : decide (PySem.W.notFirst K (He.ga K "Effect") (.ref (He.ga K "Effect")) = true) = true := g104
  have hd_nf_Effect := of_decide_eq_true g104_0
  have g105 := c.ch 105 (f := ch105) rfl
  have g105_0 : decide (PySem.W.findIn K (.ref (He.ga K "Effect")) "__class__" = some (some (.builtin "object.__class__"))) = true := g105
  have hd_cc_Effect := of_decide_eq_true g105_0
  have g106 := c.ch 106 (f := ch106) rfl
  have g106_0 : decide (PySem.W.mroIn K (He.ga K "Effect") (.type "object") = some true) = true := g106
  have hd_mo_Effect := of_decide_eq_true g106_0
  have g107 := c.ch 107 (f := ch107) rfl
  have g107_0 : decide (PySem.W.exmAny K (.ref (He.ga K "Missing")) [.ref (He.ga K "Missing"), .ref (He.ga K "LimitExceeded")] = some true) = true := g107
  have hd_xa_Missing := of_decide_eq_true g107_0
  have g108 := c.ch 108 (f := ch108) rfl
  have g108_0 : decide (PySem.W.exmAny K (.ref (He.ga K "LimitExceeded")) [.ref (He.ga K "Missing"), .ref (He.ga K "LimitExceeded")] = some true) = true := g108
  have hd_xa_Limit := of_decide_eq_true g108_0
  have g109 := c.ch 109 (f := ch109) rfl
  have g109_0 : decide (PySem.W.notFirst K (He.ga K "Session") (.ref (He.ga K "Session")) = true) = true := g109
  have hd_nf_Session := of_decide_eq_true g109_0
  have g110 := c.ch 110 (f := ch110) rfl
  have g110_0 : decide (PySem.W.findIn K (.ref (He.ga K "Session")) "__class__" = some (some (.builtin "object.__class__"))) = true := g110
  have hd_cc_Session := of_decide_eq_true g110_0
  have g111 := c.ch 111 (f := ch111) rfl
  have g111_0 : decide (PySem.W.mroIn K (He.ga K "Session") (.type "object") = some true) = true := g111
  have hd_mo_Session := of_decide_eq_true g111_0
  have g112 := c.ch 112 (f := ch112) rfl
  have g112_0 : decide (PySem.W.findIn K (.ref (He.ga K "Session")) "__ne__" = some (some (.builtin "object.__ne__"))) = true := g112
  have hd_ne_Session := of_decide_eq_true g112_0
  exact ⟨_, txt_mk X G a1 l1 c1 k1 a2 l2 c2 k2 a3 l3 c3 k3 t4 a4 l4 c4 k4 a5 l5 c5 k5 a6 l6 c6 k6 a7 l7 c7 k7 a8 l8 c8 k8 a9 l9 c9 k9 a10 l10 c10 k10 a11 l11 c11 k11 a12 l12 c12 k12 a13 l13 c13 k13 a14 l14 c14 k14 a15 l15 c15 k15 a16 l16 c16 k16 a17 l17 c17 k17 a18 l18 c18 k18 a19 l19 c19 k19 a20 l20 c20 k20 a21 l21 c21 k21 a22 l22 c22 k22 a23 l23 c23 k23 a24 l24 c24 k24 a25 l25 c25 k25 a26 l26 c26 k26 a27 l27 c27 k27 a28 l28 c28 k28 a29 l29 c29 k29 a30 l30 c30 k30 a31 l31 c31 k31 a32 l32 c32 k32 a33 l33 c33 k33 v_ITEMS v_MAX_LENGTH v_STEPS z_isinstance z_int z_bool z_str z_len z_min z_max z_range z_list z_repr z_classmethod z_staticmethod z_property z_enumerate z_super n_LeakError n_InvalidWord i_InvalidWord m_InvalidWord d_InvalidWord h_InvalidWord n_InvalidProgram i_InvalidProgram m_InvalidProgram d_InvalidProgram h_InvalidProgram n_InvalidCore i_InvalidCore m_InvalidCore d_InvalidCore h_InvalidCore n_InvalidNumber i_InvalidNumber m_InvalidNumber d_InvalidNumber h_InvalidNumber n_Missing i_Missing m_Missing d_Missing h_Missing n_LimitExceeded i_LimitExceeded m_LimitExceeded d_LimitExceeded h_LimitExceeded n_Failed i_Failed m_Failed d_Failed h_Failed n_NothingToUndo i_NothingToUndo m_NothingToUndo d_NothingToUndo h_NothingToUndo n_Effect pg_Effect hd_Effect po_Effect sa_Effect mi_Effect kc_Effect rd_Effect ga_Effect na_Effect_taken na_Effect_given na_Effect_needed n_Queue pg_Queue hd_Queue po_Queue sa_Queue mi_Queue kc_Queue rd_Queue ga_Queue na_Queue_content n_LeakyQueue pg_LeakyQueue hd_LeakyQueue po_LeakyQueue sa_LeakyQueue mi_LeakyQueue kc_LeakyQueue rd_LeakyQueue ga_LeakyQueue na_LeakyQueue_content n_Session pg_Session hd_Session po_Session sa_Session mi_Session kc_Session rd_Session ga_Session na_Session_initial na_Session_done na_Session_cancelled na_Session_present na_Session_reached va_Effect_MAX_ITEMS a_Effect_init if_Effect_init l_Effect_init c_Effect_init k_Effect_init a_Effect_of rc_Effect_of fi_Effect_of l_Effect_of c_Effect_of k_Effect_of a_Effect_is_core rc_Effect_is_core l_Effect_is_core c_Effect_is_core k_Effect_is_core a_Effect_apply if_Effect_apply l_Effect_apply c_Effect_apply k_Effect_apply a_Effect_eq if_Effect_eq l_Effect_eq c_Effect_eq k_Effect_eq a_Effect_repr if_Effect_repr l_Effect_repr c_Effect_repr k_Effect_repr t_Queue_init a_Queue_init if_Queue_init l_Queue_init c_Queue_init k_Queue_init a_Queue_word gt_Queue_word tk_Queue_word rc_Queue_word l_Queue_word c_Queue_word k_Queue_word a_Queue_put if_Queue_put l_Queue_put c_Queue_put k_Queue_put a_Queue_take if_Queue_take l_Queue_take c_Queue_take k_Queue_take a_Queue_perform if_Queue_perform l_Queue_perform c_Queue_perform k_Queue_perform a_Queue_run if_Queue_run l_Queue_run c_Queue_run k_Queue_run a_Queue_clone if_Queue_clone l_Queue_clone c_Queue_clone k_Queue_clone t_LeakyQueue_init u_LeakyQueue_init w_LeakyQueue_init x_LeakyQueue_init y_LeakyQueue_init sb_LeakyQueue_init op_LeakyQueue_init at_LeakyQueue_init ty_LeakyQueue_init fi_LeakyQueue_init a_LeakyQueue_init if_LeakyQueue_init l_LeakyQueue_init c_LeakyQueue_init k_LeakyQueue_init a_LeakyQueue_word gt_LeakyQueue_word tk_LeakyQueue_word rc_LeakyQueue_word l_LeakyQueue_word c_LeakyQueue_word k_LeakyQueue_word u_LeakyQueue_put w_LeakyQueue_put x_LeakyQueue_put y_LeakyQueue_put sb_LeakyQueue_put op_LeakyQueue_put at_LeakyQueue_put ty_LeakyQueue_put fi_LeakyQueue_put a_LeakyQueue_put if_LeakyQueue_put l_LeakyQueue_put c_LeakyQueue_put k_LeakyQueue_put a_LeakyQueue_take if_LeakyQueue_take l_LeakyQueue_take c_LeakyQueue_take k_LeakyQueue_take u_LeakyQueue_run w_LeakyQueue_run x_LeakyQueue_run y_LeakyQueue_run sb_LeakyQueue_run op_LeakyQueue_run at_LeakyQueue_run ty_LeakyQueue_run fi_LeakyQueue_run a_LeakyQueue_run if_LeakyQueue_run l_LeakyQueue_run c_LeakyQueue_run k_LeakyQueue_run a_LeakyQueue_clone if_LeakyQueue_clone l_LeakyQueue_clone c_LeakyQueue_clone k_LeakyQueue_clone a_LeakyQueue_len if_LeakyQueue_len l_LeakyQueue_len c_LeakyQueue_len k_LeakyQueue_len t_Session_init a_Session_init if_Session_init l_Session_init c_Session_init k_Session_init a_Session_move if_Session_move l_Session_move c_Session_move k_Session_move a_Session_word gt_Session_word tk_Session_word rc_Session_word l_Session_word c_Session_word k_Session_word a_Session_program gt_Session_program tk_Session_program rc_Session_program l_Session_program c_Session_program k_Session_program a_Session_effect gt_Session_effect tk_Session_effect rc_Session_effect l_Session_effect c_Session_effect k_Session_effect a_Session_run if_Session_run l_Session_run c_Session_run k_Session_run t_Session_undo a_Session_undo if_Session_undo l_Session_undo c_Session_undo k_Session_undo t_Session_redo a_Session_redo if_Session_redo l_Session_redo c_Session_redo k_Session_redo a_Session_eq if_Session_eq l_Session_eq c_Session_eq k_Session_eq a_Session_len if_Session_len l_Session_len c_Session_len k_Session_len a_Session_repr if_Session_repr l_Session_repr c_Session_repr k_Session_repr ia_LeakyQueue_perform, ⟨hd_hn, hd_hk, hd_x_Failed_Failed, hd_x_NothingToUndo_NothingToUndo, hd_x_NothingToUndo_Failed, hd_i_Effect_Effect, hd_i_Session_Session, hd_nf_Effect, hd_cc_Effect, hd_mo_Effect, hd_xa_Missing, hd_xa_Limit, hd_nf_Session, hd_cc_Session, hd_mo_Session, hd_ne_Session⟩⟩
def nm0 : List PySem.Str := ["_wall", "__name__", "LeakError", "InvalidWord", "InvalidProgram", "InvalidCore", "InvalidNumber", "InvalidPosition", "Missing", "LimitExceeded", "Failed", "NothingToUndo", "is_integer", "is_integer_within", "require_number_from", "ITEMS", "MAX_LENGTH", "is_string_of", "is_word", "require_word", "earliest_positions", "end_of", "embeds", "without", "STEPS", "is_program", "require_program", "take_items", "put_items", "counts_before_takes"]
def nm1 : List PySem.Str := ["is_fitting_core", "program_core", "program_values", "effect_result", "result_of_puts", "perform_best", "unlimited_result", "within_limit", "best_result", "Effect", "require_item", "Queue", "LeakyQueue", "require_count", "Session", "_law_pool", "_law_draw", "_law_letters", "_law_items", "_law_moved", "_law_shown", "_law_counted"]
def nm_ : List PySem.Str := nm0 ++ (nm1)
abbrev R_ : PySem.W.OpenRow := PySem.W.OpenLaw.row PySem.Challenge.rw_leakyqueue_k94_whole_sessions_like_new_o
abbrev hk_ : PySem.W.Hook := Hk.hook 5 cs_ fs_
def ob_ (s : PySem.W.SharedT) : Hk.Al := Hk.obsX 5 cs_ fs_ (HandSHeadRun.getT s)
theorem ob_eq (s : PySem.W.SharedT) : ob_ s = hk_.obs s.abs := Hk.obsX_eq (HandSHeadRun.getT_eq s)
theorem run_ (w : World) : HandSHeadRun.RunEq R_ (PySem.W.view R_.prog [61]) hk_ ob_ 20000 nm_ w := by
  intro os
  kernel_rfl
-- IDX 61
theorem all_mk {l : PySem.W.OpenLaw} {w : World} {K : PySem.W.Frag} {mg : Str → Option Value} {fa : Addr} {a : Ad} (T : Txt K mg a) (hfa : mg "law" = some (.ref fa)) (hd : Hd K a) (hP : Spx.PFile l.prog) :
    ∃ fd : FuncData, (∀ (s : Shared) (v : Value), BindsTo s fd ⟨[v], []⟩ [("_law_script", v)]) ∧ ∀ base : Heap, K.In base → base.Ns mainGlobals mg → FnG l.prog w K mg base CX0 14 fa fd ["_law_script"] (sp_law K) := by
  have e := hfa.symm.trans T.g_law
  cases e
  refine ⟨a.d_law, fun s v => ?_, fun base _ _ => ok_law T hd hP⟩
  obtain ⟨oc, od, kV, doc, pm, an, cdv, ct, osl, hfd, lk, hcd⟩ := T.F_law.ex
  rw [hfd]
  exact .of_eq rfl
end E94
open PySem PySem.W PySem.Calls PyProof.Rows
set_option maxHeartbeats 0 in
theorem PySem.Challenge.cw_leakyqueue_k94_whole_sessions_like_new_o_holds : PySem.Challenge.rw_leakyqueue_k94_whole_sessions_like_new_o.Holds := by
  w_on; o_law
  refine HandSHeadRun.head_any (r := OpenLaw.row PySem.Challenge.rw_leakyqueue_k94_whole_sessions_like_new_o) (q := view (OpenLaw.row PySem.Challenge.rw_leakyqueue_k94_whole_sessions_like_new_o).prog [61]) (H := E94.hk_) (ob := E94.ob_) (M := 20000) (loose := E94.nm_) (d := HandSHeadRun.topDef (OpenLaw.row PySem.Challenge.rw_leakyqueue_k94_whole_sessions_like_new_o).prog 61) (kwd := []) E94.ob_eq
    (by kernel_rfl) (fun s => by kernel_rfl) E94.run_ (by kernel_rfl) (by kernel_rfl) (by kernel_rfl) (by rfl) (by first | assumption | decide +kernel) (by decide +kernel) ⟨rfl, rfl, rfl, rfl, rfl, by decide +kernel⟩ ?hw ?hc
  case hw => w_witness2
  case hc =>
    refine Own.walk_GE (l := PySem.Challenge.rw_leakyqueue_k94_whole_sessions_like_new_o) (n := 63) (k := 14) (x := "_law_script") (CX := fun _ => L2.CX0) rfl (by decide) (by kernel_rfl) ⟨rfl, by decide, by decide⟩ ?F (fun _ _ _ _ _ h => h)
    intro w mg fa h Y G hmg0
    obtain ⟨K, KX, c⟩ := Y
    have hmg : mg ("law" : PySem.Str) = some (.ref fa) := by
      have e : (HandSHeadRun.topDef (OpenLaw.row PySem.Challenge.rw_leakyqueue_k94_whole_sessions_like_new_o).prog 61).name = ("law" : PySem.Str) := by kernel_rfl
      rw [← e]
      exact hmg0
    obtain ⟨a, T, hd⟩ := E94.txt_of KX G c
    obtain ⟨fd, hb, hF⟩ := E94.all_mk (l := PySem.Challenge.rw_leakyqueue_k94_whole_sessions_like_new_o) (w := w) T hmg hd ⟨by decide +kernel, by decide +kernel⟩
    exact ⟨K, fd, E94.sp_law K, KX, hb, fun H a ns hl _ hS => ⟨a, ns, rfl, hS, hl, fun _ => rfl⟩, hF⟩
