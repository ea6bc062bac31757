import PyProof.Rows.All
import Wide.All
import OpenK.AllK
import Wide.FinOn
import HandS.ForMost
import HandS.Conv
import HandS.StrMore
import HandS.IsInst
import HandS.Walk
import KE.DataMinMax
import HandS.ForExc
import HandS.ExcField
import HandS.TryMany
import HandS.ExcValue
import KE.KExcInit
import KE.KExcIs
import HandS.NoneIn
import PySem.Challenge.RW_leakyqueue_k05_error_classes
set_option Elab.async false
set_option linter.all false
set_option maxRecDepth 100000
set_option maxHeartbeats 4000000
namespace Own
open PySem PySem.Spec PyProof.Rows L2

section
variable {X : Cx} {k : Nat}
/-! repr of data, where no repr is under way -/
def rRepr (K : PySem.W.Frag) : List V → Hp → VK → Prop := fun xs H Q =>
  ∃ v d, xs = [v] ∧ Dp K H v d ∧ d.showable = true ∧ d.hasDict = false ∧ d.depth ≤ 60 ∧ d.shown.length ≤ sizeLine ∧ Q (.str d.shown) H
theorem call_reprD (hg : X.A.guards = some []) (hr : Room k X.A) : CallR X (.builtin "repr") (rRepr X.K) := by
  intro pins s σ H xs us Q I rl hh
  obtain ⟨v, d, rfl, hd, hs, hn, hdep, hsz, hq⟩ := hh
  obtain ⟨u, rfl, ru⟩ := vals1 rl
  have hun := hr.un
  obtain ⟨as, rd⟩ := Dp.reads I d v u hd ru
  cases hd with
  | non =>
    cases ru
    exact PySem.P.repr_of_none ⟨.str _, H, I.tok _, ⟨_, rfl⟩, hq⟩
  | bl b =>
    cases ru
    exact PySem.P.repr_of_bool ⟨.str _, H, I.tok _, ⟨_, rfl⟩, hq⟩
  | int i =>
    obtain ⟨t, rfl⟩ := ru
    exact PySem.P.repr_of_int (of_decide_eq_true hs) ⟨.str _, H, I.tok _, ⟨_, rfl⟩, hq⟩
  | str x =>
    obtain ⟨t, rfl⟩ := ru
    exact PySem.P.repr_of_str ⟨.str _, H, I.tok _, ⟨_, rfl⟩, hq⟩ hsz
  | lst h1 h2 =>
    cases ru
    exact repr_of_reads' rd hs (PyData.noDict_hsm hn) hg (by omega) (fun _ _ e => e)
      (fun h' u tk hk => ⟨.str _, H, I.kept hk, ⟨_, rfl⟩, hq⟩) hsz
  | tup h1 h2 =>
    cases ru
    exact repr_of_reads' rd hs (PyData.noDict_hsm hn) hg (by omega) (fun _ _ e => e)
      (fun h' u tk hk => ⟨.str _, H, I.kept hk, ⟨_, rfl⟩, hq⟩) hsz

/-! min of a list of alike data -/
theorem minD_mem (x : PyData) : ∀ ds : List PyData, PySem.W.minD x ds ∈ x :: ds := by
  intro ds
  unfold PySem.W.minD
  suffices h : ∀ (ds all : List PyData) (a : PyData), a ∈ all → (∀ y ∈ ds, y ∈ all) → ds.foldl (fun a y => if PySem.W.dataLt y a then y else a) a ∈ all from
    h ds (x :: ds) x (List.mem_cons_self ..) (fun y hy => List.mem_cons_of_mem _ hy)
  intro ds
  induction ds with
  | nil => intro all a ha _; exact ha
  | cons d ds ih =>
    intro all a ha hall
    rw [List.foldl_cons]
    refine ih all _ ?_ (fun y hy => hall y (List.mem_cons_of_mem _ hy))
    split
    · exact hall d (List.mem_cons_self ..)
    · exact ha
theorem DpAll.at {K : PySem.W.Frag} {H : Hp} : ∀ {vs : List V} {ds : List PyData} {i : Nat} {v : V}, DpAll K H vs ds → vs[i]? = some v → ∃ d, ds[i]? = some d ∧ Dp K H v d
  | _, _, _, _, .nil, e => by simp at e
  | _, _, 0, _, .cons h _, e => by simp at e; subst e; exact ⟨_, rfl, h⟩
  | _, _, i + 1, v, .cons _ t, e => by
    obtain ⟨d, h1, h2⟩ := DpAll.at (i := i) (v := v) t (by simpa using e)
    exact ⟨d, by simpa using h1, h2⟩
def rMinD (K : PySem.W.Frag) : List V → Hp → VK → Prop := fun xs H Q =>
  ∃ a vs x ds, xs = [.ref a] ∧ SqL K H a vs ∧ DpAll K H vs (x :: ds) ∧ PySem.W.AlikeAll (x :: ds) ∧ PyData.depthAll (x :: ds) ≤ 60 ∧
    ∀ (i : Nat) (v : V), vs[i]? = some v → (x :: ds)[i]? = some (PySem.W.minD x ds) → Q v H
theorem call_minD (hc : X.calm = true) (hr : Room k X.A) : CallR X (.builtin "min") (rMinD X.K) := by
  intro pins s σ H xs us Q I rl hh
  obtain ⟨a, vs, x, ds, rfl, hl, hd, hal, hdep, hq⟩ := hh
  obtain ⟨u, rfl, ru⟩ := vals1 rl
  cases ru
  have hun := hr.un
  obtain ⟨its, rv, pl, _⟩ := I.list hl
  obtain ⟨o, n, ho, hcl, hsl, hdt⟩ := pl
  obtain ⟨as, rd⟩ := Dp.readsAll I (x :: ds) vs its hd rv
  refine PySem.W.min_list_data (vs := its.toArray) (I.ok.hd hc) ⟨o, ho, hcl, n, hdt⟩ (by simpa using rd) hal (by omega) fun i v h' tk bs hv hrd hk => ?_
  have hv' : its[i]? = some v := by simpa using hv
  have hi : i < its.length := by
    rcases Nat.lt_or_ge i its.length with h | h
    · exact h
    · rw [List.getElem?_eq_none h] at hv'; cases hv'
  have hlen : vs.length = its.length := rv.length
  obtain ⟨w, hw⟩ : ∃ w, vs[i]? = some w := ⟨vs[i], List.getElem?_eq_getElem (by omega)⟩
  obtain ⟨v2, e2, rw2⟩ := rv.get hw
  rw [hv'] at e2
  cases e2
  obtain ⟨d, hd1, hd2⟩ := DpAll.at hd hw
  obtain ⟨cs, rdd⟩ := Dp.reads I d w v hd2 rw2
  have hmem : d ∈ x :: ds := List.mem_of_getElem? hd1
  have e : d = PySem.W.minD x ds := PySem.W.alike_unique d (PySem.W.minD x ds) v cs bs (hal.1 d hmem _ (minD_mem x ds)) (PySem.W.reads_keeps hk rdd) hrd
  rw [e] at hd1
  exact ⟨w, H, I.kept hk, rw2, hq i w hw hd1⟩

/-! list(text) -/
def sgV (z : Str) : List V := z.cps.toList.map fun c => V.str ⟨#[c]⟩
theorem vals_signs {z : Str} : ∀ (cs : List Nat) (its : List Value), cs.length = its.length → (∀ (j : Nat) (v : Value), its[j]? = some v → ∃ c u, cs[j]? = some c ∧ v = .str ⟨#[c]⟩ u) → Vals (cs.map fun c => V.str ⟨#[c]⟩) its
  | [], [], _, _ => .nil
  | c :: cs, v :: its, hl, h => by
    obtain ⟨c', u, e1, e2⟩ := h 0 v rfl
    have e1' : c = c' := by simpa using e1
    subst e1'
    refine .cons ⟨u, e2⟩ (vals_signs (z := z) cs its (by simpa using hl) fun j w hw => ?_)
    have := h (j + 1) w (by simpa using hw)
    simpa using this
  | [], _ :: _, hl, _ => by simp at hl
  | _ :: _, [], hl, _ => by simp at hl
theorem call_list_str (hc : X.calm = true) : CallR X (.type "list") (fun xs H Q => ∃ z : Str, xs = [.str z] ∧ z.cps.size ≤ sizeLine ∧ ∀ p, H p = none → Q (.ref p) (upd H p (.lst (sgV z)))) := by
  intro pins s σ H xs us Q I rl hh
  obtain ⟨z, rfl, hz, hq⟩ := hh
  obtain ⟨u, rfl, t, rfl⟩ := vals1 rl
  refine PySem.call_list_str (I.ok.hd hc) z t (fun h' tk acc c' hk hS hacc => ?_) hz
  have hf : H s.heap.objs.size = none := I.hok.fresh (Nat.le_refl _)
  have hv : Vals (sgV z) acc.toList := vals_signs (z := z) z.cps.toList acc.toList (by simp [hacc.1]) fun j v hv => by
    obtain ⟨c, u, h1, h2⟩ := hacc.2 j v (by simpa using hv)
    exact ⟨c, u, by simpa using h1, h2⟩
  have hlen : (sgV z).length ≤ sizeLine := by
    unfold sgV
    rw [List.length_map, Array.length_toList]
    exact hz
  exact ⟨.ref _, upd H _ (.lst (sgV z)), I.laid hk (Nat.le_refl _) ⟨hlen, acc.toList, c', hv, by simpa using hS⟩, rfl, hq _ hf⟩

/-! f(k = v, ..), nothing by position -/
theorem pe_callK0 {CX : CXT} {f : Addr} {fd : FuncData} {ps ks : List Str} {sp : Sp} {E : XK} {x : Str} {p pos : Pos} {kws : List Keyword} {tk : TA} {g : List Value → List Value → List Value} {gV : List V → List V → List V}
    (F : FnOk X.prog X.w X.K X.mg X.base CX k f fd ps sp) (hr : Room k X.A) (hg : Gl X x) (hm : X.mg x = some (.ref f)) (hk : PySem.W.keepIn X.K (.ref f) = true) (hb : KBinds X.K fd ps ks g gV) (hx : Passes CX X E) (hkw : PK X kws tk)
    (hal : (backToKw pos (keywordEach kws X.env)).all (·.1.isSome) = true := by rfl) (hks : (backToKw pos (keywordEach kws X.env)).filterMap (·.1) = ks := by rfl) (hdg : (x == ("__debug__" : Str)) = false := by decide)
    (hst : ((backTo pos (starEach [] X.env)).any (·.1) || (backToKw pos (keywordEach kws X.env)).any (·.1.isNone)) = false := by rfl) :
    PE X (.Call (.Name x p) [] kws pos) (tCallK sp gV E tNil tk) := by
  refine ⟨fun pins s σ H Q I q => wpAny_Call_Name_kw (ld_glob I hg hm ?_ hdg)⟩
  refine PySem.W.callWith_KW0 (h₀ := X.base) I.ok.mod.kin hk hal (thn (hkw.run pos pins s σ H _ I q) ?_) hst
  rintro ws s2 ⟨zs, H2, I2, rz, q2⟩
  refine ⟨I2.kIn, ?_⟩
  rw [hks]
  exact run_fnk (us := []) (vs := []) F hr hb hx I2 .nil rz q2
def sw {α : Type} : List α → List α → List α
  | [], [a, b] => [b, a]
  | _, _ => []
theorem sw_rel : ∀ {vs : List V} {us : List Value} {zs : List V} {ws : List Value}, Vals vs us → Vals zs ws → Vals (sw vs zs) (sw us ws)
  | _, _, _, _, .nil, .nil => .nil
  | _, _, _, _, .nil, .cons _ .nil => .nil
  | _, _, _, _, .nil, .cons a (.cons b .nil) => .cons b (.cons a .nil)
  | _, _, _, _, .nil, .cons _ (.cons _ (.cons _ _)) => .nil
  | _, _, _, _, .cons _ _, .nil => .nil
  | _, _, _, _, .cons _ _, .cons _ _ => .nil
theorem kb_sw {K : PySem.W.Frag} {fd : FuncData} {p1 p2 k1 k2 : Str} (h : ∀ (s : Shared) (a b : Value), BindsTo s fd ⟨[], [(k1, a), (k2, b)]⟩ [(p1, b), (p2, a)]) : KBinds K fd [p1, p2] [k1, k2] sw sw where
  to := fun s us ws _ hl => by
    match us, ws, hl with
    | [], [a, b], _ => exact h s a b
    | [], [], hl => cases hl
    | [], [_], hl => cases hl
    | [], _ :: _ :: _ :: _, hl => cases hl
    | _ :: _, _, hl => cases hl
  rel := sw_rel
end
/-! a def's promise where no repr is under way -/
structure FnG (P : Program) (w : World) (K : PySem.W.Frag) (mg : Str → Option Value) (base : Heap) (CX : CXT) (k : Nat) (f : Addr) (fd : FuncData) (ps : List Str) (sp : Sp) : Prop where
  lenG : ∀ vs H Q E, sp vs H Q E → vs.length = ps.length
  runG : ∀ (A : Around) (out : List Env) (s : Shared) (H : Hp) (ar : Args) (us : List Value) (vs : List V) (Q : VK) (E : XK), A.guards = some [] → Room k A → Env0 P w K mg base A out s H →
    BindsTo s fd ar (ps.zip us) → Vals vs us → sp vs H Q E → codeAny (model P w) A (.call (.ref f) ar) (CR CX out P w H s Q E) s
section
variable {P : Program} {w : World} {K : PySem.W.Frag} {mg : Str → Option Value} {base : Heap} {CX : CXT} {k : Nat} {f : Addr} {fd : FuncData} {ps : List Str} {sp : Sp}
theorem FnG.of (F : FnOk P w K mg base CX k f fd ps sp) : FnG P w K mg base CX k f fd ps sp :=
  ⟨F.len, fun A out s H ar us vs Q E _ hr he hb hv hs => F.run A out s H ar us vs Q E hr he hb hv hs⟩
theorem FnG.mono {j : Nat} (F : FnG P w K mg base CX j f fd ps sp) (h : j ≤ k) : FnG P w K mg base CX k f fd ps sp :=
  ⟨F.lenG, fun A out s H ar us vs Q E hg hr => F.runG A out s H ar us vs Q E hg (hr.mono h)⟩
/-- by its body -/
theorem fnG_of {name qual : Str} {params : Arguments} {body : List Stmt} {scope : Scope} {dV kV doc pm cdv ct oc : Value} {an od : Option Addr} {osl : Array (Option Value)} {N : List Str}
    (lk : K.lookup f = some ⟨oc, od, .func (PySem.W.fnOf name qual params body scope dV kV doc pm an cdv ct), osl⟩) (hcd : PySem.W.codeIn K cdv qual = true) (S : FnScope N ps scope) (len : ∀ vs H Q E, sp vs H Q E → vs.length = ps.length)
    (hbody : ∀ (A : Around) (out : List Env) (s : Shared) (H : Hp) (vs : List V) (Q : VK) (E : XK), (A.deeper (envOfC qual scope s.heap.objs.size f cdv)).guards = some [] → Room k (A.deeper (envOfC qual scope s.heap.objs.size f cdv)) → sp vs H Q E →
      ∃ t, PSs (cxOf CX P w K mg base N qual scope f cdv A out s H E) body t ∧ t { nx := fun _ H' => Q .non H', rt := Q } (start N vs) H) :
    FnG P w K mg base CX (k + 1) f (PySem.W.fnOf name qual params body scope dV kV doc pm an cdv ct) ps sp := by
  constructor
  · exact len
  intro A out s H ar us vs Q E hg hr e0 hb rv hsp
  have keeps : ∀ b o, base.get? b = some o → s.heap.get? b = some o := fun b o e => (e0.bs b o e).1
  have KX : K.In s.heap := e0.mod.kin.keeps keeps
  have kinds : ∀ y ∈ ps.zip us, scope.names.lookup y.1 = some .local ∨
      (scope.names.lookup y.1 = some .cell ∧ ((cellsFrom (s.heap.objs.size + 1) scope.names []).lookup y.1).isSome = true) := by
    rintro ⟨n, v⟩ hy
    exact (S.par n (List.of_mem_zip hy).1).imp id fun q => ⟨q, PySem.W.cellsFrom_some _ _ _ (.inl q)⟩
  refine codeAny_call_function hr.depth (KX _ _ lk) rfl S.co S.gen rfl (PySem.W.codeRec_of KX hcd) (hb _ _ _ _ (wpAny_newFunctionEnv_cells S.kind kinds ?_))
  rintro env rfl s1 x
  refine ⟨(e0.mod.nolimit.keeps keeps).keeps x.toInCall.keep, codeAny_func ?_⟩
  obtain ⟨t, ht, hq⟩ := hbody A out s H vs Q E hg (hr.deeper _) hsp
  have I := inv_start (CX := CX) (E := E) S hr.hd e0 (len _ _ _ _ hsp) rv x
  refine wpAny_mono (ht.run [] s1 (start N vs) H _ I hq) ?_ fun e s' hs => hs
  rintro (u | _ | _ | u) s' hs
  all_goals first
    | (obtain ⟨σ', H', J, q⟩ := hs; exact ⟨.non, H', J.os, J.bare, J.base, J.hok, rfl, q⟩)
    | (obtain ⟨v, σ', H', J, rr, q⟩ := hs; exact ⟨v, H', J.os, J.bare, J.base, J.hok, rr, q⟩)
    | (obtain ⟨_, _, _, q⟩ := hs; exact False.elim q)
theorem Fun_okG {x qual : Str} {st : Stmt} {N : List Str} (F : Fun K x qual st f fd) (S : FnScope N ps (defScope st)) (len : ∀ vs H Q E, sp vs H Q E → vs.length = ps.length)
    (hbody : ∀ (cdv : Value) (A : Around) (out : List Env) (s : Shared) (H : Hp) (vs : List V) (Q : VK) (E : XK), (A.deeper (envOfC qual (defScope st) s.heap.objs.size f cdv)).guards = some [] → Room k (A.deeper (envOfC qual (defScope st) s.heap.objs.size f cdv)) → sp vs H Q E →
      ∃ t, PSs (cxOf CX0 P w K mg base N qual (defScope st) f cdv A out s H E).nox (defBody st) t ∧ t { nx := fun _ H' => Q .non H', rt := Q } (start N vs) H) :
    FnG P w K mg base CX0 (k + 1) f fd ps sp := by
  obtain ⟨oc, od, kV, doc, pm, an, cdv, ct, osl, rfl, lk, hcd⟩ := F.ex
  exact fnG_of lk hcd S len fun A out s H vs Q E hg hr hsp => let ⟨t, h, q⟩ := hbody cdv A out s H vs Q E hg hr hsp; ⟨t, h.nox, q⟩
end
/-! the law's end -/
theorem law_callG {P : Program} {w : World} {K : PySem.W.Frag} {mg mb : Str → Option Value} {CX : CXT} {k : Nat} {fa a : Addr} {fd : FuncData} {x : Str} {sp : Sp} {s1 : Shared} {vs : List Value} {ns : List Int}
    (KX : K.In s1.heap) (hns : s1.heap.Ns mainGlobals mg) (hb : s1.heap.Ns builtinsNs mb) (hbb : ∀ x : Str, x ≠ "__name__" → mb x = bootBuiltins x) (hlim : s1.heap.NoLimit) (hgen : s1.gens = #[])
    (ha : s1.heap.get? a = some { cls := .type "list", data := .seq vs.toArray }) (hi : IntsAre vs ns) (hl : ns.length ≤ sizeLine) (hr : Room k callerA)
    (F : ∀ base : Heap, K.In base → base.Ns mainGlobals mg → FnG P w K mg base CX k fa fd [x] sp) (hbind : ∀ (s : Shared) (u : Value), BindsTo s fd ⟨[u], []⟩ [(x, u)])
    (hsp : ∀ H : Hp, Only H → SqL K H a (ns.map V.int) → sp [.ref a] H (fun v _ => v = .bl true) fun _ _ _ => False) (hCX : ∀ H e s', CX [] H s1 (fun _ _ _ => False) e s' → False) :
    codeAny (model P w) callerA (.call (.ref fa) ⟨[.ref a], []⟩) (fun r s' => r = .ok (.ret (.bool true)) ∧ OldK s1.heap s'.heap ∧ s'.os = s1.os ∧ AllBare s'.gens) s1 := by
  have rv := vals_ints hi
  have core : ∀ H : Hp, Only H → SqL K H a (ns.map V.int) → HOk P w H s1.heap → (∀ b, H b ≠ none → b = a ∧ K.lookup a = none) →
      codeAny (model P w) callerA (.call (.ref fa) ⟨[.ref a], []⟩) (fun r s' => r = .ok (.ret (.bool true)) ∧ OldK s1.heap s'.heap ∧ s'.os = s1.os ∧ AllBare s'.gens) s1 := by
    intro H hO hS hok hA
    have off : ∀ {b : Addr} {o : Obj} {es : Array DictEntry} {ep : Nat}, s1.heap.get? b = some o → o.data = .dict es ep → H b = none := by
      intro b o es ep e d
      rcases Option.eq_none_or_eq_some (H b) with q | ⟨u, q⟩
      · exact q
      · obtain ⟨e', _⟩ := hA b (by simp [q])
        subst e'
        rw [ha] at e
        cases e
        cases d
    have nsK : ∀ {b : Addr} {m : Str → Option Value}, s1.heap.Ns b m → (hidT s1.heap H).Ns b m := by
      rintro b m ⟨o, es, ep, e, d, r⟩
      exact ⟨o, es, ep, hidT_get e (off e d), d, r⟩
    have KB : K.In (hidT s1.heap H) := by
      intro b o e
      refine hidT_get (KX b o e) ?_
      rcases Option.eq_none_or_eq_some (H b) with q | ⟨u, q⟩
      · exact q
      · obtain ⟨e', kn⟩ := hA b (by simp [q])
        subst e'
        rw [kn] at e
        cases e
    obtain ⟨mc, l1, l2⟩ := hlim
    have md : Mod K mg (hidT s1.heap H) := ⟨KB, nsK hns, ⟨mb, nsK hb, hbb⟩, mc, nsK l1, l2⟩
    have e0 : Env0 P w K mg (hidT s1.heap H) callerA [] s1 H :=
      { frames := rfl, mod := md, bs := fun b o e => of_hidT e, bsz := Nat.le_of_eq (hidT_size _ _), funs := trivial, frf := fun b hb => (by cases hb), hok := hok, bare := .of_eq hgen }
    have run := (F _ KB (nsK hns)).runG callerA [] s1 H ⟨[.ref a], []⟩ [.ref a] [.ref a] _ _ rfl hr e0 (hbind s1 (.ref a)) (.cons rfl .nil) (hsp H hO hS)
    refine codeAny_mono run ?_
    rintro (e | _ | _ | _ | u) s' hh
    all_goals first
      | exact (hCX H e s' hh).elim
      | exact False.elim hh
      | skip
    obtain ⟨v, H', os, bare, un, hok', r', q⟩ := hh
    obtain rfl : v = .bl true := q
    obtain rfl : u = Value.bool true := r'
    refine ⟨rfl, OldK.of_keep fun b o e => ?_, os, bare⟩
    rcases hO b with z | ⟨ob, xs, z⟩
    · exact un.keep b o e z (fun y => by cases y) (fun y => by cases y)
    · have g1 := (hok b _ z).1
      have g2 := (hok' b _ (un.frzs b ob _ z)).1
      rw [e] at g1
      cases g1
      exact g2
  have hv : (ns.map V.int).length ≤ sizeLine := by rw [List.length_map]; exact hl
  rcases Option.eq_none_or_eq_some (K.lookup a) with kn | ⟨o, kn⟩
  · refine core (fun b => if b = a then some (.frz { cls := .type "list", data := .seq vs.toArray } (.lst (ns.map V.int))) else none) ?_ (.inl (.inr ⟨_, if_pos rfl⟩)) ?_ ?_
    · intro b
      by_cases hb : b = a
      · exact .inr ⟨_, _, if_pos hb⟩
      · exact .inl (if_neg hb)
    · intro b u z
      by_cases hb : b = a
      · subst hb
        have z' := (if_pos rfl).symm.trans z
        cases z'
        exact ⟨ha, hv, vs, _, rv, ha⟩
      · have z' := (if_neg hb).symm.trans z
        cases z'
    · intro b z
      by_cases hb : b = a
      · exact ⟨hb, kn⟩
      · exact absurd (if_neg hb) z
  · have e := KX a o kn
    rw [ha] at e
    cases e
    refine core (fun _ => none) (fun _ => .inl rfl) (.inr ⟨_, vs.toArray, _, kn, rfl, rfl, rfl, ?_, by simpa using rv⟩) (fun b u z => by cases z) (fun b z => absurd rfl z)
    rw [List.size_toArray, hi.length]
    exact hl
theorem walk_G {l : PySem.W.OpenLaw} {n k : Nat} {q : Program} {loose : List Str} {XP : (Str → Option Value) → Heap → Prop} {YP : World → Heap → Prop} {d : DefRec} {K : Params → PySem.W.Frag} {CX : World → CXT} {sp : World → Sp} {x : Str}
    (hn : l.most = some n) (hn2 : n ≤ sizeLine) (hdf : d.params.defaults = []) (hr : Room k callerA) (hY : ∀ (w : World) (h : Heap), YP w h → (K w.params).In h)
    (F : ∀ (w : World) (mg : Str → Option Value) (fa : Addr) (h : Heap), (K w.params).In h → h.Ns mainGlobals mg → mg d.name = some (.ref fa) →
      ∃ fd : FuncData, (∀ (s : Shared) (u : Value), BindsTo s fd ⟨[u], []⟩ [(x, u)]) ∧ ∀ base : Heap, (K w.params).In base → base.Ns mainGlobals mg → FnG l.prog w (K w.params) mg base (CX w) k fa fd [x] (sp w))
    (hsp : ∀ (w : World) (H : Hp) (a : Addr) (ns : List Int), ns.length ≤ n → Only H → SqL (K w.params) H a (ns.map V.int) → sp w [.ref a] H (fun v _ => v = .bl true) fun _ _ _ => False)
    (hCX : ∀ (w : World) (H : Hp) (s : Shared) (e : Value) (s' : Shared), CX w [] H s (fun _ _ _ => False) e s' → False) :
    PySem.W.WalkO q loose XP YP l.row.toRowW d [] (fun f vs => PySem.call f vs) := by
  apply Att.attach_call hn hdf
  intro w s0 s1 mg mb fa o pm cd doc a vs ns G Y _ _ _ hmg hobj hints hlen hgen
  obtain ⟨fd, hb, hF⟩ := F w mg fa _ (hY w _ Y) G.T.g hmg
  exact law_callG (hY w _ Y) G.T.g G.T.b G.T.builtins G.T.nolimit hgen hobj hints (Nat.le_trans hlen hn2) hr hF hb (fun H => hsp w H a ns hlen) fun H e s' => hCX w H s1 e s'
end Own

set_option Elab.async false
set_option linter.all false
set_option maxRecDepth 100000
set_option maxHeartbeats 4000000
namespace Exn
open PySem PySem.W PySem.Calls PyProof.Rows PySem.HandSPX
/-! an own error class over any built-in error: def __init__(self, f): self.f = f -/
section
open Builtin Builtin.ObjectAttr
variable {prog : Program} {w : World} {A : Around} {E : Value → Shared → Prop} {R : Result → Shared → Prop} {hp : Heap} {g : Array GenState} {d : Drawn} {t : Nat} {os : OsState} {B : String} {bmB : List Value}
theorem osaB {K : Frag} {name : Str} {tk : Tok} {v : Value} {x C : Addr} {fv : Array Value} {cd : ClassData} (SF : StoreFacts B bmB "object.__setattr__" "object")
    (X : K.In hp) (hx : hp.get? x = some { cls := .ref C, data := .fields fv }) (ho : excOver K C bmB = true) (ht : takerIn K C name = some none) (hcd : clsIn K C = some cd) (hh : cd.hasDict = true)
    (hq : ∀ h' tk' dx, (∀ b o, b ≠ x → hp.get? b = some o → h'.get? b = some o) → hp.objs.size ≤ dx → dx ≠ x → h'.get? x = some { cls := .ref C, dict := some dx, data := .fields fv } → h'.Ns1 dx (fun y => if y = name then some v else none) →
      R (.ok (.ret .none)) ⟨h', g, d, tk', os⟩) : codeAny (model prog w) A (.call (.builtin "object.__setattr__") ⟨[.ref x, .str name tk, v], []⟩) R ⟨hp, g, d, t, os⟩ := by
  have xs : x ≠ hp.objs.size := Nat.ne_of_lt (Heap.lt_size hx)
  have hcls : Looks (model prog w) hp (classData C) cd := looks_clsIn X hcd
  refine osa_openX (s := ⟨hp, g, d, t, os⟩) (ox := { cls := .ref C, data := .fields fv }) (od := none) SF X ⟨hx, rfl, rfl, trivial⟩ ho ht fun b => ?_
  show wpAny _ _ (storeInOwnDict (.ref x) (.ref C) (.str name tk) name v b) _ _ _
  obtain ⟨nm, bs, mro, ns, qn, hd, sn, sb, ab, col, del⟩ := cd
  cases hh
  unfold storeInOwnDict ownDictForStores
  repeat (first | with_reducible refine store_in_new ?_ ?_ | with_reducible refine wpAny_loadPart_at hx ?_ | with_reducible refine hcls.at ?_ | wp_step)
  · exact ⟨_, #[], _, (Heap.get?_update_ne _ _ _ _ xs.symm).trans (Heap.get?_push_at rfl rfl), rfl, fun e he => absurd he (by simp), fun _ => rfl⟩
  · intro h' tk' hn' hs
    refine hq h' tk' hp.objs.size (fun b o hb hob => ?_) (Nat.le_refl _) xs.symm ?_ hn'
    · exact (hs.2 b (Nat.ne_of_lt (Heap.lt_size hob))).trans ((Heap.get?_update_ne _ _ _ _ hb).trans (Heap.get?_push_of_some _ hob))
    · exact (hs.2 x xs).trans (Heap.get?_update_self _ (Heap.get?_push_of_some _ hx) rfl)
end
def iA (f : Str) (p1 p2 : Pos) : Arguments := { posonlyargs := [], args := [{ arg := "self", annotation := none, pos := p1 }, { arg := f, annotation := none, pos := p2 }], vararg := none, kwonlyargs := [], kw_defaults := [], kwarg := none, defaults := [] }
def iB (f : Str) (q1 q2 q3 q4 : Pos) : List Stmt := [.Assign [.Attribute (.Name "self" q1) f q2] (.Name f q3) q4]
def iS (f : Str) (m : List (Str × Const)) : Scope := { kind := .function, names := [("self", .local), (f, .local)], isGenerator := false, isCoroutine := false, more := m }
end Exn

set_option Elab.async false
set_option linter.all false
set_option maxRecDepth 100000
set_option maxHeartbeats 4000000
namespace Exn
open PySem PySem.W PySem.Calls PyProof.Rows PySem.HandSPX
abbrev keyTail : List Value := [.type "KeyError", .type "LookupError", .type "Exception", .type "BaseException", .type "object"]
open PySem.F in
theorem storeKey : StoreFacts "KeyError" keyTail "object.__setattr__" "object" :=
  { mro := by kernel_rfl, slot := .of (owner := "object") (n := "__setattr__") (by rw [typeLookup_type, builtinLookup_eq_fast]; kernel_rfl) (by decide +kernel) (by decide +kernel) (by decide +kernel) (by first | exact .inl (by decide +kernel) | exact .inr (by decide +kernel)) (by rw [isSubtype_type]; kernel_rfl),
    entry := entry_object_sa, kind := by decide +kernel, split := by decide +kernel, hasOwner := by decide +kernel, args := fun a b c => by unfold argsOk; kernel_rfl, passes := fun self => by kernel_rfl }
/-! such a class called, by position or with keywords; the maker may be that of a base -/
section
variable {prog : Program} {w : World} {M : Model} {A : Around} {E : Value → Shared → Prop} {R : Result → Shared → Prop} {h : Heap} {g : Array GenState} {d : Drawn} {t : Nat} {os : OsState}
variable {nm q : Str} {C N : Addr} {bs bm bm0 : List Value} {hdct : Bool} {sn : List Str} {sub : List Value} {ab : Bool} {col : Option Bool} {dd : Option Addr} {k0 k1 k2 k3 k5 : Option Value} {B newId initId : String} {rest : List Value} {kw : List (Str × Value)}
/-- what the class's chain must say of the maker -/
structure Chain (bm : List Value) (B : String) : Prop where
  cB : bm.contains (.type B) = true
  cA : bm.contains (.type "AttributeError") = false
  cN : bm.contains (.type "NameError") = false
theorem checkNewX (F : ExcBaseFacts B newId initId bm0) (hT : Chain bm B) {Q : Unit → Shared → Prop}
    (hC : h.get? C = some (excClassObj nm q C N bs bm hdct sn sub ab col dd k0 k1 k2 k3 k5 newId)) (hq : Q () ⟨h, g, d, t, os⟩) : wpAny M A (checkBuiltinCall newId ⟨.ref C :: rest, kw⟩) Q E ⟨h, g, d, t, os⟩ := by
  have hcB : (Value.ref C :: bm).contains (.type B) = true := by rw [List.contains_cons, hT.cB, Bool.or_true]
  have hst := F.noStar
  simp only [checkBuiltinCall, F.newKind, F.newSplit, F.newRow]
  repeat (first | refine wpAny_loadPart_at hC ?_ | (refine wpAny_isSubtype_exc hC ?_; rw [hcB]) | refine wpAny_staticBase_exc hC ?_ | refine wpAny_madeBy_exc hC ?_ | simp only [bne_self_eq_false, Bool.false_eq_true, if_false] | wp_step)
  exact hq
theorem newX (F : ExcBaseFacts B newId initId bm0) (hT : Chain bm B) (hC : h.get? C = some (excClassObj nm q C N bs bm hdct sn sub ab col dd k0 k1 k2 k3 k5 newId)) (hrest : rest.length ≤ sizeLine)
    (hq : R (.ok (.ret (.ref (h.objs.size + 1)))) ⟨(h.push (W.kdv_tup rest)).push (excO C h.objs.size), g, d, t, os⟩) :
    codeAny (model prog w) A (.builtin newId ⟨.ref C :: rest, kw⟩) R ⟨h, g, d, t, os⟩ := by
  have hends := F.ends
  have cB : (Value.ref C :: bm).contains (.type B) = true := by rw [List.contains_cons, hT.cB, Bool.or_true]
  have cA : (Value.ref C :: bm).contains (.type "AttributeError") = false := by rw [List.contains_cons, hT.cA]; rfl
  have cN : (Value.ref C :: bm).contains (.type "NameError") = false := by rw [List.contains_cons, hT.cN]; rfl
  refine codeAny_builtinAt F.entry ?_
  unfold Builtin.«BaseException.__new__»
  refine PySem.wpAt_bind ?_
  show PySem.wpAt _ _ _ (stack >>= _) _ _ _
  refine PySem.wpAt_bind (PySem.wpAt_stack fun p below => PySem.wpAt_of_wpAny ?_)
  wp_walk
  refine PySem.wpAt_of_wpAny ?_
  rw [F.owner]
  repeat (first | with_reducible refine wpAny_madeHere_exc F.canon hC ?_ | with_reducible refine wpAny_loadPart_at hC ?_ | (with_reducible refine wpAny_isSubtype_exc hC ?_; first | rw [cB] | rw [cA] | rw [cN]) | wp_step)
  show R _ _
  rw [Heap.size_push]
  exact hq
theorem typeCallX (F : ExcBaseFacts B newId initId bm0) (hT : Chain bm B) {fI : Addr} {Q : Fin → Shared → Prop} (hC : h.get? C = some (excClassObj nm q C N bs bm hdct sn sub ab col dd k0 k1 k2 k3 k5 newId))
    (hi : W.Looks (model prog w) h (typeLookup (.ref C) "__init__") (some (.ref fI))) (hb : ∀ self, W.Looks (model prog w) h (bindSpecial (.ref fI) self) (.ref fI, [self])) (hrest : rest.length ≤ sizeLine)
    (hq : codeAny (model prog w) A (.call (.ref fI) ⟨.ref (h.objs.size + 1) :: rest, kw⟩) (fun r s' => match r with | .ok (.ret v) => v = .none ∧ Q (.done (.ret (.ref (h.objs.size + 1)))) s' | .ok _ => False | .error e => E e s')
      ⟨(h.push (W.kdv_tup rest)).push (excO C h.objs.size), g, d, t, os⟩) : wpAny (model prog w) A (Builtin.«type.__call__» ⟨.ref C :: rest, kw⟩) Q E ⟨h, g, d, t, os⟩ := by
  repeat (first | with_reducible refine wpAny_loadPart_at hC ?_ | with_reducible refine wpAny_madeBy_exc hC ?_ | wp_step)
  refine codeAny_call_builtin_code (Code.quiet_builtin _ F.quiet) (checkNewX F hT hC (newX F hT hC hrest ?_))
  show wpAny _ _ _ _ _ _
  have k : ∀ b o, h.get? b = some o → ((h.push (W.kdv_tup rest)).push (excO C h.objs.size)).get? b = some o := fun b o e => Heap.get?_push_of_some _ (Heap.get?_push_of_some _ e)
  have hC1 := k _ _ hC
  have hge : ((h.push (W.kdv_tup rest)).push (excO C h.objs.size)).get? (h.objs.size + 1) = some (excO C h.objs.size) := by heap_get
  have cC : (Value.ref C :: bm).contains (.ref C) = true := by simp
  have i1 := hi.keeps k
  have b1 := (hb (.ref (h.objs.size + 1))).keeps k
  unfold isInstance
  repeat (first | with_reducible refine wpAny_loadPart_at hge ?_ | (with_reducible refine wpAny_isSubtype_exc hC1 ?_; rw [cC]) | wp_step)
  show wpAny _ _ (typeLookup (.ref C) _) _ _ _
  refine i1.at (wpAny_holding (wpAny_bind (b1.at (wpAny_bind (wpAny_call (codeAny_mono hq fun r s' z => ?_))))))
  rcases r with e | (v | _ | _ | _) <;> first | exact z | exact z.elim | skip
  obtain ⟨rfl, z⟩ := z
  first | exact wpAny_pure (wpAny_pure z) | (wp_walk; exact z)
theorem callX (F : ExcBaseFacts B newId initId bm0) (hT : Chain bm B) {fI : Addr} (hC : h.get? C = some (excClassObj nm q C N bs bm hdct sn sub ab col dd k0 k1 k2 k3 k5 newId))
    (hi : W.Looks (model prog w) h (typeLookup (.ref C) "__init__") (some (.ref fI))) (hb : ∀ self, W.Looks (model prog w) h (bindSpecial (.ref fI) self) (.ref fI, [self])) (hrest : rest.length ≤ sizeLine)
    (hq : codeAny (model prog w) (A.under (.builtin "type.__call__" ⟨.ref C :: rest, kw⟩)) (.call (.ref fI) ⟨.ref (h.objs.size + 1) :: rest, kw⟩) (W.InitBack (h.objs.size + 1) R)
      ⟨(h.push (W.kdv_tup rest)).push (excO C h.objs.size), g, d, t, os⟩) : codeAny (model prog w) A (.call (.ref C) ⟨rest, kw⟩) R ⟨h, g, d, t, os⟩ := by
  have f1 := tc_lookup
  have f2 := tc_bind (.ref C)
  have hTy : (⟨h, g, d, t, os⟩ : Shared).TypeIs (.ref C) "type" := ⟨_, hC, rfl⟩
  refine codeAny_of_tree ?_
  show wpAny _ _ (callAny (.ref C) _) _ _ _
  repeat (any_goals (first | assumption | with_reducible refine wpAny_loadPart_at hC ?_ | wp_step))
  refine ⟨rfl, codeAny_call_builtin_at (Code.quiet_builtin _ (by decide +kernel)) entry_typeCall (wpAny_check_type_call_sub hC (typeCallX F hT hC hi hb hrest ?_))⟩
  exact codeAny_mono hq fun r s' z => by rcases r with e | (v | _ | _ | _) <;> exact z
end
end Exn

set_option Elab.async false
set_option linter.all false
set_option maxRecDepth 100000
set_option maxHeartbeats 4000000
namespace Exn
open PySem PySem.Spec PyProof.Rows L2
/-! an own error held as a value: at a, of the class at C, its dict at d -/
def ExV (C d a : Addr) : HO := .ext fun h => ∃ t1 : Addr, h.get? a = some { cls := .ref C, dict := some d, data := .fields #[.ref t1, .none, .none, .none, .bool false, .none] }
theorem exV_ok {P : Program} {w : World} {H : Hp} {h : Heap} {a C d t1 : Addr} (e : h.get? a = some { cls := .ref C, dict := some d, data := .fields #[.ref t1, .none, .none, .none, .bool false, .none] }) : ObjOk P w H h a (ExV C d a) :=
  ⟨⟨t1, e⟩, ⟨_, e⟩, fun _ _ ⟨t, z⟩ k => ⟨t, k _ z⟩⟩
/-- what its class must say, for a field f to be read and for isinstance -/
structure Xv (K : PySem.W.Frag) (C : Addr) : Prop where
  ga : PySem.W.findIn K (.ref C) "__getattribute__" = some (some (.builtin "BaseException.__getattribute__"))
  gg : PySem.W.findIn K (.ref C) "__getattr__" = some none
  exC : PySem.W.subIn K (.ref C) (.type "BaseException") = some true
  hdC : PySem.W.hasDictIn K C = true
  ha : PySem.W.findIn K (.ref C) "__class__" = some (some (.builtin "object.__class__"))
  hm : PySem.W.mroIn K C (.type "object") = some true
  hn : PySem.W.specialIn K (.builtin "object.__class__") "__get__" = some (some (.builtin "getset_descriptor.__get__"))
  ht : PySem.W.takesIn K (.builtin "object.__class__") = some true
/-- an error made as a value: its dict at d, itself at a, both new -/
def tMkVg (f : Str) (C : Addr) (ta : TA) : TE := fun σ H Q => ta σ H fun vs H1 => ∃ v, vs = [v] ∧ ∀ d a, H1 d = none → H1 a = none → a ≠ d → Q (.ref a) (upd (upd H1 d (.xd [(f, v)])) a (ExV C d a))
open PySem.W in
/-- these facts, asked at once -/
def ecB (K : PySem.W.Frag) (C fI : Addr) (f : Str) (bmB : List Value) (newId : String) : Bool :=
  excInitIn K C bmB newId && (excOver K C bmB && (hasDictIn K C && (decide (findIn K (.ref C) "__setattr__" = some (some (.builtin "object.__setattr__"))) && (decide (findIn K (.ref C) "__getattribute__" = some (some (.builtin "BaseException.__getattribute__"))) && (decide (findIn K (.ref C) "__getattr__" = some none) &&
    (decide (findIn K (.ref C) f = some none) && (decide (takerIn K C f = some none) && (decide (typeIn K (.ref fI) = some (.type "function")) && (keepIn K (.ref C) && (decide (subIn K (.ref C) (.type "BaseException") = some true) && (decide (typeIn K (.ref C) = some (.type "type")) &&
      (decide (findIn K (.ref C) "__class__" = some (some (.builtin "object.__class__"))) && decide (mroIn K C (.type "object") = some true)))))))))))))
theorem xv_of {K : PySem.W.Frag} {C fI : Addr} {f : Str} {bmB : List Value} {newId : String} (h : ecB K C fI f bmB newId = true) (hn : PySem.W.specialIn K (.builtin "object.__class__") "__get__" = some (some (.builtin "getset_descriptor.__get__"))) (ht : PySem.W.takesIn K (.builtin "object.__class__") = some true) :
    Xv K C ∧ PySem.W.findIn K (.ref C) f = some none := by
  unfold ecB at h
  simp only [Bool.and_eq_true, decide_eq_true_eq] at h
  obtain ⟨_, _, h3, _, h5, h6, h7, _, _, _, h11, _, h13, h14⟩ := h
  exact ⟨⟨h5, h6, h11, h3, h13, h14, hn, ht⟩, h7⟩
section
variable {X : Cx}
theorem exV_inst {pins : List (Addr × Obj)} {σ : L2.St} {H : Hp} {s : Shared} {a C d : Addr} {fs : List (Str × V)} (I : Inv X pins σ H s) (ea : H a = some (ExV C d a)) (ed : H d = some (.xd fs)) :
    ∃ (ox od : Obj) (mA : Str → Option Value), PySem.W.InstAt s.heap a ox C (some od) ∧ (∀ n, PySem.W.lookIn n od = some (mA n)) ∧ ∀ f, RelO (fs.lookup f) (mA f) := by
  obtain ⟨⟨t1, ha⟩, _⟩ := (show ObjOk X.prog X.w H s.heap a (ExV C d a) from I.hok a _ ea)
  obtain ⟨mA, hns, hr⟩ := (show ObjOk X.prog X.w H s.heap d (.xd fs) from I.hok d _ ed)
  obtain ⟨od, ho, hl⟩ := lookIn_ns hns
  exact ⟨_, od, mA, ⟨ha, rfl, rfl, ho⟩, hl, hr⟩
def tAttrV (K : PySem.W.Frag) (f : Str) (te : TE) : TE := fun σ H Q => te σ H fun x H1 => ∃ (a C d : Addr) (fs : List (Str × V)) (v : V), x = .ref a ∧ H1 a = some (ExV C d a) ∧ H1 d = some (.xd fs) ∧ fs.lookup f = some v ∧ Xv K C ∧ PySem.W.findIn K (.ref C) f = some none ∧ Q v H1
theorem pe_attrV {e : Expr} {te : TE} {pos : Pos} {f : Str} (he : PE X e te) (hb : attributeBase e f X.env (eval e X.env) = eval e X.env := by rfl) : PE X (.Attribute e f pos) (tAttrV X.K f te) := by
  refine ⟨fun pins s σ H Q I h => attr_of hb (thn (he.run pins s σ H _ I h) ?_)⟩
  rintro u s1 ⟨x, H1, I1, rx, a, C, d, fs, v, rfl, ea, ed, l, T, hno, q⟩
  obtain rfl : u = Value.ref a := rx
  obtain ⟨ox, od, mA, J, hl, hr⟩ := exV_inst I1 ea ed
  obtain ⟨u, hu, ru⟩ := RelO.some_of (v := v) (o := mA f) (by rw [← l]; exact hr f)
  exact HandSPX.exc_get I1.kIn J T.ga T.gg T.exC (PySem.W.findObj_own T.hdC hno rfl (by rw [hl, hu])) (handed_of ru) ⟨v, H1, I1.tok _, ru, q⟩
def rIsV (K : PySem.W.Frag) : List V → Hp → VK → Prop := fun xs H Q => ∃ (a C d : Addr) (fs : List (Str × V)) (c : V) (u : Value) (b : Bool), xs = [.ref a, c] ∧ ClsV c u ∧ H a = some (ExV C d a) ∧ H d = some (.xd fs) ∧ Xv K C ∧ PySem.W.kitOne K (.ref C) u = some b ∧ Q (.bl b) H
theorem call_isV : CallR X (.builtin "isinstance") (rIsV X.K) := by
  intro pins s σ H xs us Q I r h
  obtain ⟨a, C, d, fs, c, u, b, rfl, kc, ea, ed, T, e, q⟩ := h
  obtain ⟨u1, u2, rfl, r1, r2⟩ := vals2 r
  obtain rfl : u1 = Value.ref a := r1
  have e2 := kc.eq r2
  subst e2
  obtain ⟨ox, od, mA, J, _, _⟩ := exV_inst I ea ed
  obtain ⟨cd, hcd, _⟩ := PySem.W.any_some T.hdC
  exact PySem.W.kia_one (PySem.W.kitx_exc (by rw [hcd]; rfl) T.ga T.gg T.exC T.ha T.hn T.ht T.hm) I.kIn J e (fun z => nomatch z) fun tk => ⟨.bl b, H, I.tok tk, rfl, q⟩
end
end Exn
/-! the field value -/
namespace Exn
open PySem PySem.W PySem.Calls PyProof.Rows PySem.HandSPX
/-- what the written part says of such a class: its name, its place C, its __init__ at fI -/
structure Ecl_value (K : Frag) (mg : Str → Option Value) (nm qual : Str) (B Bm newId initId : String) (bmB bm0 : List Value) (C fI : Addr) : Prop where
  fb : ExcBaseFacts Bm newId initId bm0
  ch : Chain bmB Bm
  sf : StoreFacts B bmB "object.__setattr__" "object"
  gC : mg nm = some (.ref C)
  ini : excInitIn K C bmB newId = true
  ovr : excOver K C bmB = true
  hdC : hasDictIn K C = true
  sa : findIn K (.ref C) "__setattr__" = some (some (.builtin "object.__setattr__"))
  ga : findIn K (.ref C) "__getattribute__" = some (some (.builtin "BaseException.__getattribute__"))
  gg : findIn K (.ref C) "__getattr__" = some none
  noN : findIn K (.ref C) "value" = some none
  tk : takerIn K C "value" = some none
  iC : findIn K (.ref C) "__init__" = some (some (.ref fI))
  tC : typeIn K (.ref fI) = some (.type "function")
  kC : keepIn K (.ref C) = true
  exC : subIn K (.ref C) (.type "BaseException") = some true
  tyC : typeIn K (.ref C) = some (.type "type")
  fn : ∃ (oc : Value) (od : Option Addr) (doc pm : Value) (an : Option Addr) (cdv ct : Value) (osl : Array (Option Value)) (p1 p2 q1 q2 q3 q4 : Pos),
    K.lookup fI = some ⟨oc, od, .func (fnOf "__init__" qual (iA "value" p1 p2) (iB "value" q1 q2 q3 q4) (iS "value" []) .none .none doc pm an cdv ct), osl⟩ ∧ codeIn K cdv qual = true
theorem ecl_value {K : Frag} {mg : Str → Option Value} {nm qual : Str} {B Bm newId initId : String} {bmB bm0 : List Value} {C fI : Addr} (fb : ExcBaseFacts Bm newId initId bm0) (ch : Chain bmB Bm) (sf : StoreFacts B bmB "object.__setattr__" "object") (gC : mg nm = some (.ref C))
    (h : ecB K C fI "value" bmB newId = true) (iC : findIn K (.ref C) "__init__" = some (some (.ref fI))) {oc : Value} {od : Option Addr} {doc pm : Value} {an : Option Addr} {cdv ct : Value} {osl : Array (Option Value)} {p1 p2 q1 q2 q3 q4 : Pos}
    (l : K.lookup fI = some ⟨oc, od, .func (fnOf "__init__" qual (iA "value" p1 p2) (iB "value" q1 q2 q3 q4) (iS "value" []) .none .none doc pm an cdv ct), osl⟩) (c : codeIn K cdv qual = true) : Ecl_value K mg nm qual B Bm newId initId bmB bm0 C fI := by
  unfold ecB at h
  simp only [Bool.and_eq_true, decide_eq_true_eq] at h
  obtain ⟨h1, h2, h3, h4, h5, h6, h7, h8, h9, h10, h11, h12, _⟩ := h
  exact ⟨fb, ch, sf, gC, h1, h2, h3, h4, h5, h6, h7, h8, iC, h9, h10, h11, h12, ⟨oc, od, doc, pm, an, cdv, ct, osl, p1, p2, q1, q2, q3, q4, l, c⟩⟩
/-- an error just made: at e, its dict at d, the field in it -/
structure Made_value (h h' : Heap) (e C d : Addr) (v : Value) : Prop where
  keep : ∀ b o, h.get? b = some o → h'.get? b = some o
  new : h.objs.size ≤ e
  obj : ∃ t1 : Addr, h'.get? e = some { cls := .ref C, dict := some d, data := .fields #[.ref t1, .none, .none, .none, .bool false, .none] }
  dbig : h.objs.size ≤ d
  dne : d ≠ e
  ns : h'.Ns1 d (fun y => if y = "value" then some v else none)
section
variable {prog : Program} {w : World} {A : Around} {E : Value → Shared → Prop} {R : Result → Shared → Prop} {s : Shared} {K : Frag} {mg : Str → Option Value} {nm qual : Str} {B Bm newId initId : String} {bmB bm0 : List Value} {C fI : Addr}
theorem init_value (T : Ecl_value K mg nm qual B Bm newId initId bmB bm0 C fI) {x t0 : Addr} {v : Value} {ar : Args} (X : K.In s.heap) (hlim : s.heap.NoLimit) (hx : s.heap.get? x = some (excO C t0)) (hroom : A.depth < recursionLimit)
    (hbind : ∀ doc pm an cdv ct p1 p2 q1 q2 q3 q4 s', BindsTo s' (fnOf "__init__" qual (iA "value" p1 p2) (iB "value" q1 q2 q3 q4) (iS "value" []) .none .none doc pm an cdv ct) ar [("self", .ref x), ("value", v)])
    (hq : ∀ h' tk dx, (∀ b o, b ≠ x → s.heap.get? b = some o → h'.get? b = some o) → h'.get? x = some { cls := .ref C, dict := some dx, data := .fields #[.ref t0, .none, .none, .none, .bool false, .none] } → s.heap.objs.size ≤ dx → dx ≠ x →
      h'.Ns1 dx (fun y => if y = "value" then some v else none) → R (.ok (.ret .none)) { s with heap := h', toks := tk }) :
    codeAny (model prog w) A (.call (.ref fI) ar) R s := by
  obtain ⟨oc, od, doc, pm, an, cdv, ct, osl, p1, p2, q1, q2, q3, q4, ho, hcd⟩ := T.fn
  obtain ⟨cd, hcl, hhd⟩ := any_some T.hdC
  refine Att.call_fn (binds := [("self", .ref x), ("value", v)]) X hlim ho hcd hroom (hbind _ _ _ _ _ _ _ _ _ _ _ _) (by first | rfl | decide | with_unfolding_all rfl) (fun s₁ IC => ?_) rfl rfl rfl
  obtain ⟨h₁, tk₁, rfl⟩ := IC.toInCall.same
  have k := IC.toInCall.keep
  have hn := IC.toInCall.ns
  have X₁ : K.In h₁ := X.keeps k
  show wpAny _ _ (execs _ _) _ _ _
  refine wpAny_execs_cons (plainObj_wpAny_Assign_Attribute ?_)
  refine wpAny_Name (wpAny_loadName_local rfl rfl hn (v := v) (by first | rfl | with_unfolding_all rfl | kernel_rfl) ?_) (by decide)
  refine wpAny_Name (wpAny_loadName_local rfl rfl hn (v := .ref x) (by first | rfl | with_unfolding_all rfl | kernel_rfl) ?_) (by decide)
  refine set_plain X₁ (ox := excO C t0) (od := none) ⟨k _ _ hx, rfl, rfl, trivial⟩ T.sa (osaB T.sf X₁ (k _ _ hx) T.ovr T.tk hcl hhd fun h₃ tk₃ dx k₃ dn dne hx₃ hn₃ => ?_)
  show wpAny _ _ (execs _ _) _ _ _
  exact wpAny_execs_nil (hq h₃ tk₃ dx (fun b o hb e => k₃ b o hb (k b o e)) hx₃ (Nat.le_of_lt (Nat.lt_of_lt_of_le hn.lt dn)) dne hn₃)
theorem made_value (T : Ecl_value K mg nm qual B Bm newId initId bmB bm0 C fI) {v : Value} {rest : List Value} {kw : List (Str × Value)} (X : K.In s.heap) (hlim : s.heap.NoLimit) (hroom : A.depth + 1 < recursionLimit) (how : (rest = [v] ∧ kw = []) ∨ (rest = [] ∧ kw = [(("value" : Str), v)]))
    (hq : ∀ h' tk e d, Made_value s.heap h' e C d v → R (.ok (.ret (.ref e))) { s with heap := h', toks := tk }) :
    codeAny (model prog w) A (.call (.ref C) ⟨rest, kw⟩) R s := by
  obtain ⟨nm', N, q, bs, bm, hd, sn, sub, ab, col, dd, k0, k1, k2, k3, k5, hC, hbm⟩ := excInit_of X T.ini
  obtain ⟨hp, g, dr, tk, os⟩ := s
  have k : ∀ b o, hp.get? b = some o → ((hp.push (kdv_tup rest)).push (excO C hp.objs.size)).get? b = some o := fun b o e => Heap.get?_push_of_some _ (Heap.get?_push_of_some _ e)
  have hget : ((hp.push (kdv_tup rest)).push (excO C hp.objs.size)).get? (hp.objs.size + 1) = some (excO C hp.objs.size) := by heap_get
  have chn : Chain bm Bm := ⟨by rw [hbm]; exact T.ch.cB, by rw [hbm]; exact T.ch.cA, by rw [hbm]; exact T.ch.cN⟩
  have hsz : rest.length ≤ sizeLine := by rcases how with ⟨rfl, _⟩ | ⟨rfl, _⟩ <;> (rw [sizeLine_eq]; simp)
  refine callX T.fb chn hC (looks_findIn X T.iC) (fun self => bind_fn X self T.tC) hsz ?_
  refine init_value (s := ⟨(hp.push (kdv_tup rest)).push (excO C hp.objs.size), g, dr, tk, os⟩) (v := v) T (X.keeps k) (hlim.keeps k) hget (show A.depth + 1 < recursionLimit from hroom) ?_ fun h' tk' dx k' hx dn dne hns => ?_
  · rcases how with ⟨rfl, rfl⟩ | ⟨rfl, rfl⟩
    · exact fun _ _ _ _ _ _ _ _ _ _ _ _ => BindsTo.of_eq (by first | rfl | with_unfolding_all rfl)
    · exact fun _ _ _ _ _ _ _ _ _ _ _ _ => BindsTo.of_eq (by first | rfl | with_unfolding_all rfl)
  have old : ∀ b o, hp.get? b = some o → h'.get? b = some o := fun b o e => k' b o (Nat.ne_of_lt (Nat.lt_succ_of_lt (Heap.lt_size e))) (k b o e)
  have z : hp.objs.size + 1 + 1 ≤ dx := by
    have q := dn
    rw [Heap.size_push, Heap.size_push] at q
    exact q
  exact ⟨rfl, hq h' tk' (hp.objs.size + 1) dx ⟨old, Nat.le_succ _, ⟨_, hx⟩, (show hp.objs.size ≤ dx by omega), dne, hns⟩⟩
end
end Exn
namespace Exn
open PySem PySem.Spec PyProof.Rows L2
theorem relO_value {v : V} {v' : Value} (r : RelV v v') (f : Str) : RelO (List.lookup f [(("value" : Str), v)]) (if f = "value" then some v' else none) := by
  by_cases hw : f = "value"
  · subst hw
    rw [if_pos rfl, show List.lookup ("value" : Str) [(("value" : Str), v)] = some v by simp [List.lookup]]
    exact r
  · have qw : (f == ("value" : Str)) = false := by simpa using hw
    rw [if_neg hw, show List.lookup f [(("value" : Str), v)] = none by simp [List.lookup, qw]]
    trivial
section
variable {X : Cx} {nm qual : Str} {B Bm newId initId : String} {bmB bm0 : List Value} {C fI : Addr}
/-- the making of the error that is raised at once -/
def tMk_value (C : Addr) (ta : TA) : L2.St → Hp → XK → Prop := fun σ H Q => ta σ H fun vs H1 => ∃ v, vs = [v] ∧ ∀ d, H1 d = none → Q (.ref C) (some d) (upd H1 d (.xd [(("value" : Str), v)]))
theorem pmk_value {a : Expr} {ta : TA} {p pos : Pos} {k : Nat} (T : Ecl_value X.K X.mg nm qual B Bm newId initId bmB bm0 C fI) (hr : Room k X.A) (ha : PA X [a] ta) (hg : Gl X nm) (hdb : (nm == ("__debug__" : Str)) = false := by decide)
    (he : starEach (a :: []) X.env = (false, eval a X.env) :: starEach [] X.env := by rfl) (hpl : (backTo pos (starEach [] X.env)).any (·.1) = false := by rfl) :
    PMk X (.Call (.Name nm p) [a] [] pos) (tMk_value C ta) := by
  intro pins s σ H Q I h
  refine wpAny_Call_Name_kw (ld_glob I hg T.gC ?_ hdb)
  refine PySem.W.callWith_K (h₀ := X.base) I.ok.mod.kin T.kC (thn (ha.run pos pins s σ H _ I h) ?_) he hpl
  rintro us s1 ⟨vs, H1, I1, r1, v, rfl, q1⟩
  obtain ⟨v', rfl, rv⟩ := vals1 r1
  refine ⟨I1.kIn, ?_⟩
  have hlim := I1.nolimit
  have hdp := hr.dp
  obtain ⟨hp, g, dr, tk, os⟩ := s1
  refine wpAny_call (made_value T I1.kIn hlim (by omega) (.inl ⟨rfl, rfl⟩) fun h' tk' e d M => ?_)
  show MkP X pins σ Q (.ref e) ⟨h', g, dr, tk', os⟩
  obtain ⟨t1, hoe⟩ := M.obj
  have hns := M.ns
  obtain ⟨G', g1, g2⟩ := restrict h' fun b => decide (b ≠ e)
  have gk : ∀ b, b ≠ e → G'.get? b = h'.get? b := fun b hb => g1 b (decide_eq_true hb)
  have ge : G'.get? e = none := g2 e (by simp)
  have old : ∀ b o, hp.get? b = some o → G'.get? b = some o := fun b o q => (gk b (Nat.ne_of_lt (Nat.lt_of_lt_of_le (Heap.lt_size q) M.new))).trans (M.keep b o q)
  have ob : ObjOk X.prog X.w (upd H1 d (.xd [(("value" : Str), v)])) G' d (.xd [(("value" : Str), v)]) := ⟨_, hns.at (fun o q => (gk d M.dne).trans q), fun f => relO_value rv f⟩
  have J : Inv X pins σ (upd H1 d (.xd [(("value" : Str), v)])) ⟨G', g, dr, tk', os⟩ := I1.laid (t' := tk') old M.dbig ob
  refine ⟨e, _, _, ⟨G', g, dr, tk', os⟩, _, .ref C, some d, rfl, J, fun b o q => ?_, ge, hoe, ⟨rfl, rfl⟩, rfl, rfl, ?_, rfl, I1.bare, raises_own T.exC T.tyC, q1 d (I1.hok.fresh M.dbig)⟩
  · by_cases hb : b = e
    · have q' : G'.get? b = some o := q
      rw [hb, ge] at q'
      cases q'
    · exact (gk b hb).symm.trans q
  · rw [upd_ne (Ne.symm M.dne)]
    exact I1.hok.fresh M.new
/-- the error as a value -/
abbrev tMkV_value (C : Addr) (ta : TA) : TE := tMkVg "value" C ta
theorem mkV_value {pins : List (Addr × Obj)} {s : Shared} {σ : L2.St} {H : Hp} {Q : VK} {v : V} {v' : Value} {rest : List Value} {kw : List (Str × Value)} {k : Nat} (T : Ecl_value X.K X.mg nm qual B Bm newId initId bmB bm0 C fI) (hr : Room k X.A) (I : Inv X pins σ H s) (rv : RelV v v')
    (how : (rest = [v'] ∧ kw = []) ∨ (rest = [] ∧ kw = [(("value" : Str), v')])) (q : ∀ d a, H d = none → H a = none → a ≠ d → Q (.ref a) (upd (upd H d (.xd [(("value" : Str), v)])) a (ExV C d a))) :
    wpAny (model X.prog X.w) X.A (call (.ref C) rest kw) (EP X pins σ Q) X.xe s := by
  have hlim := I.nolimit
  have hdp := hr.dp
  obtain ⟨hp, g, dr, tk, os⟩ := s
  refine wpAny_call (made_value T I.kIn hlim (by omega) how fun h' tk' e d M => ?_)
  obtain ⟨t1, hoe⟩ := M.obj
  obtain ⟨G', g1, g2⟩ := restrict h' fun b => decide (b ≠ e)
  have gk : ∀ b, b ≠ e → G'.get? b = h'.get? b := fun b hb => g1 b (decide_eq_true hb)
  have ge : G'.get? e = none := g2 e (by simp)
  have old : ∀ b o, hp.get? b = some o → G'.get? b = some o := fun b o z => (gk b (Nat.ne_of_lt (Nat.lt_of_lt_of_le (Heap.lt_size z) M.new))).trans (M.keep b o z)
  have J : Inv X pins σ (upd H d (.xd [(("value" : Str), v)])) ⟨G', g, dr, tk', os⟩ := I.laid (t' := tk') old M.dbig ⟨_, M.ns.at (fun o z => (gk d M.dne).trans z), fun f => relO_value rv f⟩
  have nHe : H e = none := I.hok.fresh M.new
  have nHe2 : (upd H d (.xd [(("value" : Str), v)])) e = none := by rw [upd_ne (Ne.symm M.dne)]; exact nHe
  have sub : ∀ b u, G'.get? b = some u → h'.get? b = some u := fun b o z => by
    by_cases hb : b = e
    · rw [hb, ge] at z; cases z
    · exact (gk b hb).symm.trans z
  exact ⟨.ref e, _, J.laidN (t' := tk') sub ge nHe2 (exV_ok hoe), rfl, q d e (I.hok.fresh M.dbig) nHe (Ne.symm M.dne)⟩
theorem pe_mkV_value {a : Expr} {ta : TA} {p pos : Pos} {k : Nat} (T : Ecl_value X.K X.mg nm qual B Bm newId initId bmB bm0 C fI) (hr : Room k X.A) (ha : PA X [a] ta) (hg : Gl X nm) (hdb : (nm == ("__debug__" : Str)) = false := by decide)
    (he : starEach (a :: []) X.env = (false, eval a X.env) :: starEach [] X.env := by rfl) (hpl : (backTo pos (starEach [] X.env)).any (·.1) = false := by rfl) : PE X (.Call (.Name nm p) [a] [] pos) (tMkV_value C ta) := by
  refine ⟨fun pins s σ H Q I h => wpAny_Call_Name_kw (ld_glob I hg T.gC ?_ hdb)⟩
  refine PySem.W.callWith_K (h₀ := X.base) I.ok.mod.kin T.kC (thn (ha.run pos pins s σ H _ I h) ?_) he hpl
  rintro us s1 ⟨vs, H1, I1, r1, v, rfl, q1⟩
  obtain ⟨v', rfl, rv⟩ := vals1 r1
  exact ⟨I1.kIn, mkV_value T hr I1 rv (.inl ⟨rfl, rfl⟩) q1⟩
theorem pe_mkK_value {kws : List Keyword} {tk : TA} {p pos : Pos} {k : Nat} (T : Ecl_value X.K X.mg nm qual B Bm newId initId bmB bm0 C fI) (hr : Room k X.A) (hkw : PK X kws tk) (hg : Gl X nm) (hdb : (nm == ("__debug__" : Str)) = false := by decide)
    (hal : (backToKw pos (keywordEach kws X.env)).all (·.1.isSome) = true := by rfl) (hks : (backToKw pos (keywordEach kws X.env)).filterMap (·.1) = [("value" : Str)] := by rfl)
    (hst : ((backTo pos (starEach [] X.env)).any (·.1) || (backToKw pos (keywordEach kws X.env)).any (·.1.isNone)) = false := by rfl) : PE X (.Call (.Name nm p) [] kws pos) (tMkV_value C tk) := by
  refine ⟨fun pins s σ H Q I h => wpAny_Call_Name_kw (ld_glob I hg T.gC ?_ hdb)⟩
  refine PySem.W.callWith_KW0 (h₀ := X.base) I.ok.mod.kin T.kC hal (thn (hkw.run pos pins s σ H _ I h) ?_) hst
  rintro us s1 ⟨vs, H1, I1, r1, v, rfl, q1⟩
  obtain ⟨v', rfl, rv⟩ := vals1 r1
  refine ⟨I1.kIn, ?_⟩
  rw [hks]
  exact mkV_value T hr I1 rv (.inr ⟨rfl, rfl⟩) q1
end
end Exn
/-! the field index -/
namespace Exn
open PySem PySem.W PySem.Calls PyProof.Rows PySem.HandSPX
/-- what the written part says of such a class: its name, its place C, its __init__ at fI -/
structure Ecl_index (K : Frag) (mg : Str → Option Value) (nm qual : Str) (B Bm newId initId : String) (bmB bm0 : List Value) (C fI : Addr) : Prop where
  fb : ExcBaseFacts Bm newId initId bm0
  ch : Chain bmB Bm
  sf : StoreFacts B bmB "object.__setattr__" "object"
  gC : mg nm = some (.ref C)
  ini : excInitIn K C bmB newId = true
  ovr : excOver K C bmB = true
  hdC : hasDictIn K C = true
  sa : findIn K (.ref C) "__setattr__" = some (some (.builtin "object.__setattr__"))
  ga : findIn K (.ref C) "__getattribute__" = some (some (.builtin "BaseException.__getattribute__"))
  gg : findIn K (.ref C) "__getattr__" = some none
  noN : findIn K (.ref C) "index" = some none
  tk : takerIn K C "index" = some none
  iC : findIn K (.ref C) "__init__" = some (some (.ref fI))
  tC : typeIn K (.ref fI) = some (.type "function")
  kC : keepIn K (.ref C) = true
  exC : subIn K (.ref C) (.type "BaseException") = some true
  tyC : typeIn K (.ref C) = some (.type "type")
  fn : ∃ (oc : Value) (od : Option Addr) (doc pm : Value) (an : Option Addr) (cdv ct : Value) (osl : Array (Option Value)) (p1 p2 q1 q2 q3 q4 : Pos),
    K.lookup fI = some ⟨oc, od, .func (fnOf "__init__" qual (iA "index" p1 p2) (iB "index" q1 q2 q3 q4) (iS "index" []) .none .none doc pm an cdv ct), osl⟩ ∧ codeIn K cdv qual = true
theorem ecl_index {K : Frag} {mg : Str → Option Value} {nm qual : Str} {B Bm newId initId : String} {bmB bm0 : List Value} {C fI : Addr} (fb : ExcBaseFacts Bm newId initId bm0) (ch : Chain bmB Bm) (sf : StoreFacts B bmB "object.__setattr__" "object") (gC : mg nm = some (.ref C))
    (h : ecB K C fI "index" bmB newId = true) (iC : findIn K (.ref C) "__init__" = some (some (.ref fI))) {oc : Value} {od : Option Addr} {doc pm : Value} {an : Option Addr} {cdv ct : Value} {osl : Array (Option Value)} {p1 p2 q1 q2 q3 q4 : Pos}
    (l : K.lookup fI = some ⟨oc, od, .func (fnOf "__init__" qual (iA "index" p1 p2) (iB "index" q1 q2 q3 q4) (iS "index" []) .none .none doc pm an cdv ct), osl⟩) (c : codeIn K cdv qual = true) : Ecl_index K mg nm qual B Bm newId initId bmB bm0 C fI := by
  unfold ecB at h
  simp only [Bool.and_eq_true, decide_eq_true_eq] at h
  obtain ⟨h1, h2, h3, h4, h5, h6, h7, h8, h9, h10, h11, h12, _⟩ := h
  exact ⟨fb, ch, sf, gC, h1, h2, h3, h4, h5, h6, h7, h8, iC, h9, h10, h11, h12, ⟨oc, od, doc, pm, an, cdv, ct, osl, p1, p2, q1, q2, q3, q4, l, c⟩⟩
/-- an error just made: at e, its dict at d, the field in it -/
structure Made_index (h h' : Heap) (e C d : Addr) (v : Value) : Prop where
  keep : ∀ b o, h.get? b = some o → h'.get? b = some o
  new : h.objs.size ≤ e
  obj : ∃ t1 : Addr, h'.get? e = some { cls := .ref C, dict := some d, data := .fields #[.ref t1, .none, .none, .none, .bool false, .none] }
  dbig : h.objs.size ≤ d
  dne : d ≠ e
  ns : h'.Ns1 d (fun y => if y = "index" then some v else none)
section
variable {prog : Program} {w : World} {A : Around} {E : Value → Shared → Prop} {R : Result → Shared → Prop} {s : Shared} {K : Frag} {mg : Str → Option Value} {nm qual : Str} {B Bm newId initId : String} {bmB bm0 : List Value} {C fI : Addr}
theorem init_index (T : Ecl_index K mg nm qual B Bm newId initId bmB bm0 C fI) {x t0 : Addr} {v : Value} {ar : Args} (X : K.In s.heap) (hlim : s.heap.NoLimit) (hx : s.heap.get? x = some (excO C t0)) (hroom : A.depth < recursionLimit)
    (hbind : ∀ doc pm an cdv ct p1 p2 q1 q2 q3 q4 s', BindsTo s' (fnOf "__init__" qual (iA "index" p1 p2) (iB "index" q1 q2 q3 q4) (iS "index" []) .none .none doc pm an cdv ct) ar [("self", .ref x), ("index", v)])
    (hq : ∀ h' tk dx, (∀ b o, b ≠ x → s.heap.get? b = some o → h'.get? b = some o) → h'.get? x = some { cls := .ref C, dict := some dx, data := .fields #[.ref t0, .none, .none, .none, .bool false, .none] } → s.heap.objs.size ≤ dx → dx ≠ x →
      h'.Ns1 dx (fun y => if y = "index" then some v else none) → R (.ok (.ret .none)) { s with heap := h', toks := tk }) :
    codeAny (model prog w) A (.call (.ref fI) ar) R s := by
  obtain ⟨oc, od, doc, pm, an, cdv, ct, osl, p1, p2, q1, q2, q3, q4, ho, hcd⟩ := T.fn
  obtain ⟨cd, hcl, hhd⟩ := any_some T.hdC
  refine Att.call_fn (binds := [("self", .ref x), ("index", v)]) X hlim ho hcd hroom (hbind _ _ _ _ _ _ _ _ _ _ _ _) (by first | rfl | decide | with_unfolding_all rfl) (fun s₁ IC => ?_) rfl rfl rfl
  obtain ⟨h₁, tk₁, rfl⟩ := IC.toInCall.same
  have k := IC.toInCall.keep
  have hn := IC.toInCall.ns
  have X₁ : K.In h₁ := X.keeps k
  show wpAny _ _ (execs _ _) _ _ _
  refine wpAny_execs_cons (plainObj_wpAny_Assign_Attribute ?_)
  refine wpAny_Name (wpAny_loadName_local rfl rfl hn (v := v) (by first | rfl | with_unfolding_all rfl | kernel_rfl) ?_) (by decide)
  refine wpAny_Name (wpAny_loadName_local rfl rfl hn (v := .ref x) (by first | rfl | with_unfolding_all rfl | kernel_rfl) ?_) (by decide)
  refine set_plain X₁ (ox := excO C t0) (od := none) ⟨k _ _ hx, rfl, rfl, trivial⟩ T.sa (osaB T.sf X₁ (k _ _ hx) T.ovr T.tk hcl hhd fun h₃ tk₃ dx k₃ dn dne hx₃ hn₃ => ?_)
  show wpAny _ _ (execs _ _) _ _ _
  exact wpAny_execs_nil (hq h₃ tk₃ dx (fun b o hb e => k₃ b o hb (k b o e)) hx₃ (Nat.le_of_lt (Nat.lt_of_lt_of_le hn.lt dn)) dne hn₃)
theorem made_index (T : Ecl_index K mg nm qual B Bm newId initId bmB bm0 C fI) {v : Value} {rest : List Value} {kw : List (Str × Value)} (X : K.In s.heap) (hlim : s.heap.NoLimit) (hroom : A.depth + 1 < recursionLimit) (how : (rest = [v] ∧ kw = []) ∨ (rest = [] ∧ kw = [(("index" : Str), v)]))
    (hq : ∀ h' tk e d, Made_index s.heap h' e C d v → R (.ok (.ret (.ref e))) { s with heap := h', toks := tk }) :
    codeAny (model prog w) A (.call (.ref C) ⟨rest, kw⟩) R s := by
  obtain ⟨nm', N, q, bs, bm, hd, sn, sub, ab, col, dd, k0, k1, k2, k3, k5, hC, hbm⟩ := excInit_of X T.ini
  obtain ⟨hp, g, dr, tk, os⟩ := s
  have k : ∀ b o, hp.get? b = some o → ((hp.push (kdv_tup rest)).push (excO C hp.objs.size)).get? b = some o := fun b o e => Heap.get?_push_of_some _ (Heap.get?_push_of_some _ e)
  have hget : ((hp.push (kdv_tup rest)).push (excO C hp.objs.size)).get? (hp.objs.size + 1) = some (excO C hp.objs.size) := by heap_get
  have chn : Chain bm Bm := ⟨by rw [hbm]; exact T.ch.cB, by rw [hbm]; exact T.ch.cA, by rw [hbm]; exact T.ch.cN⟩
  have hsz : rest.length ≤ sizeLine := by rcases how with ⟨rfl, _⟩ | ⟨rfl, _⟩ <;> (rw [sizeLine_eq]; simp)
  refine callX T.fb chn hC (looks_findIn X T.iC) (fun self => bind_fn X self T.tC) hsz ?_
  refine init_index (s := ⟨(hp.push (kdv_tup rest)).push (excO C hp.objs.size), g, dr, tk, os⟩) (v := v) T (X.keeps k) (hlim.keeps k) hget (show A.depth + 1 < recursionLimit from hroom) ?_ fun h' tk' dx k' hx dn dne hns => ?_
  · rcases how with ⟨rfl, rfl⟩ | ⟨rfl, rfl⟩
    · exact fun _ _ _ _ _ _ _ _ _ _ _ _ => BindsTo.of_eq (by first | rfl | with_unfolding_all rfl)
    · exact fun _ _ _ _ _ _ _ _ _ _ _ _ => BindsTo.of_eq (by first | rfl | with_unfolding_all rfl)
  have old : ∀ b o, hp.get? b = some o → h'.get? b = some o := fun b o e => k' b o (Nat.ne_of_lt (Nat.lt_succ_of_lt (Heap.lt_size e))) (k b o e)
  have z : hp.objs.size + 1 + 1 ≤ dx := by
    have q := dn
    rw [Heap.size_push, Heap.size_push] at q
    exact q
  exact ⟨rfl, hq h' tk' (hp.objs.size + 1) dx ⟨old, Nat.le_succ _, ⟨_, hx⟩, (show hp.objs.size ≤ dx by omega), dne, hns⟩⟩
end
end Exn
namespace Exn
open PySem PySem.Spec PyProof.Rows L2
theorem relO_index {v : V} {v' : Value} (r : RelV v v') (f : Str) : RelO (List.lookup f [(("index" : Str), v)]) (if f = "index" then some v' else none) := by
  by_cases hw : f = "index"
  · subst hw
    rw [if_pos rfl, show List.lookup ("index" : Str) [(("index" : Str), v)] = some v by simp [List.lookup]]
    exact r
  · have qw : (f == ("index" : Str)) = false := by simpa using hw
    rw [if_neg hw, show List.lookup f [(("index" : Str), v)] = none by simp [List.lookup, qw]]
    trivial
section
variable {X : Cx} {nm qual : Str} {B Bm newId initId : String} {bmB bm0 : List Value} {C fI : Addr}
/-- the making of the error that is raised at once -/
def tMk_index (C : Addr) (ta : TA) : L2.St → Hp → XK → Prop := fun σ H Q => ta σ H fun vs H1 => ∃ v, vs = [v] ∧ ∀ d, H1 d = none → Q (.ref C) (some d) (upd H1 d (.xd [(("index" : Str), v)]))
theorem pmk_index {a : Expr} {ta : TA} {p pos : Pos} {k : Nat} (T : Ecl_index X.K X.mg nm qual B Bm newId initId bmB bm0 C fI) (hr : Room k X.A) (ha : PA X [a] ta) (hg : Gl X nm) (hdb : (nm == ("__debug__" : Str)) = false := by decide)
    (he : starEach (a :: []) X.env = (false, eval a X.env) :: starEach [] X.env := by rfl) (hpl : (backTo pos (starEach [] X.env)).any (·.1) = false := by rfl) :
    PMk X (.Call (.Name nm p) [a] [] pos) (tMk_index C ta) := by
  intro pins s σ H Q I h
  refine wpAny_Call_Name_kw (ld_glob I hg T.gC ?_ hdb)
  refine PySem.W.callWith_K (h₀ := X.base) I.ok.mod.kin T.kC (thn (ha.run pos pins s σ H _ I h) ?_) he hpl
  rintro us s1 ⟨vs, H1, I1, r1, v, rfl, q1⟩
  obtain ⟨v', rfl, rv⟩ := vals1 r1
  refine ⟨I1.kIn, ?_⟩
  have hlim := I1.nolimit
  have hdp := hr.dp
  obtain ⟨hp, g, dr, tk, os⟩ := s1
  refine wpAny_call (made_index T I1.kIn hlim (by omega) (.inl ⟨rfl, rfl⟩) fun h' tk' e d M => ?_)
  show MkP X pins σ Q (.ref e) ⟨h', g, dr, tk', os⟩
  obtain ⟨t1, hoe⟩ := M.obj
  have hns := M.ns
  obtain ⟨G', g1, g2⟩ := restrict h' fun b => decide (b ≠ e)
  have gk : ∀ b, b ≠ e → G'.get? b = h'.get? b := fun b hb => g1 b (decide_eq_true hb)
  have ge : G'.get? e = none := g2 e (by simp)
  have old : ∀ b o, hp.get? b = some o → G'.get? b = some o := fun b o q => (gk b (Nat.ne_of_lt (Nat.lt_of_lt_of_le (Heap.lt_size q) M.new))).trans (M.keep b o q)
  have ob : ObjOk X.prog X.w (upd H1 d (.xd [(("index" : Str), v)])) G' d (.xd [(("index" : Str), v)]) := ⟨_, hns.at (fun o q => (gk d M.dne).trans q), fun f => relO_index rv f⟩
  have J : Inv X pins σ (upd H1 d (.xd [(("index" : Str), v)])) ⟨G', g, dr, tk', os⟩ := I1.laid (t' := tk') old M.dbig ob
  refine ⟨e, _, _, ⟨G', g, dr, tk', os⟩, _, .ref C, some d, rfl, J, fun b o q => ?_, ge, hoe, ⟨rfl, rfl⟩, rfl, rfl, ?_, rfl, I1.bare, raises_own T.exC T.tyC, q1 d (I1.hok.fresh M.dbig)⟩
  · by_cases hb : b = e
    · have q' : G'.get? b = some o := q
      rw [hb, ge] at q'
      cases q'
    · exact (gk b hb).symm.trans q
  · rw [upd_ne (Ne.symm M.dne)]
    exact I1.hok.fresh M.new
/-- the error as a value -/
abbrev tMkV_index (C : Addr) (ta : TA) : TE := tMkVg "index" C ta
theorem mkV_index {pins : List (Addr × Obj)} {s : Shared} {σ : L2.St} {H : Hp} {Q : VK} {v : V} {v' : Value} {rest : List Value} {kw : List (Str × Value)} {k : Nat} (T : Ecl_index X.K X.mg nm qual B Bm newId initId bmB bm0 C fI) (hr : Room k X.A) (I : Inv X pins σ H s) (rv : RelV v v')
    (how : (rest = [v'] ∧ kw = []) ∨ (rest = [] ∧ kw = [(("index" : Str), v')])) (q : ∀ d a, H d = none → H a = none → a ≠ d → Q (.ref a) (upd (upd H d (.xd [(("index" : Str), v)])) a (ExV C d a))) :
    wpAny (model X.prog X.w) X.A (call (.ref C) rest kw) (EP X pins σ Q) X.xe s := by
  have hlim := I.nolimit
  have hdp := hr.dp
  obtain ⟨hp, g, dr, tk, os⟩ := s
  refine wpAny_call (made_index T I.kIn hlim (by omega) how fun h' tk' e d M => ?_)
  obtain ⟨t1, hoe⟩ := M.obj
  obtain ⟨G', g1, g2⟩ := restrict h' fun b => decide (b ≠ e)
  have gk : ∀ b, b ≠ e → G'.get? b = h'.get? b := fun b hb => g1 b (decide_eq_true hb)
  have ge : G'.get? e = none := g2 e (by simp)
  have old : ∀ b o, hp.get? b = some o → G'.get? b = some o := fun b o z => (gk b (Nat.ne_of_lt (Nat.lt_of_lt_of_le (Heap.lt_size z) M.new))).trans (M.keep b o z)
  have J : Inv X pins σ (upd H d (.xd [(("index" : Str), v)])) ⟨G', g, dr, tk', os⟩ := I.laid (t' := tk') old M.dbig ⟨_, M.ns.at (fun o z => (gk d M.dne).trans z), fun f => relO_index rv f⟩
  have nHe : H e = none := I.hok.fresh M.new
  have nHe2 : (upd H d (.xd [(("index" : Str), v)])) e = none := by rw [upd_ne (Ne.symm M.dne)]; exact nHe
  have sub : ∀ b u, G'.get? b = some u → h'.get? b = some u := fun b o z => by
    by_cases hb : b = e
    · rw [hb, ge] at z; cases z
    · exact (gk b hb).symm.trans z
  exact ⟨.ref e, _, J.laidN (t' := tk') sub ge nHe2 (exV_ok hoe), rfl, q d e (I.hok.fresh M.dbig) nHe (Ne.symm M.dne)⟩
theorem pe_mkV_index {a : Expr} {ta : TA} {p pos : Pos} {k : Nat} (T : Ecl_index X.K X.mg nm qual B Bm newId initId bmB bm0 C fI) (hr : Room k X.A) (ha : PA X [a] ta) (hg : Gl X nm) (hdb : (nm == ("__debug__" : Str)) = false := by decide)
    (he : starEach (a :: []) X.env = (false, eval a X.env) :: starEach [] X.env := by rfl) (hpl : (backTo pos (starEach [] X.env)).any (·.1) = false := by rfl) : PE X (.Call (.Name nm p) [a] [] pos) (tMkV_index C ta) := by
  refine ⟨fun pins s σ H Q I h => wpAny_Call_Name_kw (ld_glob I hg T.gC ?_ hdb)⟩
  refine PySem.W.callWith_K (h₀ := X.base) I.ok.mod.kin T.kC (thn (ha.run pos pins s σ H _ I h) ?_) he hpl
  rintro us s1 ⟨vs, H1, I1, r1, v, rfl, q1⟩
  obtain ⟨v', rfl, rv⟩ := vals1 r1
  exact ⟨I1.kIn, mkV_index T hr I1 rv (.inl ⟨rfl, rfl⟩) q1⟩
theorem pe_mkK_index {kws : List Keyword} {tk : TA} {p pos : Pos} {k : Nat} (T : Ecl_index X.K X.mg nm qual B Bm newId initId bmB bm0 C fI) (hr : Room k X.A) (hkw : PK X kws tk) (hg : Gl X nm) (hdb : (nm == ("__debug__" : Str)) = false := by decide)
    (hal : (backToKw pos (keywordEach kws X.env)).all (·.1.isSome) = true := by rfl) (hks : (backToKw pos (keywordEach kws X.env)).filterMap (·.1) = [("index" : Str)] := by rfl)
    (hst : ((backTo pos (starEach [] X.env)).any (·.1) || (backToKw pos (keywordEach kws X.env)).any (·.1.isNone)) = false := by rfl) : PE X (.Call (.Name nm p) [] kws pos) (tMkV_index C tk) := by
  refine ⟨fun pins s σ H Q I h => wpAny_Call_Name_kw (ld_glob I hg T.gC ?_ hdb)⟩
  refine PySem.W.callWith_KW0 (h₀ := X.base) I.ok.mod.kin T.kC hal (thn (hkw.run pos pins s σ H _ I h) ?_) hst
  rintro us s1 ⟨vs, H1, I1, r1, v, rfl, q1⟩
  obtain ⟨v', rfl, rv⟩ := vals1 r1
  refine ⟨I1.kIn, ?_⟩
  rw [hks]
  exact mkV_index T hr I1 rv (.inr ⟨rfl, rfl⟩) q1
end
end Exn
/-! the field name -/
namespace Exn
open PySem PySem.W PySem.Calls PyProof.Rows PySem.HandSPX
/-- what the written part says of such a class: its name, its place C, its __init__ at fI -/
structure Ecl_name (K : Frag) (mg : Str → Option Value) (nm qual : Str) (B Bm newId initId : String) (bmB bm0 : List Value) (C fI : Addr) : Prop where
  fb : ExcBaseFacts Bm newId initId bm0
  ch : Chain bmB Bm
  sf : StoreFacts B bmB "object.__setattr__" "object"
  gC : mg nm = some (.ref C)
  ini : excInitIn K C bmB newId = true
  ovr : excOver K C bmB = true
  hdC : hasDictIn K C = true
  sa : findIn K (.ref C) "__setattr__" = some (some (.builtin "object.__setattr__"))
  ga : findIn K (.ref C) "__getattribute__" = some (some (.builtin "BaseException.__getattribute__"))
  gg : findIn K (.ref C) "__getattr__" = some none
  noN : findIn K (.ref C) "name" = some none
  tk : takerIn K C "name" = some none
  iC : findIn K (.ref C) "__init__" = some (some (.ref fI))
  tC : typeIn K (.ref fI) = some (.type "function")
  kC : keepIn K (.ref C) = true
  exC : subIn K (.ref C) (.type "BaseException") = some true
  tyC : typeIn K (.ref C) = some (.type "type")
  fn : ∃ (oc : Value) (od : Option Addr) (doc pm : Value) (an : Option Addr) (cdv ct : Value) (osl : Array (Option Value)) (p1 p2 q1 q2 q3 q4 : Pos),
    K.lookup fI = some ⟨oc, od, .func (fnOf "__init__" qual (iA "name" p1 p2) (iB "name" q1 q2 q3 q4) (iS "name" []) .none .none doc pm an cdv ct), osl⟩ ∧ codeIn K cdv qual = true
theorem ecl_name {K : Frag} {mg : Str → Option Value} {nm qual : Str} {B Bm newId initId : String} {bmB bm0 : List Value} {C fI : Addr} (fb : ExcBaseFacts Bm newId initId bm0) (ch : Chain bmB Bm) (sf : StoreFacts B bmB "object.__setattr__" "object") (gC : mg nm = some (.ref C))
    (h : ecB K C fI "name" bmB newId = true) (iC : findIn K (.ref C) "__init__" = some (some (.ref fI))) {oc : Value} {od : Option Addr} {doc pm : Value} {an : Option Addr} {cdv ct : Value} {osl : Array (Option Value)} {p1 p2 q1 q2 q3 q4 : Pos}
    (l : K.lookup fI = some ⟨oc, od, .func (fnOf "__init__" qual (iA "name" p1 p2) (iB "name" q1 q2 q3 q4) (iS "name" []) .none .none doc pm an cdv ct), osl⟩) (c : codeIn K cdv qual = true) : Ecl_name K mg nm qual B Bm newId initId bmB bm0 C fI := by
  unfold ecB at h
  simp only [Bool.and_eq_true, decide_eq_true_eq] at h
  obtain ⟨h1, h2, h3, h4, h5, h6, h7, h8, h9, h10, h11, h12, _⟩ := h
  exact ⟨fb, ch, sf, gC, h1, h2, h3, h4, h5, h6, h7, h8, iC, h9, h10, h11, h12, ⟨oc, od, doc, pm, an, cdv, ct, osl, p1, p2, q1, q2, q3, q4, l, c⟩⟩
/-- an error just made: at e, its dict at d, the field in it -/
structure Made_name (h h' : Heap) (e C d : Addr) (v : Value) : Prop where
  keep : ∀ b o, h.get? b = some o → h'.get? b = some o
  new : h.objs.size ≤ e
  obj : ∃ t1 : Addr, h'.get? e = some { cls := .ref C, dict := some d, data := .fields #[.ref t1, .none, .none, .none, .bool false, .none] }
  dbig : h.objs.size ≤ d
  dne : d ≠ e
  ns : h'.Ns1 d (fun y => if y = "name" then some v else none)
section
variable {prog : Program} {w : World} {A : Around} {E : Value → Shared → Prop} {R : Result → Shared → Prop} {s : Shared} {K : Frag} {mg : Str → Option Value} {nm qual : Str} {B Bm newId initId : String} {bmB bm0 : List Value} {C fI : Addr}
theorem init_name (T : Ecl_name K mg nm qual B Bm newId initId bmB bm0 C fI) {x t0 : Addr} {v : Value} {ar : Args} (X : K.In s.heap) (hlim : s.heap.NoLimit) (hx : s.heap.get? x = some (excO C t0)) (hroom : A.depth < recursionLimit)
    (hbind : ∀ doc pm an cdv ct p1 p2 q1 q2 q3 q4 s', BindsTo s' (fnOf "__init__" qual (iA "name" p1 p2) (iB "name" q1 q2 q3 q4) (iS "name" []) .none .none doc pm an cdv ct) ar [("self", .ref x), ("name", v)])
    (hq : ∀ h' tk dx, (∀ b o, b ≠ x → s.heap.get? b = some o → h'.get? b = some o) → h'.get? x = some { cls := .ref C, dict := some dx, data := .fields #[.ref t0, .none, .none, .none, .bool false, .none] } → s.heap.objs.size ≤ dx → dx ≠ x →
      h'.Ns1 dx (fun y => if y = "name" then some v else none) → R (.ok (.ret .none)) { s with heap := h', toks := tk }) :
    codeAny (model prog w) A (.call (.ref fI) ar) R s := by
  obtain ⟨oc, od, doc, pm, an, cdv, ct, osl, p1, p2, q1, q2, q3, q4, ho, hcd⟩ := T.fn
  obtain ⟨cd, hcl, hhd⟩ := any_some T.hdC
  refine Att.call_fn (binds := [("self", .ref x), ("name", v)]) X hlim ho hcd hroom (hbind _ _ _ _ _ _ _ _ _ _ _ _) (by first | rfl | decide | with_unfolding_all rfl) (fun s₁ IC => ?_) rfl rfl rfl
  obtain ⟨h₁, tk₁, rfl⟩ := IC.toInCall.same
  have k := IC.toInCall.keep
  have hn := IC.toInCall.ns
  have X₁ : K.In h₁ := X.keeps k
  show wpAny _ _ (execs _ _) _ _ _
  refine wpAny_execs_cons (plainObj_wpAny_Assign_Attribute ?_)
  refine wpAny_Name (wpAny_loadName_local rfl rfl hn (v := v) (by first | rfl | with_unfolding_all rfl | kernel_rfl) ?_) (by decide)
  refine wpAny_Name (wpAny_loadName_local rfl rfl hn (v := .ref x) (by first | rfl | with_unfolding_all rfl | kernel_rfl) ?_) (by decide)
  refine set_plain X₁ (ox := excO C t0) (od := none) ⟨k _ _ hx, rfl, rfl, trivial⟩ T.sa (osaB T.sf X₁ (k _ _ hx) T.ovr T.tk hcl hhd fun h₃ tk₃ dx k₃ dn dne hx₃ hn₃ => ?_)
  show wpAny _ _ (execs _ _) _ _ _
  exact wpAny_execs_nil (hq h₃ tk₃ dx (fun b o hb e => k₃ b o hb (k b o e)) hx₃ (Nat.le_of_lt (Nat.lt_of_lt_of_le hn.lt dn)) dne hn₃)
theorem made_name (T : Ecl_name K mg nm qual B Bm newId initId bmB bm0 C fI) {v : Value} {rest : List Value} {kw : List (Str × Value)} (X : K.In s.heap) (hlim : s.heap.NoLimit) (hroom : A.depth + 1 < recursionLimit) (how : (rest = [v] ∧ kw = []) ∨ (rest = [] ∧ kw = [(("name" : Str), v)]))
    (hq : ∀ h' tk e d, Made_name s.heap h' e C d v → R (.ok (.ret (.ref e))) { s with heap := h', toks := tk }) :
    codeAny (model prog w) A (.call (.ref C) ⟨rest, kw⟩) R s := by
  obtain ⟨nm', N, q, bs, bm, hd, sn, sub, ab, col, dd, k0, k1, k2, k3, k5, hC, hbm⟩ := excInit_of X T.ini
  obtain ⟨hp, g, dr, tk, os⟩ := s
  have k : ∀ b o, hp.get? b = some o → ((hp.push (kdv_tup rest)).push (excO C hp.objs.size)).get? b = some o := fun b o e => Heap.get?_push_of_some _ (Heap.get?_push_of_some _ e)
  have hget : ((hp.push (kdv_tup rest)).push (excO C hp.objs.size)).get? (hp.objs.size + 1) = some (excO C hp.objs.size) := by heap_get
  have chn : Chain bm Bm := ⟨by rw [hbm]; exact T.ch.cB, by rw [hbm]; exact T.ch.cA, by rw [hbm]; exact T.ch.cN⟩
  have hsz : rest.length ≤ sizeLine := by rcases how with ⟨rfl, _⟩ | ⟨rfl, _⟩ <;> (rw [sizeLine_eq]; simp)
  refine callX T.fb chn hC (looks_findIn X T.iC) (fun self => bind_fn X self T.tC) hsz ?_
  refine init_name (s := ⟨(hp.push (kdv_tup rest)).push (excO C hp.objs.size), g, dr, tk, os⟩) (v := v) T (X.keeps k) (hlim.keeps k) hget (show A.depth + 1 < recursionLimit from hroom) ?_ fun h' tk' dx k' hx dn dne hns => ?_
  · rcases how with ⟨rfl, rfl⟩ | ⟨rfl, rfl⟩
    · exact fun _ _ _ _ _ _ _ _ _ _ _ _ => BindsTo.of_eq (by first | rfl | with_unfolding_all rfl)
    · exact fun _ _ _ _ _ _ _ _ _ _ _ _ => BindsTo.of_eq (by first | rfl | with_unfolding_all rfl)
  have old : ∀ b o, hp.get? b = some o → h'.get? b = some o := fun b o e => k' b o (Nat.ne_of_lt (Nat.lt_succ_of_lt (Heap.lt_size e))) (k b o e)
  have z : hp.objs.size + 1 + 1 ≤ dx := by
    have q := dn
    rw [Heap.size_push, Heap.size_push] at q
    exact q
  exact ⟨rfl, hq h' tk' (hp.objs.size + 1) dx ⟨old, Nat.le_succ _, ⟨_, hx⟩, (show hp.objs.size ≤ dx by omega), dne, hns⟩⟩
end
end Exn
namespace Exn
open PySem PySem.Spec PyProof.Rows L2
theorem relO_name {v : V} {v' : Value} (r : RelV v v') (f : Str) : RelO (List.lookup f [(("name" : Str), v)]) (if f = "name" then some v' else none) := by
  by_cases hw : f = "name"
  · subst hw
    rw [if_pos rfl, show List.lookup ("name" : Str) [(("name" : Str), v)] = some v by simp [List.lookup]]
    exact r
  · have qw : (f == ("name" : Str)) = false := by simpa using hw
    rw [if_neg hw, show List.lookup f [(("name" : Str), v)] = none by simp [List.lookup, qw]]
    trivial
section
variable {X : Cx} {nm qual : Str} {B Bm newId initId : String} {bmB bm0 : List Value} {C fI : Addr}
/-- the making of the error that is raised at once -/
def tMk_name (C : Addr) (ta : TA) : L2.St → Hp → XK → Prop := fun σ H Q => ta σ H fun vs H1 => ∃ v, vs = [v] ∧ ∀ d, H1 d = none → Q (.ref C) (some d) (upd H1 d (.xd [(("name" : Str), v)]))
theorem pmk_name {a : Expr} {ta : TA} {p pos : Pos} {k : Nat} (T : Ecl_name X.K X.mg nm qual B Bm newId initId bmB bm0 C fI) (hr : Room k X.A) (ha : PA X [a] ta) (hg : Gl X nm) (hdb : (nm == ("__debug__" : Str)) = false := by decide)
    (he : starEach (a :: []) X.env = (false, eval a X.env) :: starEach [] X.env := by rfl) (hpl : (backTo pos (starEach [] X.env)).any (·.1) = false := by rfl) :
    PMk X (.Call (.Name nm p) [a] [] pos) (tMk_name C ta) := by
  intro pins s σ H Q I h
  refine wpAny_Call_Name_kw (ld_glob I hg T.gC ?_ hdb)
  refine PySem.W.callWith_K (h₀ := X.base) I.ok.mod.kin T.kC (thn (ha.run pos pins s σ H _ I h) ?_) he hpl
  rintro us s1 ⟨vs, H1, I1, r1, v, rfl, q1⟩
  obtain ⟨v', rfl, rv⟩ := vals1 r1
  refine ⟨I1.kIn, ?_⟩
  have hlim := I1.nolimit
  have hdp := hr.dp
  obtain ⟨hp, g, dr, tk, os⟩ := s1
  refine wpAny_call (made_name T I1.kIn hlim (by omega) (.inl ⟨rfl, rfl⟩) fun h' tk' e d M => ?_)
  show MkP X pins σ Q (.ref e) ⟨h', g, dr, tk', os⟩
  obtain ⟨t1, hoe⟩ := M.obj
  have hns := M.ns
  obtain ⟨G', g1, g2⟩ := restrict h' fun b => decide (b ≠ e)
  have gk : ∀ b, b ≠ e → G'.get? b = h'.get? b := fun b hb => g1 b (decide_eq_true hb)
  have ge : G'.get? e = none := g2 e (by simp)
  have old : ∀ b o, hp.get? b = some o → G'.get? b = some o := fun b o q => (gk b (Nat.ne_of_lt (Nat.lt_of_lt_of_le (Heap.lt_size q) M.new))).trans (M.keep b o q)
  have ob : ObjOk X.prog X.w (upd H1 d (.xd [(("name" : Str), v)])) G' d (.xd [(("name" : Str), v)]) := ⟨_, hns.at (fun o q => (gk d M.dne).trans q), fun f => relO_name rv f⟩
  have J : Inv X pins σ (upd H1 d (.xd [(("name" : Str), v)])) ⟨G', g, dr, tk', os⟩ := I1.laid (t' := tk') old M.dbig ob
  refine ⟨e, _, _, ⟨G', g, dr, tk', os⟩, _, .ref C, some d, rfl, J, fun b o q => ?_, ge, hoe, ⟨rfl, rfl⟩, rfl, rfl, ?_, rfl, I1.bare, raises_own T.exC T.tyC, q1 d (I1.hok.fresh M.dbig)⟩
  · by_cases hb : b = e
    · have q' : G'.get? b = some o := q
      rw [hb, ge] at q'
      cases q'
    · exact (gk b hb).symm.trans q
  · rw [upd_ne (Ne.symm M.dne)]
    exact I1.hok.fresh M.new
/-- the error as a value -/
abbrev tMkV_name (C : Addr) (ta : TA) : TE := tMkVg "name" C ta
theorem mkV_name {pins : List (Addr × Obj)} {s : Shared} {σ : L2.St} {H : Hp} {Q : VK} {v : V} {v' : Value} {rest : List Value} {kw : List (Str × Value)} {k : Nat} (T : Ecl_name X.K X.mg nm qual B Bm newId initId bmB bm0 C fI) (hr : Room k X.A) (I : Inv X pins σ H s) (rv : RelV v v')
    (how : (rest = [v'] ∧ kw = []) ∨ (rest = [] ∧ kw = [(("name" : Str), v')])) (q : ∀ d a, H d = none → H a = none → a ≠ d → Q (.ref a) (upd (upd H d (.xd [(("name" : Str), v)])) a (ExV C d a))) :
    wpAny (model X.prog X.w) X.A (call (.ref C) rest kw) (EP X pins σ Q) X.xe s := by
  have hlim := I.nolimit
  have hdp := hr.dp
  obtain ⟨hp, g, dr, tk, os⟩ := s
  refine wpAny_call (made_name T I.kIn hlim (by omega) how fun h' tk' e d M => ?_)
  obtain ⟨t1, hoe⟩ := M.obj
  obtain ⟨G', g1, g2⟩ := restrict h' fun b => decide (b ≠ e)
  have gk : ∀ b, b ≠ e → G'.get? b = h'.get? b := fun b hb => g1 b (decide_eq_true hb)
  have ge : G'.get? e = none := g2 e (by simp)
  have old : ∀ b o, hp.get? b = some o → G'.get? b = some o := fun b o z => (gk b (Nat.ne_of_lt (Nat.lt_of_lt_of_le (Heap.lt_size z) M.new))).trans (M.keep b o z)
  have J : Inv X pins σ (upd H d (.xd [(("name" : Str), v)])) ⟨G', g, dr, tk', os⟩ := I.laid (t' := tk') old M.dbig ⟨_, M.ns.at (fun o z => (gk d M.dne).trans z), fun f => relO_name rv f⟩
  have nHe : H e = none := I.hok.fresh M.new
  have nHe2 : (upd H d (.xd [(("name" : Str), v)])) e = none := by rw [upd_ne (Ne.symm M.dne)]; exact nHe
  have sub : ∀ b u, G'.get? b = some u → h'.get? b = some u := fun b o z => by
    by_cases hb : b = e
    · rw [hb, ge] at z; cases z
    · exact (gk b hb).symm.trans z
  exact ⟨.ref e, _, J.laidN (t' := tk') sub ge nHe2 (exV_ok hoe), rfl, q d e (I.hok.fresh M.dbig) nHe (Ne.symm M.dne)⟩
theorem pe_mkV_name {a : Expr} {ta : TA} {p pos : Pos} {k : Nat} (T : Ecl_name X.K X.mg nm qual B Bm newId initId bmB bm0 C fI) (hr : Room k X.A) (ha : PA X [a] ta) (hg : Gl X nm) (hdb : (nm == ("__debug__" : Str)) = false := by decide)
    (he : starEach (a :: []) X.env = (false, eval a X.env) :: starEach [] X.env := by rfl) (hpl : (backTo pos (starEach [] X.env)).any (·.1) = false := by rfl) : PE X (.Call (.Name nm p) [a] [] pos) (tMkV_name C ta) := by
  refine ⟨fun pins s σ H Q I h => wpAny_Call_Name_kw (ld_glob I hg T.gC ?_ hdb)⟩
  refine PySem.W.callWith_K (h₀ := X.base) I.ok.mod.kin T.kC (thn (ha.run pos pins s σ H _ I h) ?_) he hpl
  rintro us s1 ⟨vs, H1, I1, r1, v, rfl, q1⟩
  obtain ⟨v', rfl, rv⟩ := vals1 r1
  exact ⟨I1.kIn, mkV_name T hr I1 rv (.inl ⟨rfl, rfl⟩) q1⟩
theorem pe_mkK_name {kws : List Keyword} {tk : TA} {p pos : Pos} {k : Nat} (T : Ecl_name X.K X.mg nm qual B Bm newId initId bmB bm0 C fI) (hr : Room k X.A) (hkw : PK X kws tk) (hg : Gl X nm) (hdb : (nm == ("__debug__" : Str)) = false := by decide)
    (hal : (backToKw pos (keywordEach kws X.env)).all (·.1.isSome) = true := by rfl) (hks : (backToKw pos (keywordEach kws X.env)).filterMap (·.1) = [("name" : Str)] := by rfl)
    (hst : ((backTo pos (starEach [] X.env)).any (·.1) || (backToKw pos (keywordEach kws X.env)).any (·.1.isNone)) = false := by rfl) : PE X (.Call (.Name nm p) [] kws pos) (tMkV_name C tk) := by
  refine ⟨fun pins s σ H Q I h => wpAny_Call_Name_kw (ld_glob I hg T.gC ?_ hdb)⟩
  refine PySem.W.callWith_KW0 (h₀ := X.base) I.ok.mod.kin T.kC hal (thn (hkw.run pos pins s σ H _ I h) ?_) hst
  rintro us s1 ⟨vs, H1, I1, r1, v, rfl, q1⟩
  obtain ⟨v', rfl, rv⟩ := vals1 r1
  refine ⟨I1.kIn, ?_⟩
  rw [hks]
  exact mkV_name T hr I1 rv (.inr ⟨rfl, rfl⟩) q1
end
end Exn
/-! the field item -/
namespace Exn
open PySem PySem.W PySem.Calls PyProof.Rows PySem.HandSPX
/-- what the written part says of such a class: its name, its place C, its __init__ at fI -/
structure Ecl_item (K : Frag) (mg : Str → Option Value) (nm qual : Str) (B Bm newId initId : String) (bmB bm0 : List Value) (C fI : Addr) : Prop where
  fb : ExcBaseFacts Bm newId initId bm0
  ch : Chain bmB Bm
  sf : StoreFacts B bmB "object.__setattr__" "object"
  gC : mg nm = some (.ref C)
  ini : excInitIn K C bmB newId = true
  ovr : excOver K C bmB = true
  hdC : hasDictIn K C = true
  sa : findIn K (.ref C) "__setattr__" = some (some (.builtin "object.__setattr__"))
  ga : findIn K (.ref C) "__getattribute__" = some (some (.builtin "BaseException.__getattribute__"))
  gg : findIn K (.ref C) "__getattr__" = some none
  noN : findIn K (.ref C) "item" = some none
  tk : takerIn K C "item" = some none
  iC : findIn K (.ref C) "__init__" = some (some (.ref fI))
  tC : typeIn K (.ref fI) = some (.type "function")
  kC : keepIn K (.ref C) = true
  exC : subIn K (.ref C) (.type "BaseException") = some true
  tyC : typeIn K (.ref C) = some (.type "type")
  fn : ∃ (oc : Value) (od : Option Addr) (doc pm : Value) (an : Option Addr) (cdv ct : Value) (osl : Array (Option Value)) (p1 p2 q1 q2 q3 q4 : Pos),
    K.lookup fI = some ⟨oc, od, .func (fnOf "__init__" qual (iA "item" p1 p2) (iB "item" q1 q2 q3 q4) (iS "item" []) .none .none doc pm an cdv ct), osl⟩ ∧ codeIn K cdv qual = true
theorem ecl_item {K : Frag} {mg : Str → Option Value} {nm qual : Str} {B Bm newId initId : String} {bmB bm0 : List Value} {C fI : Addr} (fb : ExcBaseFacts Bm newId initId bm0) (ch : Chain bmB Bm) (sf : StoreFacts B bmB "object.__setattr__" "object") (gC : mg nm = some (.ref C))
    (h : ecB K C fI "item" bmB newId = true) (iC : findIn K (.ref C) "__init__" = some (some (.ref fI))) {oc : Value} {od : Option Addr} {doc pm : Value} {an : Option Addr} {cdv ct : Value} {osl : Array (Option Value)} {p1 p2 q1 q2 q3 q4 : Pos}
    (l : K.lookup fI = some ⟨oc, od, .func (fnOf "__init__" qual (iA "item" p1 p2) (iB "item" q1 q2 q3 q4) (iS "item" []) .none .none doc pm an cdv ct), osl⟩) (c : codeIn K cdv qual = true) : Ecl_item K mg nm qual B Bm newId initId bmB bm0 C fI := by
  unfold ecB at h
  simp only [Bool.and_eq_true, decide_eq_true_eq] at h
  obtain ⟨h1, h2, h3, h4, h5, h6, h7, h8, h9, h10, h11, h12, _⟩ := h
  exact ⟨fb, ch, sf, gC, h1, h2, h3, h4, h5, h6, h7, h8, iC, h9, h10, h11, h12, ⟨oc, od, doc, pm, an, cdv, ct, osl, p1, p2, q1, q2, q3, q4, l, c⟩⟩
/-- an error just made: at e, its dict at d, the field in it -/
structure Made_item (h h' : Heap) (e C d : Addr) (v : Value) : Prop where
  keep : ∀ b o, h.get? b = some o → h'.get? b = some o
  new : h.objs.size ≤ e
  obj : ∃ t1 : Addr, h'.get? e = some { cls := .ref C, dict := some d, data := .fields #[.ref t1, .none, .none, .none, .bool false, .none] }
  dbig : h.objs.size ≤ d
  dne : d ≠ e
  ns : h'.Ns1 d (fun y => if y = "item" then some v else none)
section
variable {prog : Program} {w : World} {A : Around} {E : Value → Shared → Prop} {R : Result → Shared → Prop} {s : Shared} {K : Frag} {mg : Str → Option Value} {nm qual : Str} {B Bm newId initId : String} {bmB bm0 : List Value} {C fI : Addr}
theorem init_item (T : Ecl_item K mg nm qual B Bm newId initId bmB bm0 C fI) {x t0 : Addr} {v : Value} {ar : Args} (X : K.In s.heap) (hlim : s.heap.NoLimit) (hx : s.heap.get? x = some (excO C t0)) (hroom : A.depth < recursionLimit)
    (hbind : ∀ doc pm an cdv ct p1 p2 q1 q2 q3 q4 s', BindsTo s' (fnOf "__init__" qual (iA "item" p1 p2) (iB "item" q1 q2 q3 q4) (iS "item" []) .none .none doc pm an cdv ct) ar [("self", .ref x), ("item", v)])
    (hq : ∀ h' tk dx, (∀ b o, b ≠ x → s.heap.get? b = some o → h'.get? b = some o) → h'.get? x = some { cls := .ref C, dict := some dx, data := .fields #[.ref t0, .none, .none, .none, .bool false, .none] } → s.heap.objs.size ≤ dx → dx ≠ x →
      h'.Ns1 dx (fun y => if y = "item" then some v else none) → R (.ok (.ret .none)) { s with heap := h', toks := tk }) :
    codeAny (model prog w) A (.call (.ref fI) ar) R s := by
  obtain ⟨oc, od, doc, pm, an, cdv, ct, osl, p1, p2, q1, q2, q3, q4, ho, hcd⟩ := T.fn
  obtain ⟨cd, hcl, hhd⟩ := any_some T.hdC
  refine Att.call_fn (binds := [("self", .ref x), ("item", v)]) X hlim ho hcd hroom (hbind _ _ _ _ _ _ _ _ _ _ _ _) (by first | rfl | decide | with_unfolding_all rfl) (fun s₁ IC => ?_) rfl rfl rfl
  obtain ⟨h₁, tk₁, rfl⟩ := IC.toInCall.same
  have k := IC.toInCall.keep
  have hn := IC.toInCall.ns
  have X₁ : K.In h₁ := X.keeps k
  show wpAny _ _ (execs _ _) _ _ _
  refine wpAny_execs_cons (plainObj_wpAny_Assign_Attribute ?_)
  refine wpAny_Name (wpAny_loadName_local rfl rfl hn (v := v) (by first | rfl | with_unfolding_all rfl | kernel_rfl) ?_) (by decide)
  refine wpAny_Name (wpAny_loadName_local rfl rfl hn (v := .ref x) (by first | rfl | with_unfolding_all rfl | kernel_rfl) ?_) (by decide)
  refine set_plain X₁ (ox := excO C t0) (od := none) ⟨k _ _ hx, rfl, rfl, trivial⟩ T.sa (osaB T.sf X₁ (k _ _ hx) T.ovr T.tk hcl hhd fun h₃ tk₃ dx k₃ dn dne hx₃ hn₃ => ?_)
  show wpAny _ _ (execs _ _) _ _ _
  exact wpAny_execs_nil (hq h₃ tk₃ dx (fun b o hb e => k₃ b o hb (k b o e)) hx₃ (Nat.le_of_lt (Nat.lt_of_lt_of_le hn.lt dn)) dne hn₃)
theorem made_item (T : Ecl_item K mg nm qual B Bm newId initId bmB bm0 C fI) {v : Value} {rest : List Value} {kw : List (Str × Value)} (X : K.In s.heap) (hlim : s.heap.NoLimit) (hroom : A.depth + 1 < recursionLimit) (how : (rest = [v] ∧ kw = []) ∨ (rest = [] ∧ kw = [(("item" : Str), v)]))
    (hq : ∀ h' tk e d, Made_item s.heap h' e C d v → R (.ok (.ret (.ref e))) { s with heap := h', toks := tk }) :
    codeAny (model prog w) A (.call (.ref C) ⟨rest, kw⟩) R s := by
  obtain ⟨nm', N, q, bs, bm, hd, sn, sub, ab, col, dd, k0, k1, k2, k3, k5, hC, hbm⟩ := excInit_of X T.ini
  obtain ⟨hp, g, dr, tk, os⟩ := s
  have k : ∀ b o, hp.get? b = some o → ((hp.push (kdv_tup rest)).push (excO C hp.objs.size)).get? b = some o := fun b o e => Heap.get?_push_of_some _ (Heap.get?_push_of_some _ e)
  have hget : ((hp.push (kdv_tup rest)).push (excO C hp.objs.size)).get? (hp.objs.size + 1) = some (excO C hp.objs.size) := by heap_get
  have chn : Chain bm Bm := ⟨by rw [hbm]; exact T.ch.cB, by rw [hbm]; exact T.ch.cA, by rw [hbm]; exact T.ch.cN⟩
  have hsz : rest.length ≤ sizeLine := by rcases how with ⟨rfl, _⟩ | ⟨rfl, _⟩ <;> (rw [sizeLine_eq]; simp)
  refine callX T.fb chn hC (looks_findIn X T.iC) (fun self => bind_fn X self T.tC) hsz ?_
  refine init_item (s := ⟨(hp.push (kdv_tup rest)).push (excO C hp.objs.size), g, dr, tk, os⟩) (v := v) T (X.keeps k) (hlim.keeps k) hget (show A.depth + 1 < recursionLimit from hroom) ?_ fun h' tk' dx k' hx dn dne hns => ?_
  · rcases how with ⟨rfl, rfl⟩ | ⟨rfl, rfl⟩
    · exact fun _ _ _ _ _ _ _ _ _ _ _ _ => BindsTo.of_eq (by first | rfl | with_unfolding_all rfl)
    · exact fun _ _ _ _ _ _ _ _ _ _ _ _ => BindsTo.of_eq (by first | rfl | with_unfolding_all rfl)
  have old : ∀ b o, hp.get? b = some o → h'.get? b = some o := fun b o e => k' b o (Nat.ne_of_lt (Nat.lt_succ_of_lt (Heap.lt_size e))) (k b o e)
  have z : hp.objs.size + 1 + 1 ≤ dx := by
    have q := dn
    rw [Heap.size_push, Heap.size_push] at q
    exact q
  exact ⟨rfl, hq h' tk' (hp.objs.size + 1) dx ⟨old, Nat.le_succ _, ⟨_, hx⟩, (show hp.objs.size ≤ dx by omega), dne, hns⟩⟩
end
end Exn
namespace Exn
open PySem PySem.Spec PyProof.Rows L2
theorem relO_item {v : V} {v' : Value} (r : RelV v v') (f : Str) : RelO (List.lookup f [(("item" : Str), v)]) (if f = "item" then some v' else none) := by
  by_cases hw : f = "item"
  · subst hw
    rw [if_pos rfl, show List.lookup ("item" : Str) [(("item" : Str), v)] = some v by simp [List.lookup]]
    exact r
  · have qw : (f == ("item" : Str)) = false := by simpa using hw
    rw [if_neg hw, show List.lookup f [(("item" : Str), v)] = none by simp [List.lookup, qw]]
    trivial
section
variable {X : Cx} {nm qual : Str} {B Bm newId initId : String} {bmB bm0 : List Value} {C fI : Addr}
/-- the making of the error that is raised at once -/
def tMk_item (C : Addr) (ta : TA) : L2.St → Hp → XK → Prop := fun σ H Q => ta σ H fun vs H1 => ∃ v, vs = [v] ∧ ∀ d, H1 d = none → Q (.ref C) (some d) (upd H1 d (.xd [(("item" : Str), v)]))
theorem pmk_item {a : Expr} {ta : TA} {p pos : Pos} {k : Nat} (T : Ecl_item X.K X.mg nm qual B Bm newId initId bmB bm0 C fI) (hr : Room k X.A) (ha : PA X [a] ta) (hg : Gl X nm) (hdb : (nm == ("__debug__" : Str)) = false := by decide)
    (he : starEach (a :: []) X.env = (false, eval a X.env) :: starEach [] X.env := by rfl) (hpl : (backTo pos (starEach [] X.env)).any (·.1) = false := by rfl) :
    PMk X (.Call (.Name nm p) [a] [] pos) (tMk_item C ta) := by
  intro pins s σ H Q I h
  refine wpAny_Call_Name_kw (ld_glob I hg T.gC ?_ hdb)
  refine PySem.W.callWith_K (h₀ := X.base) I.ok.mod.kin T.kC (thn (ha.run pos pins s σ H _ I h) ?_) he hpl
  rintro us s1 ⟨vs, H1, I1, r1, v, rfl, q1⟩
  obtain ⟨v', rfl, rv⟩ := vals1 r1
  refine ⟨I1.kIn, ?_⟩
  have hlim := I1.nolimit
  have hdp := hr.dp
  obtain ⟨hp, g, dr, tk, os⟩ := s1
  refine wpAny_call (made_item T I1.kIn hlim (by omega) (.inl ⟨rfl, rfl⟩) fun h' tk' e d M => ?_)
  show MkP X pins σ Q (.ref e) ⟨h', g, dr, tk', os⟩
  obtain ⟨t1, hoe⟩ := M.obj
  have hns := M.ns
  obtain ⟨G', g1, g2⟩ := restrict h' fun b => decide (b ≠ e)
  have gk : ∀ b, b ≠ e → G'.get? b = h'.get? b := fun b hb => g1 b (decide_eq_true hb)
  have ge : G'.get? e = none := g2 e (by simp)
  have old : ∀ b o, hp.get? b = some o → G'.get? b = some o := fun b o q => (gk b (Nat.ne_of_lt (Nat.lt_of_lt_of_le (Heap.lt_size q) M.new))).trans (M.keep b o q)
  have ob : ObjOk X.prog X.w (upd H1 d (.xd [(("item" : Str), v)])) G' d (.xd [(("item" : Str), v)]) := ⟨_, hns.at (fun o q => (gk d M.dne).trans q), fun f => relO_item rv f⟩
  have J : Inv X pins σ (upd H1 d (.xd [(("item" : Str), v)])) ⟨G', g, dr, tk', os⟩ := I1.laid (t' := tk') old M.dbig ob
  refine ⟨e, _, _, ⟨G', g, dr, tk', os⟩, _, .ref C, some d, rfl, J, fun b o q => ?_, ge, hoe, ⟨rfl, rfl⟩, rfl, rfl, ?_, rfl, I1.bare, raises_own T.exC T.tyC, q1 d (I1.hok.fresh M.dbig)⟩
  · by_cases hb : b = e
    · have q' : G'.get? b = some o := q
      rw [hb, ge] at q'
      cases q'
    · exact (gk b hb).symm.trans q
  · rw [upd_ne (Ne.symm M.dne)]
    exact I1.hok.fresh M.new
/-- the error as a value -/
abbrev tMkV_item (C : Addr) (ta : TA) : TE := tMkVg "item" C ta
theorem mkV_item {pins : List (Addr × Obj)} {s : Shared} {σ : L2.St} {H : Hp} {Q : VK} {v : V} {v' : Value} {rest : List Value} {kw : List (Str × Value)} {k : Nat} (T : Ecl_item X.K X.mg nm qual B Bm newId initId bmB bm0 C fI) (hr : Room k X.A) (I : Inv X pins σ H s) (rv : RelV v v')
    (how : (rest = [v'] ∧ kw = []) ∨ (rest = [] ∧ kw = [(("item" : Str), v')])) (q : ∀ d a, H d = none → H a = none → a ≠ d → Q (.ref a) (upd (upd H d (.xd [(("item" : Str), v)])) a (ExV C d a))) :
    wpAny (model X.prog X.w) X.A (call (.ref C) rest kw) (EP X pins σ Q) X.xe s := by
  have hlim := I.nolimit
  have hdp := hr.dp
  obtain ⟨hp, g, dr, tk, os⟩ := s
  refine wpAny_call (made_item T I.kIn hlim (by omega) how fun h' tk' e d M => ?_)
  obtain ⟨t1, hoe⟩ := M.obj
  obtain ⟨G', g1, g2⟩ := restrict h' fun b => decide (b ≠ e)
  have gk : ∀ b, b ≠ e → G'.get? b = h'.get? b := fun b hb => g1 b (decide_eq_true hb)
  have ge : G'.get? e = none := g2 e (by simp)
  have old : ∀ b o, hp.get? b = some o → G'.get? b = some o := fun b o z => (gk b (Nat.ne_of_lt (Nat.lt_of_lt_of_le (Heap.lt_size z) M.new))).trans (M.keep b o z)
  have J : Inv X pins σ (upd H d (.xd [(("item" : Str), v)])) ⟨G', g, dr, tk', os⟩ := I.laid (t' := tk') old M.dbig ⟨_, M.ns.at (fun o z => (gk d M.dne).trans z), fun f => relO_item rv f⟩
  have nHe : H e = none := I.hok.fresh M.new
  have nHe2 : (upd H d (.xd [(("item" : Str), v)])) e = none := by rw [upd_ne (Ne.symm M.dne)]; exact nHe
  have sub : ∀ b u, G'.get? b = some u → h'.get? b = some u := fun b o z => by
    by_cases hb : b = e
    · rw [hb, ge] at z; cases z
    · exact (gk b hb).symm.trans z
  exact ⟨.ref e, _, J.laidN (t' := tk') sub ge nHe2 (exV_ok hoe), rfl, q d e (I.hok.fresh M.dbig) nHe (Ne.symm M.dne)⟩
theorem pe_mkV_item {a : Expr} {ta : TA} {p pos : Pos} {k : Nat} (T : Ecl_item X.K X.mg nm qual B Bm newId initId bmB bm0 C fI) (hr : Room k X.A) (ha : PA X [a] ta) (hg : Gl X nm) (hdb : (nm == ("__debug__" : Str)) = false := by decide)
    (he : starEach (a :: []) X.env = (false, eval a X.env) :: starEach [] X.env := by rfl) (hpl : (backTo pos (starEach [] X.env)).any (·.1) = false := by rfl) : PE X (.Call (.Name nm p) [a] [] pos) (tMkV_item C ta) := by
  refine ⟨fun pins s σ H Q I h => wpAny_Call_Name_kw (ld_glob I hg T.gC ?_ hdb)⟩
  refine PySem.W.callWith_K (h₀ := X.base) I.ok.mod.kin T.kC (thn (ha.run pos pins s σ H _ I h) ?_) he hpl
  rintro us s1 ⟨vs, H1, I1, r1, v, rfl, q1⟩
  obtain ⟨v', rfl, rv⟩ := vals1 r1
  exact ⟨I1.kIn, mkV_item T hr I1 rv (.inl ⟨rfl, rfl⟩) q1⟩
theorem pe_mkK_item {kws : List Keyword} {tk : TA} {p pos : Pos} {k : Nat} (T : Ecl_item X.K X.mg nm qual B Bm newId initId bmB bm0 C fI) (hr : Room k X.A) (hkw : PK X kws tk) (hg : Gl X nm) (hdb : (nm == ("__debug__" : Str)) = false := by decide)
    (hal : (backToKw pos (keywordEach kws X.env)).all (·.1.isSome) = true := by rfl) (hks : (backToKw pos (keywordEach kws X.env)).filterMap (·.1) = [("item" : Str)] := by rfl)
    (hst : ((backTo pos (starEach [] X.env)).any (·.1) || (backToKw pos (keywordEach kws X.env)).any (·.1.isNone)) = false := by rfl) : PE X (.Call (.Name nm p) [] kws pos) (tMkV_item C tk) := by
  refine ⟨fun pins s σ H Q I h => wpAny_Call_Name_kw (ld_glob I hg T.gC ?_ hdb)⟩
  refine PySem.W.callWith_KW0 (h₀ := X.base) I.ok.mod.kin T.kC hal (thn (hkw.run pos pins s σ H _ I h) ?_) hst
  rintro us s1 ⟨vs, H1, I1, r1, v, rfl, q1⟩
  obtain ⟨v', rfl, rv⟩ := vals1 r1
  refine ⟨I1.kIn, ?_⟩
  rw [hks]
  exact mkV_item T hr I1 rv (.inr ⟨rfl, rfl⟩) q1
end
end Exn
/-! the field limit -/
namespace Exn
open PySem PySem.W PySem.Calls PyProof.Rows PySem.HandSPX
/-- what the written part says of such a class: its name, its place C, its __init__ at fI -/
structure Ecl_limit (K : Frag) (mg : Str → Option Value) (nm qual : Str) (B Bm newId initId : String) (bmB bm0 : List Value) (C fI : Addr) : Prop where
  fb : ExcBaseFacts Bm newId initId bm0
  ch : Chain bmB Bm
  sf : StoreFacts B bmB "object.__setattr__" "object"
  gC : mg nm = some (.ref C)
  ini : excInitIn K C bmB newId = true
  ovr : excOver K C bmB = true
  hdC : hasDictIn K C = true
  sa : findIn K (.ref C) "__setattr__" = some (some (.builtin "object.__setattr__"))
  ga : findIn K (.ref C) "__getattribute__" = some (some (.builtin "BaseException.__getattribute__"))
  gg : findIn K (.ref C) "__getattr__" = some none
  noN : findIn K (.ref C) "limit" = some none
  tk : takerIn K C "limit" = some none
  iC : findIn K (.ref C) "__init__" = some (some (.ref fI))
  tC : typeIn K (.ref fI) = some (.type "function")
  kC : keepIn K (.ref C) = true
  exC : subIn K (.ref C) (.type "BaseException") = some true
  tyC : typeIn K (.ref C) = some (.type "type")
  fn : ∃ (oc : Value) (od : Option Addr) (doc pm : Value) (an : Option Addr) (cdv ct : Value) (osl : Array (Option Value)) (p1 p2 q1 q2 q3 q4 : Pos),
    K.lookup fI = some ⟨oc, od, .func (fnOf "__init__" qual (iA "limit" p1 p2) (iB "limit" q1 q2 q3 q4) (iS "limit" []) .none .none doc pm an cdv ct), osl⟩ ∧ codeIn K cdv qual = true
theorem ecl_limit {K : Frag} {mg : Str → Option Value} {nm qual : Str} {B Bm newId initId : String} {bmB bm0 : List Value} {C fI : Addr} (fb : ExcBaseFacts Bm newId initId bm0) (ch : Chain bmB Bm) (sf : StoreFacts B bmB "object.__setattr__" "object") (gC : mg nm = some (.ref C))
    (h : ecB K C fI "limit" bmB newId = true) (iC : findIn K (.ref C) "__init__" = some (some (.ref fI))) {oc : Value} {od : Option Addr} {doc pm : Value} {an : Option Addr} {cdv ct : Value} {osl : Array (Option Value)} {p1 p2 q1 q2 q3 q4 : Pos}
    (l : K.lookup fI = some ⟨oc, od, .func (fnOf "__init__" qual (iA "limit" p1 p2) (iB "limit" q1 q2 q3 q4) (iS "limit" []) .none .none doc pm an cdv ct), osl⟩) (c : codeIn K cdv qual = true) : Ecl_limit K mg nm qual B Bm newId initId bmB bm0 C fI := by
  unfold ecB at h
  simp only [Bool.and_eq_true, decide_eq_true_eq] at h
  obtain ⟨h1, h2, h3, h4, h5, h6, h7, h8, h9, h10, h11, h12, _⟩ := h
  exact ⟨fb, ch, sf, gC, h1, h2, h3, h4, h5, h6, h7, h8, iC, h9, h10, h11, h12, ⟨oc, od, doc, pm, an, cdv, ct, osl, p1, p2, q1, q2, q3, q4, l, c⟩⟩
/-- an error just made: at e, its dict at d, the field in it -/
structure Made_limit (h h' : Heap) (e C d : Addr) (v : Value) : Prop where
  keep : ∀ b o, h.get? b = some o → h'.get? b = some o
  new : h.objs.size ≤ e
  obj : ∃ t1 : Addr, h'.get? e = some { cls := .ref C, dict := some d, data := .fields #[.ref t1, .none, .none, .none, .bool false, .none] }
  dbig : h.objs.size ≤ d
  dne : d ≠ e
  ns : h'.Ns1 d (fun y => if y = "limit" then some v else none)
section
variable {prog : Program} {w : World} {A : Around} {E : Value → Shared → Prop} {R : Result → Shared → Prop} {s : Shared} {K : Frag} {mg : Str → Option Value} {nm qual : Str} {B Bm newId initId : String} {bmB bm0 : List Value} {C fI : Addr}
theorem init_limit (T : Ecl_limit K mg nm qual B Bm newId initId bmB bm0 C fI) {x t0 : Addr} {v : Value} {ar : Args} (X : K.In s.heap) (hlim : s.heap.NoLimit) (hx : s.heap.get? x = some (excO C t0)) (hroom : A.depth < recursionLimit)
    (hbind : ∀ doc pm an cdv ct p1 p2 q1 q2 q3 q4 s', BindsTo s' (fnOf "__init__" qual (iA "limit" p1 p2) (iB "limit" q1 q2 q3 q4) (iS "limit" []) .none .none doc pm an cdv ct) ar [("self", .ref x), ("limit", v)])
    (hq : ∀ h' tk dx, (∀ b o, b ≠ x → s.heap.get? b = some o → h'.get? b = some o) → h'.get? x = some { cls := .ref C, dict := some dx, data := .fields #[.ref t0, .none, .none, .none, .bool false, .none] } → s.heap.objs.size ≤ dx → dx ≠ x →
      h'.Ns1 dx (fun y => if y = "limit" then some v else none) → R (.ok (.ret .none)) { s with heap := h', toks := tk }) :
    codeAny (model prog w) A (.call (.ref fI) ar) R s := by
  obtain ⟨oc, od, doc, pm, an, cdv, ct, osl, p1, p2, q1, q2, q3, q4, ho, hcd⟩ := T.fn
  obtain ⟨cd, hcl, hhd⟩ := any_some T.hdC
  refine Att.call_fn (binds := [("self", .ref x), ("limit", v)]) X hlim ho hcd hroom (hbind _ _ _ _ _ _ _ _ _ _ _ _) (by first | rfl | decide | with_unfolding_all rfl) (fun s₁ IC => ?_) rfl rfl rfl
  obtain ⟨h₁, tk₁, rfl⟩ := IC.toInCall.same
  have k := IC.toInCall.keep
  have hn := IC.toInCall.ns
  have X₁ : K.In h₁ := X.keeps k
  show wpAny _ _ (execs _ _) _ _ _
  refine wpAny_execs_cons (plainObj_wpAny_Assign_Attribute ?_)
  refine wpAny_Name (wpAny_loadName_local rfl rfl hn (v := v) (by first | rfl | with_unfolding_all rfl | kernel_rfl) ?_) (by decide)
  refine wpAny_Name (wpAny_loadName_local rfl rfl hn (v := .ref x) (by first | rfl | with_unfolding_all rfl | kernel_rfl) ?_) (by decide)
  refine set_plain X₁ (ox := excO C t0) (od := none) ⟨k _ _ hx, rfl, rfl, trivial⟩ T.sa (osaB T.sf X₁ (k _ _ hx) T.ovr T.tk hcl hhd fun h₃ tk₃ dx k₃ dn dne hx₃ hn₃ => ?_)
  show wpAny _ _ (execs _ _) _ _ _
  exact wpAny_execs_nil (hq h₃ tk₃ dx (fun b o hb e => k₃ b o hb (k b o e)) hx₃ (Nat.le_of_lt (Nat.lt_of_lt_of_le hn.lt dn)) dne hn₃)
theorem made_limit (T : Ecl_limit K mg nm qual B Bm newId initId bmB bm0 C fI) {v : Value} {rest : List Value} {kw : List (Str × Value)} (X : K.In s.heap) (hlim : s.heap.NoLimit) (hroom : A.depth + 1 < recursionLimit) (how : (rest = [v] ∧ kw = []) ∨ (rest = [] ∧ kw = [(("limit" : Str), v)]))
    (hq : ∀ h' tk e d, Made_limit s.heap h' e C d v → R (.ok (.ret (.ref e))) { s with heap := h', toks := tk }) :
    codeAny (model prog w) A (.call (.ref C) ⟨rest, kw⟩) R s := by
  obtain ⟨nm', N, q, bs, bm, hd, sn, sub, ab, col, dd, k0, k1, k2, k3, k5, hC, hbm⟩ := excInit_of X T.ini
  obtain ⟨hp, g, dr, tk, os⟩ := s
  have k : ∀ b o, hp.get? b = some o → ((hp.push (kdv_tup rest)).push (excO C hp.objs.size)).get? b = some o := fun b o e => Heap.get?_push_of_some _ (Heap.get?_push_of_some _ e)
  have hget : ((hp.push (kdv_tup rest)).push (excO C hp.objs.size)).get? (hp.objs.size + 1) = some (excO C hp.objs.size) := by heap_get
  have chn : Chain bm Bm := ⟨by rw [hbm]; exact T.ch.cB, by rw [hbm]; exact T.ch.cA, by rw [hbm]; exact T.ch.cN⟩
  have hsz : rest.length ≤ sizeLine := by rcases how with ⟨rfl, _⟩ | ⟨rfl, _⟩ <;> (rw [sizeLine_eq]; simp)
  refine callX T.fb chn hC (looks_findIn X T.iC) (fun self => bind_fn X self T.tC) hsz ?_
  refine init_limit (s := ⟨(hp.push (kdv_tup rest)).push (excO C hp.objs.size), g, dr, tk, os⟩) (v := v) T (X.keeps k) (hlim.keeps k) hget (show A.depth + 1 < recursionLimit from hroom) ?_ fun h' tk' dx k' hx dn dne hns => ?_
  · rcases how with ⟨rfl, rfl⟩ | ⟨rfl, rfl⟩
    · exact fun _ _ _ _ _ _ _ _ _ _ _ _ => BindsTo.of_eq (by first | rfl | with_unfolding_all rfl)
    · exact fun _ _ _ _ _ _ _ _ _ _ _ _ => BindsTo.of_eq (by first | rfl | with_unfolding_all rfl)
  have old : ∀ b o, hp.get? b = some o → h'.get? b = some o := fun b o e => k' b o (Nat.ne_of_lt (Nat.lt_succ_of_lt (Heap.lt_size e))) (k b o e)
  have z : hp.objs.size + 1 + 1 ≤ dx := by
    have q := dn
    rw [Heap.size_push, Heap.size_push] at q
    exact q
  exact ⟨rfl, hq h' tk' (hp.objs.size + 1) dx ⟨old, Nat.le_succ _, ⟨_, hx⟩, (show hp.objs.size ≤ dx by omega), dne, hns⟩⟩
end
end Exn
namespace Exn
open PySem PySem.Spec PyProof.Rows L2
theorem relO_limit {v : V} {v' : Value} (r : RelV v v') (f : Str) : RelO (List.lookup f [(("limit" : Str), v)]) (if f = "limit" then some v' else none) := by
  by_cases hw : f = "limit"
  · subst hw
    rw [if_pos rfl, show List.lookup ("limit" : Str) [(("limit" : Str), v)] = some v by simp [List.lookup]]
    exact r
  · have qw : (f == ("limit" : Str)) = false := by simpa using hw
    rw [if_neg hw, show List.lookup f [(("limit" : Str), v)] = none by simp [List.lookup, qw]]
    trivial
section
variable {X : Cx} {nm qual : Str} {B Bm newId initId : String} {bmB bm0 : List Value} {C fI : Addr}
/-- the making of the error that is raised at once -/
def tMk_limit (C : Addr) (ta : TA) : L2.St → Hp → XK → Prop := fun σ H Q => ta σ H fun vs H1 => ∃ v, vs = [v] ∧ ∀ d, H1 d = none → Q (.ref C) (some d) (upd H1 d (.xd [(("limit" : Str), v)]))
theorem pmk_limit {a : Expr} {ta : TA} {p pos : Pos} {k : Nat} (T : Ecl_limit X.K X.mg nm qual B Bm newId initId bmB bm0 C fI) (hr : Room k X.A) (ha : PA X [a] ta) (hg : Gl X nm) (hdb : (nm == ("__debug__" : Str)) = false := by decide)
    (he : starEach (a :: []) X.env = (false, eval a X.env) :: starEach [] X.env := by rfl) (hpl : (backTo pos (starEach [] X.env)).any (·.1) = false := by rfl) :
    PMk X (.Call (.Name nm p) [a] [] pos) (tMk_limit C ta) := by
  intro pins s σ H Q I h
  refine wpAny_Call_Name_kw (ld_glob I hg T.gC ?_ hdb)
  refine PySem.W.callWith_K (h₀ := X.base) I.ok.mod.kin T.kC (thn (ha.run pos pins s σ H _ I h) ?_) he hpl
  rintro us s1 ⟨vs, H1, I1, r1, v, rfl, q1⟩
  obtain ⟨v', rfl, rv⟩ := vals1 r1
  refine ⟨I1.kIn, ?_⟩
  have hlim := I1.nolimit
  have hdp := hr.dp
  obtain ⟨hp, g, dr, tk, os⟩ := s1
  refine wpAny_call (made_limit T I1.kIn hlim (by omega) (.inl ⟨rfl, rfl⟩) fun h' tk' e d M => ?_)
  show MkP X pins σ Q (.ref e) ⟨h', g, dr, tk', os⟩
  obtain ⟨t1, hoe⟩ := M.obj
  have hns := M.ns
  obtain ⟨G', g1, g2⟩ := restrict h' fun b => decide (b ≠ e)
  have gk : ∀ b, b ≠ e → G'.get? b = h'.get? b := fun b hb => g1 b (decide_eq_true hb)
  have ge : G'.get? e = none := g2 e (by simp)
  have old : ∀ b o, hp.get? b = some o → G'.get? b = some o := fun b o q => (gk b (Nat.ne_of_lt (Nat.lt_of_lt_of_le (Heap.lt_size q) M.new))).trans (M.keep b o q)
  have ob : ObjOk X.prog X.w (upd H1 d (.xd [(("limit" : Str), v)])) G' d (.xd [(("limit" : Str), v)]) := ⟨_, hns.at (fun o q => (gk d M.dne).trans q), fun f => relO_limit rv f⟩
  have J : Inv X pins σ (upd H1 d (.xd [(("limit" : Str), v)])) ⟨G', g, dr, tk', os⟩ := I1.laid (t' := tk') old M.dbig ob
  refine ⟨e, _, _, ⟨G', g, dr, tk', os⟩, _, .ref C, some d, rfl, J, fun b o q => ?_, ge, hoe, ⟨rfl, rfl⟩, rfl, rfl, ?_, rfl, I1.bare, raises_own T.exC T.tyC, q1 d (I1.hok.fresh M.dbig)⟩
  · by_cases hb : b = e
    · have q' : G'.get? b = some o := q
      rw [hb, ge] at q'
      cases q'
    · exact (gk b hb).symm.trans q
  · rw [upd_ne (Ne.symm M.dne)]
    exact I1.hok.fresh M.new
/-- the error as a value -/
abbrev tMkV_limit (C : Addr) (ta : TA) : TE := tMkVg "limit" C ta
theorem mkV_limit {pins : List (Addr × Obj)} {s : Shared} {σ : L2.St} {H : Hp} {Q : VK} {v : V} {v' : Value} {rest : List Value} {kw : List (Str × Value)} {k : Nat} (T : Ecl_limit X.K X.mg nm qual B Bm newId initId bmB bm0 C fI) (hr : Room k X.A) (I : Inv X pins σ H s) (rv : RelV v v')
    (how : (rest = [v'] ∧ kw = []) ∨ (rest = [] ∧ kw = [(("limit" : Str), v')])) (q : ∀ d a, H d = none → H a = none → a ≠ d → Q (.ref a) (upd (upd H d (.xd [(("limit" : Str), v)])) a (ExV C d a))) :
    wpAny (model X.prog X.w) X.A (call (.ref C) rest kw) (EP X pins σ Q) X.xe s := by
  have hlim := I.nolimit
  have hdp := hr.dp
  obtain ⟨hp, g, dr, tk, os⟩ := s
  refine wpAny_call (made_limit T I.kIn hlim (by omega) how fun h' tk' e d M => ?_)
  obtain ⟨t1, hoe⟩ := M.obj
  obtain ⟨G', g1, g2⟩ := restrict h' fun b => decide (b ≠ e)
  have gk : ∀ b, b ≠ e → G'.get? b = h'.get? b := fun b hb => g1 b (decide_eq_true hb)
  have ge : G'.get? e = none := g2 e (by simp)
  have old : ∀ b o, hp.get? b = some o → G'.get? b = some o := fun b o z => (gk b (Nat.ne_of_lt (Nat.lt_of_lt_of_le (Heap.lt_size z) M.new))).trans (M.keep b o z)
  have J : Inv X pins σ (upd H d (.xd [(("limit" : Str), v)])) ⟨G', g, dr, tk', os⟩ := I.laid (t' := tk') old M.dbig ⟨_, M.ns.at (fun o z => (gk d M.dne).trans z), fun f => relO_limit rv f⟩
  have nHe : H e = none := I.hok.fresh M.new
  have nHe2 : (upd H d (.xd [(("limit" : Str), v)])) e = none := by rw [upd_ne (Ne.symm M.dne)]; exact nHe
  have sub : ∀ b u, G'.get? b = some u → h'.get? b = some u := fun b o z => by
    by_cases hb : b = e
    · rw [hb, ge] at z; cases z
    · exact (gk b hb).symm.trans z
  exact ⟨.ref e, _, J.laidN (t' := tk') sub ge nHe2 (exV_ok hoe), rfl, q d e (I.hok.fresh M.dbig) nHe (Ne.symm M.dne)⟩
theorem pe_mkV_limit {a : Expr} {ta : TA} {p pos : Pos} {k : Nat} (T : Ecl_limit X.K X.mg nm qual B Bm newId initId bmB bm0 C fI) (hr : Room k X.A) (ha : PA X [a] ta) (hg : Gl X nm) (hdb : (nm == ("__debug__" : Str)) = false := by decide)
    (he : starEach (a :: []) X.env = (false, eval a X.env) :: starEach [] X.env := by rfl) (hpl : (backTo pos (starEach [] X.env)).any (·.1) = false := by rfl) : PE X (.Call (.Name nm p) [a] [] pos) (tMkV_limit C ta) := by
  refine ⟨fun pins s σ H Q I h => wpAny_Call_Name_kw (ld_glob I hg T.gC ?_ hdb)⟩
  refine PySem.W.callWith_K (h₀ := X.base) I.ok.mod.kin T.kC (thn (ha.run pos pins s σ H _ I h) ?_) he hpl
  rintro us s1 ⟨vs, H1, I1, r1, v, rfl, q1⟩
  obtain ⟨v', rfl, rv⟩ := vals1 r1
  exact ⟨I1.kIn, mkV_limit T hr I1 rv (.inl ⟨rfl, rfl⟩) q1⟩
theorem pe_mkK_limit {kws : List Keyword} {tk : TA} {p pos : Pos} {k : Nat} (T : Ecl_limit X.K X.mg nm qual B Bm newId initId bmB bm0 C fI) (hr : Room k X.A) (hkw : PK X kws tk) (hg : Gl X nm) (hdb : (nm == ("__debug__" : Str)) = false := by decide)
    (hal : (backToKw pos (keywordEach kws X.env)).all (·.1.isSome) = true := by rfl) (hks : (backToKw pos (keywordEach kws X.env)).filterMap (·.1) = [("limit" : Str)] := by rfl)
    (hst : ((backTo pos (starEach [] X.env)).any (·.1) || (backToKw pos (keywordEach kws X.env)).any (·.1.isNone)) = false := by rfl) : PE X (.Call (.Name nm p) [] kws pos) (tMkV_limit C tk) := by
  refine ⟨fun pins s σ H Q I h => wpAny_Call_Name_kw (ld_glob I hg T.gC ?_ hdb)⟩
  refine PySem.W.callWith_KW0 (h₀ := X.base) I.ok.mod.kin T.kC hal (thn (hkw.run pos pins s σ H _ I h) ?_) hst
  rintro us s1 ⟨vs, H1, I1, r1, v, rfl, q1⟩
  obtain ⟨v', rfl, rv⟩ := vals1 r1
  refine ⟨I1.kIn, ?_⟩
  rw [hks]
  exact mkV_limit T hr I1 rv (.inr ⟨rfl, rfl⟩) q1
end
end Exn
/-! the field count -/
namespace Exn
open PySem PySem.W PySem.Calls PyProof.Rows PySem.HandSPX
/-- what the written part says of such a class: its name, its place C, its __init__ at fI -/
structure Ecl_count (K : Frag) (mg : Str → Option Value) (nm qual : Str) (B Bm newId initId : String) (bmB bm0 : List Value) (C fI : Addr) : Prop where
  fb : ExcBaseFacts Bm newId initId bm0
  ch : Chain bmB Bm
  sf : StoreFacts B bmB "object.__setattr__" "object"
  gC : mg nm = some (.ref C)
  ini : excInitIn K C bmB newId = true
  ovr : excOver K C bmB = true
  hdC : hasDictIn K C = true
  sa : findIn K (.ref C) "__setattr__" = some (some (.builtin "object.__setattr__"))
  ga : findIn K (.ref C) "__getattribute__" = some (some (.builtin "BaseException.__getattribute__"))
  gg : findIn K (.ref C) "__getattr__" = some none
  noN : findIn K (.ref C) "count" = some none
  tk : takerIn K C "count" = some none
  iC : findIn K (.ref C) "__init__" = some (some (.ref fI))
  tC : typeIn K (.ref fI) = some (.type "function")
  kC : keepIn K (.ref C) = true
  exC : subIn K (.ref C) (.type "BaseException") = some true
  tyC : typeIn K (.ref C) = some (.type "type")
  fn : ∃ (oc : Value) (od : Option Addr) (doc pm : Value) (an : Option Addr) (cdv ct : Value) (osl : Array (Option Value)) (p1 p2 q1 q2 q3 q4 : Pos),
    K.lookup fI = some ⟨oc, od, .func (fnOf "__init__" qual (iA "count" p1 p2) (iB "count" q1 q2 q3 q4) (iS "count" []) .none .none doc pm an cdv ct), osl⟩ ∧ codeIn K cdv qual = true
theorem ecl_count {K : Frag} {mg : Str → Option Value} {nm qual : Str} {B Bm newId initId : String} {bmB bm0 : List Value} {C fI : Addr} (fb : ExcBaseFacts Bm newId initId bm0) (ch : Chain bmB Bm) (sf : StoreFacts B bmB "object.__setattr__" "object") (gC : mg nm = some (.ref C))
    (h : ecB K C fI "count" bmB newId = true) (iC : findIn K (.ref C) "__init__" = some (some (.ref fI))) {oc : Value} {od : Option Addr} {doc pm : Value} {an : Option Addr} {cdv ct : Value} {osl : Array (Option Value)} {p1 p2 q1 q2 q3 q4 : Pos}
    (l : K.lookup fI = some ⟨oc, od, .func (fnOf "__init__" qual (iA "count" p1 p2) (iB "count" q1 q2 q3 q4) (iS "count" []) .none .none doc pm an cdv ct), osl⟩) (c : codeIn K cdv qual = true) : Ecl_count K mg nm qual B Bm newId initId bmB bm0 C fI := by
  unfold ecB at h
  simp only [Bool.and_eq_true, decide_eq_true_eq] at h
  obtain ⟨h1, h2, h3, h4, h5, h6, h7, h8, h9, h10, h11, h12, _⟩ := h
  exact ⟨fb, ch, sf, gC, h1, h2, h3, h4, h5, h6, h7, h8, iC, h9, h10, h11, h12, ⟨oc, od, doc, pm, an, cdv, ct, osl, p1, p2, q1, q2, q3, q4, l, c⟩⟩
/-- an error just made: at e, its dict at d, the field in it -/
structure Made_count (h h' : Heap) (e C d : Addr) (v : Value) : Prop where
  keep : ∀ b o, h.get? b = some o → h'.get? b = some o
  new : h.objs.size ≤ e
  obj : ∃ t1 : Addr, h'.get? e = some { cls := .ref C, dict := some d, data := .fields #[.ref t1, .none, .none, .none, .bool false, .none] }
  dbig : h.objs.size ≤ d
  dne : d ≠ e
  ns : h'.Ns1 d (fun y => if y = "count" then some v else none)
section
variable {prog : Program} {w : World} {A : Around} {E : Value → Shared → Prop} {R : Result → Shared → Prop} {s : Shared} {K : Frag} {mg : Str → Option Value} {nm qual : Str} {B Bm newId initId : String} {bmB bm0 : List Value} {C fI : Addr}
theorem init_count (T : Ecl_count K mg nm qual B Bm newId initId bmB bm0 C fI) {x t0 : Addr} {v : Value} {ar : Args} (X : K.In s.heap) (hlim : s.heap.NoLimit) (hx : s.heap.get? x = some (excO C t0)) (hroom : A.depth < recursionLimit)
    (hbind : ∀ doc pm an cdv ct p1 p2 q1 q2 q3 q4 s', BindsTo s' (fnOf "__init__" qual (iA "count" p1 p2) (iB "count" q1 q2 q3 q4) (iS "count" []) .none .none doc pm an cdv ct) ar [("self", .ref x), ("count", v)])
    (hq : ∀ h' tk dx, (∀ b o, b ≠ x → s.heap.get? b = some o → h'.get? b = some o) → h'.get? x = some { cls := .ref C, dict := some dx, data := .fields #[.ref t0, .none, .none, .none, .bool false, .none] } → s.heap.objs.size ≤ dx → dx ≠ x →
      h'.Ns1 dx (fun y => if y = "count" then some v else none) → R (.ok (.ret .none)) { s with heap := h', toks := tk }) :
    codeAny (model prog w) A (.call (.ref fI) ar) R s := by
  obtain ⟨oc, od, doc, pm, an, cdv, ct, osl, p1, p2, q1, q2, q3, q4, ho, hcd⟩ := T.fn
  obtain ⟨cd, hcl, hhd⟩ := any_some T.hdC
  refine Att.call_fn (binds := [("self", .ref x), ("count", v)]) X hlim ho hcd hroom (hbind _ _ _ _ _ _ _ _ _ _ _ _) (by first | rfl | decide | with_unfolding_all rfl) (fun s₁ IC => ?_) rfl rfl rfl
  obtain ⟨h₁, tk₁, rfl⟩ := IC.toInCall.same
  have k := IC.toInCall.keep
  have hn := IC.toInCall.ns
  have X₁ : K.In h₁ := X.keeps k
  show wpAny _ _ (execs _ _) _ _ _
  refine wpAny_execs_cons (plainObj_wpAny_Assign_Attribute ?_)
  refine wpAny_Name (wpAny_loadName_local rfl rfl hn (v := v) (by first | rfl | with_unfolding_all rfl | kernel_rfl) ?_) (by decide)
  refine wpAny_Name (wpAny_loadName_local rfl rfl hn (v := .ref x) (by first | rfl | with_unfolding_all rfl | kernel_rfl) ?_) (by decide)
  refine set_plain X₁ (ox := excO C t0) (od := none) ⟨k _ _ hx, rfl, rfl, trivial⟩ T.sa (osaB T.sf X₁ (k _ _ hx) T.ovr T.tk hcl hhd fun h₃ tk₃ dx k₃ dn dne hx₃ hn₃ => ?_)
  show wpAny _ _ (execs _ _) _ _ _
  exact wpAny_execs_nil (hq h₃ tk₃ dx (fun b o hb e => k₃ b o hb (k b o e)) hx₃ (Nat.le_of_lt (Nat.lt_of_lt_of_le hn.lt dn)) dne hn₃)
theorem made_count (T : Ecl_count K mg nm qual B Bm newId initId bmB bm0 C fI) {v : Value} {rest : List Value} {kw : List (Str × Value)} (X : K.In s.heap) (hlim : s.heap.NoLimit) (hroom : A.depth + 1 < recursionLimit) (how : (rest = [v] ∧ kw = []) ∨ (rest = [] ∧ kw = [(("count" : Str), v)]))
    (hq : ∀ h' tk e d, Made_count s.heap h' e C d v → R (.ok (.ret (.ref e))) { s with heap := h', toks := tk }) :
    codeAny (model prog w) A (.call (.ref C) ⟨rest, kw⟩) R s := by
  obtain ⟨nm', N, q, bs, bm, hd, sn, sub, ab, col, dd, k0, k1, k2, k3, k5, hC, hbm⟩ := excInit_of X T.ini
  obtain ⟨hp, g, dr, tk, os⟩ := s
  have k : ∀ b o, hp.get? b = some o → ((hp.push (kdv_tup rest)).push (excO C hp.objs.size)).get? b = some o := fun b o e => Heap.get?_push_of_some _ (Heap.get?_push_of_some _ e)
  have hget : ((hp.push (kdv_tup rest)).push (excO C hp.objs.size)).get? (hp.objs.size + 1) = some (excO C hp.objs.size) := by heap_get
  have chn : Chain bm Bm := ⟨by rw [hbm]; exact T.ch.cB, by rw [hbm]; exact T.ch.cA, by rw [hbm]; exact T.ch.cN⟩
  have hsz : rest.length ≤ sizeLine := by rcases how with ⟨rfl, _⟩ | ⟨rfl, _⟩ <;> (rw [sizeLine_eq]; simp)
  refine callX T.fb chn hC (looks_findIn X T.iC) (fun self => bind_fn X self T.tC) hsz ?_
  refine init_count (s := ⟨(hp.push (kdv_tup rest)).push (excO C hp.objs.size), g, dr, tk, os⟩) (v := v) T (X.keeps k) (hlim.keeps k) hget (show A.depth + 1 < recursionLimit from hroom) ?_ fun h' tk' dx k' hx dn dne hns => ?_
  · rcases how with ⟨rfl, rfl⟩ | ⟨rfl, rfl⟩
    · exact fun _ _ _ _ _ _ _ _ _ _ _ _ => BindsTo.of_eq (by first | rfl | with_unfolding_all rfl)
    · exact fun _ _ _ _ _ _ _ _ _ _ _ _ => BindsTo.of_eq (by first | rfl | with_unfolding_all rfl)
  have old : ∀ b o, hp.get? b = some o → h'.get? b = some o := fun b o e => k' b o (Nat.ne_of_lt (Nat.lt_succ_of_lt (Heap.lt_size e))) (k b o e)
  have z : hp.objs.size + 1 + 1 ≤ dx := by
    have q := dn
    rw [Heap.size_push, Heap.size_push] at q
    exact q
  exact ⟨rfl, hq h' tk' (hp.objs.size + 1) dx ⟨old, Nat.le_succ _, ⟨_, hx⟩, (show hp.objs.size ≤ dx by omega), dne, hns⟩⟩
end
end Exn
namespace Exn
open PySem PySem.Spec PyProof.Rows L2
theorem relO_count {v : V} {v' : Value} (r : RelV v v') (f : Str) : RelO (List.lookup f [(("count" : Str), v)]) (if f = "count" then some v' else none) := by
  by_cases hw : f = "count"
  · subst hw
    rw [if_pos rfl, show List.lookup ("count" : Str) [(("count" : Str), v)] = some v by simp [List.lookup]]
    exact r
  · have qw : (f == ("count" : Str)) = false := by simpa using hw
    rw [if_neg hw, show List.lookup f [(("count" : Str), v)] = none by simp [List.lookup, qw]]
    trivial
section
variable {X : Cx} {nm qual : Str} {B Bm newId initId : String} {bmB bm0 : List Value} {C fI : Addr}
/-- the making of the error that is raised at once -/
def tMk_count (C : Addr) (ta : TA) : L2.St → Hp → XK → Prop := fun σ H Q => ta σ H fun vs H1 => ∃ v, vs = [v] ∧ ∀ d, H1 d = none → Q (.ref C) (some d) (upd H1 d (.xd [(("count" : Str), v)]))
theorem pmk_count {a : Expr} {ta : TA} {p pos : Pos} {k : Nat} (T : Ecl_count X.K X.mg nm qual B Bm newId initId bmB bm0 C fI) (hr : Room k X.A) (ha : PA X [a] ta) (hg : Gl X nm) (hdb : (nm == ("__debug__" : Str)) = false := by decide)
    (he : starEach (a :: []) X.env = (false, eval a X.env) :: starEach [] X.env := by rfl) (hpl : (backTo pos (starEach [] X.env)).any (·.1) = false := by rfl) :
    PMk X (.Call (.Name nm p) [a] [] pos) (tMk_count C ta) := by
  intro pins s σ H Q I h
  refine wpAny_Call_Name_kw (ld_glob I hg T.gC ?_ hdb)
  refine PySem.W.callWith_K (h₀ := X.base) I.ok.mod.kin T.kC (thn (ha.run pos pins s σ H _ I h) ?_) he hpl
  rintro us s1 ⟨vs, H1, I1, r1, v, rfl, q1⟩
  obtain ⟨v', rfl, rv⟩ := vals1 r1
  refine ⟨I1.kIn, ?_⟩
  have hlim := I1.nolimit
  have hdp := hr.dp
  obtain ⟨hp, g, dr, tk, os⟩ := s1
  refine wpAny_call (made_count T I1.kIn hlim (by omega) (.inl ⟨rfl, rfl⟩) fun h' tk' e d M => ?_)
  show MkP X pins σ Q (.ref e) ⟨h', g, dr, tk', os⟩
  obtain ⟨t1, hoe⟩ := M.obj
  have hns := M.ns
  obtain ⟨G', g1, g2⟩ := restrict h' fun b => decide (b ≠ e)
  have gk : ∀ b, b ≠ e → G'.get? b = h'.get? b := fun b hb => g1 b (decide_eq_true hb)
  have ge : G'.get? e = none := g2 e (by simp)
  have old : ∀ b o, hp.get? b = some o → G'.get? b = some o := fun b o q => (gk b (Nat.ne_of_lt (Nat.lt_of_lt_of_le (Heap.lt_size q) M.new))).trans (M.keep b o q)
  have ob : ObjOk X.prog X.w (upd H1 d (.xd [(("count" : Str), v)])) G' d (.xd [(("count" : Str), v)]) := ⟨_, hns.at (fun o q => (gk d M.dne).trans q), fun f => relO_count rv f⟩
  have J : Inv X pins σ (upd H1 d (.xd [(("count" : Str), v)])) ⟨G', g, dr, tk', os⟩ := I1.laid (t' := tk') old M.dbig ob
  refine ⟨e, _, _, ⟨G', g, dr, tk', os⟩, _, .ref C, some d, rfl, J, fun b o q => ?_, ge, hoe, ⟨rfl, rfl⟩, rfl, rfl, ?_, rfl, I1.bare, raises_own T.exC T.tyC, q1 d (I1.hok.fresh M.dbig)⟩
  · by_cases hb : b = e
    · have q' : G'.get? b = some o := q
      rw [hb, ge] at q'
      cases q'
    · exact (gk b hb).symm.trans q
  · rw [upd_ne (Ne.symm M.dne)]
    exact I1.hok.fresh M.new
/-- the error as a value -/
abbrev tMkV_count (C : Addr) (ta : TA) : TE := tMkVg "count" C ta
theorem mkV_count {pins : List (Addr × Obj)} {s : Shared} {σ : L2.St} {H : Hp} {Q : VK} {v : V} {v' : Value} {rest : List Value} {kw : List (Str × Value)} {k : Nat} (T : Ecl_count X.K X.mg nm qual B Bm newId initId bmB bm0 C fI) (hr : Room k X.A) (I : Inv X pins σ H s) (rv : RelV v v')
    (how : (rest = [v'] ∧ kw = []) ∨ (rest = [] ∧ kw = [(("count" : Str), v')])) (q : ∀ d a, H d = none → H a = none → a ≠ d → Q (.ref a) (upd (upd H d (.xd [(("count" : Str), v)])) a (ExV C d a))) :
    wpAny (model X.prog X.w) X.A (call (.ref C) rest kw) (EP X pins σ Q) X.xe s := by
  have hlim := I.nolimit
  have hdp := hr.dp
  obtain ⟨hp, g, dr, tk, os⟩ := s
  refine wpAny_call (made_count T I.kIn hlim (by omega) how fun h' tk' e d M => ?_)
  obtain ⟨t1, hoe⟩ := M.obj
  obtain ⟨G', g1, g2⟩ := restrict h' fun b => decide (b ≠ e)
  have gk : ∀ b, b ≠ e → G'.get? b = h'.get? b := fun b hb => g1 b (decide_eq_true hb)
  have ge : G'.get? e = none := g2 e (by simp)
  have old : ∀ b o, hp.get? b = some o → G'.get? b = some o := fun b o z => (gk b (Nat.ne_of_lt (Nat.lt_of_lt_of_le (Heap.lt_size z) M.new))).trans (M.keep b o z)
  have J : Inv X pins σ (upd H d (.xd [(("count" : Str), v)])) ⟨G', g, dr, tk', os⟩ := I.laid (t' := tk') old M.dbig ⟨_, M.ns.at (fun o z => (gk d M.dne).trans z), fun f => relO_count rv f⟩
  have nHe : H e = none := I.hok.fresh M.new
  have nHe2 : (upd H d (.xd [(("count" : Str), v)])) e = none := by rw [upd_ne (Ne.symm M.dne)]; exact nHe
  have sub : ∀ b u, G'.get? b = some u → h'.get? b = some u := fun b o z => by
    by_cases hb : b = e
    · rw [hb, ge] at z; cases z
    · exact (gk b hb).symm.trans z
  exact ⟨.ref e, _, J.laidN (t' := tk') sub ge nHe2 (exV_ok hoe), rfl, q d e (I.hok.fresh M.dbig) nHe (Ne.symm M.dne)⟩
theorem pe_mkV_count {a : Expr} {ta : TA} {p pos : Pos} {k : Nat} (T : Ecl_count X.K X.mg nm qual B Bm newId initId bmB bm0 C fI) (hr : Room k X.A) (ha : PA X [a] ta) (hg : Gl X nm) (hdb : (nm == ("__debug__" : Str)) = false := by decide)
    (he : starEach (a :: []) X.env = (false, eval a X.env) :: starEach [] X.env := by rfl) (hpl : (backTo pos (starEach [] X.env)).any (·.1) = false := by rfl) : PE X (.Call (.Name nm p) [a] [] pos) (tMkV_count C ta) := by
  refine ⟨fun pins s σ H Q I h => wpAny_Call_Name_kw (ld_glob I hg T.gC ?_ hdb)⟩
  refine PySem.W.callWith_K (h₀ := X.base) I.ok.mod.kin T.kC (thn (ha.run pos pins s σ H _ I h) ?_) he hpl
  rintro us s1 ⟨vs, H1, I1, r1, v, rfl, q1⟩
  obtain ⟨v', rfl, rv⟩ := vals1 r1
  exact ⟨I1.kIn, mkV_count T hr I1 rv (.inl ⟨rfl, rfl⟩) q1⟩
theorem pe_mkK_count {kws : List Keyword} {tk : TA} {p pos : Pos} {k : Nat} (T : Ecl_count X.K X.mg nm qual B Bm newId initId bmB bm0 C fI) (hr : Room k X.A) (hkw : PK X kws tk) (hg : Gl X nm) (hdb : (nm == ("__debug__" : Str)) = false := by decide)
    (hal : (backToKw pos (keywordEach kws X.env)).all (·.1.isSome) = true := by rfl) (hks : (backToKw pos (keywordEach kws X.env)).filterMap (·.1) = [("count" : Str)] := by rfl)
    (hst : ((backTo pos (starEach [] X.env)).any (·.1) || (backToKw pos (keywordEach kws X.env)).any (·.1.isNone)) = false := by rfl) : PE X (.Call (.Name nm p) [] kws pos) (tMkV_count C tk) := by
  refine ⟨fun pins s σ H Q I h => wpAny_Call_Name_kw (ld_glob I hg T.gC ?_ hdb)⟩
  refine PySem.W.callWith_KW0 (h₀ := X.base) I.ok.mod.kin T.kC hal (thn (hkw.run pos pins s σ H _ I h) ?_) hst
  rintro us s1 ⟨vs, H1, I1, r1, v, rfl, q1⟩
  obtain ⟨v', rfl, rv⟩ := vals1 r1
  refine ⟨I1.kIn, ?_⟩
  rw [hks]
  exact mkV_count T hr I1 rv (.inr ⟨rfl, rfl⟩) q1
end
end Exn

set_option Elab.async false
set_option linter.all false
set_option maxRecDepth 100000
set_option maxHeartbeats 4000000
namespace E5
open PySem PySem.Spec PyProof.Rows L2 Own Exn
def topS (i : Nat) : Stmt := PySem.Challenge.pw_leakyqueue_k05_error_classes.main.body.getD i (.Pass ⟨0, 0, 0, 0⟩)
abbrev s_Lpool : Stmt := topS 21
abbrev N_Lpool : List Str := ["_law_script", "_law_k", "_law_cell", "_law_number", "_law_mixed"]
theorem sc_Lpool : FnScope N_Lpool ["_law_script", "_law_k"] (defScope s_Lpool) := ⟨rfl, rfl, rfl, by decide +kernel, rfl, by decide +kernel, by decide +kernel⟩
abbrev s_Ltake : Stmt := topS 22
abbrev N_Ltake : List Str := ["_law_pool_here", "_law_many", "_law_digit"]
theorem sc_Ltake : FnScope N_Ltake ["_law_pool_here", "_law_many"] (defScope s_Ltake) := ⟨rfl, rfl, rfl, by decide +kernel, rfl, by decide +kernel, by decide +kernel⟩
abbrev s_Lvalues : Stmt := topS 23
abbrev N_Lvalues : List Str := ["_law_pool_here", "_law_some", "_law_turn"]
theorem sc_Lvalues : FnScope N_Lvalues ["_law_pool_here"] (defScope s_Lvalues) := ⟨rfl, rfl, rfl, by decide +kernel, rfl, by decide +kernel, by decide +kernel⟩
abbrev s_Lerrors : Stmt := topS 24
abbrev N_Lerrors : List Str := ["_law_one", "_law_found"]
theorem sc_Lerrors : FnScope N_Lerrors ["_law_one"] (defScope s_Lerrors) := ⟨rfl, rfl, rfl, by decide +kernel, rfl, by decide +kernel, by decide +kernel⟩
abbrev s_Lnamed : Stmt := topS 25
abbrev N_Lnamed : List Str := ["_law_one", "_law_found"]
theorem sc_Lnamed : FnScope N_Lnamed ["_law_one"] (defScope s_Lnamed) := ⟨rfl, rfl, rfl, by decide +kernel, rfl, by decide +kernel, by decide +kernel⟩
abbrev s_Lfield : Stmt := topS 26
abbrev N_Lfield : List Str := ["_law_error", "_law_way"]
theorem sc_Lfield : FnScope N_Lfield ["_law_error", "_law_way"] (defScope s_Lfield) := ⟨rfl, rfl, rfl, by decide +kernel, rfl, by decide +kernel, by decide +kernel⟩
abbrev s_Lbases : Stmt := topS 27
abbrev N_Lbases : List Str := ["_law_error", "_law_found"]
theorem sc_Lbases : FnScope N_Lbases ["_law_error"] (defScope s_Lbases) := ⟨rfl, rfl, rfl, by decide +kernel, rfl, by decide +kernel, by decide +kernel⟩
abbrev s_Lclasses : Stmt := topS 28
abbrev N_Lclasses : List Str := ["_law_error", "_law_found"]
theorem sc_Lclasses : FnScope N_Lclasses ["_law_error"] (defScope s_Lclasses) := ⟨rfl, rfl, rfl, by decide +kernel, rfl, by decide +kernel, by decide +kernel⟩
abbrev s_Ldue : Stmt := topS 29
abbrev N_Ldue : List Str := ["_law_place", "_law_rows", "_law_number"]
theorem sc_Ldue : FnScope N_Ldue ["_law_place"] (defScope s_Ldue) := ⟨rfl, rfl, rfl, by decide +kernel, rfl, by decide +kernel, by decide +kernel⟩
abbrev s_law : Stmt := topS 30
abbrev N_law : List Str := ["_law_script", "_law_k", "_law_one", "_law_errors_here", "_law_named_here", "_law_place", "_law_error", "_law_way", "_law_kept", "_law_number"]
theorem sc_law : FnScope N_law ["_law_script"] (defScope s_law) := ⟨rfl, rfl, rfl, by decide +kernel, rfl, by decide +kernel, by decide +kernel⟩
structure Ad where
  f_Lpool : Addr
  d_Lpool : FuncData
  f_Ltake : Addr
  d_Ltake : FuncData
  f_Lvalues : Addr
  d_Lvalues : FuncData
  f_Lerrors : Addr
  d_Lerrors : FuncData
  f_Lnamed : Addr
  d_Lnamed : FuncData
  f_Lfield : Addr
  d_Lfield : FuncData
  f_Lbases : Addr
  d_Lbases : FuncData
  f_Lclasses : Addr
  d_Lclasses : FuncData
  f_Ldue : Addr
  d_Ldue : FuncData
  f_law : Addr
  d_law : FuncData
  C_LeakError : Addr
  C_InvalidWord : Addr
  I_InvalidWord : Addr
  C_InvalidProgram : Addr
  I_InvalidProgram : Addr
  C_InvalidCore : Addr
  I_InvalidCore : Addr
  C_InvalidEffect : Addr
  I_InvalidEffect : Addr
  C_InvalidExchange : Addr
  I_InvalidExchange : Addr
  C_InvalidNumber : Addr
  I_InvalidNumber : Addr
  C_InvalidSet : Addr
  I_InvalidSet : Addr
  C_InvalidNetwork : Addr
  I_InvalidNetwork : Addr
  C_InvalidPrograms : Addr
  I_InvalidPrograms : Addr
  C_InvalidObservations : Addr
  I_InvalidObservations : Addr
  C_ParseError : Addr
  I_ParseError : Addr
  C_InvalidCommand : Addr
  I_InvalidCommand : Addr
  C_InvalidPosition : Addr
  I_InvalidPosition : Addr
  C_Missing : Addr
  I_Missing : Addr
  C_UnknownName : Addr
  I_UnknownName : Addr
  C_LimitExceeded : Addr
  I_LimitExceeded : Addr
  C_Failed : Addr
  I_Failed : Addr
  C_NothingToUndo : Addr
  I_NothingToUndo : Addr
structure Txt (K : PySem.W.Frag) (mg : Str → Option Value) (a : Ad) : Prop where
  F_Lpool : Fun K "_law_pool" "_law_pool" s_Lpool a.f_Lpool a.d_Lpool
  b_Lpool : Binds K a.d_Lpool ["_law_script", "_law_k"] []
  g_Lpool : mg "_law_pool" = some (.ref a.f_Lpool)
  F_Ltake : Fun K "_law_take" "_law_take" s_Ltake a.f_Ltake a.d_Ltake
  b_Ltake : Binds K a.d_Ltake ["_law_pool_here", "_law_many"] []
  g_Ltake : mg "_law_take" = some (.ref a.f_Ltake)
  F_Lvalues : Fun K "_law_values" "_law_values" s_Lvalues a.f_Lvalues a.d_Lvalues
  b_Lvalues : Binds K a.d_Lvalues ["_law_pool_here"] []
  g_Lvalues : mg "_law_values" = some (.ref a.f_Lvalues)
  F_Lerrors : Fun K "_law_errors" "_law_errors" s_Lerrors a.f_Lerrors a.d_Lerrors
  b_Lerrors : Binds K a.d_Lerrors ["_law_one"] []
  g_Lerrors : mg "_law_errors" = some (.ref a.f_Lerrors)
  F_Lnamed : Fun K "_law_named" "_law_named" s_Lnamed a.f_Lnamed a.d_Lnamed
  b_Lnamed : Binds K a.d_Lnamed ["_law_one"] []
  g_Lnamed : mg "_law_named" = some (.ref a.f_Lnamed)
  F_Lfield : Fun K "_law_field" "_law_field" s_Lfield a.f_Lfield a.d_Lfield
  b_Lfield : Binds K a.d_Lfield ["_law_error", "_law_way"] []
  g_Lfield : mg "_law_field" = some (.ref a.f_Lfield)
  F_Lbases : Fun K "_law_bases" "_law_bases" s_Lbases a.f_Lbases a.d_Lbases
  b_Lbases : Binds K a.d_Lbases ["_law_error"] []
  g_Lbases : mg "_law_bases" = some (.ref a.f_Lbases)
  F_Lclasses : Fun K "_law_classes" "_law_classes" s_Lclasses a.f_Lclasses a.d_Lclasses
  b_Lclasses : Binds K a.d_Lclasses ["_law_error"] []
  g_Lclasses : mg "_law_classes" = some (.ref a.f_Lclasses)
  F_Ldue : Fun K "_law_due" "_law_due" s_Ldue a.f_Ldue a.d_Ldue
  b_Ldue : Binds K a.d_Ldue ["_law_place"] []
  g_Ldue : mg "_law_due" = some (.ref a.f_Ldue)
  F_law : Fun K "law" "law" s_law a.f_law a.d_law
  b_law : Binds K a.d_law ["_law_script"] []
  g_law : mg "law" = some (.ref a.f_law)
  z_max : mg "max" = none
  z_int : mg "int" = none
  z_range : mg "range" = none
  z_isinstance : mg "isinstance" = none
  z_ValueError : mg "ValueError" = none
  z_IndexError : mg "IndexError" = none
  z_LookupError : mg "LookupError" = none
  z_KeyError : mg "KeyError" = none
  z_OverflowError : mg "OverflowError" = none
  z_RuntimeError : mg "RuntimeError" = none
  z_TypeError : mg "TypeError" = none
  z_min : mg "min" = none
  z_len : mg "len" = none
  z_repr : mg "repr" = none
  g_LeakError : mg "LeakError" = some (.ref a.C_LeakError)
  e_InvalidWord : Ecl_value K mg "InvalidWord" "InvalidWord.__init__" "ValueError" "ValueError" "ValueError.__new__" "ValueError.__init__" [.type "ValueError", .type "Exception", .type "BaseException", .type "object"] [.type "ValueError", .type "Exception", .type "BaseException", .type "object"] a.C_InvalidWord a.I_InvalidWord
  h_InvalidWord : ecB K a.C_InvalidWord a.I_InvalidWord "value" [.type "ValueError", .type "Exception", .type "BaseException", .type "object"] "ValueError.__new__" = true
  e_InvalidProgram : Ecl_value K mg "InvalidProgram" "InvalidProgram.__init__" "ValueError" "ValueError" "ValueError.__new__" "ValueError.__init__" [.type "ValueError", .type "Exception", .type "BaseException", .type "object"] [.type "ValueError", .type "Exception", .type "BaseException", .type "object"] a.C_InvalidProgram a.I_InvalidProgram
  h_InvalidProgram : ecB K a.C_InvalidProgram a.I_InvalidProgram "value" [.type "ValueError", .type "Exception", .type "BaseException", .type "object"] "ValueError.__new__" = true
  e_InvalidCore : Ecl_value K mg "InvalidCore" "InvalidCore.__init__" "ValueError" "ValueError" "ValueError.__new__" "ValueError.__init__" [.type "ValueError", .type "Exception", .type "BaseException", .type "object"] [.type "ValueError", .type "Exception", .type "BaseException", .type "object"] a.C_InvalidCore a.I_InvalidCore
  h_InvalidCore : ecB K a.C_InvalidCore a.I_InvalidCore "value" [.type "ValueError", .type "Exception", .type "BaseException", .type "object"] "ValueError.__new__" = true
  e_InvalidEffect : Ecl_index K mg "InvalidEffect" "InvalidEffect.__init__" "ValueError" "ValueError" "ValueError.__new__" "ValueError.__init__" [.type "ValueError", .type "Exception", .type "BaseException", .type "object"] [.type "ValueError", .type "Exception", .type "BaseException", .type "object"] a.C_InvalidEffect a.I_InvalidEffect
  h_InvalidEffect : ecB K a.C_InvalidEffect a.I_InvalidEffect "index" [.type "ValueError", .type "Exception", .type "BaseException", .type "object"] "ValueError.__new__" = true
  e_InvalidExchange : Ecl_value K mg "InvalidExchange" "InvalidExchange.__init__" "ValueError" "ValueError" "ValueError.__new__" "ValueError.__init__" [.type "ValueError", .type "Exception", .type "BaseException", .type "object"] [.type "ValueError", .type "Exception", .type "BaseException", .type "object"] a.C_InvalidExchange a.I_InvalidExchange
  h_InvalidExchange : ecB K a.C_InvalidExchange a.I_InvalidExchange "value" [.type "ValueError", .type "Exception", .type "BaseException", .type "object"] "ValueError.__new__" = true
  e_InvalidNumber : Ecl_value K mg "InvalidNumber" "InvalidNumber.__init__" "ValueError" "ValueError" "ValueError.__new__" "ValueError.__init__" [.type "ValueError", .type "Exception", .type "BaseException", .type "object"] [.type "ValueError", .type "Exception", .type "BaseException", .type "object"] a.C_InvalidNumber a.I_InvalidNumber
  h_InvalidNumber : ecB K a.C_InvalidNumber a.I_InvalidNumber "value" [.type "ValueError", .type "Exception", .type "BaseException", .type "object"] "ValueError.__new__" = true
  e_InvalidSet : Ecl_index K mg "InvalidSet" "InvalidSet.__init__" "ValueError" "ValueError" "ValueError.__new__" "ValueError.__init__" [.type "ValueError", .type "Exception", .type "BaseException", .type "object"] [.type "ValueError", .type "Exception", .type "BaseException", .type "object"] a.C_InvalidSet a.I_InvalidSet
  h_InvalidSet : ecB K a.C_InvalidSet a.I_InvalidSet "index" [.type "ValueError", .type "Exception", .type "BaseException", .type "object"] "ValueError.__new__" = true
  e_InvalidNetwork : Ecl_name K mg "InvalidNetwork" "InvalidNetwork.__init__" "ValueError" "ValueError" "ValueError.__new__" "ValueError.__init__" [.type "ValueError", .type "Exception", .type "BaseException", .type "object"] [.type "ValueError", .type "Exception", .type "BaseException", .type "object"] a.C_InvalidNetwork a.I_InvalidNetwork
  h_InvalidNetwork : ecB K a.C_InvalidNetwork a.I_InvalidNetwork "name" [.type "ValueError", .type "Exception", .type "BaseException", .type "object"] "ValueError.__new__" = true
  e_InvalidPrograms : Ecl_index K mg "InvalidPrograms" "InvalidPrograms.__init__" "ValueError" "ValueError" "ValueError.__new__" "ValueError.__init__" [.type "ValueError", .type "Exception", .type "BaseException", .type "object"] [.type "ValueError", .type "Exception", .type "BaseException", .type "object"] a.C_InvalidPrograms a.I_InvalidPrograms
  h_InvalidPrograms : ecB K a.C_InvalidPrograms a.I_InvalidPrograms "index" [.type "ValueError", .type "Exception", .type "BaseException", .type "object"] "ValueError.__new__" = true
  e_InvalidObservations : Ecl_index K mg "InvalidObservations" "InvalidObservations.__init__" "ValueError" "ValueError" "ValueError.__new__" "ValueError.__init__" [.type "ValueError", .type "Exception", .type "BaseException", .type "object"] [.type "ValueError", .type "Exception", .type "BaseException", .type "object"] a.C_InvalidObservations a.I_InvalidObservations
  h_InvalidObservations : ecB K a.C_InvalidObservations a.I_InvalidObservations "index" [.type "ValueError", .type "Exception", .type "BaseException", .type "object"] "ValueError.__new__" = true
  e_ParseError : Ecl_value K mg "ParseError" "ParseError.__init__" "ValueError" "ValueError" "ValueError.__new__" "ValueError.__init__" [.type "ValueError", .type "Exception", .type "BaseException", .type "object"] [.type "ValueError", .type "Exception", .type "BaseException", .type "object"] a.C_ParseError a.I_ParseError
  h_ParseError : ecB K a.C_ParseError a.I_ParseError "value" [.type "ValueError", .type "Exception", .type "BaseException", .type "object"] "ValueError.__new__" = true
  e_InvalidCommand : Ecl_value K mg "InvalidCommand" "InvalidCommand.__init__" "ValueError" "ValueError" "ValueError.__new__" "ValueError.__init__" [.type "ValueError", .type "Exception", .type "BaseException", .type "object"] [.type "ValueError", .type "Exception", .type "BaseException", .type "object"] a.C_InvalidCommand a.I_InvalidCommand
  h_InvalidCommand : ecB K a.C_InvalidCommand a.I_InvalidCommand "value" [.type "ValueError", .type "Exception", .type "BaseException", .type "object"] "ValueError.__new__" = true
  e_InvalidPosition : Ecl_value K mg "InvalidPosition" "InvalidPosition.__init__" "IndexError" "IndexError" "IndexError.__new__" "IndexError.__init__" [.type "IndexError", .type "LookupError", .type "Exception", .type "BaseException", .type "object"] [.type "IndexError", .type "LookupError", .type "Exception", .type "BaseException", .type "object"] a.C_InvalidPosition a.I_InvalidPosition
  h_InvalidPosition : ecB K a.C_InvalidPosition a.I_InvalidPosition "value" [.type "IndexError", .type "LookupError", .type "Exception", .type "BaseException", .type "object"] "IndexError.__new__" = true
  e_Missing : Ecl_item K mg "Missing" "Missing.__init__" "LookupError" "LookupError" "LookupError.__new__" "LookupError.__init__" [.type "LookupError", .type "Exception", .type "BaseException", .type "object"] [.type "LookupError", .type "Exception", .type "BaseException", .type "object"] a.C_Missing a.I_Missing
  h_Missing : ecB K a.C_Missing a.I_Missing "item" [.type "LookupError", .type "Exception", .type "BaseException", .type "object"] "LookupError.__new__" = true
  e_UnknownName : Ecl_name K mg "UnknownName" "UnknownName.__init__" "KeyError" "LookupError" "LookupError.__new__" "LookupError.__init__" keyTail [.type "LookupError", .type "Exception", .type "BaseException", .type "object"] a.C_UnknownName a.I_UnknownName
  h_UnknownName : ecB K a.C_UnknownName a.I_UnknownName "name" keyTail "LookupError.__new__" = true
  e_LimitExceeded : Ecl_limit K mg "LimitExceeded" "LimitExceeded.__init__" "OverflowError" "OverflowError" "OverflowError.__new__" "OverflowError.__init__" [.type "OverflowError", .type "ArithmeticError", .type "Exception", .type "BaseException", .type "object"] [.type "OverflowError", .type "ArithmeticError", .type "Exception", .type "BaseException", .type "object"] a.C_LimitExceeded a.I_LimitExceeded
  h_LimitExceeded : ecB K a.C_LimitExceeded a.I_LimitExceeded "limit" [.type "OverflowError", .type "ArithmeticError", .type "Exception", .type "BaseException", .type "object"] "OverflowError.__new__" = true
  e_Failed : Ecl_index K mg "Failed" "Failed.__init__" "RuntimeError" "RuntimeError" "RuntimeError.__new__" "RuntimeError.__init__" [.type "RuntimeError", .type "Exception", .type "BaseException", .type "object"] [.type "RuntimeError", .type "Exception", .type "BaseException", .type "object"] a.C_Failed a.I_Failed
  h_Failed : ecB K a.C_Failed a.I_Failed "index" [.type "RuntimeError", .type "Exception", .type "BaseException", .type "object"] "RuntimeError.__new__" = true
  e_NothingToUndo : Ecl_count K mg "NothingToUndo" "NothingToUndo.__init__" "RuntimeError" "RuntimeError" "RuntimeError.__new__" "RuntimeError.__init__" [.type "RuntimeError", .type "Exception", .type "BaseException", .type "object"] [.type "RuntimeError", .type "Exception", .type "BaseException", .type "object"] a.C_NothingToUndo a.I_NothingToUndo
  h_NothingToUndo : ecB K a.C_NothingToUndo a.I_NothingToUndo "count" [.type "RuntimeError", .type "Exception", .type "BaseException", .type "object"] "RuntimeError.__new__" = true
theorem txt_mk {K : PySem.W.Frag} {h : Heap} {mg : Str → Option Value} {f1 f2 f3 f4 f5 f6 f7 f8 f9 f10 : Addr} {od1 an1 od2 an2 od3 an3 od4 an4 od5 an5 od6 an6 od7 an7 od8 an8 od9 an9 od10 an10 : Option Addr} {sl1 sl2 sl3 sl4 sl5 sl6 sl7 sl8 sl9 sl10 : Array (Option Value)}
    {oc1 kV1 dc1 pm1 cd1 ct1 oc2 kV2 dc2 pm2 cd2 ct2 oc3 kV3 dc3 pm3 cd3 ct3 oc4 kV4 dc4 pm4 cd4 ct4 oc5 kV5 dc5 pm5 cd5 ct5 oc6 kV6 dc6 pm6 cd6 ct6 oc7 kV7 dc7 pm7 cd7 ct7 oc8 kV8 dc8 pm8 cd8 ct8 oc9 kV9 dc9 pm9 cd9 ct9 oc10 kV10 dc10 pm10 cd10 ct10 : Value}
    (X : K.In h) (G : h.Ns mainGlobals mg)
    (a1 : PySem.W.nsIn K mainGlobals "_law_pool" = some (some (.ref f1))) (l1 : K.lookup f1 = some ⟨oc1, od1, .func (PySem.W.fnOf "_law_pool" "_law_pool" (defArgs s_Lpool) (defBody s_Lpool) (defScope s_Lpool) .none kV1 dc1 pm1 an1 cd1 ct1), sl1⟩)
    (c1 : PySem.W.codeIn K cd1 "_law_pool" = true) (k1 : PySem.W.keepIn K (.ref f1) = true)
    (a2 : PySem.W.nsIn K mainGlobals "_law_take" = some (some (.ref f2))) (l2 : K.lookup f2 = some ⟨oc2, od2, .func (PySem.W.fnOf "_law_take" "_law_take" (defArgs s_Ltake) (defBody s_Ltake) (defScope s_Ltake) .none kV2 dc2 pm2 an2 cd2 ct2), sl2⟩)
    (c2 : PySem.W.codeIn K cd2 "_law_take" = true) (k2 : PySem.W.keepIn K (.ref f2) = true)
    (a3 : PySem.W.nsIn K mainGlobals "_law_values" = some (some (.ref f3))) (l3 : K.lookup f3 = some ⟨oc3, od3, .func (PySem.W.fnOf "_law_values" "_law_values" (defArgs s_Lvalues) (defBody s_Lvalues) (defScope s_Lvalues) .none kV3 dc3 pm3 an3 cd3 ct3), sl3⟩)
    (c3 : PySem.W.codeIn K cd3 "_law_values" = true) (k3 : PySem.W.keepIn K (.ref f3) = true)
    (a4 : PySem.W.nsIn K mainGlobals "_law_errors" = some (some (.ref f4))) (l4 : K.lookup f4 = some ⟨oc4, od4, .func (PySem.W.fnOf "_law_errors" "_law_errors" (defArgs s_Lerrors) (defBody s_Lerrors) (defScope s_Lerrors) .none kV4 dc4 pm4 an4 cd4 ct4), sl4⟩)
    (c4 : PySem.W.codeIn K cd4 "_law_errors" = true) (k4 : PySem.W.keepIn K (.ref f4) = true)
    (a5 : PySem.W.nsIn K mainGlobals "_law_named" = some (some (.ref f5))) (l5 : K.lookup f5 = some ⟨oc5, od5, .func (PySem.W.fnOf "_law_named" "_law_named" (defArgs s_Lnamed) (defBody s_Lnamed) (defScope s_Lnamed) .none kV5 dc5 pm5 an5 cd5 ct5), sl5⟩)
    (c5 : PySem.W.codeIn K cd5 "_law_named" = true) (k5 : PySem.W.keepIn K (.ref f5) = true)
    (a6 : PySem.W.nsIn K mainGlobals "_law_field" = some (some (.ref f6))) (l6 : K.lookup f6 = some ⟨oc6, od6, .func (PySem.W.fnOf "_law_field" "_law_field" (defArgs s_Lfield) (defBody s_Lfield) (defScope s_Lfield) .none kV6 dc6 pm6 an6 cd6 ct6), sl6⟩)
    (c6 : PySem.W.codeIn K cd6 "_law_field" = true) (k6 : PySem.W.keepIn K (.ref f6) = true)
    (a7 : PySem.W.nsIn K mainGlobals "_law_bases" = some (some (.ref f7))) (l7 : K.lookup f7 = some ⟨oc7, od7, .func (PySem.W.fnOf "_law_bases" "_law_bases" (defArgs s_Lbases) (defBody s_Lbases) (defScope s_Lbases) .none kV7 dc7 pm7 an7 cd7 ct7), sl7⟩)
    (c7 : PySem.W.codeIn K cd7 "_law_bases" = true) (k7 : PySem.W.keepIn K (.ref f7) = true)
    (a8 : PySem.W.nsIn K mainGlobals "_law_classes" = some (some (.ref f8))) (l8 : K.lookup f8 = some ⟨oc8, od8, .func (PySem.W.fnOf "_law_classes" "_law_classes" (defArgs s_Lclasses) (defBody s_Lclasses) (defScope s_Lclasses) .none kV8 dc8 pm8 an8 cd8 ct8), sl8⟩)
    (c8 : PySem.W.codeIn K cd8 "_law_classes" = true) (k8 : PySem.W.keepIn K (.ref f8) = true)
    (a9 : PySem.W.nsIn K mainGlobals "_law_due" = some (some (.ref f9))) (l9 : K.lookup f9 = some ⟨oc9, od9, .func (PySem.W.fnOf "_law_due" "_law_due" (defArgs s_Ldue) (defBody s_Ldue) (defScope s_Ldue) .none kV9 dc9 pm9 an9 cd9 ct9), sl9⟩)
    (c9 : PySem.W.codeIn K cd9 "_law_due" = true) (k9 : PySem.W.keepIn K (.ref f9) = true)
    (a10 : PySem.W.nsIn K mainGlobals "law" = some (some (.ref f10))) (l10 : K.lookup f10 = some ⟨oc10, od10, .func (PySem.W.fnOf "law" "law" (defArgs s_law) (defBody s_law) (defScope s_law) .none kV10 dc10 pm10 an10 cd10 ct10), sl10⟩)
    (c10 : PySem.W.codeIn K cd10 "law" = true) (k10 : PySem.W.keepIn K (.ref f10) = true)
    (z_max : PySem.W.nsIn K mainGlobals "max" = some none)
    (z_int : PySem.W.nsIn K mainGlobals "int" = some none)
    (z_range : PySem.W.nsIn K mainGlobals "range" = some none)
    (z_isinstance : PySem.W.nsIn K mainGlobals "isinstance" = some none)
    (z_ValueError : PySem.W.nsIn K mainGlobals "ValueError" = some none)
    (z_IndexError : PySem.W.nsIn K mainGlobals "IndexError" = some none)
    (z_LookupError : PySem.W.nsIn K mainGlobals "LookupError" = some none)
    (z_KeyError : PySem.W.nsIn K mainGlobals "KeyError" = some none)
    (z_OverflowError : PySem.W.nsIn K mainGlobals "OverflowError" = some none)
    (z_RuntimeError : PySem.W.nsIn K mainGlobals "RuntimeError" = some none)
    (z_TypeError : PySem.W.nsIn K mainGlobals "TypeError" = some none)
    (z_min : PySem.W.nsIn K mainGlobals "min" = some none)
    (z_len : PySem.W.nsIn K mainGlobals "len" = some none)
    (z_repr : PySem.W.nsIn K mainGlobals "repr" = some none)
    {C_LeakError : Addr} (n_LeakError : PySem.W.nsIn K mainGlobals "LeakError" = some (some (.ref C_LeakError)))
    {C_InvalidWord I_InvalidWord : Addr} {x1InvalidWord : Value} {x2InvalidWord : Option Addr} {x3InvalidWord x4InvalidWord : Value} {x5InvalidWord : Option Addr} {x6InvalidWord x7InvalidWord : Value} {x8InvalidWord : Array (Option Value)} {p1InvalidWord p2InvalidWord q1InvalidWord q2InvalidWord q3InvalidWord q4InvalidWord : Pos}
    (n_InvalidWord : PySem.W.nsIn K mainGlobals "InvalidWord" = some (some (.ref C_InvalidWord))) (i_InvalidWord : PySem.W.findIn K (.ref C_InvalidWord) "__init__" = some (some (.ref I_InvalidWord)))
    (m_InvalidWord : K.lookup I_InvalidWord = some ⟨x1InvalidWord, x2InvalidWord, .func (PySem.W.fnOf "__init__" "InvalidWord.__init__" (iA "value" p1InvalidWord p2InvalidWord) (iB "value" q1InvalidWord q2InvalidWord q3InvalidWord q4InvalidWord) (iS "value" []) .none .none x3InvalidWord x4InvalidWord x5InvalidWord x6InvalidWord x7InvalidWord), x8InvalidWord⟩) (d_InvalidWord : PySem.W.codeIn K x6InvalidWord "InvalidWord.__init__" = true)
    (h_InvalidWord : ecB K C_InvalidWord I_InvalidWord "value" [.type "ValueError", .type "Exception", .type "BaseException", .type "object"] "ValueError.__new__" = true)
    {C_InvalidProgram I_InvalidProgram : Addr} {x1InvalidProgram : Value} {x2InvalidProgram : Option Addr} {x3InvalidProgram x4InvalidProgram : Value} {x5InvalidProgram : Option Addr} {x6InvalidProgram x7InvalidProgram : Value} {x8InvalidProgram : Array (Option Value)} {p1InvalidProgram p2InvalidProgram q1InvalidProgram q2InvalidProgram q3InvalidProgram q4InvalidProgram : Pos}
    (n_InvalidProgram : PySem.W.nsIn K mainGlobals "InvalidProgram" = some (some (.ref C_InvalidProgram))) (i_InvalidProgram : PySem.W.findIn K (.ref C_InvalidProgram) "__init__" = some (some (.ref I_InvalidProgram)))
    (m_InvalidProgram : K.lookup I_InvalidProgram = some ⟨x1InvalidProgram, x2InvalidProgram, .func (PySem.W.fnOf "__init__" "InvalidProgram.__init__" (iA "value" p1InvalidProgram p2InvalidProgram) (iB "value" q1InvalidProgram q2InvalidProgram q3InvalidProgram q4InvalidProgram) (iS "value" []) .none .none x3InvalidProgram x4InvalidProgram x5InvalidProgram x6InvalidProgram x7InvalidProgram), x8InvalidProgram⟩) (d_InvalidProgram : PySem.W.codeIn K x6InvalidProgram "InvalidProgram.__init__" = true)
    (h_InvalidProgram : ecB K C_InvalidProgram I_InvalidProgram "value" [.type "ValueError", .type "Exception", .type "BaseException", .type "object"] "ValueError.__new__" = true)
    {C_InvalidCore I_InvalidCore : Addr} {x1InvalidCore : Value} {x2InvalidCore : Option Addr} {x3InvalidCore x4InvalidCore : Value} {x5InvalidCore : Option Addr} {x6InvalidCore x7InvalidCore : Value} {x8InvalidCore : Array (Option Value)} {p1InvalidCore p2InvalidCore q1InvalidCore q2InvalidCore q3InvalidCore q4InvalidCore : Pos}
    (n_InvalidCore : PySem.W.nsIn K mainGlobals "InvalidCore" = some (some (.ref C_InvalidCore))) (i_InvalidCore : PySem.W.findIn K (.ref C_InvalidCore) "__init__" = some (some (.ref I_InvalidCore)))
    (m_InvalidCore : K.lookup I_InvalidCore = some ⟨x1InvalidCore, x2InvalidCore, .func (PySem.W.fnOf "__init__" "InvalidCore.__init__" (iA "value" p1InvalidCore p2InvalidCore) (iB "value" q1InvalidCore q2InvalidCore q3InvalidCore q4InvalidCore) (iS "value" []) .none .none x3InvalidCore x4InvalidCore x5InvalidCore x6InvalidCore x7InvalidCore), x8InvalidCore⟩) (d_InvalidCore : PySem.W.codeIn K x6InvalidCore "InvalidCore.__init__" = true)
    (h_InvalidCore : ecB K C_InvalidCore I_InvalidCore "value" [.type "ValueError", .type "Exception", .type "BaseException", .type "object"] "ValueError.__new__" = true)
    {C_InvalidEffect I_InvalidEffect : Addr} {x1InvalidEffect : Value} {x2InvalidEffect : Option Addr} {x3InvalidEffect x4InvalidEffect : Value} {x5InvalidEffect : Option Addr} {x6InvalidEffect x7InvalidEffect : Value} {x8InvalidEffect : Array (Option Value)} {p1InvalidEffect p2InvalidEffect q1InvalidEffect q2InvalidEffect q3InvalidEffect q4InvalidEffect : Pos}
    (n_InvalidEffect : PySem.W.nsIn K mainGlobals "InvalidEffect" = some (some (.ref C_InvalidEffect))) (i_InvalidEffect : PySem.W.findIn K (.ref C_InvalidEffect) "__init__" = some (some (.ref I_InvalidEffect)))
    (m_InvalidEffect : K.lookup I_InvalidEffect = some ⟨x1InvalidEffect, x2InvalidEffect, .func (PySem.W.fnOf "__init__" "InvalidEffect.__init__" (iA "index" p1InvalidEffect p2InvalidEffect) (iB "index" q1InvalidEffect q2InvalidEffect q3InvalidEffect q4InvalidEffect) (iS "index" []) .none .none x3InvalidEffect x4InvalidEffect x5InvalidEffect x6InvalidEffect x7InvalidEffect), x8InvalidEffect⟩) (d_InvalidEffect : PySem.W.codeIn K x6InvalidEffect "InvalidEffect.__init__" = true)
    (h_InvalidEffect : ecB K C_InvalidEffect I_InvalidEffect "index" [.type "ValueError", .type "Exception", .type "BaseException", .type "object"] "ValueError.__new__" = true)
    {C_InvalidExchange I_InvalidExchange : Addr} {x1InvalidExchange : Value} {x2InvalidExchange : Option Addr} {x3InvalidExchange x4InvalidExchange : Value} {x5InvalidExchange : Option Addr} {x6InvalidExchange x7InvalidExchange : Value} {x8InvalidExchange : Array (Option Value)} {p1InvalidExchange p2InvalidExchange q1InvalidExchange q2InvalidExchange q3InvalidExchange q4InvalidExchange : Pos}
    (n_InvalidExchange : PySem.W.nsIn K mainGlobals "InvalidExchange" = some (some (.ref C_InvalidExchange))) (i_InvalidExchange : PySem.W.findIn K (.ref C_InvalidExchange) "__init__" = some (some (.ref I_InvalidExchange)))
    (m_InvalidExchange : K.lookup I_InvalidExchange = some ⟨x1InvalidExchange, x2InvalidExchange, .func (PySem.W.fnOf "__init__" "InvalidExchange.__init__" (iA "value" p1InvalidExchange p2InvalidExchange) (iB "value" q1InvalidExchange q2InvalidExchange q3InvalidExchange q4InvalidExchange) (iS "value" []) .none .none x3InvalidExchange x4InvalidExchange x5InvalidExchange x6InvalidExchange x7InvalidExchange), x8InvalidExchange⟩) (d_InvalidExchange : PySem.W.codeIn K x6InvalidExchange "InvalidExchange.__init__" = true)
    (h_InvalidExchange : ecB K C_InvalidExchange I_InvalidExchange "value" [.type "ValueError", .type "Exception", .type "BaseException", .type "object"] "ValueError.__new__" = true)
    {C_InvalidNumber I_InvalidNumber : Addr} {x1InvalidNumber : Value} {x2InvalidNumber : Option Addr} {x3InvalidNumber x4InvalidNumber : Value} {x5InvalidNumber : Option Addr} {x6InvalidNumber x7InvalidNumber : Value} {x8InvalidNumber : Array (Option Value)} {p1InvalidNumber p2InvalidNumber q1InvalidNumber q2InvalidNumber q3InvalidNumber q4InvalidNumber : Pos}
    (n_InvalidNumber : PySem.W.nsIn K mainGlobals "InvalidNumber" = some (some (.ref C_InvalidNumber))) (i_InvalidNumber : PySem.W.findIn K (.ref C_InvalidNumber) "__init__" = some (some (.ref I_InvalidNumber)))
    (m_InvalidNumber : K.lookup I_InvalidNumber = some ⟨x1InvalidNumber, x2InvalidNumber, .func (PySem.W.fnOf "__init__" "InvalidNumber.__init__" (iA "value" p1InvalidNumber p2InvalidNumber) (iB "value" q1InvalidNumber q2InvalidNumber q3InvalidNumber q4InvalidNumber) (iS "value" []) .none .none x3InvalidNumber x4InvalidNumber x5InvalidNumber x6InvalidNumber x7InvalidNumber), x8InvalidNumber⟩) (d_InvalidNumber : PySem.W.codeIn K x6InvalidNumber "InvalidNumber.__init__" = true)
    (h_InvalidNumber : ecB K C_InvalidNumber I_InvalidNumber "value" [.type "ValueError", .type "Exception", .type "BaseException", .type "object"] "ValueError.__new__" = true)
    {C_InvalidSet I_InvalidSet : Addr} {x1InvalidSet : Value} {x2InvalidSet : Option Addr} {x3InvalidSet x4InvalidSet : Value} {x5InvalidSet : Option Addr} {x6InvalidSet x7InvalidSet : Value} {x8InvalidSet : Array (Option Value)} {p1InvalidSet p2InvalidSet q1InvalidSet q2InvalidSet q3InvalidSet q4InvalidSet : Pos}
    (n_InvalidSet : PySem.W.nsIn K mainGlobals "InvalidSet" = some (some (.ref C_InvalidSet))) (i_InvalidSet : PySem.W.findIn K (.ref C_InvalidSet) "__init__" = some (some (.ref I_InvalidSet)))
    (m_InvalidSet : K.lookup I_InvalidSet = some ⟨x1InvalidSet, x2InvalidSet, .func (PySem.W.fnOf "__init__" "InvalidSet.__init__" (iA "index" p1InvalidSet p2InvalidSet) (iB "index" q1InvalidSet q2InvalidSet q3InvalidSet q4InvalidSet) (iS "index" []) .none .none x3InvalidSet x4InvalidSet x5InvalidSet x6InvalidSet x7InvalidSet), x8InvalidSet⟩) (d_InvalidSet : PySem.W.codeIn K x6InvalidSet "InvalidSet.__init__" = true)
    (h_InvalidSet : ecB K C_InvalidSet I_InvalidSet "index" [.type "ValueError", .type "Exception", .type "BaseException", .type "object"] "ValueError.__new__" = true)
    {C_InvalidNetwork I_InvalidNetwork : Addr} {x1InvalidNetwork : Value} {x2InvalidNetwork : Option Addr} {x3InvalidNetwork x4InvalidNetwork : Value} {x5InvalidNetwork : Option Addr} {x6InvalidNetwork x7InvalidNetwork : Value} {x8InvalidNetwork : Array (Option Value)} {p1InvalidNetwork p2InvalidNetwork q1InvalidNetwork q2InvalidNetwork q3InvalidNetwork q4InvalidNetwork : Pos}
    (n_InvalidNetwork : PySem.W.nsIn K mainGlobals "InvalidNetwork" = some (some (.ref C_InvalidNetwork))) (i_InvalidNetwork : PySem.W.findIn K (.ref C_InvalidNetwork) "__init__" = some (some (.ref I_InvalidNetwork)))
    (m_InvalidNetwork : K.lookup I_InvalidNetwork = some ⟨x1InvalidNetwork, x2InvalidNetwork, .func (PySem.W.fnOf "__init__" "InvalidNetwork.__init__" (iA "name" p1InvalidNetwork p2InvalidNetwork) (iB "name" q1InvalidNetwork q2InvalidNetwork q3InvalidNetwork q4InvalidNetwork) (iS "name" []) .none .none x3InvalidNetwork x4InvalidNetwork x5InvalidNetwork x6InvalidNetwork x7InvalidNetwork), x8InvalidNetwork⟩) (d_InvalidNetwork : PySem.W.codeIn K x6InvalidNetwork "InvalidNetwork.__init__" = true)
    (h_InvalidNetwork : ecB K C_InvalidNetwork I_InvalidNetwork "name" [.type "ValueError", .type "Exception", .type "BaseException", .type "object"] "ValueError.__new__" = true)
    {C_InvalidPrograms I_InvalidPrograms : Addr} {x1InvalidPrograms : Value} {x2InvalidPrograms : Option Addr} {x3InvalidPrograms x4InvalidPrograms : Value} {x5InvalidPrograms : Option Addr} {x6InvalidPrograms x7InvalidPrograms : Value} {x8InvalidPrograms : Array (Option Value)} {p1InvalidPrograms p2InvalidPrograms q1InvalidPrograms q2InvalidPrograms q3InvalidPrograms q4InvalidPrograms : Pos}
    (n_InvalidPrograms : PySem.W.nsIn K mainGlobals "InvalidPrograms" = some (some (.ref C_InvalidPrograms))) (i_InvalidPrograms : PySem.W.findIn K (.ref C_InvalidPrograms) "__init__" = some (some (.ref I_InvalidPrograms)))
    (m_InvalidPrograms : K.lookup I_InvalidPrograms = some ⟨x1InvalidPrograms, x2InvalidPrograms, .func (PySem.W.fnOf "__init__" "InvalidPrograms.__init__" (iA "index" p1InvalidPrograms p2InvalidPrograms) (iB "index" q1InvalidPrograms q2InvalidPrograms q3InvalidPrograms q4InvalidPrograms) (iS "index" []) .none .none x3InvalidPrograms x4InvalidPrograms x5InvalidPrograms x6InvalidPrograms x7InvalidPrograms), x8InvalidPrograms⟩) (d_InvalidPrograms : PySem.W.codeIn K x6InvalidPrograms "InvalidPrograms.__init__" = true)
    (h_InvalidPrograms : ecB K C_InvalidPrograms I_InvalidPrograms "index" [.type "ValueError", .type "Exception", .type "BaseException", .type "object"] "ValueError.__new__" = true)
    {C_InvalidObservations I_InvalidObservations : Addr} {x1InvalidObservations : Value} {x2InvalidObservations : Option Addr} {x3InvalidObservations x4InvalidObservations : Value} {x5InvalidObservations : Option Addr} {x6InvalidObservations x7InvalidObservations : Value} {x8InvalidObservations : Array (Option Value)} {p1InvalidObservations p2InvalidObservations q1InvalidObservations q2InvalidObservations q3InvalidObservations q4InvalidObservations : Pos}
    (n_InvalidObservations : PySem.W.nsIn K mainGlobals "InvalidObservations" = some (some (.ref C_InvalidObservations))) (i_InvalidObservations : PySem.W.findIn K (.ref C_InvalidObservations) "__init__" = some (some (.ref I_InvalidObservations)))
    (m_InvalidObservations : K.lookup I_InvalidObservations = some ⟨x1InvalidObservations, x2InvalidObservations, .func (PySem.W.fnOf "__init__" "InvalidObservations.__init__" (iA "index" p1InvalidObservations p2InvalidObservations) (iB "index" q1InvalidObservations q2InvalidObservations q3InvalidObservations q4InvalidObservations) (iS "index" []) .none .none x3InvalidObservations x4InvalidObservations x5InvalidObservations x6InvalidObservations x7InvalidObservations), x8InvalidObservations⟩) (d_InvalidObservations : PySem.W.codeIn K x6InvalidObservations "InvalidObservations.__init__" = true)
    (h_InvalidObservations : ecB K C_InvalidObservations I_InvalidObservations "index" [.type "ValueError", .type "Exception", .type "BaseException", .type "object"] "ValueError.__new__" = true)
    {C_ParseError I_ParseError : Addr} {x1ParseError : Value} {x2ParseError : Option Addr} {x3ParseError x4ParseError : Value} {x5ParseError : Option Addr} {x6ParseError x7ParseError : Value} {x8ParseError : Array (Option Value)} {p1ParseError p2ParseError q1ParseError q2ParseError q3ParseError q4ParseError : Pos}
    (n_ParseError : PySem.W.nsIn K mainGlobals "ParseError" = some (some (.ref C_ParseError))) (i_ParseError : PySem.W.findIn K (.ref C_ParseError) "__init__" = some (some (.ref I_ParseError)))
    (m_ParseError : K.lookup I_ParseError = some ⟨x1ParseError, x2ParseError, .func (PySem.W.fnOf "__init__" "ParseError.__init__" (iA "value" p1ParseError p2ParseError) (iB "value" q1ParseError q2ParseError q3ParseError q4ParseError) (iS "value" []) .none .none x3ParseError x4ParseError x5ParseError x6ParseError x7ParseError), x8ParseError⟩) (d_ParseError : PySem.W.codeIn K x6ParseError "ParseError.__init__" = true)
    (h_ParseError : ecB K C_ParseError I_ParseError "value" [.type "ValueError", .type "Exception", .type "BaseException", .type "object"] "ValueError.__new__" = true)
    {C_InvalidCommand I_InvalidCommand : Addr} {x1InvalidCommand : Value} {x2InvalidCommand : Option Addr} {x3InvalidCommand x4InvalidCommand : Value} {x5InvalidCommand : Option Addr} {x6InvalidCommand x7InvalidCommand : Value} {x8InvalidCommand : Array (Option Value)} {p1InvalidCommand p2InvalidCommand q1InvalidCommand q2InvalidCommand q3InvalidCommand q4InvalidCommand : Pos}
    (n_InvalidCommand : PySem.W.nsIn K mainGlobals "InvalidCommand" = some (some (.ref C_InvalidCommand))) (i_InvalidCommand : PySem.W.findIn K (.ref C_InvalidCommand) "__init__" = some (some (.ref I_InvalidCommand)))
    (m_InvalidCommand : K.lookup I_InvalidCommand = some ⟨x1InvalidCommand, x2InvalidCommand, .func (PySem.W.fnOf "__init__" "InvalidCommand.__init__" (iA "value" p1InvalidCommand p2InvalidCommand) (iB "value" q1InvalidCommand q2InvalidCommand q3InvalidCommand q4InvalidCommand) (iS "value" []) .none .none x3InvalidCommand x4InvalidCommand x5InvalidCommand x6InvalidCommand x7InvalidCommand), x8InvalidCommand⟩) (d_InvalidCommand : PySem.W.codeIn K x6InvalidCommand "InvalidCommand.__init__" = true)
    (h_InvalidCommand : ecB K C_InvalidCommand I_InvalidCommand "value" [.type "ValueError", .type "Exception", .type "BaseException", .type "object"] "ValueError.__new__" = true)
    {C_InvalidPosition I_InvalidPosition : Addr} {x1InvalidPosition : Value} {x2InvalidPosition : Option Addr} {x3InvalidPosition x4InvalidPosition : Value} {x5InvalidPosition : Option Addr} {x6InvalidPosition x7InvalidPosition : Value} {x8InvalidPosition : Array (Option Value)} {p1InvalidPosition p2InvalidPosition q1InvalidPosition q2InvalidPosition q3InvalidPosition q4InvalidPosition : Pos}
    (n_InvalidPosition : PySem.W.nsIn K mainGlobals "InvalidPosition" = some (some (.ref C_InvalidPosition))) (i_InvalidPosition : PySem.W.findIn K (.ref C_InvalidPosition) "__init__" = some (some (.ref I_InvalidPosition)))
    (m_InvalidPosition : K.lookup I_InvalidPosition = some ⟨x1InvalidPosition, x2InvalidPosition, .func (PySem.W.fnOf "__init__" "InvalidPosition.__init__" (iA "value" p1InvalidPosition p2InvalidPosition) (iB "value" q1InvalidPosition q2InvalidPosition q3InvalidPosition q4InvalidPosition) (iS "value" []) .none .none x3InvalidPosition x4InvalidPosition x5InvalidPosition x6InvalidPosition x7InvalidPosition), x8InvalidPosition⟩) (d_InvalidPosition : PySem.W.codeIn K x6InvalidPosition "InvalidPosition.__init__" = true)
    (h_InvalidPosition : ecB K C_InvalidPosition I_InvalidPosition "value" [.type "IndexError", .type "LookupError", .type "Exception", .type "BaseException", .type "object"] "IndexError.__new__" = true)
    {C_Missing I_Missing : Addr} {x1Missing : Value} {x2Missing : Option Addr} {x3Missing x4Missing : Value} {x5Missing : Option Addr} {x6Missing x7Missing : Value} {x8Missing : Array (Option Value)} {p1Missing p2Missing q1Missing q2Missing q3Missing q4Missing : Pos}
    (n_Missing : PySem.W.nsIn K mainGlobals "Missing" = some (some (.ref C_Missing))) (i_Missing : PySem.W.findIn K (.ref C_Missing) "__init__" = some (some (.ref I_Missing)))
    (m_Missing : K.lookup I_Missing = some ⟨x1Missing, x2Missing, .func (PySem.W.fnOf "__init__" "Missing.__init__" (iA "item" p1Missing p2Missing) (iB "item" q1Missing q2Missing q3Missing q4Missing) (iS "item" []) .none .none x3Missing x4Missing x5Missing x6Missing x7Missing), x8Missing⟩) (d_Missing : PySem.W.codeIn K x6Missing "Missing.__init__" = true)
    (h_Missing : ecB K C_Missing I_Missing "item" [.type "LookupError", .type "Exception", .type "BaseException", .type "object"] "LookupError.__new__" = true)
    {C_UnknownName I_UnknownName : Addr} {x1UnknownName : Value} {x2UnknownName : Option Addr} {x3UnknownName x4UnknownName : Value} {x5UnknownName : Option Addr} {x6UnknownName x7UnknownName : Value} {x8UnknownName : Array (Option Value)} {p1UnknownName p2UnknownName q1UnknownName q2UnknownName q3UnknownName q4UnknownName : Pos}
    (n_UnknownName : PySem.W.nsIn K mainGlobals "UnknownName" = some (some (.ref C_UnknownName))) (i_UnknownName : PySem.W.findIn K (.ref C_UnknownName) "__init__" = some (some (.ref I_UnknownName)))
    (m_UnknownName : K.lookup I_UnknownName = some ⟨x1UnknownName, x2UnknownName, .func (PySem.W.fnOf "__init__" "UnknownName.__init__" (iA "name" p1UnknownName p2UnknownName) (iB "name" q1UnknownName q2UnknownName q3UnknownName q4UnknownName) (iS "name" []) .none .none x3UnknownName x4UnknownName x5UnknownName x6UnknownName x7UnknownName), x8UnknownName⟩) (d_UnknownName : PySem.W.codeIn K x6UnknownName "UnknownName.__init__" = true)
    (h_UnknownName : ecB K C_UnknownName I_UnknownName "name" keyTail "LookupError.__new__" = true)
    {C_LimitExceeded I_LimitExceeded : Addr} {x1LimitExceeded : Value} {x2LimitExceeded : Option Addr} {x3LimitExceeded x4LimitExceeded : Value} {x5LimitExceeded : Option Addr} {x6LimitExceeded x7LimitExceeded : Value} {x8LimitExceeded : Array (Option Value)} {p1LimitExceeded p2LimitExceeded q1LimitExceeded q2LimitExceeded q3LimitExceeded q4LimitExceeded : Pos}
    (n_LimitExceeded : PySem.W.nsIn K mainGlobals "LimitExceeded" = some (some (.ref C_LimitExceeded))) (i_LimitExceeded : PySem.W.findIn K (.ref C_LimitExceeded) "__init__" = some (some (.ref I_LimitExceeded)))
    (m_LimitExceeded : K.lookup I_LimitExceeded = some ⟨x1LimitExceeded, x2LimitExceeded, .func (PySem.W.fnOf "__init__" "LimitExceeded.__init__" (iA "limit" p1LimitExceeded p2LimitExceeded) (iB "limit" q1LimitExceeded q2LimitExceeded q3LimitExceeded q4LimitExceeded) (iS "limit" []) .none .none x3LimitExceeded x4LimitExceeded x5LimitExceeded x6LimitExceeded x7LimitExceeded), x8LimitExceeded⟩) (d_LimitExceeded : PySem.W.codeIn K x6LimitExceeded "LimitExceeded.__init__" = true)
    (h_LimitExceeded : ecB K C_LimitExceeded I_LimitExceeded "limit" [.type "OverflowError", .type "ArithmeticError", .type "Exception", .type "BaseException", .type "object"] "OverflowError.__new__" = true)
    {C_Failed I_Failed : Addr} {x1Failed : Value} {x2Failed : Option Addr} {x3Failed x4Failed : Value} {x5Failed : Option Addr} {x6Failed x7Failed : Value} {x8Failed : Array (Option Value)} {p1Failed p2Failed q1Failed q2Failed q3Failed q4Failed : Pos}
    (n_Failed : PySem.W.nsIn K mainGlobals "Failed" = some (some (.ref C_Failed))) (i_Failed : PySem.W.findIn K (.ref C_Failed) "__init__" = some (some (.ref I_Failed)))
    (m_Failed : K.lookup I_Failed = some ⟨x1Failed, x2Failed, .func (PySem.W.fnOf "__init__" "Failed.__init__" (iA "index" p1Failed p2Failed) (iB "index" q1Failed q2Failed q3Failed q4Failed) (iS "index" []) .none .none x3Failed x4Failed x5Failed x6Failed x7Failed), x8Failed⟩) (d_Failed : PySem.W.codeIn K x6Failed "Failed.__init__" = true)
    (h_Failed : ecB K C_Failed I_Failed "index" [.type "RuntimeError", .type "Exception", .type "BaseException", .type "object"] "RuntimeError.__new__" = true)
    {C_NothingToUndo I_NothingToUndo : Addr} {x1NothingToUndo : Value} {x2NothingToUndo : Option Addr} {x3NothingToUndo x4NothingToUndo : Value} {x5NothingToUndo : Option Addr} {x6NothingToUndo x7NothingToUndo : Value} {x8NothingToUndo : Array (Option Value)} {p1NothingToUndo p2NothingToUndo q1NothingToUndo q2NothingToUndo q3NothingToUndo q4NothingToUndo : Pos}
    (n_NothingToUndo : PySem.W.nsIn K mainGlobals "NothingToUndo" = some (some (.ref C_NothingToUndo))) (i_NothingToUndo : PySem.W.findIn K (.ref C_NothingToUndo) "__init__" = some (some (.ref I_NothingToUndo)))
    (m_NothingToUndo : K.lookup I_NothingToUndo = some ⟨x1NothingToUndo, x2NothingToUndo, .func (PySem.W.fnOf "__init__" "NothingToUndo.__init__" (iA "count" p1NothingToUndo p2NothingToUndo) (iB "count" q1NothingToUndo q2NothingToUndo q3NothingToUndo q4NothingToUndo) (iS "count" []) .none .none x3NothingToUndo x4NothingToUndo x5NothingToUndo x6NothingToUndo x7NothingToUndo), x8NothingToUndo⟩) (d_NothingToUndo : PySem.W.codeIn K x6NothingToUndo "NothingToUndo.__init__" = true)
    (h_NothingToUndo : ecB K C_NothingToUndo I_NothingToUndo "count" [.type "RuntimeError", .type "Exception", .type "BaseException", .type "object"] "RuntimeError.__new__" = true)
    : Txt K mg ⟨f1, (PySem.W.fnOf "_law_pool" "_law_pool" (defArgs s_Lpool) (defBody s_Lpool) (defScope s_Lpool) .none kV1 dc1 pm1 an1 cd1 ct1), f2, (PySem.W.fnOf "_law_take" "_law_take" (defArgs s_Ltake) (defBody s_Ltake) (defScope s_Ltake) .none kV2 dc2 pm2 an2 cd2 ct2), f3, (PySem.W.fnOf "_law_values" "_law_values" (defArgs s_Lvalues) (defBody s_Lvalues) (defScope s_Lvalues) .none kV3 dc3 pm3 an3 cd3 ct3), f4, (PySem.W.fnOf "_law_errors" "_law_errors" (defArgs s_Lerrors) (defBody s_Lerrors) (defScope s_Lerrors) .none kV4 dc4 pm4 an4 cd4 ct4), f5, (PySem.W.fnOf "_law_named" "_law_named" (defArgs s_Lnamed) (defBody s_Lnamed) (defScope s_Lnamed) .none kV5 dc5 pm5 an5 cd5 ct5), f6, (PySem.W.fnOf "_law_field" "_law_field" (defArgs s_Lfield) (defBody s_Lfield) (defScope s_Lfield) .none kV6 dc6 pm6 an6 cd6 ct6), f7, (PySem.W.fnOf "_law_bases" "_law_bases" (defArgs s_Lbases) (defBody s_Lbases) (defScope s_Lbases) .none kV7 dc7 pm7 an7 cd7 ct7), f8, (PySem.W.fnOf "_law_classes" "_law_classes" (defArgs s_Lclasses) (defBody s_Lclasses) (defScope s_Lclasses) .none kV8 dc8 pm8 an8 cd8 ct8), f9, (PySem.W.fnOf "_law_due" "_law_due" (defArgs s_Ldue) (defBody s_Ldue) (defScope s_Ldue) .none kV9 dc9 pm9 an9 cd9 ct9), f10, (PySem.W.fnOf "law" "law" (defArgs s_law) (defBody s_law) (defScope s_law) .none kV10 dc10 pm10 an10 cd10 ct10), C_LeakError, C_InvalidWord, I_InvalidWord, C_InvalidProgram, I_InvalidProgram, C_InvalidCore, I_InvalidCore, C_InvalidEffect, I_InvalidEffect, C_InvalidExchange, I_InvalidExchange, C_InvalidNumber, I_InvalidNumber, C_InvalidSet, I_InvalidSet, C_InvalidNetwork, I_InvalidNetwork, C_InvalidPrograms, I_InvalidPrograms, C_InvalidObservations, I_InvalidObservations, C_ParseError, I_ParseError, C_InvalidCommand, I_InvalidCommand, C_InvalidPosition, I_InvalidPosition, C_Missing, I_Missing, C_UnknownName, I_UnknownName, C_LimitExceeded, I_LimitExceeded, C_Failed, I_Failed, C_NothingToUndo, I_NothingToUndo⟩ := by
  have F1 := fun_mk (st := s_Lpool) l1 c1 k1
  have b1 := F1.binds (ps := ["_law_script", "_law_k"]) fun _ _ _ _ _ _ us hl => match us, hl with | [_, _], _ => rfl
  have F2 := fun_mk (st := s_Ltake) l2 c2 k2
  have b2 := F2.binds (ps := ["_law_pool_here", "_law_many"]) fun _ _ _ _ _ _ us hl => match us, hl with | [_, _], _ => rfl
  have F3 := fun_mk (st := s_Lvalues) l3 c3 k3
  have b3 := F3.binds (ps := ["_law_pool_here"]) fun _ _ _ _ _ _ us hl => match us, hl with | [_], _ => rfl
  have F4 := fun_mk (st := s_Lerrors) l4 c4 k4
  have b4 := F4.binds (ps := ["_law_one"]) fun _ _ _ _ _ _ us hl => match us, hl with | [_], _ => rfl
  have F5 := fun_mk (st := s_Lnamed) l5 c5 k5
  have b5 := F5.binds (ps := ["_law_one"]) fun _ _ _ _ _ _ us hl => match us, hl with | [_], _ => rfl
  have F6 := fun_mk (st := s_Lfield) l6 c6 k6
  have b6 := F6.binds (ps := ["_law_error", "_law_way"]) fun _ _ _ _ _ _ us hl => match us, hl with | [_, _], _ => rfl
  have F7 := fun_mk (st := s_Lbases) l7 c7 k7
  have b7 := F7.binds (ps := ["_law_error"]) fun _ _ _ _ _ _ us hl => match us, hl with | [_], _ => rfl
  have F8 := fun_mk (st := s_Lclasses) l8 c8 k8
  have b8 := F8.binds (ps := ["_law_error"]) fun _ _ _ _ _ _ us hl => match us, hl with | [_], _ => rfl
  have F9 := fun_mk (st := s_Ldue) l9 c9 k9
  have b9 := F9.binds (ps := ["_law_place"]) fun _ _ _ _ _ _ us hl => match us, hl with | [_], _ => rfl
  have F10 := fun_mk (st := s_law) l10 c10 k10
  have b10 := F10.binds (ps := ["_law_script"]) fun _ _ _ _ _ _ us hl => match us, hl with | [_], _ => rfl
  exact ⟨F1, b1, PySem.W.mg_of X G a1, F2, b2, PySem.W.mg_of X G a2, F3, b3, PySem.W.mg_of X G a3, F4, b4, PySem.W.mg_of X G a4, F5, b5, PySem.W.mg_of X G a5, F6, b6, PySem.W.mg_of X G a6, F7, b7, PySem.W.mg_of X G a7, F8, b8, PySem.W.mg_of X G a8, F9, b9, PySem.W.mg_of X G a9, F10, b10, PySem.W.mg_of X G a10, PySem.W.mg_none_of X G z_max, PySem.W.mg_none_of X G z_int, PySem.W.mg_none_of X G z_range, PySem.W.mg_none_of X G z_isinstance, PySem.W.mg_none_of X G z_ValueError, PySem.W.mg_none_of X G z_IndexError, PySem.W.mg_none_of X G z_LookupError, PySem.W.mg_none_of X G z_KeyError, PySem.W.mg_none_of X G z_OverflowError, PySem.W.mg_none_of X G z_RuntimeError, PySem.W.mg_none_of X G z_TypeError, PySem.W.mg_none_of X G z_min, PySem.W.mg_none_of X G z_len, PySem.W.mg_none_of X G z_repr, PySem.W.mg_of X G n_LeakError, ecl_value PySem.F.excBase_ValueError ⟨by decide +kernel, by decide +kernel, by decide +kernel⟩ PySem.F.store_ValueError (PySem.W.mg_of X G n_InvalidWord) h_InvalidWord i_InvalidWord m_InvalidWord d_InvalidWord, h_InvalidWord, ecl_value PySem.F.excBase_ValueError ⟨by decide +kernel, by decide +kernel, by decide +kernel⟩ PySem.F.store_ValueError (PySem.W.mg_of X G n_InvalidProgram) h_InvalidProgram i_InvalidProgram m_InvalidProgram d_InvalidProgram, h_InvalidProgram, ecl_value PySem.F.excBase_ValueError ⟨by decide +kernel, by decide +kernel, by decide +kernel⟩ PySem.F.store_ValueError (PySem.W.mg_of X G n_InvalidCore) h_InvalidCore i_InvalidCore m_InvalidCore d_InvalidCore, h_InvalidCore, ecl_index PySem.F.excBase_ValueError ⟨by decide +kernel, by decide +kernel, by decide +kernel⟩ PySem.F.store_ValueError (PySem.W.mg_of X G n_InvalidEffect) h_InvalidEffect i_InvalidEffect m_InvalidEffect d_InvalidEffect, h_InvalidEffect, ecl_value PySem.F.excBase_ValueError ⟨by decide +kernel, by decide +kernel, by decide +kernel⟩ PySem.F.store_ValueError (PySem.W.mg_of X G n_InvalidExchange) h_InvalidExchange i_InvalidExchange m_InvalidExchange d_InvalidExchange, h_InvalidExchange, ecl_value PySem.F.excBase_ValueError ⟨by decide +kernel, by decide +kernel, by decide +kernel⟩ PySem.F.store_ValueError (PySem.W.mg_of X G n_InvalidNumber) h_InvalidNumber i_InvalidNumber m_InvalidNumber d_InvalidNumber, h_InvalidNumber, ecl_index PySem.F.excBase_ValueError ⟨by decide +kernel, by decide +kernel, by decide +kernel⟩ PySem.F.store_ValueError (PySem.W.mg_of X G n_InvalidSet) h_InvalidSet i_InvalidSet m_InvalidSet d_InvalidSet, h_InvalidSet, ecl_name PySem.F.excBase_ValueError ⟨by decide +kernel, by decide +kernel, by decide +kernel⟩ PySem.F.store_ValueError (PySem.W.mg_of X G n_InvalidNetwork) h_InvalidNetwork i_InvalidNetwork m_InvalidNetwork d_InvalidNetwork, h_InvalidNetwork, ecl_index PySem.F.excBase_ValueError ⟨by decide +kernel, by decide +kernel, by decide +kernel⟩ PySem.F.store_ValueError (PySem.W.mg_of X G n_InvalidPrograms) h_InvalidPrograms i_InvalidPrograms m_InvalidPrograms d_InvalidPrograms, h_InvalidPrograms, ecl_index PySem.F.excBase_ValueError ⟨by decide +kernel, by decide +kernel, by decide +kernel⟩ PySem.F.store_ValueError (PySem.W.mg_of X G n_InvalidObservations) h_InvalidObservations i_InvalidObservations m_InvalidObservations d_InvalidObservations, h_InvalidObservations, ecl_value PySem.F.excBase_ValueError ⟨by decide +kernel, by decide +kernel, by decide +kernel⟩ PySem.F.store_ValueError (PySem.W.mg_of X G n_ParseError) h_ParseError i_ParseError m_ParseError d_ParseError, h_ParseError, ecl_value PySem.F.excBase_ValueError ⟨by decide +kernel, by decide +kernel, by decide +kernel⟩ PySem.F.store_ValueError (PySem.W.mg_of X G n_InvalidCommand) h_InvalidCommand i_InvalidCommand m_InvalidCommand d_InvalidCommand, h_InvalidCommand, ecl_value PySem.F.excBase_IndexError ⟨by decide +kernel, by decide +kernel, by decide +kernel⟩ PySem.F.store_IndexError (PySem.W.mg_of X G n_InvalidPosition) h_InvalidPosition i_InvalidPosition m_InvalidPosition d_InvalidPosition, h_InvalidPosition, ecl_item PySem.F.excBase_LookupError ⟨by decide +kernel, by decide +kernel, by decide +kernel⟩ PySem.F.store_LookupError (PySem.W.mg_of X G n_Missing) h_Missing i_Missing m_Missing d_Missing, h_Missing, ecl_name PySem.F.excBase_LookupError ⟨by decide +kernel, by decide +kernel, by decide +kernel⟩ storeKey (PySem.W.mg_of X G n_UnknownName) h_UnknownName i_UnknownName m_UnknownName d_UnknownName, h_UnknownName, ecl_limit PySem.F.excBase_OverflowError ⟨by decide +kernel, by decide +kernel, by decide +kernel⟩ PySem.F.store_OverflowError (PySem.W.mg_of X G n_LimitExceeded) h_LimitExceeded i_LimitExceeded m_LimitExceeded d_LimitExceeded, h_LimitExceeded, ecl_index PySem.F.excBase_RuntimeError ⟨by decide +kernel, by decide +kernel, by decide +kernel⟩ PySem.F.store_RuntimeError (PySem.W.mg_of X G n_Failed) h_Failed i_Failed m_Failed d_Failed, h_Failed, ecl_count PySem.F.excBase_RuntimeError ⟨by decide +kernel, by decide +kernel, by decide +kernel⟩ PySem.F.store_RuntimeError (PySem.W.mg_of X G n_NothingToUndo) h_NothingToUndo i_NothingToUndo m_NothingToUndo d_NothingToUndo, h_NothingToUndo⟩
end E5

set_option Elab.async false
set_option linter.all false
set_option maxRecDepth 100000
set_option maxHeartbeats 4000000
namespace E5
open PySem PySem.Spec PyProof.Rows L2 Own Exn
theorem le_line {n : Nat} (h : n ≤ 100000) : n ≤ sizeLine := by rw [sizeLine_eq]; omega
theorem lt_line {n : Nat} (h : n ≤ 100000) : n < sizeLine := by rw [sizeLine_eq]; omega
theorem same_new {H : Hp} {p : Addr} {o : HO} (h : H p = none) : Same H (upd H p o) := fun b x e => by
  rw [upd_ne (ne_of_none e h)]
  exact e
theorem same_put {H H1 : Hp} {p : Addr} {o : HO} (s : Same H H1) (h : H p = none) : Same H (upd H1 p o) := fun b x e => by
  rw [upd_ne (ne_of_none e h)]
  exact s b x e
/-! repr of data or of a new dict -/
section
variable {X : Cx} {k : Nat}
def rReprR (K : PySem.W.Frag) : List V → Hp → VK → Prop := fun xs H Q => rRepr K xs H Q ∨ ∃ p, xs = [.ref p] ∧ H p = some (.dK []) ∧ Q (.str "{}") H
theorem kv_nil {vs : List (Key × Value)} (h : KV ([] : List (Key × V)) vs) : vs = [] := by cases h; rfl
theorem pairs_nil {P : Program} {w : World} {es : List DictEntry} (h : Pairs (mixKind P w) es []) : es = [] := by cases h; rfl
theorem call_reprR (hg : X.A.guards = some []) (hr : Room k X.A) : CallR X (.builtin "repr") (rReprR X.K) := by
  intro pins s σ H xs us Q I rl hh
  rcases hh with hh | ⟨p, rfl, hp, hq⟩
  · exact call_reprD hg hr pins s σ H xs us Q I rl hh
  · obtain ⟨u, rfl, ru⟩ := vals1 rl
    cases ru
    have hun := hr.un
    obtain ⟨_, hne, vs, kv, o, es, ep, ho, hex, hd, _, hps, _⟩ := (show ObjOk X.prog X.w H s.heap p (.dK []) from I.hok p _ hp)
    have e1 := kv_nil kv
    subst e1
    have e2 := pairs_nil hps
    have rd : Reads s.heap (.ref p) (.dict []) (p :: [] ++ []) := .dict ho hex.1 hd (by rw [e2]; exact .nil) (by rw [e2]; exact .nil)
    have hdp : (PyData.dict []).depth ≤ 5 := by decide +kernel
    refine repr_of_reads' rd (by decide +kernel) (fun _ hm => ?_) hg (by omega) (fun _ _ e => e) (fun h' u tk hk => ⟨.str _, H, I.kept hk, ⟨_, rfl⟩, hq⟩) (le_line (by decide +kernel))
    have : sysModules = p := by simpa using hm
    rw [this] at hne
    simp at hne
end
/-! the law's draws -/
def Pool (H : Hp) (p : Addr) : Prop := ∃ n m : Int, H p = some (.lst [.int n, .int m]) ∧ 0 ≤ n ∧ 0 ≤ m ∧ m < 2147483647
section
variable {P : Program} {w : World} {K : PySem.W.Frag} {mg : Str → Option Value} {base : Heap} {a : Ad}
def sp_Lpool (K : PySem.W.Frag) : Sp := fun vs H Q _ => ∃ (s : Addr) (k : Int) (ns : List Int), vs = [.ref s, .int k] ∧ SqL K H s (ns.map V.int) ∧ ns.length ≤ 1000 ∧ 0 ≤ k ∧ k ≤ 1000 ∧
  ∀ H' p, Same H H' → H p = none → Pool H' p → Q (.ref p) H'
theorem cut_int (ns : List Int) (lo hi : Option Int) : ∃ l : List Int, cutV (ns.map V.int) lo hi = l.map V.int := by
  unfold cutV
  exact ⟨_, by rw [← List.map_drop, ← List.map_take]⟩
theorem ok_Lpool (T : Txt K mg a) : FnOk P w K mg base CX0 1 a.f_Lpool a.d_Lpool ["_law_script", "_law_k"] (sp_Lpool K) := by
  refine T.F_Lpool.ok sc_Lpool (fun vs H Q E h => ?_) (fun cdv A outer s H vs Q E hr h => ?_)
  · obtain ⟨s, k, ns, rfl, _⟩ := h
    rfl
  · obtain ⟨sc, k, ns, rfl, hS, hns, hk0, hk1, q⟩ := h
    refine ⟨_, (pss_cons (ps_set (i := 2) sc_Lpool.nd rfl (Or.inl rfl) (pe_ix ix_list (pe_op op_cat (pe_slice sl_list (pv 0) (po_some (pv 1)) (po_some (pe_op op_add (pv 1) pe_int))) (pe_lst (pa_cons pe_int pa_nil))) pe_int (fun _ _ => rfl)))
      (pss_cons (ps_set (i := 3) sc_Lpool.nd rfl (Or.inl rfl) (pe_callB (call_max2 rfl) (by rfl) T.z_max (by decide +kernel) (pa_cons (pv 2) (pa_cons (pe_op op_sub (pe_un un_neg pe_int) (pv 2)) pa_nil))))
      (pss_cons (ps_set (i := 4) sc_Lpool.nd rfl (Or.inl rfl) (pe_op op_mod (pe_op op_mul (pe_op op_add (pe_op op_add (pe_op op_add (pe_op op_mod (pv 3) pe_int) (pe_op op_mul (pe_op op_mul pe_int (pv 1)) (pv 1))) (pe_op op_mul pe_int (pv 1))) pe_int) pe_int) pe_int))
      (pss_one (ps_ret (pe_lst (pa_cons (pe_op op_mul (pv 3) (pe_callTy call_int1 (by rfl) T.z_int (by decide +kernel) (pa_cons (pe_cmpR op_ge (pv 3) (pe_op op_pow pe_int pe_int) (nomark _)) pa_nil))) (pa_cons (pe_op op_mod (pe_op op_mul (pv 4) (pv 4)) pe_int) pa_nil)))))))), ?_⟩
    refine ⟨.ref sc, rfl, .int k, rfl, k, rfl, .int k, rfl, k, 1, rfl, rfl, k + 1, rfl, sc, _, rfl, hS, fun c nc => ?_⟩
    obtain ⟨l, hl⟩ := cut_int ns (some k) (some (k + 1))
    have hlen := cutV_length (ns.map V.int) (some k) (some (k + 1))
    rw [hl] at hlen ⊢
    have s1 : Same H (upd H c (.lst (l.map V.int))) := same_new nc
    refine ⟨le_line (by decide), fun d nd => ?_⟩
    have ndc : d ≠ c := fun e => by rw [e, upd_same] at nd; cases nd
    have s2 := s1.trans (same_new (o := .lst [V.int 0]) nd)
    obtain ⟨x, r, hx⟩ : ∃ x r, l.map V.int ++ [V.int 0] = V.int x :: r := by
      cases l with
      | nil => exact ⟨0, _, rfl⟩
      | cons y l => exact ⟨y, _, rfl⟩
    refine ⟨c, d, l.map V.int, [V.int 0], rfl, rfl, by rw [upd_ne ndc.symm, upd_same], upd_same, ?_, fun e ne => ?_⟩
    · rw [List.length_map] at hlen ⊢
      rw [List.length_map] at hlen
      exact le_line (by rw [List.length_singleton]; omega)
    have s3 := s2.trans (same_new (o := .lst (l.map V.int ++ [V.int 0])) ne)
    refine ⟨e, _, 0, V.int x, rfl, rfl, SqL.of upd_same, atI_nat (j := 0) (by rw [hx]; rfl), ?_⟩
    -- the number
    refine ⟨.int x, rfl, 1, rfl, .int x, rfl, -1, x, rfl, rfl, _, _, rfl, ?_⟩
    obtain ⟨n, hn, hn0⟩ : ∃ n, (if -1 - x > x then -1 - x else x) = n ∧ 0 ≤ n := by
      refine ⟨_, rfl, ?_⟩
      split <;> omega
    rw [hn]
    have e1 : n % 2147483629 < 2147483629 := Int.emod_lt_of_pos _ (by decide)
    have e0 : 0 ≤ n % 2147483629 := Int.emod_nonneg _ (by decide)
    have k2 : 0 ≤ 7919 * k * k ∧ 7919 * k * k ≤ 7919 * 1000 * 1000 := by
      constructor
      · exact Int.mul_nonneg (by omega) hk0
      · exact Int.mul_le_mul (by omega) hk1 hk0 (by decide)
    refine ⟨.int n, rfl, n, 2147483629, rfl, rfl, (show (0 : Int) < 2147483629 by decide), .int k, rfl, 7919, k, rfl, rfl, .inl ⟨by decide, by decide⟩, .int k, rfl, 7919 * k, k, rfl, rfl, .inl ⟨by omega, by omega⟩, _, _, rfl, rfl,
      .int k, rfl, 31, k, rfl, rfl, .inl ⟨by decide, by decide⟩, _, _, rfl, rfl, _, _, rfl, rfl, _, 48271, rfl, rfl, .inr ⟨by decide, by decide⟩, _, 2147483647, rfl, rfl, (show (0 : Int) < 2147483647 by decide), ?_⟩
    obtain ⟨mx, hm, hm0, hm1⟩ : ∃ mx, ((n % 2147483629 + 7919 * k * k + 31 * k + 17) * 48271) % 2147483647 = mx ∧ 0 ≤ mx ∧ mx < 2147483647 :=
      ⟨_, rfl, Int.emod_nonneg _ (by decide), Int.emod_lt_of_pos _ (by decide)⟩
    dsimp only
    rw [hm]
    refine ⟨.int n, rfl, .int n, rfl, 10, 18, rfl, rfl, ⟨by decide, by decide, by decide⟩, _, _, rfl, rfl, .inr ⟨_, rfl, ?_⟩⟩
    have hb : ∀ b : Bool, (0 : Int) ≤ (if b = true then 1 else 0) ∧ (if b = true then (1 : Int) else 0) ≤ 1 := by intro b; cases b <;> decide
    have hb' := hb (decide ((10 : Int) ^ (18 : Int).toNat ≤ n))
    refine ⟨n, _, rfl, rfl, .inr ⟨by omega, by omega⟩, .int mx, rfl, .int mx, rfl, mx, mx, rfl, rfl, .inl ⟨by omega, by omega⟩, _, 2147483629, rfl, rfl, (show (0 : Int) < 2147483629 by decide), le_line (show 2 ≤ 100000 by decide), fun p np => ?_⟩
    have h1 : 0 ≤ mx * mx % 2147483629 := Int.emod_nonneg _ (by decide)
    have h2 : mx * mx % 2147483629 < 2147483629 := Int.emod_lt_of_pos _ (by decide)
    exact q _ p (s3.trans (same_new np)) (s3.free np) ⟨_, _, upd_same, Int.mul_nonneg hn0 hb'.1, h1, by omega⟩
def sp_Ltake : Sp := fun vs H Q _ => ∃ (p : Addr) (k : Int), vs = [.ref p, .int k] ∧ Pool H p ∧ 1 ≤ k ∧ k ≤ 1000000 ∧
  ∀ n m d : Int, 0 ≤ n → 0 ≤ m → m < 2147483647 → 0 ≤ d → d < k → Q (.int d) (upd H p (.lst [.int n, .int m]))
theorem ok_Ltake (T : Txt K mg a) : FnOk P w K mg base CX0 1 a.f_Ltake a.d_Ltake ["_law_pool_here", "_law_many"] sp_Ltake := by
  refine T.F_Ltake.ok sc_Ltake (fun vs H Q E h => ?_) (fun cdv A outer s H vs Q E hr h => ?_)
  · obtain ⟨p, k, rfl, _⟩ := h
    rfl
  · obtain ⟨p, k, rfl, ⟨n, m, hp, hn, hm0, hm1⟩, hk0, hk1, q⟩ := h
    refine ⟨_, (pss_cons (ps_if (pt_cmpR op_gt (pe_ix ix_list (pv 0) pe_int (fun _ _ => rfl)) pe_int (nomark _))
        (pss_cons (ps_set (i := 2) sc_Ltake.nd rfl (Or.inl rfl) (pe_op op_mod (pe_ix ix_list (pv 0) pe_int (fun _ _ => rfl)) (pv 1)))
        (pss_cons (ps_asg (pe_op op_fdiv (pe_ix ix_list (pv 0) pe_int (fun _ _ => rfl)) (pv 1)) (pg_sub (pv 0) pe_int set_list))
        (pss_one (ps_ret (pv 2)))))
        pss_nil)
      (pss_cons (ps_asg (pe_op op_mod (pe_op op_add (pe_op op_mul (pe_ix ix_list (pv 0) pe_int (fun _ _ => rfl)) pe_int) pe_int) pe_int) (pg_sub (pv 0) pe_int set_list))
      (pss_one (ps_ret (pe_op op_mod (pe_op op_fdiv (pe_op op_mod (pe_op op_mul (pe_ix ix_list (pv 0) pe_int (fun _ _ => rfl)) (pe_ix ix_list (pv 0) pe_int (fun _ _ => rfl))) pe_int) pe_int) (pv 1)))))), ?_⟩
    refine ⟨.ref p, rfl, p, _, 0, _, rfl, rfl, SqL.of hp, atI_nat (j := 0) rfl, _, _, rfl, rfl, _, rfl, ite2 (fun e => ?_) (fun e => ?_)⟩
    · refine ⟨.ref p, rfl, p, _, 0, _, rfl, rfl, SqL.of hp, atI_nat (j := 0) rfl, .int k, rfl, n, k, rfl, rfl, by omega, ?_⟩
      refine ⟨.ref p, rfl, p, _, 0, _, rfl, rfl, SqL.of hp, atI_nat (j := 0) rfl, .int k, rfl, n, k, rfl, rfl, ⟨by omega, by omega⟩, ?_⟩
      refine ⟨.ref p, rfl, p, _, 0, 0, rfl, rfl, hp, rfl, ?_⟩
      refine ⟨_, rfl, ?_⟩
      exact q (n / k) m (n % k) (Int.ediv_nonneg hn (by omega)) hm0 hm1 (Int.emod_nonneg _ (by omega)) (Int.emod_lt_of_pos _ (by omega))
    · refine ⟨.ref p, rfl, p, _, 1, _, rfl, rfl, SqL.of hp, atI_nat (j := 1) rfl, m, 48271, rfl, rfl, .inr ⟨by decide, by decide⟩, _, _, rfl, rfl, _, 2147483647, rfl, rfl, (show (0 : Int) < 2147483647 by decide), ?_⟩
      obtain ⟨x, hx, hx0, hx1⟩ : ∃ x, (m * 48271 + 12345) % 2147483647 = x ∧ 0 ≤ x ∧ x < 2147483647 := ⟨_, rfl, Int.emod_nonneg _ (by decide), Int.emod_lt_of_pos _ (by decide)⟩
      dsimp only
      rw [hx]
      refine ⟨.ref p, rfl, p, _, 1, 1, rfl, rfl, hp, rfl, ?_⟩
      have hp2 : (upd H p (.lst ([V.int n, V.int m].set 1 (.int x)))) p = some (.lst [.int n, .int x]) := upd_same
      refine ⟨.ref p, rfl, p, _, 1, _, rfl, rfl, SqL.of hp2, atI_nat (j := 1) rfl, .ref p, rfl, p, _, 1, _, rfl, rfl, SqL.of hp2, atI_nat (j := 1) rfl, x, x, rfl, rfl, .inl ⟨by omega, by omega⟩, _, 2147483629, rfl, rfl, (show (0 : Int) < 2147483629 by decide),
        _, 64, rfl, rfl, ⟨by decide, by decide⟩, .int k, rfl, _, k, rfl, rfl, by omega, ?_⟩
      exact q n x _ hn hx0 hx1 (Int.emod_nonneg _ (by omega)) (Int.emod_lt_of_pos _ (by omega))
end
end E5

set_option Elab.async false
set_option linter.all false
set_option maxRecDepth 100000
set_option maxHeartbeats 400000
namespace E5
open PySem PySem.Spec PyProof.Rows L2 Own Exn
def cA (a : Ad) : Nat → Addr
  | 0 => a.C_InvalidWord | 1 => a.C_InvalidProgram | 2 => a.C_InvalidCore | 3 => a.C_InvalidEffect | 4 => a.C_InvalidExchange | 5 => a.C_InvalidNumber | 6 => a.C_InvalidSet | 7 => a.C_InvalidNetwork | 8 => a.C_InvalidPrograms
  | 9 => a.C_InvalidObservations | 10 => a.C_ParseError | 11 => a.C_InvalidCommand | 12 => a.C_InvalidPosition | 13 => a.C_Missing | 14 => a.C_UnknownName | 15 => a.C_LimitExceeded | 16 => a.C_Failed | _ => a.C_NothingToUndo
def wy : Nat → Nat
  | 3 => 1 | 6 => 1 | 7 => 2 | 8 => 1 | 9 => 1 | 13 => 3 | 14 => 2 | 15 => 4 | 16 => 1 | 17 => 5 | _ => 0
def fw : Nat → Str
  | 0 => "value" | 1 => "index" | 2 => "name" | 3 => "item" | 4 => "limit" | _ => "count"
/-- the error of class i at x, that holds v -/
def Err (a : Ad) (H : Hp) (v : V) (i : Nat) (x : Addr) : Prop := ∃ d, H x = some (ExV (cA a i) d x) ∧ H d = some (.xd [(fw (wy i), v)])
theorem Err.same {a : Ad} {H H' : Hp} {v : V} {i : Nat} {x : Addr} (h : Err a H v i x) (s : Same H H') : Err a H' v i x := by
  obtain ⟨d, h1, h2⟩ := h
  exact ⟨d, s _ _ h1, s _ _ h2⟩
def tL (g : Nat → TE) : Nat → Nat → TA
  | _, 0 => tNil
  | n, k + 1 => tCons (g n) (tL g (n + 1) k)
theorem tL_run {g : Nat → TE} {σ : L2.St} {H0 : Hp} {R : Hp → Nat → V → Prop} (mono : ∀ H H' i r, R H i r → Same H H' → R H' i r) : ∀ (k n : Nat) (H : Hp) (Q : List V → Hp → Prop), Same H0 H → (∀ i H Q, i < n + k → Same H0 H → (∀ H' r, Same H H' → R H' i r → Q r H') → g i σ H Q) →
    (∀ (H' : Hp) (xs : List V), Same H H' → xs.length = k → (∀ j r, xs[j]? = some r → R H' (n + j) r) → Q xs H') → tL g n k σ H Q
  | 0, n, H, Q, s0, step, hq => hq H [] (fun _ _ e => e) rfl fun j r e => by simp at e
  | k + 1, n, H, Q, s0, step, hq => by
    refine step n H _ (by omega) s0 fun H1 r s1 h1 => ?_
    refine tL_run mono k (n + 1) H1 _ (s0.trans s1) (fun i H Q hi => step i H Q (by omega)) fun H2 xs s2 l2 h2 => ?_
    refine hq H2 (r :: xs) (fun b o e => s2 b o (s1 b o e)) (by rw [List.length_cons, l2]) fun j y e => ?_
    match j, e with
    | 0, e => simp at e; subst e; exact mono _ _ _ _ h1 s2
    | j + 1, e => have := h2 j y (by simpa using e); rwa [show n + (j + 1) = n + 1 + j by omega]
/-- a growing list -/
def LR (R : Hp → Nat → V → Prop) (H : Hp) (n : Nat) (xs : List V) : Prop := xs.length = n ∧ ∀ i r, xs[i]? = some r → R H i r
theorem LR.cat {R : Hp → Nat → V → Prop} {H : Hp} {n k : Nat} {xs ys : List V} (h : LR R H n xs) (l : ys.length = k) (hy : ∀ j r, ys[j]? = some r → R H (n + j) r) : LR R H (n + k) (xs ++ ys) := by
  refine ⟨by rw [List.length_append, h.1, l], fun i r q => ?_⟩
  by_cases hi : i < n
  · rw [List.getElem?_append_left (by rw [h.1]; exact hi)] at q
    exact h.2 i r q
  · rw [List.getElem?_append_right (by rw [h.1]; omega), h.1] at q
    have := hy _ r q
    rwa [show n + (i - n) = i by omega] at this
theorem LR.same {R : Hp → Nat → V → Prop} {H H' : Hp} {n : Nat} {xs : List V} (mono : ∀ H H' i r, R H i r → Same H H' → R H' i r) (h : LR R H n xs) (s : Same H H') : LR R H' n xs := ⟨h.1, fun i r e => mono _ _ _ _ (h.2 i r e) s⟩
/-- found = [..] -/
theorem fnd_new {g : Nat → TE} {σ : L2.St} {H0 H : Hp} {Q : VK} {R : Hp → Nat → V → Prop} (mono : ∀ H H' i r, R H i r → Same H H' → R H' i r) (n k : Nat) (hk : k ≤ 100) (s0 : Same H0 H) (step : ∀ i H Q, i < n + k → Same H0 H → (∀ H' r, Same H H' → R H' i r → Q r H') → g i σ H Q)
    (hq : ∀ (H' : Hp) (p : Addr) (xs : List V), Same H H' → H p = none → H' p = some (.lst xs) → xs.length = k → (∀ j r, xs[j]? = some r → R H' (n + j) r) → Q (.ref p) H') : tLst (tL g n k) σ H Q := by
  refine tL_run mono k n H _ s0 step fun H1 xs s1 l1 h1 => ⟨le_line (by omega), fun p np => ?_⟩
  have s2 := same_new (o := .lst xs) np
  exact hq _ p xs (fun b o e => s2 b o (s1 b o e)) (s1.free np) upd_same l1 fun j r e => mono _ _ _ _ (h1 j r e) s2
/-- found + [..] -/
theorem fnd_cat {g : Nat → TE} {σ : L2.St} {H0 H : Hp} {Q : VK} {R : Hp → Nat → V → Prop} (mono : ∀ H H' i r, R H i r → Same H H' → R H' i r) (n k : Nat) (hn : n ≤ 100) (hk : k ≤ 100) {f : Addr} {xs : List V} (hf : σ[1]? = some (some (.ref f))) (hx : H f = some (.lst xs)) (hl : LR R H n xs)
    (s0 : Same H0 H) (step : ∀ i H Q, i < n + k → Same H0 H → (∀ H' r, Same H H' → R H' i r → Q r H') → g i σ H Q) (hq : ∀ (H' : Hp) (p : Addr) (ys : List V), Same H H' → H p = none → H' p = some (.lst ys) → LR R H' (n + k) ys → Q (.ref p) H') : tOp rCat (tVar 1) (tLst (tL g n k)) σ H Q := by
  refine ⟨.ref f, hf, fnd_new mono n k hk s0 step fun H1 p ys s1 n1 e1 l1 h1 => ?_⟩
  refine ⟨f, p, xs, ys, rfl, rfl, s1 _ _ hx, e1, le_line (by rw [hl.1, l1]; omega), fun c nc => ?_⟩
  have s2 := same_new (o := .lst (xs ++ ys)) nc
  exact hq _ c _ (fun b o e => s2 b o (s1 b o e)) (s1.free nc) upd_same ((LR.cat (hl.same mono s1) l1 h1).same mono s2)
theorem asg_new {g : Nat → TE} {σ : L2.St} {H0 H : Hp} {D : Ends} {rest : TS} {R : Hp → Nat → V → Prop} (mono : ∀ H H' i r, R H i r → Same H H' → R H' i r) (k : Nat) (hk : k ≤ 100) (s0 : Same H0 H) (step : ∀ i H Q, i < 0 + k → Same H0 H → (∀ H' r, Same H H' → R H' i r → Q r H') → g i σ H Q)
    (hq : ∀ (H' : Hp) (p : Addr) (xs : List V), Same H H' → H p = none → H' p = some (.lst xs) → LR R H' k xs → rest D (List.set σ 1 (some (.ref p))) H') : tSeq (tAsg (tLst (tL g 0 k)) (gName 1)) rest D σ H := by
  unfold tSeq tAsg gName
  exact fnd_new mono 0 k hk s0 step fun H1 p xs s1 n1 e1 l1 h1 => hq H1 p xs s1 n1 e1 ⟨l1, fun i r e => by have := h1 i r e; rwa [Nat.zero_add] at this⟩
theorem asg_cat {g : Nat → TE} {σ : L2.St} {H0 H : Hp} {D : Ends} {rest : TS} {R : Hp → Nat → V → Prop} (mono : ∀ H H' i r, R H i r → Same H H' → R H' i r) (n k : Nat) (hn : n ≤ 100) (hk : k ≤ 100) {f : Addr} {xs : List V} (hf : σ[1]? = some (some (.ref f))) (hx : H f = some (.lst xs)) (hl : LR R H n xs)
    (s0 : Same H0 H) (step : ∀ i H Q, i < n + k → Same H0 H → (∀ H' r, Same H H' → R H' i r → Q r H') → g i σ H Q)
    (hq : ∀ (H' : Hp) (p : Addr) (xs : List V), Same H H' → H p = none → H' p = some (.lst xs) → LR R H' (n + k) xs → rest D (List.set σ 1 (some (.ref p))) H') : tSeq (tAsg (tOp rCat (tVar 1) (tLst (tL g n k))) (gName 1)) rest D σ H := by
  unfold tSeq tAsg gName
  exact fnd_cat mono n k hn hk hf hx hl s0 step hq
theorem ret_cat {g : Nat → TE} {σ : L2.St} {H0 H : Hp} {D : Ends} {R : Hp → Nat → V → Prop} (mono : ∀ H H' i r, R H i r → Same H H' → R H' i r) (n k : Nat) (hn : n ≤ 100) (hk : k ≤ 100) {f : Addr} {xs : List V} (hf : σ[1]? = some (some (.ref f))) (hx : H f = some (.lst xs)) (hl : LR R H n xs)
    (s0 : Same H0 H) (step : ∀ i H Q, i < n + k → Same H0 H → (∀ H' r, Same H H' → R H' i r → Q r H') → g i σ H Q)
    (hq : ∀ (H' : Hp) (p : Addr) (xs : List V), Same H H' → H p = none → H' p = some (.lst xs) → LR R H' (n + k) xs → D.rt (.ref p) H') : tRet (tOp rCat (tVar 1) (tLst (tL g n k))) D σ H := by
  unfold tRet
  exact fnd_cat mono n k hn hk hf hx hl s0 step hq
section
variable {P : Program} {w : World} {K : PySem.W.Frag} {mg : Str → Option Value} {base : Heap} {a : Ad}
def RN (a : Ad) (v : V) (H : Hp) (i : Nat) (r : V) : Prop := ∃ x, r = .ref x ∧ Err a H v i x
theorem RN.mono {a : Ad} {v : V} : ∀ H H' i r, RN a v H i r → Same H H' → RN a v H' i r := fun H H' i r ⟨x, e, h⟩ s => ⟨x, e, h.same s⟩
def gN (a : Ad) (i : Nat) : TE := tMkVg (fw (wy i)) (cA a i) (tCons (tVar 0) tNil)
theorem gN_step {a : Ad} {σ : L2.St} {v : V} (h0 : σ[0]? = some (some v)) (i : Nat) (H : Hp) (Q : VK) (hq : ∀ H' r, Same H H' → RN a v H' i r → Q r H') : gN a i σ H Q := by
  refine ⟨v, h0, v, rfl, fun d x hd hx hne => ?_⟩
  refine hq _ (.ref x) (same_put (same_new hd) hx) ⟨x, rfl, d, upd_same, ?_⟩
  rw [upd_ne hne.symm]
  exact upd_same
def RE (a : Ad) (v : V) (H : Hp) (i : Nat) (r : V) : Prop := ∃ p x, r = .ref p ∧ H p = some (.lst [.ref x, .int (wy i)]) ∧ Err a H v i x
theorem RE.mono {a : Ad} {v : V} : ∀ H H' i r, RE a v H i r → Same H H' → RE a v H' i r := fun H H' i r ⟨p, x, e, e2, h⟩ s => ⟨p, x, e, s _ _ e2, h.same s⟩
def gE (a : Ad) (i : Nat) : TE := tLst (tCons (gN a i) (tCons (tC (V.int (wy i))) tNil))
theorem gE_step {a : Ad} {σ : L2.St} {v : V} (h0 : σ[0]? = some (some v)) (i : Nat) (H : Hp) (Q : VK) (hq : ∀ H' r, Same H H' → RE a v H' i r → Q r H') : gE a i σ H Q := by
  unfold gE tLst tCons
  refine gN_step (a := a) h0 i H _ fun H1 r s1 h => ?_
  obtain ⟨x, e, h⟩ := h
  subst e
  refine ⟨le_line (show 2 ≤ 100000 by decide), fun p np => ?_⟩
  have s2 := same_new (o := .lst [.ref x, .int (wy i)]) np
  exact hq _ _ (fun b o e => s2 b o (s1 b o e)) ⟨p, x, rfl, upd_same, h.same s2⟩
def sp_Lnamed (a : Ad) : Sp := fun vs H Q _ => ∃ v, vs = [v] ∧ ∀ (H' : Hp) (l : Addr) (xs : List V), Same H H' → H l = none → H' l = some (.lst xs) → LR (RN a v) H' 18 xs → Q (.ref l) H'
theorem ok_Lnamed (T : Txt K mg a) : FnOk P w K mg base CX0 1 a.f_Lnamed a.d_Lnamed ["_law_one"] (sp_Lnamed a) := by
  refine T.F_Lnamed.ok sc_Lnamed (fun vs H Q E h => ?_) (fun cdv A outer s H vs Q E hr h => ?_)
  · obtain ⟨v, rfl, _⟩ := h
    rfl
  · obtain ⟨v, rfl, q⟩ := h
    refine ⟨_, (pss_cons (ps_set (i := 1) sc_Lnamed.nd rfl (Or.inl rfl) (pe_lst (pa_cons (pe_mkK_value T.e_InvalidWord hr (pk_cons (pv 0) pk_nil) (by rfl)) (pa_cons (pe_mkK_value T.e_InvalidProgram hr (pk_cons (pv 0) pk_nil) (by rfl)) (pa_cons (pe_mkK_value T.e_InvalidCore hr (pk_cons (pv 0) pk_nil) (by rfl)) (pa_cons (pe_mkK_index T.e_InvalidEffect hr (pk_cons (pv 0) pk_nil) (by rfl)) pa_nil))))))
      (pss_cons (ps_set (i := 1) sc_Lnamed.nd rfl (Or.inl rfl) (pe_op op_cat (pv 1) (pe_lst (pa_cons (pe_mkK_value T.e_InvalidExchange hr (pk_cons (pv 0) pk_nil) (by rfl)) (pa_cons (pe_mkK_value T.e_InvalidNumber hr (pk_cons (pv 0) pk_nil) (by rfl)) (pa_cons (pe_mkK_index T.e_InvalidSet hr (pk_cons (pv 0) pk_nil) (by rfl)) pa_nil))))))
      (pss_cons (ps_set (i := 1) sc_Lnamed.nd rfl (Or.inl rfl) (pe_op op_cat (pv 1) (pe_lst (pa_cons (pe_mkK_name T.e_InvalidNetwork hr (pk_cons (pv 0) pk_nil) (by rfl)) (pa_cons (pe_mkK_index T.e_InvalidPrograms hr (pk_cons (pv 0) pk_nil) (by rfl)) (pa_cons (pe_mkK_index T.e_InvalidObservations hr (pk_cons (pv 0) pk_nil) (by rfl)) pa_nil))))))
      (pss_cons (ps_set (i := 1) sc_Lnamed.nd rfl (Or.inl rfl) (pe_op op_cat (pv 1) (pe_lst (pa_cons (pe_mkK_value T.e_ParseError hr (pk_cons (pv 0) pk_nil) (by rfl)) (pa_cons (pe_mkK_value T.e_InvalidCommand hr (pk_cons (pv 0) pk_nil) (by rfl)) (pa_cons (pe_mkK_value T.e_InvalidPosition hr (pk_cons (pv 0) pk_nil) (by rfl)) (pa_cons (pe_mkK_item T.e_Missing hr (pk_cons (pv 0) pk_nil) (by rfl)) pa_nil)))))))
      (pss_one (ps_ret (pe_op op_cat (pv 1) (pe_lst (pa_cons (pe_mkK_name T.e_UnknownName hr (pk_cons (pv 0) pk_nil) (by rfl)) (pa_cons (pe_mkK_limit T.e_LimitExceeded hr (pk_cons (pv 0) pk_nil) (by rfl)) (pa_cons (pe_mkK_index T.e_Failed hr (pk_cons (pv 0) pk_nil) (by rfl)) (pa_cons (pe_mkK_count T.e_NothingToUndo hr (pk_cons (pv 0) pk_nil) (by rfl)) pa_nil)))))))))))), ?_⟩
    show tSeq (tAsg (tLst (tL (gN a) 0 4)) (gName 1)) (tSeq (tAsg (tOp rCat (tVar 1) (tLst (tL (gN a) 4 3))) (gName 1)) (tSeq (tAsg (tOp rCat (tVar 1) (tLst (tL (gN a) 7 3))) (gName 1)) (tSeq (tAsg (tOp rCat (tVar 1) (tLst (tL (gN a) 10 4))) (gName 1)) (tRet (tOp rCat (tVar 1) (tLst (tL (gN a) 14 4))))))) _ _ _
    refine asg_new RN.mono 4 (by decide) (H0 := H) (fun _ _ e => e) (fun i H Q _ _ => gN_step (v := v) rfl i H Q) fun H1 p1 x1 s1 n1 e1 L1 => ?_
    refine asg_cat RN.mono 4 3 (by decide) (by decide) rfl e1 L1 (H0 := H) s1 (fun i H Q _ _ => gN_step (v := v) rfl i H Q) fun H2 p2 x2 s2 n2 e2 L2 => ?_
    refine asg_cat RN.mono 7 3 (by decide) (by decide) rfl e2 L2 (H0 := H) (s1.trans s2) (fun i H Q _ _ => gN_step (v := v) rfl i H Q) fun H3 p3 x3 s3 n3 e3 L3 => ?_
    refine asg_cat RN.mono 10 4 (by decide) (by decide) rfl e3 L3 (H0 := H) ((s1.trans s2).trans s3) (fun i H Q _ _ => gN_step (v := v) rfl i H Q) fun H4 p4 x4 s4 n4 e4 L4 => ?_
    refine ret_cat RN.mono 14 4 (by decide) (by decide) rfl e4 L4 (H0 := H) (((s1.trans s2).trans s3).trans s4) (fun i H Q _ _ => gN_step (v := v) rfl i H Q) fun H5 p5 x5 s5 n5 e5 L5 => ?_
    have sz : Same H H4 := ((s1.trans s2).trans s3).trans s4
    exact q H5 p5 x5 (sz.trans s5) (sz.free n5) e5 L5
def sp_Lerrors (a : Ad) : Sp := fun vs H Q _ => ∃ v, vs = [v] ∧ ∀ (H' : Hp) (l : Addr) (xs : List V), Same H H' → H l = none → H' l = some (.lst xs) → LR (RE a v) H' 18 xs → Q (.ref l) H'
theorem ok_Lerrors (T : Txt K mg a) : FnOk P w K mg base CX0 1 a.f_Lerrors a.d_Lerrors ["_law_one"] (sp_Lerrors a) := by
  refine T.F_Lerrors.ok sc_Lerrors (fun vs H Q E h => ?_) (fun cdv A outer s H vs Q E hr h => ?_)
  · obtain ⟨v, rfl, _⟩ := h
    rfl
  · obtain ⟨v, rfl, q⟩ := h
    refine ⟨_, (pss_cons (ps_set (i := 1) sc_Lerrors.nd rfl (Or.inl rfl) (pe_lst (pa_cons (pe_lst (pa_cons (pe_mkV_value T.e_InvalidWord hr (pa_cons (pv 0) pa_nil) (by rfl)) (pa_cons pe_int pa_nil))) (pa_cons (pe_lst (pa_cons (pe_mkV_value T.e_InvalidProgram hr (pa_cons (pv 0) pa_nil) (by rfl)) (pa_cons pe_int pa_nil))) (pa_cons (pe_lst (pa_cons (pe_mkV_value T.e_InvalidCore hr (pa_cons (pv 0) pa_nil) (by rfl)) (pa_cons pe_int pa_nil))) (pa_cons (pe_lst (pa_cons (pe_mkV_index T.e_InvalidEffect hr (pa_cons (pv 0) pa_nil) (by rfl)) (pa_cons pe_int pa_nil))) pa_nil))))))
      (pss_cons (ps_set (i := 1) sc_Lerrors.nd rfl (Or.inl rfl) (pe_op op_cat (pv 1) (pe_lst (pa_cons (pe_lst (pa_cons (pe_mkV_value T.e_InvalidExchange hr (pa_cons (pv 0) pa_nil) (by rfl)) (pa_cons pe_int pa_nil))) (pa_cons (pe_lst (pa_cons (pe_mkV_value T.e_InvalidNumber hr (pa_cons (pv 0) pa_nil) (by rfl)) (pa_cons pe_int pa_nil))) (pa_cons (pe_lst (pa_cons (pe_mkV_index T.e_InvalidSet hr (pa_cons (pv 0) pa_nil) (by rfl)) (pa_cons pe_int pa_nil))) pa_nil))))))
      (pss_cons (ps_set (i := 1) sc_Lerrors.nd rfl (Or.inl rfl) (pe_op op_cat (pv 1) (pe_lst (pa_cons (pe_lst (pa_cons (pe_mkV_name T.e_InvalidNetwork hr (pa_cons (pv 0) pa_nil) (by rfl)) (pa_cons pe_int pa_nil))) (pa_cons (pe_lst (pa_cons (pe_mkV_index T.e_InvalidPrograms hr (pa_cons (pv 0) pa_nil) (by rfl)) (pa_cons pe_int pa_nil))) (pa_cons (pe_lst (pa_cons (pe_mkV_index T.e_InvalidObservations hr (pa_cons (pv 0) pa_nil) (by rfl)) (pa_cons pe_int pa_nil))) pa_nil))))))
      (pss_cons (ps_set (i := 1) sc_Lerrors.nd rfl (Or.inl rfl) (pe_op op_cat (pv 1) (pe_lst (pa_cons (pe_lst (pa_cons (pe_mkV_value T.e_ParseError hr (pa_cons (pv 0) pa_nil) (by rfl)) (pa_cons pe_int pa_nil))) (pa_cons (pe_lst (pa_cons (pe_mkV_value T.e_InvalidCommand hr (pa_cons (pv 0) pa_nil) (by rfl)) (pa_cons pe_int pa_nil))) (pa_cons (pe_lst (pa_cons (pe_mkV_value T.e_InvalidPosition hr (pa_cons (pv 0) pa_nil) (by rfl)) (pa_cons pe_int pa_nil))) (pa_cons (pe_lst (pa_cons (pe_mkV_item T.e_Missing hr (pa_cons (pv 0) pa_nil) (by rfl)) (pa_cons pe_int pa_nil))) pa_nil)))))))
      (pss_cons (ps_set (i := 1) sc_Lerrors.nd rfl (Or.inl rfl) (pe_op op_cat (pv 1) (pe_lst (pa_cons (pe_lst (pa_cons (pe_mkV_name T.e_UnknownName hr (pa_cons (pv 0) pa_nil) (by rfl)) (pa_cons pe_int pa_nil))) (pa_cons (pe_lst (pa_cons (pe_mkV_limit T.e_LimitExceeded hr (pa_cons (pv 0) pa_nil) (by rfl)) (pa_cons pe_int pa_nil))) (pa_cons (pe_lst (pa_cons (pe_mkV_index T.e_Failed hr (pa_cons (pv 0) pa_nil) (by rfl)) (pa_cons pe_int pa_nil))) (pa_cons (pe_lst (pa_cons (pe_mkV_count T.e_NothingToUndo hr (pa_cons (pv 0) pa_nil) (by rfl)) (pa_cons pe_int pa_nil))) pa_nil)))))))
      (pss_one (ps_ret (pv 1)))))))), ?_⟩
    show tSeq (tAsg (tLst (tL (gE a) 0 4)) (gName 1)) (tSeq (tAsg (tOp rCat (tVar 1) (tLst (tL (gE a) 4 3))) (gName 1)) (tSeq (tAsg (tOp rCat (tVar 1) (tLst (tL (gE a) 7 3))) (gName 1)) (tSeq (tAsg (tOp rCat (tVar 1) (tLst (tL (gE a) 10 4))) (gName 1)) (tSeq (tAsg (tOp rCat (tVar 1) (tLst (tL (gE a) 14 4))) (gName 1)) (tRet (tVar 1)))))) _ _ _
    refine asg_new RE.mono 4 (by decide) (H0 := H) (fun _ _ e => e) (fun i H Q _ _ => gE_step (v := v) rfl i H Q) fun H1 p1 x1 s1 n1 e1 L1 => ?_
    refine asg_cat RE.mono 4 3 (by decide) (by decide) rfl e1 L1 (H0 := H) s1 (fun i H Q _ _ => gE_step (v := v) rfl i H Q) fun H2 p2 x2 s2 n2 e2 L2 => ?_
    refine asg_cat RE.mono 7 3 (by decide) (by decide) rfl e2 L2 (H0 := H) (s1.trans s2) (fun i H Q _ _ => gE_step (v := v) rfl i H Q) fun H3 p3 x3 s3 n3 e3 L3 => ?_
    refine asg_cat RE.mono 10 4 (by decide) (by decide) rfl e3 L3 (H0 := H) ((s1.trans s2).trans s3) (fun i H Q _ _ => gE_step (v := v) rfl i H Q) fun H4 p4 x4 s4 n4 e4 L4 => ?_
    refine asg_cat RE.mono 14 4 (by decide) (by decide) rfl e4 L4 (H0 := H) (((s1.trans s2).trans s3).trans s4) (fun i H Q _ _ => gE_step (v := v) rfl i H Q) fun H5 p5 x5 s5 n5 e5 L5 => ?_
    have sz : Same H H4 := ((s1.trans s2).trans s3).trans s4
    refine ⟨_, rfl, ?_⟩
    exact q H5 p5 x5 (sz.trans s5) (sz.free n5) e5 L5
end
end E5

set_option Elab.async false
set_option linter.all false
set_option maxRecDepth 100000
set_option maxHeartbeats 400000
namespace E5
open PySem PySem.Spec PyProof.Rows L2 Own Exn
def uA (a : Ad) : Nat → Value
  | 0 => .ref a.C_LeakError | 1 => .type "ValueError" | 2 => .type "IndexError" | 3 => .type "LookupError" | 4 => .type "KeyError" | 5 => .type "OverflowError" | 6 => .type "RuntimeError" | 7 => .type "TypeError" | j + 8 => .ref (cA a j)
def rowOf (i : Nat) : List Nat := if i < 12 then [0, 1] else if i = 12 then [2, 3] else if i = 13 then [3] else if i = 14 then [3, 4] else if i = 15 then [5] else [6]
def bt (i j : Nat) : Bool := if j < 8 then (rowOf i).contains j else j == i + 8
def tabB (K : PySem.W.Frag) (a : Ad) : Bool := (List.range 18).all fun i => (List.range 26).all fun j => decide (PySem.W.kitOne K (.ref (cA a i)) (uA a j) = some (bt i j))

/-- the facts of the heads -/
structure Hd (K : PySem.W.Frag) (a : Ad) : Prop where
  tab : tabB K a = true
  hn : PySem.W.specialIn K (.builtin "object.__class__") "__get__" = some (some (.builtin "getset_descriptor.__get__"))
  hk : PySem.W.takesIn K (.builtin "object.__class__") = some true
theorem Hd.one {K : PySem.W.Frag} {a : Ad} (h : Hd K a) {i j : Nat} (hi : i < 18) (hj : j < 26) : PySem.W.kitOne K (.ref (cA a i)) (uA a j) = some (bt i j) := by
  have t := h.tab
  unfold tabB at t
  rw [List.all_eq_true] at t
  have t2 := t i (List.mem_range.mpr hi)
  rw [List.all_eq_true] at t2
  exact of_decide_eq_true (t2 j (List.mem_range.mpr hj))
theorem xvA {K : PySem.W.Frag} {mg : Str → Option Value} {a : Ad} (T : Txt K mg a) (h : Hd K a) : ∀ i : Nat, i < 18 → Xv K (cA a i) ∧ PySem.W.findIn K (.ref (cA a i)) (fw (wy i)) = some none
  | 0, _ => xv_of T.h_InvalidWord h.hn h.hk
  | 1, _ => xv_of T.h_InvalidProgram h.hn h.hk
  | 2, _ => xv_of T.h_InvalidCore h.hn h.hk
  | 3, _ => xv_of T.h_InvalidEffect h.hn h.hk
  | 4, _ => xv_of T.h_InvalidExchange h.hn h.hk
  | 5, _ => xv_of T.h_InvalidNumber h.hn h.hk
  | 6, _ => xv_of T.h_InvalidSet h.hn h.hk
  | 7, _ => xv_of T.h_InvalidNetwork h.hn h.hk
  | 8, _ => xv_of T.h_InvalidPrograms h.hn h.hk
  | 9, _ => xv_of T.h_InvalidObservations h.hn h.hk
  | 10, _ => xv_of T.h_ParseError h.hn h.hk
  | 11, _ => xv_of T.h_InvalidCommand h.hn h.hk
  | 12, _ => xv_of T.h_InvalidPosition h.hn h.hk
  | 13, _ => xv_of T.h_Missing h.hn h.hk
  | 14, _ => xv_of T.h_UnknownName h.hn h.hk
  | 15, _ => xv_of T.h_LimitExceeded h.hn h.hk
  | 16, _ => xv_of T.h_Failed h.hn h.hk
  | 17, _ => xv_of T.h_NothingToUndo h.hn h.hk
  | n + 18, q => absurd q (by omega)
section
variable {P : Program} {w : World} {K : PySem.W.Frag} {mg : Str → Option Value} {base : Heap} {a : Ad}
theorem lk1 {f : Str} {v : V} : List.lookup f [(f, v)] = some v := by simp [List.lookup]
def sp_Lfield (a : Ad) : Sp := fun vs H Q _ => ∃ v x i, vs = [.ref x, .int (wy i)] ∧ i < 18 ∧ Err a H v i x ∧ Q v H
theorem ok_Lfield (T : Txt K mg a) (h : Hd K a) : FnOk P w K mg base CX0 1 a.f_Lfield a.d_Lfield ["_law_error", "_law_way"] (sp_Lfield a) := by
  refine T.F_Lfield.ok sc_Lfield (fun vs H Q E h => ?_) (fun cdv A outer s H vs Q E hr hh => ?_)
  · obtain ⟨v, x, i, rfl, _⟩ := h
    rfl
  · obtain ⟨v, x, i, rfl, hi, hE, q⟩ := hh
    obtain ⟨T1, T2⟩ := xvA T h i hi
    refine ⟨_, (pss_cons (ps_if (pt_cmpR op_eq (pv 1) pe_int (nomark _))
        (pss_one (ps_ret (pe_attrV (pv 0))))
        pss_nil)
      (pss_cons (ps_if (pt_cmpR op_eq (pv 1) pe_int (nomark _))
        (pss_one (ps_ret (pe_attrV (pv 0))))
        pss_nil)
      (pss_cons (ps_if (pt_cmpR op_eq (pv 1) pe_int (nomark _))
        (pss_one (ps_ret (pe_attrV (pv 0))))
        pss_nil)
      (pss_cons (ps_if (pt_cmpR op_eq (pv 1) pe_int (nomark _))
        (pss_one (ps_ret (pe_attrV (pv 0))))
        pss_nil)
      (pss_cons (ps_if (pt_cmpR op_eq (pv 1) pe_int (nomark _))
        (pss_one (ps_ret (pe_attrV (pv 0))))
        pss_nil)
      (pss_one (ps_ret (pe_attrV (pv 0))))))))), ?_⟩
    obtain ⟨d, h1, h2⟩ := hE
    have hw : wy i = 0 ∨ wy i = 1 ∨ wy i = 2 ∨ wy i = 3 ∨ wy i = 4 ∨ wy i = 5 := by
      have : ∀ i : Fin 18, wy i = 0 ∨ wy i = 1 ∨ wy i = 2 ∨ wy i = 3 ∨ wy i = 4 ∨ wy i = 5 := by decide +kernel
      exact this ⟨i, hi⟩
    generalize wy i = ww at *
    rcases hw with rfl | rfl | rfl | rfl | rfl | rfl
    · refine ⟨_, rfl, rfl, true, by decide +kernel, iteT ?_⟩
      exact ⟨_, rfl, x, _, d, _, v, rfl, h1, h2, lk1, T1, T2, q⟩
    · refine ⟨_, rfl, rfl, false, by decide +kernel, iteF ?_⟩
      refine ⟨_, rfl, rfl, true, by decide +kernel, iteT ?_⟩
      exact ⟨_, rfl, x, _, d, _, v, rfl, h1, h2, lk1, T1, T2, q⟩
    · refine ⟨_, rfl, rfl, false, by decide +kernel, iteF ?_⟩
      refine ⟨_, rfl, rfl, false, by decide +kernel, iteF ?_⟩
      refine ⟨_, rfl, rfl, true, by decide +kernel, iteT ?_⟩
      exact ⟨_, rfl, x, _, d, _, v, rfl, h1, h2, lk1, T1, T2, q⟩
    · refine ⟨_, rfl, rfl, false, by decide +kernel, iteF ?_⟩
      refine ⟨_, rfl, rfl, false, by decide +kernel, iteF ?_⟩
      refine ⟨_, rfl, rfl, false, by decide +kernel, iteF ?_⟩
      refine ⟨_, rfl, rfl, true, by decide +kernel, iteT ?_⟩
      exact ⟨_, rfl, x, _, d, _, v, rfl, h1, h2, lk1, T1, T2, q⟩
    · refine ⟨_, rfl, rfl, false, by decide +kernel, iteF ?_⟩
      refine ⟨_, rfl, rfl, false, by decide +kernel, iteF ?_⟩
      refine ⟨_, rfl, rfl, false, by decide +kernel, iteF ?_⟩
      refine ⟨_, rfl, rfl, false, by decide +kernel, iteF ?_⟩
      refine ⟨_, rfl, rfl, true, by decide +kernel, iteT ?_⟩
      exact ⟨_, rfl, x, _, d, _, v, rfl, h1, h2, lk1, T1, T2, q⟩
    · refine ⟨_, rfl, rfl, false, by decide +kernel, iteF ?_⟩
      refine ⟨_, rfl, rfl, false, by decide +kernel, iteF ?_⟩
      refine ⟨_, rfl, rfl, false, by decide +kernel, iteF ?_⟩
      refine ⟨_, rfl, rfl, false, by decide +kernel, iteF ?_⟩
      refine ⟨_, rfl, rfl, false, by decide +kernel, iteF ?_⟩
      exact ⟨_, rfl, x, _, d, _, v, rfl, h1, h2, lk1, T1, T2, q⟩
/-! which classes an error is of -/
def RB (i n : Nat) (_ : Hp) (j : Nat) (r : V) : Prop := r = .bl (bt i (n + j))
theorem RB.mono {i n : Nat} : ∀ H H' j r, RB i n H j r → Same H H' → RB i n H' j r := fun _ _ _ _ h _ => h
def vA (a : Ad) : Nat → V
  | 0 => .ref a.C_LeakError | 1 => .ty "ValueError" | 2 => .ty "IndexError" | 3 => .ty "LookupError" | 4 => .ty "KeyError" | 5 => .ty "OverflowError" | 6 => .ty "RuntimeError" | 7 => .ty "TypeError" | j + 8 => .ref (cA a j)
theorem vA_cls (a : Ad) : ∀ j, ClsV (vA a j) (uA a j)
  | 0 => .own _ | 1 => .ty _ | 2 => .ty _ | 3 => .ty _ | 4 => .ty _ | 5 => .ty _ | 6 => .ty _ | 7 => .ty _ | _ + 8 => .own _
def gB (K : PySem.W.Frag) (a : Ad) (n j : Nat) : TE := tCB (rIsV K) (tCons (tVar 0) (tCons (tC (vA a (n + j))) tNil))
theorem gB_step {σ : L2.St} {v : V} {x : Addr} {i n j : Nat} {H : Hp} (h : Hd K a) (T1 : Xv K (cA a i)) (hi : i < 18) (hj : n + j < 26) (h0 : σ[0]? = some (some (.ref x))) (hE : Err a H v i x) (Q : VK) (hq : ∀ H' r, Same H H' → RB i n H' j r → Q r H') : gB K a n j σ H Q := by
  obtain ⟨d, h1, h2⟩ := hE
  exact ⟨.ref x, h0, x, cA a i, d, _, vA a (n + j), uA a (n + j), bt i (n + j), rfl, vA_cls a _, h1, h2, T1, h.one hi hj, hq H _ (fun _ _ e => e) rfl⟩
def sp_Lbases (a : Ad) : Sp := fun vs H Q _ => ∃ v x i, vs = [.ref x] ∧ i < 18 ∧ Err a H v i x ∧ ∀ (H' : Hp) (l : Addr) (xs : List V), Same H H' → H l = none → H' l = some (.lst xs) → LR (RB i 0) H' 8 xs → Q (.ref l) H'
theorem ok_Lbases (T : Txt K mg a) (h : Hd K a) : FnOk P w K mg base CX0 1 a.f_Lbases a.d_Lbases ["_law_error"] (sp_Lbases a) := by
  refine T.F_Lbases.ok sc_Lbases (fun vs H Q E h => ?_) (fun cdv A outer s H vs Q E hr hh => ?_)
  · obtain ⟨v, x, i, rfl, _⟩ := h
    rfl
  · obtain ⟨v, x, i, rfl, hi, hE, q⟩ := hh
    obtain ⟨T1, T2⟩ := xvA T h i hi
    refine ⟨_, (pss_cons (ps_set (i := 1) sc_Lbases.nd rfl (Or.inl rfl) (pe_lst (pa_cons (pe_callB call_isV (by rfl) T.z_isinstance (by decide +kernel) (pa_cons (pv 0) (pa_cons (pe_glob (v := .ref a.C_LeakError) (by rfl) T.g_LeakError rfl) pa_nil))) (pa_cons (pe_callB call_isV (by rfl) T.z_isinstance (by decide +kernel) (pa_cons (pv 0) (pa_cons (pe_bltn (v := .ty "ValueError") (by rfl) T.z_ValueError (by decide +kernel) rfl) pa_nil))) (pa_cons (pe_callB call_isV (by rfl) T.z_isinstance (by decide +kernel) (pa_cons (pv 0) (pa_cons (pe_bltn (v := .ty "IndexError") (by rfl) T.z_IndexError (by decide +kernel) rfl) pa_nil))) pa_nil)))))
      (pss_cons (ps_set (i := 1) sc_Lbases.nd rfl (Or.inl rfl) (pe_op op_cat (pv 1) (pe_lst (pa_cons (pe_callB call_isV (by rfl) T.z_isinstance (by decide +kernel) (pa_cons (pv 0) (pa_cons (pe_bltn (v := .ty "LookupError") (by rfl) T.z_LookupError (by decide +kernel) rfl) pa_nil))) (pa_cons (pe_callB call_isV (by rfl) T.z_isinstance (by decide +kernel) (pa_cons (pv 0) (pa_cons (pe_bltn (v := .ty "KeyError") (by rfl) T.z_KeyError (by decide +kernel) rfl) pa_nil))) (pa_cons (pe_callB call_isV (by rfl) T.z_isinstance (by decide +kernel) (pa_cons (pv 0) (pa_cons (pe_bltn (v := .ty "OverflowError") (by rfl) T.z_OverflowError (by decide +kernel) rfl) pa_nil))) pa_nil))))))
      (pss_one (ps_ret (pe_op op_cat (pv 1) (pe_lst (pa_cons (pe_callB call_isV (by rfl) T.z_isinstance (by decide +kernel) (pa_cons (pv 0) (pa_cons (pe_bltn (v := .ty "RuntimeError") (by rfl) T.z_RuntimeError (by decide +kernel) rfl) pa_nil))) (pa_cons (pe_callB call_isV (by rfl) T.z_isinstance (by decide +kernel) (pa_cons (pv 0) (pa_cons (pe_bltn (v := .ty "TypeError") (by rfl) T.z_TypeError (by decide +kernel) rfl) pa_nil))) pa_nil)))))))), ?_⟩
    show tSeq (tAsg (tLst (tL (gB K a 0) 0 3)) (gName 1)) (tSeq (tAsg (tOp rCat (tVar 1) (tLst (tL (gB K a 0) 3 3))) (gName 1)) (tRet (tOp rCat (tVar 1) (tLst (tL (gB K a 0) 6 2))))) _ _ _
    refine asg_new RB.mono 3 (by decide) (H0 := H) (fun _ _ e => e) (fun j H1 Q hj s0 => gB_step h T1 hi (by omega) rfl (hE.same s0) Q) fun H1 p1 x1 s1 n1 e1 L1 => ?_
    refine asg_cat RB.mono 3 3 (by decide) (by decide) rfl e1 L1 (H0 := H) s1 (fun j H1 Q hj s0 => gB_step h T1 hi (by omega) rfl (hE.same s0) Q) fun H2 p2 x2 s2 n2 e2 L2 => ?_
    refine ret_cat RB.mono 6 2 (by decide) (by decide) rfl e2 L2 (H0 := H) (s1.trans s2) (fun j H1 Q hj s0 => gB_step h T1 hi (by omega) rfl (hE.same s0) Q) fun H3 p3 x3 s3 n3 e3 L3 => ?_
    exact q H3 p3 x3 ((s1.trans s2).trans s3) ((s1.trans s2).free n3) e3 L3
def sp_Lclasses (a : Ad) : Sp := fun vs H Q _ => ∃ v x i, vs = [.ref x] ∧ i < 18 ∧ Err a H v i x ∧ ∀ (H' : Hp) (l : Addr) (xs : List V), Same H H' → H l = none → H' l = some (.lst xs) → LR (RB i 8) H' 18 xs → Q (.ref l) H'
theorem ok_Lclasses (T : Txt K mg a) (h : Hd K a) : FnOk P w K mg base CX0 1 a.f_Lclasses a.d_Lclasses ["_law_error"] (sp_Lclasses a) := by
  refine T.F_Lclasses.ok sc_Lclasses (fun vs H Q E h => ?_) (fun cdv A outer s H vs Q E hr hh => ?_)
  · obtain ⟨v, x, i, rfl, _⟩ := h
    rfl
  · obtain ⟨v, x, i, rfl, hi, hE, q⟩ := hh
    obtain ⟨T1, T2⟩ := xvA T h i hi
    refine ⟨_, (pss_cons (ps_set (i := 1) sc_Lclasses.nd rfl (Or.inl rfl) (pe_lst (pa_cons (pe_callB call_isV (by rfl) T.z_isinstance (by decide +kernel) (pa_cons (pv 0) (pa_cons (pe_glob (v := .ref a.C_InvalidWord) (by rfl) T.e_InvalidWord.gC rfl) pa_nil))) (pa_cons (pe_callB call_isV (by rfl) T.z_isinstance (by decide +kernel) (pa_cons (pv 0) (pa_cons (pe_glob (v := .ref a.C_InvalidProgram) (by rfl) T.e_InvalidProgram.gC rfl) pa_nil))) (pa_cons (pe_callB call_isV (by rfl) T.z_isinstance (by decide +kernel) (pa_cons (pv 0) (pa_cons (pe_glob (v := .ref a.C_InvalidCore) (by rfl) T.e_InvalidCore.gC rfl) pa_nil))) pa_nil)))))
      (pss_cons (ps_set (i := 1) sc_Lclasses.nd rfl (Or.inl rfl) (pe_op op_cat (pv 1) (pe_lst (pa_cons (pe_callB call_isV (by rfl) T.z_isinstance (by decide +kernel) (pa_cons (pv 0) (pa_cons (pe_glob (v := .ref a.C_InvalidEffect) (by rfl) T.e_InvalidEffect.gC rfl) pa_nil))) (pa_cons (pe_callB call_isV (by rfl) T.z_isinstance (by decide +kernel) (pa_cons (pv 0) (pa_cons (pe_glob (v := .ref a.C_InvalidExchange) (by rfl) T.e_InvalidExchange.gC rfl) pa_nil))) pa_nil)))))
      (pss_cons (ps_set (i := 1) sc_Lclasses.nd rfl (Or.inl rfl) (pe_op op_cat (pv 1) (pe_lst (pa_cons (pe_callB call_isV (by rfl) T.z_isinstance (by decide +kernel) (pa_cons (pv 0) (pa_cons (pe_glob (v := .ref a.C_InvalidNumber) (by rfl) T.e_InvalidNumber.gC rfl) pa_nil))) (pa_cons (pe_callB call_isV (by rfl) T.z_isinstance (by decide +kernel) (pa_cons (pv 0) (pa_cons (pe_glob (v := .ref a.C_InvalidSet) (by rfl) T.e_InvalidSet.gC rfl) pa_nil))) (pa_cons (pe_callB call_isV (by rfl) T.z_isinstance (by decide +kernel) (pa_cons (pv 0) (pa_cons (pe_glob (v := .ref a.C_InvalidNetwork) (by rfl) T.e_InvalidNetwork.gC rfl) pa_nil))) pa_nil))))))
      (pss_cons (ps_set (i := 1) sc_Lclasses.nd rfl (Or.inl rfl) (pe_op op_cat (pv 1) (pe_lst (pa_cons (pe_callB call_isV (by rfl) T.z_isinstance (by decide +kernel) (pa_cons (pv 0) (pa_cons (pe_glob (v := .ref a.C_InvalidPrograms) (by rfl) T.e_InvalidPrograms.gC rfl) pa_nil))) (pa_cons (pe_callB call_isV (by rfl) T.z_isinstance (by decide +kernel) (pa_cons (pv 0) (pa_cons (pe_glob (v := .ref a.C_InvalidObservations) (by rfl) T.e_InvalidObservations.gC rfl) pa_nil))) pa_nil)))))
      (pss_cons (ps_set (i := 1) sc_Lclasses.nd rfl (Or.inl rfl) (pe_op op_cat (pv 1) (pe_lst (pa_cons (pe_callB call_isV (by rfl) T.z_isinstance (by decide +kernel) (pa_cons (pv 0) (pa_cons (pe_glob (v := .ref a.C_ParseError) (by rfl) T.e_ParseError.gC rfl) pa_nil))) (pa_cons (pe_callB call_isV (by rfl) T.z_isinstance (by decide +kernel) (pa_cons (pv 0) (pa_cons (pe_glob (v := .ref a.C_InvalidCommand) (by rfl) T.e_InvalidCommand.gC rfl) pa_nil))) pa_nil)))))
      (pss_cons (ps_set (i := 1) sc_Lclasses.nd rfl (Or.inl rfl) (pe_op op_cat (pv 1) (pe_lst (pa_cons (pe_callB call_isV (by rfl) T.z_isinstance (by decide +kernel) (pa_cons (pv 0) (pa_cons (pe_glob (v := .ref a.C_InvalidPosition) (by rfl) T.e_InvalidPosition.gC rfl) pa_nil))) (pa_cons (pe_callB call_isV (by rfl) T.z_isinstance (by decide +kernel) (pa_cons (pv 0) (pa_cons (pe_glob (v := .ref a.C_Missing) (by rfl) T.e_Missing.gC rfl) pa_nil))) (pa_cons (pe_callB call_isV (by rfl) T.z_isinstance (by decide +kernel) (pa_cons (pv 0) (pa_cons (pe_glob (v := .ref a.C_UnknownName) (by rfl) T.e_UnknownName.gC rfl) pa_nil))) pa_nil))))))
      (pss_cons (ps_set (i := 1) sc_Lclasses.nd rfl (Or.inl rfl) (pe_op op_cat (pv 1) (pe_lst (pa_cons (pe_callB call_isV (by rfl) T.z_isinstance (by decide +kernel) (pa_cons (pv 0) (pa_cons (pe_glob (v := .ref a.C_LimitExceeded) (by rfl) T.e_LimitExceeded.gC rfl) pa_nil))) pa_nil))))
      (pss_one (ps_ret (pe_op op_cat (pv 1) (pe_lst (pa_cons (pe_callB call_isV (by rfl) T.z_isinstance (by decide +kernel) (pa_cons (pv 0) (pa_cons (pe_glob (v := .ref a.C_Failed) (by rfl) T.e_Failed.gC rfl) pa_nil))) (pa_cons (pe_callB call_isV (by rfl) T.z_isinstance (by decide +kernel) (pa_cons (pv 0) (pa_cons (pe_glob (v := .ref a.C_NothingToUndo) (by rfl) T.e_NothingToUndo.gC rfl) pa_nil))) pa_nil))))))))))))), ?_⟩
    show tSeq (tAsg (tLst (tL (gB K a 8) 0 3)) (gName 1)) (tSeq (tAsg (tOp rCat (tVar 1) (tLst (tL (gB K a 8) 3 2))) (gName 1)) (tSeq (tAsg (tOp rCat (tVar 1) (tLst (tL (gB K a 8) 5 3))) (gName 1)) (tSeq (tAsg (tOp rCat (tVar 1) (tLst (tL (gB K a 8) 8 2))) (gName 1)) (tSeq (tAsg (tOp rCat (tVar 1) (tLst (tL (gB K a 8) 10 2))) (gName 1))
      (tSeq (tAsg (tOp rCat (tVar 1) (tLst (tL (gB K a 8) 12 3))) (gName 1)) (tSeq (tAsg (tOp rCat (tVar 1) (tLst (tL (gB K a 8) 15 1))) (gName 1)) (tRet (tOp rCat (tVar 1) (tLst (tL (gB K a 8) 16 2)))))))))) _ _ _
    refine asg_new RB.mono 3 (by decide) (H0 := H) (fun _ _ e => e) (fun j H1 Q hj s0 => gB_step h T1 hi (by omega) rfl (hE.same s0) Q) fun H1 p1 x1 z1 n1 e1 L1 => ?_
    refine asg_cat RB.mono 3 2 (by decide) (by decide) rfl e1 L1 (H0 := H) z1 (fun j H1 Q hj s0 => gB_step h T1 hi (by omega) rfl (hE.same s0) Q) fun H2 p2 x2 s2 n2 e2 L2 => ?_
    have z2 := z1.trans s2
    refine asg_cat RB.mono 5 3 (by decide) (by decide) rfl e2 L2 (H0 := H) z2 (fun j H1 Q hj s0 => gB_step h T1 hi (by omega) rfl (hE.same s0) Q) fun H3 p3 x3 s3 n3 e3 L3 => ?_
    have z3 := z2.trans s3
    refine asg_cat RB.mono 8 2 (by decide) (by decide) rfl e3 L3 (H0 := H) z3 (fun j H1 Q hj s0 => gB_step h T1 hi (by omega) rfl (hE.same s0) Q) fun H4 p4 x4 s4 n4 e4 L4 => ?_
    have z4 := z3.trans s4
    refine asg_cat RB.mono 10 2 (by decide) (by decide) rfl e4 L4 (H0 := H) z4 (fun j H1 Q hj s0 => gB_step h T1 hi (by omega) rfl (hE.same s0) Q) fun H5 p5 x5 s5 n5 e5 L5 => ?_
    have z5 := z4.trans s5
    refine asg_cat RB.mono 12 3 (by decide) (by decide) rfl e5 L5 (H0 := H) z5 (fun j H1 Q hj s0 => gB_step h T1 hi (by omega) rfl (hE.same s0) Q) fun H6 p6 x6 s6 n6 e6 L6 => ?_
    have z6 := z5.trans s6
    refine asg_cat RB.mono 15 1 (by decide) (by decide) rfl e6 L6 (H0 := H) z6 (fun j H1 Q hj s0 => gB_step h T1 hi (by omega) rfl (hE.same s0) Q) fun H7 p7 x7 s7 n7 e7 L7 => ?_
    have z7 := z6.trans s7
    refine ret_cat RB.mono 16 2 (by decide) (by decide) rfl e7 L7 (H0 := H) z7 (fun j H1 Q hj s0 => gB_step h T1 hi (by omega) rfl (hE.same s0) Q) fun H8 p8 x8 s8 n8 e8 L8 => ?_
    exact q H8 p8 x8 (z7.trans s8) (z7.free n8) e8 L8
end
end E5

set_option Elab.async false
set_option linter.all false
set_option maxRecDepth 100000
set_option maxHeartbeats 400000
namespace E5
open PySem PySem.Spec PyProof.Rows L2 Own Exn
def rowV (i : Nat) : List V := (rowOf i).map fun (n : Nat) => V.int n
def tInts : List Nat → TA
  | [] => tNil
  | n :: l => tCons (tC (V.int n)) (tInts l)
theorem tInts_run {σ : L2.St} {H : Hp} : ∀ (l : List Nat) (Q : List V → Hp → Prop), Q (l.map fun (n : Nat) => V.int n) H → tInts l σ H Q
  | [], Q, h => h
  | n :: l, Q, h => tInts_run l (fun xs H2 => Q (V.int n :: xs) H2) h
def gR (j : Nat) : TE := tLst (tInts (rowOf (12 + j)))
def RR (H : Hp) (j : Nat) (r : V) : Prop := ∃ p, r = .ref p ∧ H p = some (.lst (rowV (12 + j)))
theorem RR.mono : ∀ H H' j r, RR H j r → Same H H' → RR H' j r := fun H H' j r ⟨p, e, h⟩ s => ⟨p, e, s _ _ h⟩
theorem row_len (i : Nat) : (rowV i).length ≤ 2 := by
  unfold rowV rowOf
  rw [List.length_map]
  split
  · decide
  split
  · decide
  split
  · decide
  split
  · decide
  split <;> decide
theorem gR_step {σ : L2.St} {H : Hp} (j : Nat) (Q : VK) (hq : ∀ H' r, Same H H' → RR H' j r → Q r H') : gR j σ H Q := by
  unfold gR tLst
  refine tInts_run _ _ ⟨le_line (by have := row_len (12 + j); unfold rowV at this; omega), fun p np => ?_⟩
  exact hq _ _ (same_new np) ⟨p, rfl, upd_same⟩
theorem in_row : ∀ (i : Fin 18) (j : Fin 8), inV (.int (0 + (j.val : Int))) (rowV i.val) = bt i.val j.val := by decide +kernel
theorem row_flat : ∀ (i : Fin 18), (rowV i.val).all flatV = true := by decide +kernel
def RW (H : Hp) (i : Nat) (r : V) : Prop := ∃ p, r = .ref p ∧ H p = some (.lst (rowV i))
theorem RW.mono : ∀ H H' j r, RW H j r → Same H H' → RW H' j r := fun H H' j r ⟨p, e, h⟩ s => ⟨p, e, s _ _ h⟩
theorem row_low {i : Nat} (h : i < 12) : rowV i = rowV 0 := by
  unfold rowV rowOf
  rw [if_pos h, if_pos (by decide)]
theorem row1 {σ : L2.St} {H : Hp} {Q : VK} (hq : ∀ r0 l0 : Addr, H r0 = none → (upd H r0 (.lst ((rowOf 0).map fun (n : Nat) => V.int n))) l0 = none → Q (.ref l0) (upd (upd H r0 (.lst ((rowOf 0).map fun (n : Nat) => V.int n))) l0 (.lst [.ref r0]))) : tLst (tCons (tLst (tInts (rowOf 0))) tNil) σ H Q := by
  unfold tLst tCons
  exact tInts_run _ _ ⟨le_line (by decide), fun r0 n0 => ⟨le_line (show 1 ≤ 100000 by decide), fun l0 nl0 => hq r0 l0 n0 nl0⟩⟩
theorem rows_run {σ : L2.St} {H : Hp} {Q : VK} (hq : ∀ (H' : Hp) (l : Addr) (xs : List V), Same H H' → H l = none → H' l = some (.lst xs) → LR RW H' 18 xs → Q (.ref l) H') :
    tOp rCat (tOp rRep (tLst (tCons (tLst (tInts (rowOf 0))) tNil)) (tC (.int 12))) (tLst (tL gR 0 6)) σ H Q := by
  unfold tOp
  refine row1 fun r0 l0 n0 nl0 => ?_
  refine ⟨l0, 12, [.ref r0], rfl, rfl, upd_same, by decide, by decide, le_line (show 1 * 12 ≤ 100000 by decide), fun l1 nl1 => ?_⟩
  have z0 := (same_new (o := .lst ((rowOf 0).map fun (n : Nat) => V.int n)) n0).trans ((same_new (o := .lst [.ref r0]) nl0).trans (same_new (o := .lst (List.replicate (12 : Int).toNat [V.ref r0]).flatten) nl1))
  refine fnd_new RR.mono 0 6 (by decide) (H0 := H) z0 (fun j H1 Q hj s0 => gR_step j Q) fun H2 l2 x2 s2 n2 e2 k2 h2 => ?_
  have z2 := z0.trans s2
  have f1 : H2 l1 = some (.lst (List.replicate 12 (V.ref r0))) := s2 _ _ upd_same
  have f0 : H2 r0 = some (.lst (rowV 0)) := s2 _ _ ((same_new nl1) _ _ ((same_new nl0) _ _ upd_same))
  refine ⟨l1, l2, _, _, rfl, rfl, f1, e2, le_line (by rw [k2, List.length_replicate]; decide), fun l3 n3 => ?_⟩
  have s3 := same_new (o := .lst (List.replicate 12 (V.ref r0) ++ x2)) n3
  have A : LR RW H2 12 (List.replicate 12 (V.ref r0)) := by
    refine ⟨List.length_replicate, fun i r e => ?_⟩
    have hi : i < 12 := by
      rcases Nat.lt_or_ge i 12 with k | k
      · exact k
      · rw [List.getElem?_eq_none (by rw [List.length_replicate]; exact k)] at e; cases e
    rw [List.getElem?_replicate_of_lt hi] at e
    cases e
    exact ⟨r0, rfl, by rw [row_low hi]; exact f0⟩
  refine hq _ l3 _ (z2.trans s3) (z2.free n3) upd_same (LR.same RW.mono (LR.cat A k2 fun j r e => ?_) s3)
  obtain ⟨p, e1, e3⟩ := h2 j r e
  exact ⟨p, e1, by rw [Nat.zero_add] at e3; exact e3⟩
theorem lt_of_get {α : Type} {xs : List α} {n i : Nat} (hl : xs.length = n) (hi : i < n) : ∃ r, xs[i]? = some r := ⟨xs[i]'(by omega), List.getElem?_eq_getElem (by omega)⟩
section
variable {P : Program} {w : World} {K : PySem.W.Frag} {mg : Str → Option Value} {base : Heap} {a : Ad}
def sp_Ldue : Sp := fun vs H Q _ => ∃ i : Nat, vs = [.int i] ∧ i < 18 ∧ ∀ (H' : Hp) (l : Addr) (xs : List V), Same H H' → H l = none → H' l = some (.lst xs) → LR (RB i 0) H' 8 xs → Q (.ref l) H'
theorem ok_Ldue (T : Txt K mg a) : FnOk P w K mg base CX0 1 a.f_Ldue a.d_Ldue ["_law_place"] sp_Ldue := by
  refine T.F_Ldue.ok sc_Ldue (fun vs H Q E h => ?_) (fun cdv A outer s H vs Q E hr h => ?_)
  · obtain ⟨i, rfl, _⟩ := h
    rfl
  · obtain ⟨i, rfl, hi, q⟩ := h
    refine ⟨_, (pss_cons (ps_set (i := 1) sc_Ldue.nd rfl (Or.inr rfl) (pe_op op_cat (pe_op op_rep (pe_lst (pa_cons (pe_lst (pa_cons pe_int (pa_cons pe_int pa_nil))) pa_nil)) pe_int) (pe_lst (pa_cons (pe_lst (pa_cons pe_int (pa_cons pe_int pa_nil))) (pa_cons (pe_lst (pa_cons pe_int pa_nil)) (pa_cons (pe_lst (pa_cons pe_int (pa_cons pe_int pa_nil))) (pa_cons (pe_lst (pa_cons pe_int pa_nil)) (pa_cons (pe_lst (pa_cons pe_int pa_nil)) (pa_cons (pe_lst (pa_cons pe_int pa_nil)) pa_nil)))))))))
      (pss_one (ps_ret (pe_lc (own := [("_law_number", 2)]) (g := gName 2) (by rfl) sc_Ldue.nd (pi_range1 (by rfl) T.z_range (pa_cons pe_int pa_nil)) (blkOk_by (own := [("_law_number", 2)]) (N := N_Ldue) (sc := defScope s_Ldue) (by decide +kernel)) (fun _ _ _ _ _ => pg_name (i := 2) sc_Ldue.nd rfl (Or.inl rfl)) (fun _ _ _ _ _ => pts_nil) (fun _ _ _ _ _ => (pe_cmpR (show OpR _ _ (rIn K false) from op_in_seq) (pv 2) (pe_ix (show IxR _ (rIxL K) from ix_list) (pv 1) (pv 0) (fun _ _ => rfl)) (by rfl))))))), ?_⟩
    show tSeq (tAsg (tOp rCat (tOp rRep (tLst (tCons (tLst (tInts (rowOf 0))) tNil)) (tC (.int 12))) (tLst (tL gR 0 6))) (gName 1)) _ _ _ _
    unfold tSeq tAsg
    refine rows_run fun H1 l1 x1 s1 n1 e1 L1 => ?_
    refine ⟨8, rfl, by omega, by omega, fun D hD => ?_⟩
    have nD : H D = none := s1.free hD
    refine lc_it walk_range (fun j H3 => ∃ acc : List V, Same H1 H3 ∧ H3 D = some (.lst acc) ∧ LR (RB i 0) H3 j acc) ?_ (fun _ _ _ _ => trivial) ?_ ?_
    · exact ⟨[], same_new hD, upd_same, rfl, fun j r e => by simp at e⟩
    · rintro j x H3 H4 hj ⟨acc, s3, eD, la⟩ ⟨rfl, rfl⟩
      obtain ⟨r, hr1⟩ := lt_of_get L1.1 hi
      obtain ⟨p, rfl, hp⟩ := L1.2 i r hr1
      have hj8 : j < 8 := hj
      refine ⟨rfl, .int (0 + j), rfl, .ref l1, rfl, .int i, rfl, l1, x1, i, .ref p, rfl, rfl, SqL.of (s3 _ _ e1), atI_nat (j := i) hr1, ?_⟩
      refine ⟨p, rowV i, rfl, .inl (SqL.of (s3 _ _ hp)), rfl, row_flat ⟨i, hi⟩, acc, eD, lt_line (by rw [la.1]; omega), acc ++ [.bl (inV (.int (0 + j)) (rowV i))], same_put s3 hD, upd_same, ?_⟩
      exact LR.cat (k := 1) ⟨la.1, la.2⟩ rfl fun k r e => by
        match k, e with
        | 0, e => cases e; exact congrArg V.bl ((in_row ⟨i, hi⟩ ⟨j, hj8⟩).trans (by rw [Nat.zero_add, Nat.add_zero]))
        | k + 1, e => simp at e
    · rintro H3 ⟨acc, s3, eD, la⟩
      exact q H3 D acc (s1.trans s3) nD eD la
end
end E5

set_option Elab.async false
set_option linter.all false
set_option maxRecDepth 100000
set_option maxHeartbeats 400000
namespace E5
open PySem PySem.Spec PyProof.Rows L2 Own Exn
/-! what stands but for one object -/
def But (p : Addr) (H H' : Hp) : Prop := ∀ b o, b ≠ p → H b = some o → H' b = some o
theorem But.trans {p : Addr} {H H1 H2 : Hp} (x : But p H H1) (y : But p H1 H2) : But p H H2 := fun b o n e => y b o n (x b o n e)
theorem But.refl {p : Addr} {H : Hp} : But p H H := fun _ _ _ e => e
theorem But.put {p : Addr} {H H1 : Hp} {o : HO} (x : But p H H1) : But p H (upd H1 p o) := fun b u n e => by rw [upd_ne n]; exact x b u n e
theorem But.new {p q : Addr} {H H1 : Hp} {o : HO} (x : But p H H1) (h : H q = none) : But p H (upd H1 q o) := fun b u n e => by
  rw [upd_ne (ne_of_none e h)]
  exact x b u n e
theorem But.same {p : Addr} {H H1 H2 : Hp} (s : Same H H1) (hp : H p = none) (x : But p H1 H2) : Same H H2 := fun b o e => x b o (ne_of_none e hp) (s b o e)
/-! the ten values -/
def ten (t l d : Addr) : List V := [.non, .bl true, .int (-1), .int 0, .str "aB", .str "", .ref t, .ref l, .ref d, .int (10 ^ (20 : Int).toNat)]
structure Ten (H : Hp) (t l d : Addr) : Prop where
  ht : H t = some (.tup [.int 1, .int 2])
  hl : H l = some (.lst [.int 3])
  hd : H d = some (.dK [])
def Vl (H : Hp) (v : V) : Prop := ∃ t l d, Ten H t l d ∧ v ∈ ten t l d
theorem Ten.same {H H' : Hp} {t l d : Addr} (h : Ten H t l d) (s : Same H H') : Ten H' t l d := ⟨s _ _ h.ht, s _ _ h.hl, s _ _ h.hd⟩
theorem Vl.same {H H' : Hp} {v : V} (h : Vl H v) (s : Same H H') : Vl H' v := by
  obtain ⟨t, l, d, h1, h2⟩ := h
  exact ⟨t, l, d, h1.same s, h2⟩
theorem Vl.repr {K : PySem.W.Frag} {H : Hp} {v : V} (h : Vl H v) : ∃ z : Str, ∀ H', Same H H' → ∀ Q : VK, Q (.str z) H' → rReprR K [v] H' Q := by
  obtain ⟨t, l, d, h1, h2⟩ := h
  have flat : ∀ y : PyData, y.showable = true → y.hasDict = false → y.depth ≤ 60 → y.shown.length ≤ 100000 → (∀ H', Same H H' → Dp K H' v y) → ∃ z : Str, ∀ H', Same H H' → ∀ Q : VK, Q (.str z) H' → rReprR K [v] H' Q :=
    fun y a1 a2 a3 a4 a5 => ⟨y.shown, fun H' s Q q => .inl ⟨v, y, rfl, a5 H' s, a1, a2, a3, le_line a4, q⟩⟩
  unfold ten at h2
  simp only [List.mem_cons, List.not_mem_nil, or_false] at h2
  rcases h2 with rfl | rfl | rfl | rfl | rfl | rfl | rfl | rfl | rfl | rfl
  · exact flat .none (by decide +kernel) (by decide +kernel) (by decide +kernel) (by decide +kernel) fun _ _ => .non
  · exact flat (.bool true) (by decide +kernel) (by decide +kernel) (by decide +kernel) (by decide +kernel) fun _ _ => .bl _
  · exact flat (.int _) (by decide +kernel) (by decide +kernel) (by decide +kernel) (by decide +kernel) fun _ _ => .int _
  · exact flat (.int _) (by decide +kernel) (by decide +kernel) (by decide +kernel) (by decide +kernel) fun _ _ => .int _
  · exact flat (.str _) (by decide +kernel) (by decide +kernel) (by decide +kernel) (by decide +kernel) fun _ _ => .str _
  · exact flat (.str _) (by decide +kernel) (by decide +kernel) (by decide +kernel) (by decide +kernel) fun _ _ => .str _
  · exact flat (.tuple [.int 1, .int 2]) (by decide +kernel) (by decide +kernel) (by decide +kernel) (by decide +kernel) fun _ s => .tup (SqT.of (s _ _ h1.ht)) (.cons (.int _) (.cons (.int _) .nil))
  · exact flat (.list [.int 3]) (by decide +kernel) (by decide +kernel) (by decide +kernel) (by decide +kernel) fun _ s => .lst (SqL.of (s _ _ h1.hl)) (.cons (.int _) .nil)
  · exact ⟨"{}", fun H' s Q q => .inr ⟨d, rfl, s _ _ h1.hd, q⟩⟩
  · exact flat (.int _) (by decide +kernel) (by decide +kernel) (by decide +kernel) (by decide +kernel) fun _ _ => .int _
section
variable {P : Program} {w : World} {K : PySem.W.Frag} {mg : Str → Option Value} {base : Heap} {a : Ad}
def sp_Lvalues : Sp := fun vs H Q _ => ∃ p : Addr, vs = [.ref p] ∧ Pool H p ∧ ∀ (H' : Hp) (l : Addr) (xs : List V), But p H H' → H l = none → H' l = some (.lst xs) → xs.length = 3 → (∀ x ∈ xs, Vl H' x) → Q (.ref l) H'
theorem ok_Lvalues (T : Txt K mg a) : FnOk P w K mg base CX0 2 a.f_Lvalues a.d_Lvalues ["_law_pool_here"] sp_Lvalues := by
  have G_Ltake := ok_Ltake (P := P) (w := w) (base := base) T
  refine T.F_Lvalues.ok sc_Lvalues (fun vs H Q E h => ?_) (fun cdv A outer s H vs Q E hr h => ?_)
  · obtain ⟨p, rfl, _⟩ := h
    rfl
  · obtain ⟨p, rfl, hP, q⟩ := h
    refine ⟨_, (pss_cons (ps_set (i := 1) sc_Lvalues.nd rfl (Or.inr rfl) (pe_lst (pa_cons pe_non (pa_cons pe_bl (pa_cons (pe_un un_neg pe_int) (pa_cons pe_int (pa_cons pe_str (pa_cons pe_str (pa_cons (pe_tup (pa_cons pe_int (pa_cons pe_int pa_nil))) (pa_cons (pe_lst (pa_cons pe_int pa_nil)) (pa_cons pe_dnewK (pa_cons (pe_op op_pow pe_int pe_int) pa_nil))))))))))))
      (pss_one (ps_ret (pe_lc (own := [("_law_turn", 2)]) (g := gName 2) (by rfl) sc_Lvalues.nd (pi_range1 (by rfl) T.z_range (pa_cons pe_int pa_nil)) (blkOk_by (own := [("_law_turn", 2)]) (N := N_Lvalues) (sc := defScope s_Lvalues) (by decide +kernel)) (fun _ _ _ _ _ => pg_name (i := 2) sc_Lvalues.nd rfl (Or.inl rfl)) (fun _ _ _ _ _ => pts_nil) (fun _ _ _ _ _ => (pe_ix (show IxR _ (rIxL K) from ix_list) (pv 1) (pe_call G_Ltake (hr.mono (by decide)) (by rfl) T.g_Ltake T.F_Ltake.kp T.b_Ltake .nil pass0 (pa_cons (pv 0) (pa_cons pe_int pa_nil))) (fun _ _ => rfl))))))), ?_⟩
    refine ⟨1, rfl, le_line (by decide), fun t nt => ⟨le_line (by decide), fun l nl d nd => ⟨10, 20, rfl, rfl, ⟨by decide, by decide, by decide⟩, le_line (show 10 ≤ 100000 by decide), fun S nS => ?_⟩⟩⟩
    have t1 := same_new (o := .tup [.int 1, .int 2]) nt
    have t2 := t1.trans (same_new (o := .lst [.int 3]) nl)
    have t3 := t2.trans (same_new (o := .dK []) nd)
    have t4 := t3.trans (same_new (o := .lst (ten t l d)) nS)
    have X0 : Ten (upd (upd (upd H t (.tup [.int 1, .int 2])) l (.lst [.int 3])) d (.dK [])) t l d := ⟨(same_new nd) _ _ ((same_new nl) _ _ upd_same), (same_new nd) _ _ upd_same, upd_same⟩
    have X1 := X0.same (same_new (o := .lst (ten t l d)) nS)
    have n1 : H t = none := nt
    have n2 : H l = none := t1.free nl
    have n3 : H d = none := t2.free nd
    have n4 : H S = none := t3.free nS
    have hp : H p ≠ none := by obtain ⟨n, m, e, _⟩ := hP; rw [e]; exact nofun
    have pt : t ≠ p := fun e => hp (e ▸ n1)
    have pl : l ≠ p := fun e => hp (e ▸ n2)
    have pd : d ≠ p := fun e => hp (e ▸ n3)
    have pS : S ≠ p := fun e => hp (e ▸ n4)
    have hS : (upd (upd (upd (upd H t (.tup [.int 1, .int 2])) l (.lst [.int 3])) d (.dK [])) S (.lst (ten t l d))) S = some (.lst (ten t l d)) := upd_same
    have hP1 : Pool (upd (upd (upd (upd H t (.tup [.int 1, .int 2])) l (.lst [.int 3])) d (.dK [])) S (.lst (ten t l d))) p := by
      obtain ⟨n, m, e, h⟩ := hP
      exact ⟨n, m, t4 _ _ e, h⟩
    refine ⟨3, rfl, by omega, by omega, fun D hD => ?_⟩
    have nD : H D = none := t4.free hD
    have pD : D ≠ p := fun e => hp (e ▸ nD)
    refine lc_it walk_range (fun i H3 => ∃ acc : List V, Pool H3 p ∧ But p H H3 ∧ Ten H3 t l d ∧ H3 S = some (.lst (ten t l d)) ∧ H3 D = some (.lst acc) ∧ acc.length = i ∧ ∀ x ∈ acc, x ∈ ten t l d) ?_ (fun _ _ _ _ => trivial) ?_ ?_
    · refine ⟨[], ?_, fun b o _ e => (same_new hD) _ _ (t4 _ _ e), X1.same (same_new hD), (same_new hD) _ _ hS, upd_same, rfl, fun x hx => by cases hx⟩
      obtain ⟨n, m, e, h⟩ := hP1
      exact ⟨n, m, (same_new hD) _ _ e, h⟩
    · rintro i x H3 H4 hi ⟨acc, hP3, b3, x3, e3, eD, la, hc⟩ ⟨rfl, rfl⟩
      have hi3 : i < 3 := hi
      have dS : S ≠ D := ne_of_none hS hD
      have dt : t ≠ D := ne_of_none X1.ht hD
      have dl : l ≠ D := ne_of_none X1.hl hD
      have dd : d ≠ D := ne_of_none X1.hd hD
      refine ⟨rfl, .ref S, rfl, .ref p, rfl, p, 10, rfl, hP3, by decide, by decide, fun n2 m2 e g1 g2 g3 g4 g5 => ?_⟩
      obtain ⟨j, rfl⟩ : ∃ j : Nat, e = j := ⟨e.toNat, by omega⟩
      obtain ⟨r, hr1⟩ := lt_of_get (xs := ten t l d) (n := 10) rfl (show j < 10 by omega)
      refine ⟨S, ten t l d, j, r, rfl, rfl, SqL.of (by rw [upd_ne pS]; exact e3), atI_nat (j := j) hr1, acc, by rw [upd_ne pD]; exact eD, lt_line (by omega), acc ++ [r], ?_⟩
      refine ⟨⟨n2, m2, by rw [upd_ne pD.symm, upd_same], g1, g2, g3⟩, b3.put.new nD, ⟨?_, ?_, ?_⟩, ?_, upd_same, by rw [List.length_append, la]; rfl, ?_⟩
      · rw [upd_ne dt, upd_ne pt]; exact x3.ht
      · rw [upd_ne dl, upd_ne pl]; exact x3.hl
      · rw [upd_ne dd, upd_ne pd]; exact x3.hd
      · rw [upd_ne dS, upd_ne pS]; exact e3
      · intro y hy
        rcases List.mem_append.mp hy with h | h
        · exact hc y h
        · rw [List.mem_singleton.mp h]; exact List.mem_of_getElem? hr1
    · rintro H3 ⟨acc, hP3, b3, x3, e3, eD, la, hc⟩
      exact q H3 D acc b3 nD eD la fun x hx => ⟨t, l, d, x3, hc x hx⟩
end
end E5

set_option Elab.async false
set_option linter.all false
set_option maxRecDepth 100000
set_option maxHeartbeats 400000
namespace E5
open PySem PySem.Spec PyProof.Rows L2 Own Exn
def bV (i n k : Nat) : List V := (List.range' 0 k).map fun j => V.bl (bt i (n + j))
def bD (i n k : Nat) : PyData := .list ((List.range' 0 k).map fun j => .bool (bt i (n + j)))
theorem lr_b {i n k : Nat} {H : Hp} {xs : List V} (h : LR (RB i n) H k xs) : xs = bV i n k := by
  apply List.ext_getElem?
  intro j
  by_cases hj : j < k
  · obtain ⟨r, hr⟩ := lt_of_get h.1 hj
    rw [hr, h.2 j r hr]
    unfold bV
    rw [List.getElem?_map, List.getElem?_range' (by exact hj)]
    simp
  · rw [List.getElem?_eq_none (by rw [h.1]; omega), List.getElem?_eq_none (by unfold bV; rw [List.length_map, List.length_range']; omega)]
theorem dpa_b {K : PySem.W.Frag} {H : Hp} {i n : Nat} : ∀ l : List Nat, DpAll K H (l.map fun j => V.bl (bt i (n + j))) (l.map fun j => PyData.bool (bt i (n + j)))
  | [] => .nil
  | _ :: l => .cons (.bl _) (dpa_b l)
theorem dp_b {K : PySem.W.Frag} {H H' : Hp} {i n k : Nat} {l : Addr} {xs : List V} (e : H l = some (.lst xs)) (h : LR (RB i n) H' k xs) : Dp K H (.ref l) (bD i n k) := by
  have := lr_b h
  subst this
  exact .lst (SqL.of e) (dpa_b _)
theorem sh_b8 : ∀ i : Fin 18, SeqAt.shaped (bD i.val 0 8) = true ∧ PyData.eqv (bD i.val 0 8) (bD i.val 0 8) = true := by decide +kernel
theorem sh_b18 : ∀ i : Fin 18, SeqAt.shaped (bD i.val 8 18) = true ∧ PyData.eqv (bD i.val 8 18) (bD i.val 8 18) = true := by decide +kernel
def sp_law (K : PySem.W.Frag) : Sp := fun vs H Q _ => ∃ (s : Addr) (ns : List Int), vs = [.ref s] ∧ SqL K H s (ns.map V.int) ∧ ns.length ≤ 63 ∧ ∀ H', Q (.bl true) H'
section
variable {P : Program} {w : World} {K : PySem.W.Frag} {mg : Str → Option Value} {base : Heap} {a : Ad}
theorem ok_law (T : Txt K mg a) (h : Hd K a) : FnG P w K mg base CX0 3 a.f_law a.d_law ["_law_script"] (sp_law K) := by
  have G_Lpool := ok_Lpool (P := P) (w := w) (base := base) T
  have G_Lvalues := ok_Lvalues (P := P) (w := w) (base := base) T
  have G_Lerrors := ok_Lerrors (P := P) (w := w) (base := base) T
  have G_Lnamed := ok_Lnamed (P := P) (w := w) (base := base) T
  have G_Lfield := ok_Lfield (P := P) (w := w) (base := base) T h
  have G_Lbases := ok_Lbases (P := P) (w := w) (base := base) T h
  have G_Lclasses := ok_Lclasses (P := P) (w := w) (base := base) T h
  have G_Ldue := ok_Ldue (P := P) (w := w) (base := base) T
  refine Fun_okG T.F_law sc_law (fun vs H Q E h => ?_) (fun cdv A outer s H vs Q E hg hr hh => ?_)
  · obtain ⟨s, ns, rfl, _⟩ := h
    rfl
  · obtain ⟨sc, ns, rfl, hS, hns, q⟩ := hh
    refine ⟨_, (pss_cons (ps_for PassesOwn.never rfl (pi_range1 (by rfl) T.z_range (pa_cons (pe_callB (call_max2 rfl) (by rfl) T.z_max (by decide +kernel) (pa_cons pe_int (pa_cons (pe_callB (call_min2 rfl) (by rfl) T.z_min (by decide +kernel) (pa_cons pe_int (pa_cons (pe_callB call_len_seq (by rfl) T.z_len (by decide +kernel) (pa_cons (pv 0) pa_nil)) pa_nil))) pa_nil))) pa_nil)) (pg_name (i := 1) sc_law.nd rfl (Or.inl rfl))
        (pss_one (ps_for PassesOwn.never rfl (pi_list (pe_call G_Lvalues (hr.mono (by decide)) (by rfl) T.g_Lvalues T.F_Lvalues.kp T.b_Lvalues .nil pass0 (pa_cons (pe_call G_Lpool (hr.mono (by decide)) (by rfl) T.g_Lpool T.F_Lpool.kp T.b_Lpool .nil pass0 (pa_cons (pv 0) (pa_cons (pv 1) pa_nil))) pa_nil))) (pg_name (i := 2) sc_law.nd rfl (Or.inl rfl))
          (pss_cons (ps_par (i := 3) (j := 4) (by rfl) sc_law.nd rfl rfl (by decide) rfl rfl (pa_cons (pe_call G_Lerrors (hr.mono (by decide)) (by rfl) T.g_Lerrors T.F_Lerrors.kp T.b_Lerrors .nil pass0 (pa_cons (pv 2) pa_nil)) (pa_cons (pe_call G_Lnamed (hr.mono (by decide)) (by rfl) T.g_Lnamed T.F_Lnamed.kp T.b_Lnamed .nil pass0 (pa_cons (pv 2) pa_nil)) pa_nil)) (by rfl))
          (pss_one (ps_for PassesOwn.never rfl (pi_range1 (by rfl) T.z_range (pa_cons pe_int pa_nil)) (pg_name (i := 5) sc_law.nd rfl (Or.inr rfl))
            (pss_cons (ps_asg (pe_ix ix_list (pv 3) (pv 5) (fun _ _ => rfl)) (pg_unl rfl (pgs_cons (pg_name (i := 6) sc_law.nd rfl (Or.inl rfl)) (pgs_cons (pg_name (i := 7) sc_law.nd rfl (Or.inl rfl)) pgs_nil))))
            (pss_cons (ps_if (PW.pt (pw_or (pt_cmpR op_ne (pe_callB (call_reprR hg hr) (by rfl) T.z_repr (by decide +kernel) (pa_cons (pe_call G_Lfield (hr.mono (by decide)) (by rfl) T.g_Lfield T.F_Lfield.kp T.b_Lfield .nil pass0 (pa_cons (pv 6) (pa_cons (pv 7) pa_nil))) pa_nil)) (pe_callB (call_reprR hg hr) (by rfl) T.z_repr (by decide +kernel) (pa_cons (pv 2) pa_nil)) (nomark _)) (pw_or1 (pt_cmpR op_ne (pe_callB (call_reprR hg hr) (by rfl) T.z_repr (by decide +kernel) (pa_cons (pe_call G_Lfield (hr.mono (by decide)) (by rfl) T.g_Lfield T.F_Lfield.kp T.b_Lfield .nil pass0 (pa_cons (pe_ix ix_list (pv 4) (pv 5) (fun _ _ => rfl)) (pa_cons (pv 7) pa_nil))) pa_nil)) (pe_callB (call_reprR hg hr) (by rfl) T.z_repr (by decide +kernel) (pa_cons (pv 2) pa_nil)) (nomark _)))))
              (pss_one (ps_ret pe_bl))
              pss_nil)
            (pss_cons (ps_if (PW.pt (pw_or (pt_cmpR (op_neD hr.units) (pe_call G_Lbases (hr.mono (by decide)) (by rfl) T.g_Lbases T.F_Lbases.kp T.b_Lbases .nil pass0 (pa_cons (pv 6) pa_nil)) (pe_call G_Ldue (hr.mono (by decide)) (by rfl) T.g_Ldue T.F_Ldue.kp T.b_Ldue .nil pass0 (pa_cons (pv 5) pa_nil)) (nomark _)) (pw_or1 (pt_cmpR (op_neD hr.units) (pe_call G_Lbases (hr.mono (by decide)) (by rfl) T.g_Lbases T.F_Lbases.kp T.b_Lbases .nil pass0 (pa_cons (pe_ix ix_list (pv 4) (pv 5) (fun _ _ => rfl)) pa_nil)) (pe_call G_Ldue (hr.mono (by decide)) (by rfl) T.g_Ldue T.F_Ldue.kp T.b_Ldue .nil pass0 (pa_cons (pv 5) pa_nil)) (nomark _)))))
              (pss_one (ps_ret pe_bl))
              pss_nil)
            (pss_one (ps_if (pt_cmpR (op_neD hr.units) (pe_call G_Lclasses (hr.mono (by decide)) (by rfl) T.g_Lclasses T.F_Lclasses.kp T.b_Lclasses .nil pass0 (pa_cons (pv 6) pa_nil)) (pe_lc (own := [("_law_number", 9)]) (g := gName 9) (by rfl) sc_law.nd (pi_range1 (by rfl) T.z_range (pa_cons pe_int pa_nil)) (blkOk_by (own := [("_law_number", 9)]) (N := N_law) (sc := defScope s_law) (by decide +kernel)) (fun _ _ _ _ _ => pg_name (i := 9) sc_law.nd rfl (Or.inl rfl)) (fun _ _ _ _ _ => pts_nil) (fun _ _ _ _ _ => (pe_cmpR op_eq (pv 9) (pv 5) (nomark _)))) (nomark _))
              (pss_one (ps_ret pe_bl))
              pss_nil)))))))))))
      (pss_cons (ps_set (i := 8) sc_law.nd rfl (Or.inl rfl) (pe_lst (pa_cons pe_int pa_nil)))
      (pss_cons (ps_set (i := 6) sc_law.nd rfl (Or.inl rfl) (pe_mkV_value T.e_InvalidWord hr (pa_cons (pv 8) pa_nil) (by rfl)))
      (pss_cons (ps_expr (pe_bm PySem.F.plainAttrs_list PySem.F.slot_list_append PySem.F.type_list_append mt_append (pv 8) (pa_cons pe_int pa_nil)))
      (pss_one (ps_ret (pe_cmpR (op_eqD hr.units) (pe_attrV (pv 6)) (pe_lst (pa_cons pe_int (pa_cons pe_int pa_nil))) (nomark _)))))))), ?_⟩
    refine ⟨.ref sc, rfl, sc, _, rfl, .inl hS, _, _, rfl, _, _, rfl, _, rfl, ?_, ?_, for_it walk_range (fun i σ H3 => ∃ y1 y2 y3 y4 y5 y6 y7 y8 y9 : Option V, σ = [some (.ref sc), y1, y2, y3, y4, y5, y6, y7, y8, y9] ∧ Same H H3) ?_ (fun _ _ _ _ _ => trivial) ?_ ?_⟩
    · split <;> omega
    · rw [List.length_map]
      split
      · split <;> omega
      · omega
    · exact ⟨none, none, none, none, none, none, none, none, none, rfl, Same.refl H⟩
    · rintro i x σ H3 H3' hi ⟨y1, y2, y3, y4, y5, y6, y7, y8, y9, rfl, sm0⟩ ⟨rfl, rfl⟩
      have hi12 : i < 12 := by
        rw [List.length_map] at hi
        split at hi
        · split at hi <;> omega
        · omega
      refine ⟨.ref sc, rfl, .int (0 + (i : Nat)), rfl, sc, 0 + (i : Nat), ns, rfl, sm0.seq hS, by omega, by omega, by omega, fun H1 p sm1 np hP1 => ?_⟩
      refine ⟨p, rfl, hP1, fun H2 l xs b2 nl e2 l3 hv => ?_⟩
      have sm2 : Same H3' H2 := But.same sm1 np b2
      refine ⟨l, rfl, ⟨xs, SqL.of e2⟩, for_it (walk_list (xs := xs)) (fun j σ H6 => ∃ y2 y3 y4 y5 y6 y7 y8 y9 : Option V, σ = [some (.ref sc), some (.int (0 + (i : Nat))), y2, y3, y4, y5, y6, y7, y8, y9] ∧ Same H2 H6) ?_ (fun j σ H6 _ hp => ?_) ?_ ?_⟩
      · exact ⟨y2, y3, y4, y5, y6, y7, y8, y9, rfl, Same.refl _⟩
      · obtain ⟨_, _, _, _, _, _, _, _, _, s6⟩ := hp
        exact SqL.of (s6 _ _ e2)
      · rintro j x σ H6 H6' hj ⟨y2, y3, y4, y5, y6, y7, y8, y9, rfl, s6⟩ ⟨rfl, hxj⟩
        have hx := hv x (List.mem_of_getElem? hxj)
        obtain ⟨z, hz⟩ := (hx.same s6).repr (K := K)
        refine ⟨x, rfl, x, rfl, fun H7 le xe s7 nle ee Le => ?_⟩
        refine ⟨x, rfl, x, rfl, fun H8 ln xn s8 nln en Ln => ?_⟩
        have ee8 := s8 _ _ ee
        have Le8 := Le.same RE.mono s8
        refine ⟨_, _, rfl, 18, rfl, by decide, by decide, for_it walk_range (fun j2 σ H9 => ∃ y5 y6 y7 y8 y9 : Option V, σ = [some (.ref sc), some (.int (0 + (i : Nat))), some x, some (.ref le), some (.ref ln), y5, y6, y7, y8, y9] ∧ Same H8 H9) ?_ (fun _ _ _ _ _ => trivial) ?_ ?_⟩
        · exact ⟨y5, y6, y7, y8, y9, rfl, Same.refl _⟩
        · rintro m x9 σ H9 H9' hm ⟨y5, y6, y7, y8, y9, rfl, s9⟩ ⟨rfl, rfl⟩
          have hm18 : m < 18 := hm
          obtain ⟨r1, hr1⟩ := lt_of_get Le8.1 hm18
          obtain ⟨pe, xx, rfl, hpe, hEe⟩ := Le8.2 m r1 hr1
          obtain ⟨r2, hr2⟩ := lt_of_get Ln.1 hm18
          obtain ⟨xm, rfl, hEn⟩ := Ln.2 m r2 hr2
          have hz9 := fun (Q : VK) (q : Q (.str z) H9') => hz H9' ((s7.trans s8).trans s9) Q q
          have zm : (0 : Int) + (m : Nat) = (m : Nat) := by omega
          have hEe9 := hEe.same s9
          have hEn9 := hEn.same s9
          rw [show (fun i : Nat => V.int (0 + (i : Int))) m = V.int (m : Nat) from congrArg V.int zm]
          refine ⟨.ref le, rfl, .int (m : Nat), rfl, le, xe, (m : Nat), .ref pe, rfl, rfl, SqL.of (s9 _ _ ee8), atI_nat hr1, pe, [.ref xx, .int (wy m)], rfl, SqL.of (s9 _ _ hpe), rfl, _, _, rfl, _, _, rfl, rfl, ?_⟩
          refine ⟨.ref xx, rfl, .int (wy m), rfl, x, xx, m, rfl, hm18, hEe9, hz9 _ ⟨x, rfl, hz9 _ ⟨rfl, _, rfl, iteNS rfl ?_⟩⟩⟩
          refine ⟨.ref ln, rfl, .int (m : Nat), rfl, ln, xn, (m : Nat), .ref xm, rfl, rfl, SqL.of (s9 _ _ en), atI_nat hr2, .int (wy m), rfl, x, xm, m, rfl, hm18, hEn9, hz9 _ ⟨x, rfl, hz9 _ ⟨rfl, _, rfl, iteNS rfl ?_⟩⟩⟩
          -- the bases
          refine ⟨.ref xx, rfl, x, xx, m, rfl, hm18, hEe9, fun H10 lb xb s10 nb eb Lb => ⟨.int (m : Nat), rfl, m, rfl, hm18, fun H11 ld xd s11 nd ed Ld => ?_⟩⟩
          refine ⟨bD m 0 8, bD m 0 8, dp_b (s11 _ _ eb) Lb, dp_b ed Ld, (sh_b8 ⟨m, hm18⟩).1, (sh_b8 ⟨m, hm18⟩).1, _, rfl, ?_⟩
          rw [(sh_b8 ⟨m, hm18⟩).2]
          have z11 := (s9.trans s10).trans s11
          refine iteF ⟨.ref ln, rfl, .int (m : Nat), rfl, ln, xn, (m : Nat), .ref xm, rfl, rfl, SqL.of (z11 _ _ en), atI_nat hr2, x, xm, m, rfl, hm18, hEn.same z11, fun H12 lb xb s12 nb eb Lb => ⟨.int (m : Nat), rfl, m, rfl, hm18, fun H13 ld xd s13 nd ed Ld => ?_⟩⟩
          refine ⟨bD m 0 8, bD m 0 8, dp_b (s13 _ _ eb) Lb, dp_b ed Ld, (sh_b8 ⟨m, hm18⟩).1, (sh_b8 ⟨m, hm18⟩).1, _, rfl, ?_⟩
          rw [(sh_b8 ⟨m, hm18⟩).2]
          have z13 := (z11.trans s12).trans s13
          refine iteF ?_
          -- the classes
          refine ⟨.ref xx, rfl, x, xx, m, rfl, hm18, hEe.same z13, fun H14 lc xc s14 nc ec Lc => ⟨18, rfl, by decide, by decide, fun D hD => ?_⟩⟩
          refine lc_it walk_range (fun k H15 => ∃ acc : List V, Same H14 H15 ∧ H15 D = some (.lst acc) ∧ LR (RB m 8) H15 k acc) ?_ (fun _ _ _ _ => trivial) ?_ ?_
          · exact ⟨[], same_new hD, upd_same, rfl, fun j r e => by simp at e⟩
          · rintro k x15 H15 H16 hk ⟨acc, s15, eD, la⟩ ⟨rfl, rfl⟩
            have hk18 : k < 18 := hk
            refine ⟨rfl, .int (0 + (k : Nat)), rfl, .int (m : Nat), rfl, rfl, acc, eD, lt_line (by rw [la.1]; omega), acc ++ [_], same_put s15 hD, upd_same, ?_⟩
            exact LR.cat (k := 1) ⟨la.1, la.2⟩ rfl fun j r e => by
              match j, e with
              | 0, e =>
                cases e
                show V.bl _ = V.bl _
                congr 1
                rw [show bt m (8 + (k + 0)) = (8 + k == m + 8) from by unfold bt; rw [if_neg (by omega), Nat.add_zero]]
                by_cases e : k = m
                · subst e
                  rw [show (0 : Int) + (k : Nat) = (k : Nat) by omega, decide_eq_true rfl]
                  simp; omega
                · rw [decide_eq_false (fun h => e (by injection h with h; omega))]
                  simp; omega
              | j + 1, e => simp at e
          · rintro H15 ⟨acc, s15, eD, la⟩
            refine ⟨bD m 8 18, bD m 8 18, dp_b (s15 _ _ ec) Lc, dp_b eD la, (sh_b18 ⟨m, hm18⟩).1, (sh_b18 ⟨m, hm18⟩).1, _, rfl, ?_⟩
            rw [(sh_b18 ⟨m, hm18⟩).2]
            exact iteF ⟨_, _, _, _, _, rfl, (z13.trans s14).trans s15⟩
        · rintro σ H9 ⟨y5, y6, y7, y8, y9, rfl, s9⟩
          exact ⟨_, _, _, _, _, _, _, _, rfl, ((s6.trans s7).trans s8).trans s9⟩
      · rintro σ H6 ⟨y2, y3, y4, y5, y6, y7, y8, y9, rfl, s6⟩
        exact ⟨_, _, _, _, _, _, _, _, _, rfl, sm0.trans (sm2.trans s6)⟩
    · rintro σ H3 ⟨y1, y2, y3, y4, y5, y6, y7, y8, y9, rfl, sm0⟩
      refine ⟨le_line (by decide), fun kp nk => ⟨.ref kp, rfl, .ref kp, rfl, fun d x nd nx hne => ?_⟩⟩
      have k1 : (upd H3 kp (.lst [.int 3])) kp = some (.lst [.int 3]) := upd_same
      have k2 := (same_put (o := ExV a.C_InvalidWord d x) (same_new (o := .xd [(("value" : Str), V.ref kp)]) nd) nx) _ _ k1
      refine ⟨.ref kp, rfl, .inl ⟨rfl, _, SqL.of k2⟩, kp, _, _, rfl, rfl, k2, lt_line (by decide), ?_⟩
      obtain ⟨T1, T2⟩ := xvA T h 0 (by decide)
      have nkx : x ≠ kp := (ne_of_none k1 nx).symm
      have nkd : d ≠ kp := (ne_of_none k1 nd).symm
      refine ⟨.ref x, rfl, x, a.C_InvalidWord, d, _, .ref kp, rfl, ?_, ?_, lk1, T1, T2, le_line (by decide), fun r nr => ?_⟩
      · rw [upd_ne nkx, upd_same]
      · rw [upd_ne nkd, upd_ne hne.symm, upd_same]
      refine ⟨.list [.int 3, .int 4], .list [.int 3, .int 4], .lst (SqL.of ((same_new nr) _ _ upd_same)) (.cons (.int _) (.cons (.int _) .nil)), .lst (SqL.of upd_same) (.cons (.int _) (.cons (.int _) .nil)), by decide +kernel, by decide +kernel, ?_⟩
      rw [show PyData.eqv (.list [.int 3, .int 4]) (.list [.int 3, .int 4]) = true from by decide +kernel]
      exact q _
end
end E5

set_option Elab.async false
set_option linter.all false
set_option maxRecDepth 100000
namespace E5
open PySem PySem.Spec PyProof.Rows L2 Own Exn
theorem all_mk {l : PySem.W.OpenLaw} {w : World} {K : PySem.W.Frag} {mg : Str → Option Value} {fa : Addr} {a : Ad} (T : Txt K mg a) (hfa : mg "law" = some (.ref fa)) (ht : tabB K a = true) (hn : PySem.W.specialIn K (.builtin "object.__class__") "__get__" = some (some (.builtin "getset_descriptor.__get__"))) (hk : PySem.W.takesIn K (.builtin "object.__class__") = some true) :
    ∃ fd : FuncData, (∀ (s : Shared) (v : Value), BindsTo s fd ⟨[v], []⟩ [("_law_script", v)]) ∧ ∀ base : Heap, K.In base → base.Ns mainGlobals mg → FnG l.prog w K mg base CX0 3 fa fd ["_law_script"] (sp_law K) := by
  have e := hfa.symm.trans T.g_law
  cases e
  refine ⟨a.d_law, fun s v => ?_, fun base _ _ => ok_law T ⟨ht, hn, hk⟩⟩
  obtain ⟨oc, od, kV, doc, pm, an, cdv, ct, osl, hfd, lk, hcd⟩ := T.F_law.ex
  rw [hfd]
  exact .of_eq rfl
end E5
open PySem PySem.W PyProof.Rows
set_option maxHeartbeats 0 in
theorem PySem.Challenge.cw_leakyqueue_k05_error_classes_holds : PySem.Challenge.rw_leakyqueue_k05_error_classes.Holds := by
  w_on; o_law; k_head; (case hw => w_witness2)
  k_fill
  refine Own.walk_G (l := PySem.Challenge.rw_leakyqueue_k05_error_classes) (n := 63) (k := 3) (x := "_law_script") (CX := fun _ => L2.CX0) (sp := fun w => E5.sp_law _) rfl (by decide) rfl ⟨rfl, by decide, by decide⟩ (fun w h Y => PySem.W.kIn_of Y) ?F (fun _ _ a ns hl _ hS => ⟨a, ns, rfl, hS, hl, fun _ => rfl⟩) (fun _ _ _ _ _ h => h)
  case F =>
    intro w mg fa h KX G hmg
    refine' E5.all_mk (E5.txt_mk KX G ?a1 ?l1 ?c1 ?k1 ?a2 ?l2 ?c2 ?k2 ?a3 ?l3 ?c3 ?k3 ?a4 ?l4 ?c4 ?k4 ?a5 ?l5 ?c5 ?k5 ?a6 ?l6 ?c6 ?k6 ?a7 ?l7 ?c7 ?k7 ?a8 ?l8 ?c8 ?k8 ?a9 ?l9 ?c9 ?k9 ?a10 ?l10 ?c10 ?k10 ?z_max ?z_int ?z_range ?z_isinstance ?z_ValueError ?z_IndexError ?z_LookupError ?z_KeyError ?z_OverflowError ?z_RuntimeError ?z_TypeError ?z_min ?z_len ?z_repr ?n_LeakError ?n_InvalidWord ?i_InvalidWord ?m_InvalidWord ?d_InvalidWord ?h_InvalidWord ?n_InvalidProgram ?i_InvalidProgram ?m_InvalidProgram ?d_InvalidProgram ?h_InvalidProgram ?n_InvalidCore ?i_InvalidCore ?m_InvalidCore ?d_InvalidCore ?h_InvalidCore ?n_InvalidEffect ?i_InvalidEffect ?m_InvalidEffect ?d_InvalidEffect ?h_InvalidEffect ?n_InvalidExchange ?i_InvalidExchange ?m_InvalidExchange ?d_InvalidExchange ?h_InvalidExchange ?n_InvalidNumber ?i_InvalidNumber ?m_InvalidNumber ?d_InvalidNumber ?h_InvalidNumber ?n_InvalidSet ?i_InvalidSet ?m_InvalidSet ?d_InvalidSet ?h_InvalidSet ?n_InvalidNetwork ?i_InvalidNetwork ?m_InvalidNetwork ?d_InvalidNetwork ?h_InvalidNetwork ?n_InvalidPrograms ?i_InvalidPrograms ?m_InvalidPrograms ?d_InvalidPrograms ?h_InvalidPrograms ?n_InvalidObservations ?i_InvalidObservations ?m_InvalidObservations ?d_InvalidObservations ?h_InvalidObservations ?n_ParseError ?i_ParseError ?m_ParseError ?d_ParseError ?h_ParseError ?n_InvalidCommand ?i_InvalidCommand ?m_InvalidCommand ?d_InvalidCommand ?h_InvalidCommand ?n_InvalidPosition ?i_InvalidPosition ?m_InvalidPosition ?d_InvalidPosition ?h_InvalidPosition ?n_Missing ?i_Missing ?m_Missing ?d_Missing ?h_Missing ?n_UnknownName ?i_UnknownName ?m_UnknownName ?d_UnknownName ?h_UnknownName ?n_LimitExceeded ?i_LimitExceeded ?m_LimitExceeded ?d_LimitExceeded ?h_LimitExceeded ?n_Failed ?i_Failed ?m_Failed ?d_Failed ?h_Failed ?n_NothingToUndo ?i_NothingToUndo ?m_NothingToUndo ?d_NothingToUndo ?h_NothingToUndo) hmg ?ht ?hn ?hk
    (case a1 => k_is); (case l1 => k_is); (case c1 => k_is); (case k1 => k_is); (case a2 => k_is); (case l2 => k_is); (case c2 => k_is); (case k2 => k_is); (case a3 => k_is); (case l3 => k_is); (case c3 => k_is); (case k3 => k_is); (case a4 => k_is); (case l4 => k_is); (case c4 => k_is); (case k4 => k_is); (case a5 => k_is); (case l5 => k_is); (case c5 => k_is); (case k5 => k_is); (case a6 => k_is); (case l6 => k_is); (case c6 => k_is); (case k6 => k_is); (case a7 => k_is); (case l7 => k_is); (case c7 => k_is); (case k7 => k_is); (case a8 => k_is); (case l8 => k_is); (case c8 => k_is); (case k8 => k_is); (case a9 => k_is); (case l9 => k_is); (case c9 => k_is); (case k9 => k_is); (case a10 => k_is); (case l10 => k_is); (case c10 => k_is); (case k10 => k_is); (case z_max => k_is); (case z_int => k_is); (case z_range => k_is); (case z_isinstance => k_is); (case z_ValueError => k_is); (case z_IndexError => k_is); (case z_LookupError => k_is); (case z_KeyError => k_is); (case z_OverflowError => k_is); (case z_RuntimeError => k_is); (case z_TypeError => k_is); (case z_min => k_is); (case z_len => k_is); (case z_repr => k_is); (case n_LeakError => k_is); (case n_InvalidWord => k_is); (case i_InvalidWord => k_is); (case m_InvalidWord => k_is); (case d_InvalidWord => k_is); (case h_InvalidWord => kernel_rfl); (case n_InvalidProgram => k_is); (case i_InvalidProgram => k_is); (case m_InvalidProgram => k_is); (case d_InvalidProgram => k_is); (case h_InvalidProgram => kernel_rfl); (case n_InvalidCore => k_is); (case i_InvalidCore => k_is); (case m_InvalidCore => k_is); (case d_InvalidCore => k_is); (case h_InvalidCore => kernel_rfl); (case n_InvalidEffect => k_is); (case i_InvalidEffect => k_is); (case m_InvalidEffect => k_is); (case d_InvalidEffect => k_is); (case h_InvalidEffect => kernel_rfl); (case n_InvalidExchange => k_is); (case i_InvalidExchange => k_is); (case m_InvalidExchange => k_is); (case d_InvalidExchange => k_is); (case h_InvalidExchange => kernel_rfl); (case n_InvalidNumber => k_is); (case i_InvalidNumber => k_is); (case m_InvalidNumber => k_is); (case d_InvalidNumber => k_is); (case h_InvalidNumber => kernel_rfl); (case n_InvalidSet => k_is); (case i_InvalidSet => k_is); (case m_InvalidSet => k_is); (case d_InvalidSet => k_is); (case h_InvalidSet => kernel_rfl); (case n_InvalidNetwork => k_is); (case i_InvalidNetwork => k_is); (case m_InvalidNetwork => k_is); (case d_InvalidNetwork => k_is); (case h_InvalidNetwork => kernel_rfl); (case n_InvalidPrograms => k_is); (case i_InvalidPrograms => k_is); (case m_InvalidPrograms => k_is); (case d_InvalidPrograms => k_is); (case h_InvalidPrograms => kernel_rfl); (case n_InvalidObservations => k_is); (case i_InvalidObservations => k_is); (case m_InvalidObservations => k_is); (case d_InvalidObservations => k_is); (case h_InvalidObservations => kernel_rfl); (case n_ParseError => k_is); (case i_ParseError => k_is); (case m_ParseError => k_is); (case d_ParseError => k_is); (case h_ParseError => kernel_rfl); (case n_InvalidCommand => k_is); (case i_InvalidCommand => k_is); (case m_InvalidCommand => k_is); (case d_InvalidCommand => k_is); (case h_InvalidCommand => kernel_rfl); (case n_InvalidPosition => k_is); (case i_InvalidPosition => k_is); (case m_InvalidPosition => k_is); (case d_InvalidPosition => k_is); (case h_InvalidPosition => kernel_rfl); (case n_Missing => k_is); (case i_Missing => k_is); (case m_Missing => k_is); (case d_Missing => k_is); (case h_Missing => kernel_rfl); (case n_UnknownName => k_is); (case i_UnknownName => k_is); (case m_UnknownName => k_is); (case d_UnknownName => k_is); (case h_UnknownName => kernel_rfl); (case n_LimitExceeded => k_is); (case i_LimitExceeded => k_is); (case m_LimitExceeded => k_is); (case d_LimitExceeded => k_is); (case h_LimitExceeded => kernel_rfl); (case n_Failed => k_is); (case i_Failed => k_is); (case m_Failed => k_is); (case d_Failed => k_is); (case h_Failed => kernel_rfl); (case n_NothingToUndo => k_is); (case i_NothingToUndo => k_is); (case m_NothingToUndo => k_is); (case d_NothingToUndo => k_is); (case h_NothingToUndo => kernel_rfl)
    (case hn => k_is); (case hk => k_is); (case ht => kernel_rfl)
