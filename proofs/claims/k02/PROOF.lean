import PyProof.Rows.All
import Wide.All
import OpenK.AllK
import Wide.FinOn
import HandS.ForMost
import HandS.Conv
import HandS.StrMore
import HandS.IsInst
import HandS.Walk
import KE.DataMinMax
import HandS.ForExc
import HandS.ExcField
import HandS.TryMany
import HandS.ExcValue
import KE.KExcInit
import KE.KExcIs
import HandS.Defaults
import PySem.Challenge.RW_leakyqueue_k02_embeddings
set_option Elab.async false
set_option linter.all false
set_option maxRecDepth 100000
set_option maxHeartbeats 4000000
namespace Own
open PySem PySem.Spec PyProof.Rows L2

section
variable {X : Cx} {k : Nat}
/-! repr of data, where no repr is under way -/
def rRepr (K : PySem.W.Frag) : List V → Hp → VK → Prop := fun xs H Q =>
  ∃ v d, xs = [v] ∧ Dp K H v d ∧ d.showable = true ∧ d.hasDict = false ∧ d.depth ≤ 60 ∧ d.shown.length ≤ sizeLine ∧ Q (.str d.shown) H
theorem call_reprD (hg : X.A.guards = some []) (hr : Room k X.A) : CallR X (.builtin "repr") (rRepr X.K) := by
  intro pins s σ H xs us Q I rl hh
  obtain ⟨v, d, rfl, hd, hs, hn, hdep, hsz, hq⟩ := hh
  obtain ⟨u, rfl, ru⟩ := vals1 rl
  have hun := hr.un
  obtain ⟨as, rd⟩ := Dp.reads I d v u hd ru
  cases hd with
  | non =>
    cases ru
    exact PySem.P.repr_of_none ⟨.str _, H, I.tok _, ⟨_, rfl⟩, hq⟩
  | bl b =>
    cases ru
    exact PySem.P.repr_of_bool ⟨.str _, H, I.tok _, ⟨_, rfl⟩, hq⟩
  | int i =>
    obtain ⟨t, rfl⟩ := ru
    exact PySem.P.repr_of_int (of_decide_eq_true hs) ⟨.str _, H, I.tok _, ⟨_, rfl⟩, hq⟩
  | str x =>
    obtain ⟨t, rfl⟩ := ru
    exact PySem.P.repr_of_str ⟨.str _, H, I.tok _, ⟨_, rfl⟩, hq⟩ hsz
  | lst h1 h2 =>
    cases ru
    exact repr_of_reads' rd hs (PyData.noDict_hsm hn) hg (by omega) (fun _ _ e => e)
      (fun h' u tk hk => ⟨.str _, H, I.kept hk, ⟨_, rfl⟩, hq⟩) hsz
  | tup h1 h2 =>
    cases ru
    exact repr_of_reads' rd hs (PyData.noDict_hsm hn) hg (by omega) (fun _ _ e => e)
      (fun h' u tk hk => ⟨.str _, H, I.kept hk, ⟨_, rfl⟩, hq⟩) hsz

/-! min of a list of alike data -/
theorem minD_mem (x : PyData) : ∀ ds : List PyData, PySem.W.minD x ds ∈ x :: ds := by
  intro ds
  unfold PySem.W.minD
  suffices h : ∀ (ds all : List PyData) (a : PyData), a ∈ all → (∀ y ∈ ds, y ∈ all) → ds.foldl (fun a y => if PySem.W.dataLt y a then y else a) a ∈ all from
    h ds (x :: ds) x (List.mem_cons_self ..) (fun y hy => List.mem_cons_of_mem _ hy)
  intro ds
  induction ds with
  | nil => intro all a ha _; exact ha
  | cons d ds ih =>
    intro all a ha hall
    rw [List.foldl_cons]
    refine ih all _ ?_ (fun y hy => hall y (List.mem_cons_of_mem _ hy))
    split
    · exact hall d (List.mem_cons_self ..)
    · exact ha
theorem DpAll.at {K : PySem.W.Frag} {H : Hp} : ∀ {vs : List V} {ds : List PyData} {i : Nat} {v : V}, DpAll K H vs ds → vs[i]? = some v → ∃ d, ds[i]? = some d ∧ Dp K H v d
  | _, _, _, _, .nil, e => by simp at e
  | _, _, 0, _, .cons h _, e => by simp at e; subst e; exact ⟨_, rfl, h⟩
  | _, _, i + 1, v, .cons _ t, e => by
    obtain ⟨d, h1, h2⟩ := DpAll.at (i := i) (v := v) t (by simpa using e)
    exact ⟨d, by simpa using h1, h2⟩
def rMinD (K : PySem.W.Frag) : List V → Hp → VK → Prop := fun xs H Q =>
  ∃ a vs x ds, xs = [.ref a] ∧ SqL K H a vs ∧ DpAll K H vs (x :: ds) ∧ PySem.W.AlikeAll (x :: ds) ∧ PyData.depthAll (x :: ds) ≤ 60 ∧
    ∀ (i : Nat) (v : V), vs[i]? = some v → (x :: ds)[i]? = some (PySem.W.minD x ds) → Q v H
theorem call_minD (hc : X.calm = true) (hr : Room k X.A) : CallR X (.builtin "min") (rMinD X.K) := by
  intro pins s σ H xs us Q I rl hh
  obtain ⟨a, vs, x, ds, rfl, hl, hd, hal, hdep, hq⟩ := hh
  obtain ⟨u, rfl, ru⟩ := vals1 rl
  cases ru
  have hun := hr.un
  obtain ⟨its, rv, pl, _⟩ := I.list hl
  obtain ⟨o, n, ho, hcl, hsl, hdt⟩ := pl
  obtain ⟨as, rd⟩ := Dp.readsAll I (x :: ds) vs its hd rv
  refine PySem.W.min_list_data (vs := its.toArray) (I.ok.hd hc) ⟨o, ho, hcl, n, hdt⟩ (by simpa using rd) hal (by omega) fun i v h' tk bs hv hrd hk => ?_
  have hv' : its[i]? = some v := by simpa using hv
  have hi : i < its.length := by
    rcases Nat.lt_or_ge i its.length with h | h
    · exact h
    · rw [List.getElem?_eq_none h] at hv'; cases hv'
  have hlen : vs.length = its.length := rv.length
  obtain ⟨w, hw⟩ : ∃ w, vs[i]? = some w := ⟨vs[i], List.getElem?_eq_getElem (by omega)⟩
  obtain ⟨v2, e2, rw2⟩ := rv.get hw
  rw [hv'] at e2
  cases e2
  obtain ⟨d, hd1, hd2⟩ := DpAll.at hd hw
  obtain ⟨cs, rdd⟩ := Dp.reads I d w v hd2 rw2
  have hmem : d ∈ x :: ds := List.mem_of_getElem? hd1
  have e : d = PySem.W.minD x ds := PySem.W.alike_unique d (PySem.W.minD x ds) v cs bs (hal.1 d hmem _ (minD_mem x ds)) (PySem.W.reads_keeps hk rdd) hrd
  rw [e] at hd1
  exact ⟨w, H, I.kept hk, rw2, hq i w hw hd1⟩

/-! list(text) -/
def sgV (z : Str) : List V := z.cps.toList.map fun c => V.str ⟨#[c]⟩
theorem vals_signs {z : Str} : ∀ (cs : List Nat) (its : List Value), cs.length = its.length → (∀ (j : Nat) (v : Value), its[j]? = some v → ∃ c u, cs[j]? = some c ∧ v = .str ⟨#[c]⟩ u) → Vals (cs.map fun c => V.str ⟨#[c]⟩) its
  | [], [], _, _ => .nil
  | c :: cs, v :: its, hl, h => by
    obtain ⟨c', u, e1, e2⟩ := h 0 v rfl
    have e1' : c = c' := by simpa using e1
    subst e1'
    refine .cons ⟨u, e2⟩ (vals_signs (z := z) cs its (by simpa using hl) fun j w hw => ?_)
    have := h (j + 1) w (by simpa using hw)
    simpa using this
  | [], _ :: _, hl, _ => by simp at hl
  | _ :: _, [], hl, _ => by simp at hl
theorem call_list_str (hc : X.calm = true) : CallR X (.type "list") (fun xs H Q => ∃ z : Str, xs = [.str z] ∧ z.cps.size ≤ sizeLine ∧ ∀ p, H p = none → Q (.ref p) (upd H p (.lst (sgV z)))) := by
  intro pins s σ H xs us Q I rl hh
  obtain ⟨z, rfl, hz, hq⟩ := hh
  obtain ⟨u, rfl, t, rfl⟩ := vals1 rl
  refine PySem.call_list_str (I.ok.hd hc) z t (fun h' tk acc c' hk hS hacc => ?_) hz
  have hf : H s.heap.objs.size = none := I.hok.fresh (Nat.le_refl _)
  have hv : Vals (sgV z) acc.toList := vals_signs (z := z) z.cps.toList acc.toList (by simp [hacc.1]) fun j v hv => by
    obtain ⟨c, u, h1, h2⟩ := hacc.2 j v (by simpa using hv)
    exact ⟨c, u, by simpa using h1, h2⟩
  have hlen : (sgV z).length ≤ sizeLine := by
    unfold sgV
    rw [List.length_map, Array.length_toList]
    exact hz
  exact ⟨.ref _, upd H _ (.lst (sgV z)), I.laid hk (Nat.le_refl _) ⟨hlen, acc.toList, c', hv, by simpa using hS⟩, rfl, hq _ hf⟩

/-! f(k = v, ..), nothing by position -/
theorem pe_callK0 {CX : CXT} {f : Addr} {fd : FuncData} {ps ks : List Str} {sp : Sp} {E : XK} {x : Str} {p pos : Pos} {kws : List Keyword} {tk : TA} {g : List Value → List Value → List Value} {gV : List V → List V → List V}
    (F : FnOk X.prog X.w X.K X.mg X.base CX k f fd ps sp) (hr : Room k X.A) (hg : Gl X x) (hm : X.mg x = some (.ref f)) (hk : PySem.W.keepIn X.K (.ref f) = true) (hb : KBinds X.K fd ps ks g gV) (hx : Passes CX X E) (hkw : PK X kws tk)
    (hal : (backToKw pos (keywordEach kws X.env)).all (·.1.isSome) = true := by rfl) (hks : (backToKw pos (keywordEach kws X.env)).filterMap (·.1) = ks := by rfl) (hdg : (x == ("__debug__" : Str)) = false := by decide)
    (hst : ((backTo pos (starEach [] X.env)).any (·.1) || (backToKw pos (keywordEach kws X.env)).any (·.1.isNone)) = false := by rfl) :
    PE X (.Call (.Name x p) [] kws pos) (tCallK sp gV E tNil tk) := by
  refine ⟨fun pins s σ H Q I q => wpAny_Call_Name_kw (ld_glob I hg hm ?_ hdg)⟩
  refine PySem.W.callWith_KW0 (h₀ := X.base) I.ok.mod.kin hk hal (thn (hkw.run pos pins s σ H _ I q) ?_) hst
  rintro ws s2 ⟨zs, H2, I2, rz, q2⟩
  refine ⟨I2.kIn, ?_⟩
  rw [hks]
  exact run_fnk (us := []) (vs := []) F hr hb hx I2 .nil rz q2
def sw {α : Type} : List α → List α → List α
  | [], [a, b] => [b, a]
  | _, _ => []
theorem sw_rel : ∀ {vs : List V} {us : List Value} {zs : List V} {ws : List Value}, Vals vs us → Vals zs ws → Vals (sw vs zs) (sw us ws)
  | _, _, _, _, .nil, .nil => .nil
  | _, _, _, _, .nil, .cons _ .nil => .nil
  | _, _, _, _, .nil, .cons a (.cons b .nil) => .cons b (.cons a .nil)
  | _, _, _, _, .nil, .cons _ (.cons _ (.cons _ _)) => .nil
  | _, _, _, _, .cons _ _, .nil => .nil
  | _, _, _, _, .cons _ _, .cons _ _ => .nil
theorem kb_sw {K : PySem.W.Frag} {fd : FuncData} {p1 p2 k1 k2 : Str} (h : ∀ (s : Shared) (a b : Value), BindsTo s fd ⟨[], [(k1, a), (k2, b)]⟩ [(p1, b), (p2, a)]) : KBinds K fd [p1, p2] [k1, k2] sw sw where
  to := fun s us ws _ hl => by
    match us, ws, hl with
    | [], [a, b], _ => exact h s a b
    | [], [], hl => cases hl
    | [], [_], hl => cases hl
    | [], _ :: _ :: _ :: _, hl => cases hl
    | _ :: _, _, hl => cases hl
  rel := sw_rel
end
/-! a def's promise where no repr is under way -/
structure FnG (P : Program) (w : World) (K : PySem.W.Frag) (mg : Str → Option Value) (base : Heap) (CX : CXT) (k : Nat) (f : Addr) (fd : FuncData) (ps : List Str) (sp : Sp) : Prop where
  lenG : ∀ vs H Q E, sp vs H Q E → vs.length = ps.length
  runG : ∀ (A : Around) (out : List Env) (s : Shared) (H : Hp) (ar : Args) (us : List Value) (vs : List V) (Q : VK) (E : XK), A.guards = some [] → Room k A → Env0 P w K mg base A out s H →
    BindsTo s fd ar (ps.zip us) → Vals vs us → sp vs H Q E → codeAny (model P w) A (.call (.ref f) ar) (CR CX out P w H s Q E) s
section
variable {P : Program} {w : World} {K : PySem.W.Frag} {mg : Str → Option Value} {base : Heap} {CX : CXT} {k : Nat} {f : Addr} {fd : FuncData} {ps : List Str} {sp : Sp}
theorem FnG.of (F : FnOk P w K mg base CX k f fd ps sp) : FnG P w K mg base CX k f fd ps sp :=
  ⟨F.len, fun A out s H ar us vs Q E _ hr he hb hv hs => F.run A out s H ar us vs Q E hr he hb hv hs⟩
theorem FnG.mono {j : Nat} (F : FnG P w K mg base CX j f fd ps sp) (h : j ≤ k) : FnG P w K mg base CX k f fd ps sp :=
  ⟨F.lenG, fun A out s H ar us vs Q E hg hr => F.runG A out s H ar us vs Q E hg (hr.mono h)⟩
/-- by its body -/
theorem fnG_of {name qual : Str} {params : Arguments} {body : List Stmt} {scope : Scope} {dV kV doc pm cdv ct oc : Value} {an od : Option Addr} {osl : Array (Option Value)} {N : List Str}
    (lk : K.lookup f = some ⟨oc, od, .func (PySem.W.fnOf name qual params body scope dV kV doc pm an cdv ct), osl⟩) (hcd : PySem.W.codeIn K cdv qual = true) (S : FnScope N ps scope) (len : ∀ vs H Q E, sp vs H Q E → vs.length = ps.length)
    (hbody : ∀ (A : Around) (out : List Env) (s : Shared) (H : Hp) (vs : List V) (Q : VK) (E : XK), (A.deeper (envOfC qual scope s.heap.objs.size f cdv)).guards = some [] → Room k (A.deeper (envOfC qual scope s.heap.objs.size f cdv)) → sp vs H Q E →
      ∃ t, PSs (cxOf CX P w K mg base N qual scope f cdv A out s H E) body t ∧ t { nx := fun _ H' => Q .non H', rt := Q } (start N vs) H) :
    FnG P w K mg base CX (k + 1) f (PySem.W.fnOf name qual params body scope dV kV doc pm an cdv ct) ps sp := by
  constructor
  · exact len
  intro A out s H ar us vs Q E hg hr e0 hb rv hsp
  have keeps : ∀ b o, base.get? b = some o → s.heap.get? b = some o := fun b o e => (e0.bs b o e).1
  have KX : K.In s.heap := e0.mod.kin.keeps keeps
  have kinds : ∀ y ∈ ps.zip us, scope.names.lookup y.1 = some .local ∨
      (scope.names.lookup y.1 = some .cell ∧ ((cellsFrom (s.heap.objs.size + 1) scope.names []).lookup y.1).isSome = true) := by
    rintro ⟨n, v⟩ hy
    exact (S.par n (List.of_mem_zip hy).1).imp id fun q => ⟨q, PySem.W.cellsFrom_some _ _ _ (.inl q)⟩
  refine codeAny_call_function hr.depth (KX _ _ lk) rfl S.co S.gen rfl (PySem.W.codeRec_of KX hcd) (hb _ _ _ _ (wpAny_newFunctionEnv_cells S.kind kinds ?_))
  rintro env rfl s1 x
  refine ⟨(e0.mod.nolimit.keeps keeps).keeps x.toInCall.keep, codeAny_func ?_⟩
  obtain ⟨t, ht, hq⟩ := hbody A out s H vs Q E hg (hr.deeper _) hsp
  have I := inv_start (CX := CX) (E := E) S hr.hd e0 (len _ _ _ _ hsp) rv x
  refine wpAny_mono (ht.run [] s1 (start N vs) H _ I hq) ?_ fun e s' hs => hs
  rintro (u | _ | _ | u) s' hs
  all_goals first
    | (obtain ⟨σ', H', J, q⟩ := hs; exact ⟨.non, H', J.os, J.bare, J.base, J.hok, rfl, q⟩)
    | (obtain ⟨v, σ', H', J, rr, q⟩ := hs; exact ⟨v, H', J.os, J.bare, J.base, J.hok, rr, q⟩)
    | (obtain ⟨_, _, _, q⟩ := hs; exact False.elim q)
theorem Fun_okG {x qual : Str} {st : Stmt} {N : List Str} (F : Fun K x qual st f fd) (S : FnScope N ps (defScope st)) (len : ∀ vs H Q E, sp vs H Q E → vs.length = ps.length)
    (hbody : ∀ (cdv : Value) (A : Around) (out : List Env) (s : Shared) (H : Hp) (vs : List V) (Q : VK) (E : XK), (A.deeper (envOfC qual (defScope st) s.heap.objs.size f cdv)).guards = some [] → Room k (A.deeper (envOfC qual (defScope st) s.heap.objs.size f cdv)) → sp vs H Q E →
      ∃ t, PSs (cxOf CX0 P w K mg base N qual (defScope st) f cdv A out s H E).nox (defBody st) t ∧ t { nx := fun _ H' => Q .non H', rt := Q } (start N vs) H) :
    FnG P w K mg base CX0 (k + 1) f fd ps sp := by
  obtain ⟨oc, od, kV, doc, pm, an, cdv, ct, osl, rfl, lk, hcd⟩ := F.ex
  exact fnG_of lk hcd S len fun A out s H vs Q E hg hr hsp => let ⟨t, h, q⟩ := hbody cdv A out s H vs Q E hg hr hsp; ⟨t, h.nox, q⟩
end
/-! the law's end -/
theorem law_callG {P : Program} {w : World} {K : PySem.W.Frag} {mg mb : Str → Option Value} {CX : CXT} {k : Nat} {fa a : Addr} {fd : FuncData} {x : Str} {sp : Sp} {s1 : Shared} {vs : List Value} {ns : List Int}
    (KX : K.In s1.heap) (hns : s1.heap.Ns mainGlobals mg) (hb : s1.heap.Ns builtinsNs mb) (hbb : ∀ x : Str, x ≠ "__name__" → mb x = bootBuiltins x) (hlim : s1.heap.NoLimit) (hgen : s1.gens = #[])
    (ha : s1.heap.get? a = some { cls := .type "list", data := .seq vs.toArray }) (hi : IntsAre vs ns) (hl : ns.length ≤ sizeLine) (hr : Room k callerA)
    (F : ∀ base : Heap, K.In base → base.Ns mainGlobals mg → FnG P w K mg base CX k fa fd [x] sp) (hbind : ∀ (s : Shared) (u : Value), BindsTo s fd ⟨[u], []⟩ [(x, u)])
    (hsp : ∀ H : Hp, Only H → SqL K H a (ns.map V.int) → sp [.ref a] H (fun v _ => v = .bl true) fun _ _ _ => False) (hCX : ∀ H e s', CX [] H s1 (fun _ _ _ => False) e s' → False) :
    codeAny (model P w) callerA (.call (.ref fa) ⟨[.ref a], []⟩) (fun r s' => r = .ok (.ret (.bool true)) ∧ OldK s1.heap s'.heap ∧ s'.os = s1.os ∧ AllBare s'.gens) s1 := by
  have rv := vals_ints hi
  have core : ∀ H : Hp, Only H → SqL K H a (ns.map V.int) → HOk P w H s1.heap → (∀ b, H b ≠ none → b = a ∧ K.lookup a = none) →
      codeAny (model P w) callerA (.call (.ref fa) ⟨[.ref a], []⟩) (fun r s' => r = .ok (.ret (.bool true)) ∧ OldK s1.heap s'.heap ∧ s'.os = s1.os ∧ AllBare s'.gens) s1 := by
    intro H hO hS hok hA
    have off : ∀ {b : Addr} {o : Obj} {es : Array DictEntry} {ep : Nat}, s1.heap.get? b = some o → o.data = .dict es ep → H b = none := by
      intro b o es ep e d
      rcases Option.eq_none_or_eq_some (H b) with q | ⟨u, q⟩
      · exact q
      · obtain ⟨e', _⟩ := hA b (by simp [q])
        subst e'
        rw [ha] at e
        cases e
        cases d
    have nsK : ∀ {b : Addr} {m : Str → Option Value}, s1.heap.Ns b m → (hidT s1.heap H).Ns b m := by
      rintro b m ⟨o, es, ep, e, d, r⟩
      exact ⟨o, es, ep, hidT_get e (off e d), d, r⟩
    have KB : K.In (hidT s1.heap H) := by
      intro b o e
      refine hidT_get (KX b o e) ?_
      rcases Option.eq_none_or_eq_some (H b) with q | ⟨u, q⟩
      · exact q
      · obtain ⟨e', kn⟩ := hA b (by simp [q])
        subst e'
        rw [kn] at e
        cases e
    obtain ⟨mc, l1, l2⟩ := hlim
    have md : Mod K mg (hidT s1.heap H) := ⟨KB, nsK hns, ⟨mb, nsK hb, hbb⟩, mc, nsK l1, l2⟩
    have e0 : Env0 P w K mg (hidT s1.heap H) callerA [] s1 H :=
      { frames := rfl, mod := md, bs := fun b o e => of_hidT e, bsz := Nat.le_of_eq (hidT_size _ _), funs := trivial, frf := fun b hb => (by cases hb), hok := hok, bare := .of_eq hgen }
    have run := (F _ KB (nsK hns)).runG callerA [] s1 H ⟨[.ref a], []⟩ [.ref a] [.ref a] _ _ rfl hr e0 (hbind s1 (.ref a)) (.cons rfl .nil) (hsp H hO hS)
    refine codeAny_mono run ?_
    rintro (e | _ | _ | _ | u) s' hh
    all_goals first
      | exact (hCX H e s' hh).elim
      | exact False.elim hh
      | skip
    obtain ⟨v, H', os, bare, un, hok', r', q⟩ := hh
    obtain rfl : v = .bl true := q
    obtain rfl : u = Value.bool true := r'
    refine ⟨rfl, OldK.of_keep fun b o e => ?_, os, bare⟩
    rcases hO b with z | ⟨ob, xs, z⟩
    · exact un.keep b o e z (fun y => by cases y) (fun y => by cases y)
    · have g1 := (hok b _ z).1
      have g2 := (hok' b _ (un.frzs b ob _ z)).1
      rw [e] at g1
      cases g1
      exact g2
  have hv : (ns.map V.int).length ≤ sizeLine := by rw [List.length_map]; exact hl
  rcases Option.eq_none_or_eq_some (K.lookup a) with kn | ⟨o, kn⟩
  · refine core (fun b => if b = a then some (.frz { cls := .type "list", data := .seq vs.toArray } (.lst (ns.map V.int))) else none) ?_ (.inl (.inr ⟨_, if_pos rfl⟩)) ?_ ?_
    · intro b
      by_cases hb : b = a
      · exact .inr ⟨_, _, if_pos hb⟩
      · exact .inl (if_neg hb)
    · intro b u z
      by_cases hb : b = a
      · subst hb
        have z' := (if_pos rfl).symm.trans z
        cases z'
        exact ⟨ha, hv, vs, _, rv, ha⟩
      · have z' := (if_neg hb).symm.trans z
        cases z'
    · intro b z
      by_cases hb : b = a
      · exact ⟨hb, kn⟩
      · exact absurd (if_neg hb) z
  · have e := KX a o kn
    rw [ha] at e
    cases e
    refine core (fun _ => none) (fun _ => .inl rfl) (.inr ⟨_, vs.toArray, _, kn, rfl, rfl, rfl, ?_, by simpa using rv⟩) (fun b u z => by cases z) (fun b z => absurd rfl z)
    rw [List.size_toArray, hi.length]
    exact hl
theorem walk_G {l : PySem.W.OpenLaw} {n k : Nat} {q : Program} {loose : List Str} {XP : (Str → Option Value) → Heap → Prop} {YP : World → Heap → Prop} {d : DefRec} {K : Params → PySem.W.Frag} {CX : World → CXT} {sp : World → Sp} {x : Str}
    (hn : l.most = some n) (hn2 : n ≤ sizeLine) (hdf : d.params.defaults = []) (hr : Room k callerA) (hY : ∀ (w : World) (h : Heap), YP w h → (K w.params).In h)
    (F : ∀ (w : World) (mg : Str → Option Value) (fa : Addr) (h : Heap), (K w.params).In h → h.Ns mainGlobals mg → mg d.name = some (.ref fa) →
      ∃ fd : FuncData, (∀ (s : Shared) (u : Value), BindsTo s fd ⟨[u], []⟩ [(x, u)]) ∧ ∀ base : Heap, (K w.params).In base → base.Ns mainGlobals mg → FnG l.prog w (K w.params) mg base (CX w) k fa fd [x] (sp w))
    (hsp : ∀ (w : World) (H : Hp) (a : Addr) (ns : List Int), ns.length ≤ n → Only H → SqL (K w.params) H a (ns.map V.int) → sp w [.ref a] H (fun v _ => v = .bl true) fun _ _ _ => False)
    (hCX : ∀ (w : World) (H : Hp) (s : Shared) (e : Value) (s' : Shared), CX w [] H s (fun _ _ _ => False) e s' → False) :
    PySem.W.WalkO q loose XP YP l.row.toRowW d [] (fun f vs => PySem.call f vs) := by
  apply Att.attach_call hn hdf
  intro w s0 s1 mg mb fa o pm cd doc a vs ns G Y _ _ _ hmg hobj hints hlen hgen
  obtain ⟨fd, hb, hF⟩ := F w mg fa _ (hY w _ Y) G.T.g hmg
  exact law_callG (hY w _ Y) G.T.g G.T.b G.T.builtins G.T.nolimit hgen hobj hints (Nat.le_trans hlen hn2) hr hF hb (fun H => hsp w H a ns hlen) fun H e s' => hCX w H s1 e s'
end Own

set_option Elab.async false
set_option linter.all false
set_option maxRecDepth 100000
set_option maxHeartbeats 4000000
namespace Mth
/-! the earliest places of a part in a word (w: the rest of the word from o on) -/
def emb : List Nat → List Nat → Nat → List Nat
  | [], _, _ => []
  | _ :: _, [], _ => []
  | c :: p, x :: w, o => if x = c then o :: emb p w (o + 1) else emb (c :: p) w (o + 1)
theorem emb_nil (w : List Nat) (o : Nat) : emb [] w o = [] := by cases w <;> rfl
theorem emb_none' : ∀ (p : List Nat) (o : Nat), emb p [] o = []
  | [], _ => rfl
  | _ :: _, _ => rfl
theorem emb_yes {c : Nat} {p w : List Nat} {o : Nat} : emb (c :: p) (c :: w) o = o :: emb p w (o + 1) := by
  rw [emb, if_pos rfl]
theorem emb_no {c x : Nat} {p w : List Nat} {o : Nat} (h : x ≠ c) : emb (c :: p) (x :: w) o = emb (c :: p) w (o + 1) := by
  rw [emb, if_neg h]
theorem emb_le : ∀ (w p : List Nat) (o : Nat), (emb p w o).length ≤ p.length
  | [], p, o => by rw [emb_none']; exact Nat.zero_le _
  | x :: w, [], o => by rw [emb_nil]; exact Nat.zero_le _
  | x :: w, c :: p, o => by
    by_cases h : x = c
    · subst h
      rw [emb_yes]
      have := emb_le w p (o + 1)
      simp only [List.length_cons]
      omega
    · rw [emb_no h]
      exact emb_le w (c :: p) (o + 1)
theorem emb_skip (c : Nat) (p : List Nat) (w : List Nat) : ∀ (n o : Nat), (∀ v, o ≤ v → v < o + n → w[v]? ≠ some c) → o + n ≤ w.length → emb (c :: p) (w.drop o) o = emb (c :: p) (w.drop (o + n)) (o + n)
  | 0, o, _, _ => rfl
  | n + 1, o, h, hl => by
    have ho : o < w.length := by omega
    rw [List.drop_eq_getElem_cons ho, emb_no (by
      have := h o (Nat.le_refl _) (by omega)
      rw [List.getElem?_eq_getElem ho] at this
      exact fun e => this (by rw [e])), emb_skip c p w n (o + 1) (fun v h1 h2 => h v (by omega) (by omega)) (by omega)]
    rw [show o + 1 + n = o + (n + 1) by omega]
theorem emb_step {c : Nat} {p w : List Nat} {o k : Nat} (hk : w[k]? = some c) (hok : o ≤ k) (hn : ∀ v, o ≤ v → v < k → w[v]? ≠ some c) : emb (c :: p) (w.drop o) o = k :: emb p (w.drop (k + 1)) (k + 1) := by
  have hl : k < w.length := by
    rcases Nat.lt_or_ge k w.length with h | h
    · exact h
    · rw [List.getElem?_eq_none h] at hk; cases hk
  rw [emb_skip c p w (k - o) o (fun v h1 h2 => hn v h1 (by omega)) (by omega), show o + (k - o) = k by omega, List.drop_eq_getElem_cons hl]
  rw [List.getElem?_eq_getElem hl] at hk
  rw [Option.some.inj hk, emb_yes]
theorem emb_stop {c : Nat} {p w : List Nat} {o : Nat} (hn : ∀ v, o ≤ v → w[v]? ≠ some c) : emb (c :: p) (w.drop o) o = [] := by
  rcases Nat.lt_or_ge o w.length with h | h
  · rw [emb_skip c p w (w.length - o) o (fun v h1 _ => hn v h1) (by omega), show o + (w.length - o) = w.length by omega, List.drop_length, emb_none']
  · rw [List.drop_of_length_le h, emb_none']
theorem emb_take : ∀ (w p : List Nat) (o k : Nat), emb (p.take k) w o = (emb p w o).take k
  | [], p, o, k => by rw [emb_none', emb_none', List.take_nil]
  | x :: w, [], o, k => by rw [List.take_nil, emb_nil, List.take_nil]
  | x :: w, c :: p, o, 0 => by rw [List.take_zero, List.take_zero, emb_nil]
  | x :: w, c :: p, o, k + 1 => by
    rw [List.take_succ_cons]
    by_cases h : x = c
    · subst h
      rw [emb_yes, emb_yes, List.take_succ_cons, emb_take w p (o + 1) k]
    · rw [emb_no h, emb_no h, ← List.take_succ_cons, emb_take w (c :: p) (o + 1) (k + 1)]
/-! ascending places -/
def Asc : Nat → Nat → List Nat → Prop
  | _, _, [] => True
  | lo, hi, j :: r => lo ≤ j ∧ j < hi ∧ Asc (j + 1) hi r
theorem Asc.lower : ∀ {l : List Nat} {lo lo' hi : Nat}, Asc lo hi l → lo' ≤ lo → Asc lo' hi l
  | [], _, _, _, _, _ => trivial
  | _ :: _, _, _, _, ⟨h1, h2, h3⟩, h => ⟨Nat.le_trans h h1, h2, h3⟩
theorem Asc.mem : ∀ {l : List Nat} {lo hi j : Nat}, Asc lo hi l → j ∈ l → lo ≤ j ∧ j < hi
  | [], _, _, _, _, h => by cases h
  | i :: r, lo, hi, j, ⟨h1, h2, h3⟩, h => by
    rcases List.mem_cons.mp h with e | e
    · subst e; exact ⟨h1, h2⟩
    · have := Asc.mem h3 e
      exact ⟨by omega, this.2⟩
theorem emb_asc : ∀ (w p : List Nat) (o : Nat), Asc o (o + w.length) (emb p w o)
  | [], p, o => by rw [emb_none']; trivial
  | x :: w, [], o => by rw [emb_nil]; trivial
  | x :: w, c :: p, o => by
    have e : o + (x :: w).length = o + 1 + w.length := by simp only [List.length_cons]; omega
    by_cases h : x = c
    · subst h
      rw [emb_yes, e]
      exact ⟨Nat.le_refl _, by omega, emb_asc w p (o + 1)⟩
    · rw [emb_no h, e]
      exact (emb_asc w (c :: p) (o + 1)).lower (by omega)
theorem getD_cons {x : Nat} {w : List Nat} {j o : Nat} (h : o + 1 ≤ j) : (x :: w).getD (j - o) 0 = w.getD (j - (o + 1)) 0 := by
  rw [show j - o = (j - (o + 1)) + 1 by omega]
  rfl
theorem emb_reads : ∀ (w p : List Nat) (o : Nat), (emb p w o).map (fun j => w.getD (j - o) 0) = p.take (emb p w o).length
  | [], p, o => by rw [emb_none']; rfl
  | x :: w, [], o => by rw [emb_nil]; rfl
  | x :: w, c :: p, o => by
    by_cases h : x = c
    · subst h
      rw [emb_yes, List.map_cons, List.length_cons, List.take_succ_cons, ← emb_reads w p (o + 1)]
      congr 1
      · rw [Nat.sub_self]; rfl
      · refine List.map_congr_left fun j hj => ?_
        exact getD_cons ((emb_asc w p (o + 1)).mem hj).1
    · rw [emb_no h, ← emb_reads w (c :: p) (o + 1)]
      refine List.map_congr_left fun j hj => ?_
      exact getD_cons ((emb_asc w (c :: p) (o + 1)).mem hj).1
/-! place by place no greater -/
def Leq : List Nat → List Nat → Prop
  | [], [] => True
  | a :: l, b :: m => a ≤ b ∧ Leq l m
  | _, _ => False
theorem emb_least : ∀ (w p c : List Nat) (o : Nat), Asc o (o + w.length) c → c.map (fun j => w.getD (j - o) 0) = p → Leq (emb p w o) c
  | [], p, [], o, _, e => by subst e; trivial
  | [], p, j :: c, o, ⟨h1, h2, _⟩, _ => by simp only [List.length_nil] at h2; omega
  | x :: w, p, [], o, _, e => by subst e; rw [List.map_nil, emb_nil]; trivial
  | x :: w, p, j :: c, o, ⟨h1, h2, h3⟩, e => by
    have el : o + (x :: w).length = o + 1 + w.length := by simp only [List.length_cons]; omega
    rw [el] at h2 h3
    rw [List.map_cons] at e
    by_cases h : o + 1 ≤ j
    · have e2 : (j :: c).map (fun i => w.getD (i - (o + 1)) 0) = p := by
        rw [← e, List.map_cons, getD_cons h]
        congr 1
        refine List.map_congr_left fun i hi => ?_
        exact (getD_cons (by have := (h3.mem hi).1; omega)).symm
      have ih := emb_least w p (j :: c) (o + 1) ⟨h, h2, h3⟩ e2
      subst e
      by_cases hx : x = (x :: w).getD (j - o) 0
      · rw [← hx, emb_yes]
        refine ⟨h1, ?_⟩
        refine emb_least w _ c (o + 1) (h3.lower (by omega)) ?_
        refine List.map_congr_left fun i hi => ?_
        exact (getD_cons (by have := (h3.mem hi).1; omega)).symm
      · rw [emb_no hx]
        exact ih
    · have hj : j = o := by omega
      subst hj
      rw [Nat.sub_self] at e
      have e0 : (x :: w).getD 0 0 = x := rfl
      rw [e0] at e
      subst e
      rw [emb_yes]
      refine ⟨Nat.le_refl _, emb_least w _ c (j + 1) h3 ?_⟩
      refine List.map_congr_left fun i hi => ?_
      exact (getD_cons ((h3.mem hi).1)).symm
theorem Leq.len : ∀ {l m : List Nat}, Leq l m → l.length = m.length
  | [], [], _ => rfl
  | _ :: _, _ :: _, ⟨_, h⟩ => by rw [List.length_cons, List.length_cons, Leq.len h]
  | [], _ :: _, h => h.elim
  | _ :: _, [], h => h.elim
/-! all choices of places, as the law lists them -/
def least (c : List Nat) : Nat := match c.getLast? with | some j => j + 1 | none => 0
def ext (size : Nat) (c : List Nat) : List (List Nat) := (List.range' (least c) (size - least c)).map fun j => c ++ [j]
def ch (size : Nat) : Nat → List (List Nat)
  | 0 => [[]]
  | m + 1 => (ch size m).flatMap (ext size)
theorem ch_small : ∀ size < 9, ∀ m < 10, (ch size m).length ≤ 70 := by decide +kernel
theorem asc_snoc : ∀ {c : List Nat} {lo hi x : Nat}, Asc lo hi (c ++ [x]) ↔ Asc lo hi c ∧ (match c.getLast? with | some j => j + 1 | none => lo) ≤ x ∧ x < hi
  | [], lo, hi, x => by simp [Asc]
  | [j], lo, hi, x => by simp [Asc]; omega
  | j :: i :: r, lo, hi, x => by
    have ih := asc_snoc (c := i :: r) (lo := j + 1) (hi := hi) (x := x)
    have e : (j :: i :: r).getLast? = (i :: r).getLast? := List.getLast?_cons_cons
    have e2 : (i :: r).getLast? ≠ none := by simp
    rw [e]
    cases q : (i :: r).getLast? with
    | none => exact absurd q e2
    | some y =>
      rw [q] at ih
      show lo ≤ j ∧ j < hi ∧ Asc (j + 1) hi ((i :: r) ++ [x]) ↔ _
      rw [ih]
      show _ ↔ (lo ≤ j ∧ j < hi ∧ Asc (j + 1) hi (i :: r)) ∧ _
      constructor
      · rintro ⟨a, b, c, d, e⟩; exact ⟨⟨a, b, c⟩, d, e⟩
      · rintro ⟨⟨a, b, c⟩, d, e⟩; exact ⟨a, b, c, d, e⟩
theorem mem_ch (size : Nat) : ∀ (m : Nat) (c : List Nat), c ∈ ch size m ↔ c.length = m ∧ Asc 0 size c
  | 0, c => by
    rw [ch, List.mem_singleton]
    constructor
    · rintro rfl; exact ⟨rfl, trivial⟩
    · rintro ⟨h, _⟩; exact List.length_eq_zero_iff.mp h
  | m + 1, c => by
    rw [ch, List.mem_flatMap]
    constructor
    · rintro ⟨d, hd, hc⟩
      obtain ⟨h1, h2⟩ := (mem_ch size m d).mp hd
      obtain ⟨j, hj, rfl⟩ := List.mem_map.mp hc
      rw [List.mem_range'_1] at hj
      refine ⟨by simp [h1], asc_snoc.mpr ⟨h2, ?_, by omega⟩⟩
      exact hj.1
    · rintro ⟨h1, h2⟩
      have hne : c ≠ [] := by rintro rfl; cases h1
      have hc : c = c.dropLast ++ [c.getLast hne] := (List.dropLast_concat_getLast hne).symm
      rw [hc] at h2
      obtain ⟨a1, a2, a3⟩ := asc_snoc.mp h2
      refine ⟨c.dropLast, (mem_ch size m _).mpr ⟨by simp [h1], a1⟩, ?_⟩
      refine List.mem_map.mpr ⟨c.getLast hne, ?_, hc.symm⟩
      rw [List.mem_range'_1]
      exact ⟨a2, by have : least c.dropLast ≤ c.getLast hne := a2
                    omega⟩
/-! which of them read the part, and the least of these -/
def rdOf (w c : List Nat) : List Nat := c.map fun j => w.getD j 0
def fnd (p w : List Nat) : List (List Nat) := (ch w.length p.length).filter fun c => decide (rdOf w c = p)
def due (p w : List Nat) : Option (List Nat) := if (emb p w 0).length = p.length then some (emb p w 0) else none
theorem mem_fnd {p w c : List Nat} : c ∈ fnd p w ↔ Asc 0 w.length c ∧ rdOf w c = p := by
  unfold fnd
  rw [List.mem_filter, mem_ch, decide_eq_true_iff]
  constructor
  · rintro ⟨⟨_, h⟩, e⟩; exact ⟨h, e⟩
  · rintro ⟨h, e⟩
    refine ⟨⟨?_, h⟩, e⟩
    rw [← e]; simp [rdOf]
theorem emb_in_fnd {p w : List Nat} (h : (emb p w 0).length = p.length) : emb p w 0 ∈ fnd p w := by
  refine mem_fnd.mpr ⟨by have := emb_asc w p 0; rw [Nat.zero_add] at this; exact this, ?_⟩
  have := emb_reads w p 0
  rw [h, List.take_length] at this
  exact this
theorem fnd_leq {p w c : List Nat} (h : c ∈ fnd p w) : Leq (emb p w 0) c := by
  obtain ⟨h1, h2⟩ := mem_fnd.mp h
  exact emb_least w p c 0 (by rw [Nat.zero_add]; exact h1) h2
theorem fnd_nil {p w : List Nat} (h : (emb p w 0).length ≠ p.length) : fnd p w = [] := by
  cases q : fnd p w with
  | nil => rfl
  | cons c r =>
    have hc : c ∈ fnd p w := by rw [q]; exact List.mem_cons_self ..
    have e1 := (fnd_leq hc).len
    have e2 := (mem_fnd.mp hc).2
    exact absurd (by rw [e1, ← e2]; simp [rdOf]) h
theorem due_take {p w : List Nat} {k : Nat} (hk : k ≤ p.length) : (due (p.take k) w).isSome = decide (k ≤ (emb p w 0).length) := by
  unfold due
  rw [emb_take, List.length_take, List.length_take]
  have := emb_le w p 0
  by_cases h : k ≤ (emb p w 0).length
  · rw [if_pos (by omega), decide_eq_true h]; rfl
  · rw [if_neg (by omega), decide_eq_false h]; rfl
theorem emb_self : ∀ (w : List Nat) (o : Nat), emb w w o = List.range' o w.length
  | [], _ => rfl
  | x :: w, o => by rw [emb_yes, emb_self w (o + 1)]; rfl
end Mth

set_option Elab.async false
set_option linter.all false
set_option maxRecDepth 100000
set_option maxHeartbeats 4000000
namespace Mth
open PySem PySem.Spec PyProof.Rows L2
/-! data: lists of places, lists of signs -/
def iL (l : List Nat) : PyData := .list (l.map fun j => PyData.int (j : Nat))
def sL (l : List Nat) : PyData := .list (l.map fun c => PyData.str ⟨#[c]⟩)
theorem toks_leq : ∀ {g y : List Nat}, Leq g y → PyProof.Rows.lexLt PyProof.Rows.itemOrd (PySem.W.keyToksAll (y.map fun j => PyData.int (j : Nat))) (PySem.W.keyToksAll (g.map fun j => PyData.int (j : Nat))) = false ∧
    (g ≠ y → PyProof.Rows.lexLt PyProof.Rows.itemOrd (PySem.W.keyToksAll (g.map fun j => PyData.int (j : Nat))) (PySem.W.keyToksAll (y.map fun j => PyData.int (j : Nat))) = true)
  | [], [], _ => ⟨by decide +kernel, fun h => absurd rfl h⟩
  | a :: g, b :: y, ⟨h, r⟩ => by
    obtain ⟨i1, i2⟩ := toks_leq r
    rw [List.map_cons, List.map_cons]
    by_cases e : a = b
    · subst e
      have eq : PyData.eqv (.int (a : Nat)) (.int (a : Nat)) = true := by simp [PyData.eqv]
      rw [PySem.W.dataLt_all_yes rfl eq, PySem.W.dataLt_all_yes rfl eq]
      exact ⟨i1, fun hne => i2 fun z => hne (by rw [z])⟩
    · have e1 : PyData.eqv (.int (a : Nat)) (.int (b : Nat)) = false := by simp [PyData.eqv]; omega
      have e2 : PyData.eqv (.int (b : Nat)) (.int (a : Nat)) = false := by simp [PyData.eqv]; omega
      rw [PySem.W.dataLt_all_no rfl e1, PySem.W.dataLt_all_no rfl e2, PySem.W.dataLt_int, PySem.W.dataLt_int]
      exact ⟨decide_eq_false (by omega), fun _ => decide_eq_true (by omega)⟩
theorem lt_leq {g y : List Nat} (h : Leq g y) : PySem.W.dataLt (iL y) (iL g) = false ∧ (g ≠ y → PySem.W.dataLt (iL g) (iL y) = true) := by
  unfold iL
  rw [PySem.W.dataLt_list, PySem.W.dataLt_list]
  exact toks_leq h
theorem minD_eq {g : PyData} : ∀ (ds : List PyData) (x : PyData), g ∈ x :: ds → (∀ y ∈ x :: ds, PySem.W.dataLt y g = false) → (∀ a ∈ x :: ds, a ≠ g → PySem.W.dataLt g a = true) → PySem.W.minD x ds = g
  | [], x, h, _, _ => by
    rcases List.mem_cons.mp h with e | e
    · exact e.symm
    · cases e
  | d :: ds, x, h, h1, h2 => by
    show PySem.W.minD (if PySem.W.dataLt d x then d else x) ds = g
    have sub : ∀ y ∈ (if PySem.W.dataLt d x then d else x) :: ds, y ∈ x :: d :: ds := by
      intro y hy
      rcases List.mem_cons.mp hy with e | e
      · subst e
        split
        · exact List.mem_cons_of_mem _ (List.mem_cons_self ..)
        · exact List.mem_cons_self ..
      · exact List.mem_cons_of_mem _ (List.mem_cons_of_mem _ e)
    refine minD_eq ds _ ?_ (fun y hy => h1 y (sub y hy)) (fun a ha => h2 a (sub a ha))
    rcases List.mem_cons.mp h with e | e
    · subst e
      rw [if_neg (by rw [h1 d (by simp)]; exact Bool.false_ne_true)]
      exact List.mem_cons_self ..
    · rcases List.mem_cons.mp e with e | e
      · subst e
        by_cases hx : x = g
        · subst hx; split <;> exact List.mem_cons_self ..
        · rw [if_pos (h2 x (by simp) hx)]
          exact List.mem_cons_self ..
      · exact List.mem_cons_of_mem _ e
theorem ints_inj {l m : List Nat} (h : iL l = iL m) : l = m := by
  unfold iL at h
  have h' := PyData.list.inj h
  have : ∀ (l m : List Nat), l.map (fun j => PyData.int (j : Nat)) = m.map (fun j => PyData.int (j : Nat)) → l = m := by
    intro l
    induction l with
    | nil => intro m e; cases m with
      | nil => rfl
      | cons _ _ => simp at e
    | cons a l ih => intro m e; cases m with
      | nil => simp at e
      | cons b m =>
        rw [List.map_cons, List.map_cons] at e
        injection e with e1 e2
        injection e1 with e1
        rw [ih m e2, show a = b by omega]
  exact this l m h'
theorem min_due {p w : List Nat} {x : List Nat} {r : List (List Nat)} (h : fnd p w = x :: r) : PySem.W.minD (iL x) (r.map iL) = iL (emb p w 0) ∧ due p w = some (emb p w 0) := by
  have ne : (emb p w 0).length = p.length := by
    rcases Decidable.em ((emb p w 0).length = p.length) with e | e
    · exact e
    · rw [fnd_nil e] at h; cases h
  refine ⟨?_, by unfold due; rw [if_pos ne]⟩
  have mm : ∀ y ∈ iL x :: r.map iL, ∃ c ∈ fnd p w, y = iL c := by
    intro y hy
    rw [← List.map_cons, List.mem_map] at hy
    obtain ⟨c, hc, rfl⟩ := hy
    exact ⟨c, by rw [h]; exact hc, rfl⟩
  refine minD_eq _ _ ?_ (fun y hy => ?_) fun a ha hne => ?_
  · rw [← List.map_cons, ← h]
    exact List.mem_map.mpr ⟨_, emb_in_fnd ne, rfl⟩
  · obtain ⟨c, hc, rfl⟩ := mm y hy
    exact (lt_leq (fnd_leq hc)).1
  · obtain ⟨c, hc, rfl⟩ := mm a ha
    exact (lt_leq (fnd_leq hc)).2 fun e => hne (by rw [e])
theorem due_none {p w : List Nat} (h : fnd p w = []) : due p w = none := by
  unfold due
  rw [if_neg]
  intro e
  have := emb_in_fnd e
  rw [h] at this
  cases this
theorem depth_ints : ∀ l : List Nat, PyData.depthAll (l.map fun j => PyData.int (j : Nat)) = 0
  | [] => rfl
  | a :: l => by rw [List.map_cons, PyData.depthAll, depth_ints l]; rfl
theorem depth_sgs : ∀ l : List Nat, PyData.depthAll (l.map fun c => PyData.str ⟨#[c]⟩) = 0
  | [] => rfl
  | a :: l => by rw [List.map_cons, PyData.depthAll, depth_sgs l]; rfl
theorem depth_lists : ∀ ls : List (List Nat), PyData.depthAll (ls.map iL) ≤ 1
  | [] => by decide
  | l :: ls => by
    rw [List.map_cons, PyData.depthAll]
    have := depth_lists ls
    have e : (iL l).depth = 1 := by unfold iL; rw [PyData.depth, depth_ints]
    omega
theorem alike_ints : ∀ l m : List Nat, PySem.W.alikeAll (l.map fun j => PyData.int (j : Nat)) (m.map fun j => PyData.int (j : Nat)) = true
  | [], m => by rw [List.map_nil]; unfold PySem.W.alikeAll; cases m <;> rfl
  | a :: l, [] => by rw [List.map_nil, List.map_cons, PySem.W.alikeAll]
  | a :: l, b :: m => by rw [List.map_cons, List.map_cons, PySem.W.alikeAll, alike_ints l m]; rfl
theorem alike_lists (ls : List (List Nat)) : PySem.W.AlikeAll (ls.map iL) := by
  refine ⟨fun x hx y hy => ?_, fun x hx => ?_⟩
  · obtain ⟨l, _, rfl⟩ := List.mem_map.mp hx
    obtain ⟨m, _, rfl⟩ := List.mem_map.mp hy
    unfold iL
    rw [PySem.W.alike]
    exact alike_ints l m
  · obtain ⟨l, _, rfl⟩ := List.mem_map.mp hx
    intro e; cases e
theorem lay_ints : ∀ l : List Nat, PyData.canLayAll0 (l.map fun j => PyData.int (j : Nat)) = true
  | [] => rfl
  | a :: l => by rw [List.map_cons, PyData.canLayAll0, lay_ints l]; rfl
theorem lay_sgs : ∀ l : List Nat, (∀ c ∈ l, c < 1114112) → PyData.canLayAll0 (l.map fun c => PyData.str ⟨#[c]⟩) = true
  | [], _ => rfl
  | a :: l, h => by
    rw [List.map_cons, PyData.canLayAll0, lay_sgs l fun c hc => h c (List.mem_cons_of_mem _ hc), PyData.canLay0]
    have ha : a < 1114112 := h a (List.mem_cons_self ..)
    have : PyData.strOk ⟨#[a]⟩ = true := by
      unfold PyData.strOk
      simp
      exact ha
    rw [this]
    rfl
theorem shaped_ints (l : List Nat) : SeqAt.shaped (iL l) = true := by
  unfold SeqAt.shaped iL
  rw [PyData.canLay0, lay_ints, PyData.depth, depth_ints]
  rfl
theorem shaped_sgs {l : List Nat} (h : ∀ c ∈ l, c < 1114112) : SeqAt.shaped (sL l) = true := by
  unfold SeqAt.shaped sL
  rw [PyData.canLay0, lay_sgs l h, PyData.depth, depth_sgs]
  rfl
theorem lay_lists : ∀ ls : List (List Nat), PyData.canLayAll0 (ls.map iL) = true
  | [] => rfl
  | l :: ls => by
    rw [List.map_cons, PyData.canLayAll0, lay_lists ls]
    unfold iL
    rw [PyData.canLay0, lay_ints]
    rfl
theorem shaped_lists (ls : List (List Nat)) : SeqAt.shaped (.list (ls.map iL)) = true := by
  unfold SeqAt.shaped
  rw [PyData.canLay0, lay_lists, PyData.depth]
  have := depth_lists ls
  rw [Bool.true_and, decide_eq_true_iff]
  omega
theorem eqv_sgs : ∀ l m : List Nat, PyData.eqvAll (l.map fun c => PyData.str ⟨#[c]⟩) (m.map fun c => PyData.str ⟨#[c]⟩) = decide (l = m)
  | [], [] => rfl
  | [], b :: m => rfl
  | a :: l, [] => rfl
  | a :: l, b :: m => by
    rw [List.map_cons, List.map_cons, PyData.eqvAll, eqv_sgs l m, PyData.eqv]
    by_cases e : a = b
    · subst e; simp
    · have : ((⟨#[a]⟩ : Str) == ⟨#[b]⟩) = false := by
        rw [beq_eq_false_iff_ne]
        intro z
        injection z with z
        simp at z
        exact e z
      rw [this]; simp [e]
theorem eqv_ints : ∀ l m : List Nat, PyData.eqvAll (l.map fun j => PyData.int (j : Nat)) (m.map fun j => PyData.int (j : Nat)) = decide (l = m)
  | [], [] => rfl
  | [], b :: m => rfl
  | a :: l, [] => rfl
  | a :: l, b :: m => by
    rw [List.map_cons, List.map_cons, PyData.eqvAll, eqv_ints l m, PyData.eqv]
    by_cases e : a = b
    · subst e; simp
    · have : (((a : Nat) : Int) == ((b : Nat) : Int)) = false := by
        rw [beq_eq_false_iff_ne]; omega
      rw [this]; simp [e]
/-! what is shown -/
theorem show_ints : ∀ l : List Nat, (∀ j ∈ l, j < 10) → PyData.showableAll (l.map fun j => PyData.int (j : Nat)) = true ∧ ((PyData.shownAll (l.map fun j => PyData.int (j : Nat))).map (·.length)).sum = l.length ∧ (PyData.shownAll (l.map fun j => PyData.int (j : Nat))).length = l.length
  | [], _ => ⟨rfl, rfl, rfl⟩
  | a :: l, h => by
    obtain ⟨h1, h2, h3⟩ := show_ints l fun j hj => h j (List.mem_cons_of_mem _ hj)
    have ha : a < 10 := h a (List.mem_cons_self ..)
    have key : ∀ a < 10, (PyData.int ((a : Nat) : Int)).showable = true ∧ (PyData.int ((a : Nat) : Int)).shown.length = 1 := by decide +kernel
    obtain ⟨k1, k2⟩ := key a ha
    rw [List.map_cons, PyData.showableAll, h1, k1, PyData.shownAll, List.map_cons, List.sum_cons, h2, k2, List.length_cons, List.length_cons, h3]
    exact ⟨rfl, by omega, rfl⟩
theorem shown_ints {l : List Nat} (h : ∀ j ∈ l, j < 10) (hl : l.length ≤ 1000) : (iL l).showable = true ∧ (iL l).hasDict = false ∧ (iL l).depth ≤ 60 ∧ (iL l).shown.length ≤ sizeLine := by
  obtain ⟨h1, h2, h3⟩ := show_ints l h
  have nd : ∀ l : List Nat, PyData.hasDictAll (l.map fun j => PyData.int (j : Nat)) = false := by
    intro l
    induction l with
    | nil => rfl
    | cons a l ih => rw [List.map_cons, PyData.hasDictAll, ih]; rfl
  unfold iL
  rw [PyData.showable, h1, PyData.hasDict, nd, PyData.depth, depth_ints, PyData.shown]
  refine ⟨rfl, rfl, by decide, ?_⟩
  have := listText_len_le (PyData.shownAll (l.map fun j => PyData.int (j : Nat)))
  rw [h2, h3] at this
  rw [sizeLine_eq]
  omega
/-! a part of the letters is stripped away -/
theorem strip_all {z b : Str} (h : ∀ c ∈ z.cps.toList, c ∈ b.cps.toList) : Txt.stripChars z b = (⟨#[]⟩ : Str) := by
  unfold Txt.stripChars
  rw [PySem.W.stripBy_eq]
  unfold PySem.W.stripped
  have e : z.cps.toList.takeWhile b.cps.contains = z.cps.toList := by
    have : ∀ l : List Nat, (∀ c ∈ l, c ∈ b.cps.toList) → l.takeWhile b.cps.contains = l := by
      intro l
      induction l with
      | nil => intro _; rfl
      | cons a l ih =>
        intro hl
        have ha : b.cps.contains a = true := by simpa using hl a (List.mem_cons_self ..)
        rw [List.takeWhile_cons_of_pos ha, ih fun c hc => hl c (List.mem_cons_of_mem _ hc)]
    exact this _ h
  simp only [if_true, e]
  rw [Array.length_toList]
  unfold Builtin.Str.strSub
  simp [Str.length]
end Mth

set_option Elab.async false
set_option linter.all false
set_option maxRecDepth 100000
set_option maxHeartbeats 4000000
namespace Exn
open PySem PySem.W PySem.Calls PyProof.Rows PySem.HandSPX
/-! an own error class over any built-in error: def __init__(self, f): self.f = f -/
section
open Builtin Builtin.ObjectAttr
variable {prog : Program} {w : World} {A : Around} {E : Value → Shared → Prop} {R : Result → Shared → Prop} {hp : Heap} {g : Array GenState} {d : Drawn} {t : Nat} {os : OsState} {B : String} {bmB : List Value}
theorem osaB {K : Frag} {name : Str} {tk : Tok} {v : Value} {x C : Addr} {fv : Array Value} {cd : ClassData} (SF : StoreFacts B bmB "object.__setattr__" "object")
    (X : K.In hp) (hx : hp.get? x = some { cls := .ref C, data := .fields fv }) (ho : excOver K C bmB = true) (ht : takerIn K C name = some none) (hcd : clsIn K C = some cd) (hh : cd.hasDict = true)
    (hq : ∀ h' tk' dx, (∀ b o, b ≠ x → hp.get? b = some o → h'.get? b = some o) → hp.objs.size ≤ dx → dx ≠ x → h'.get? x = some { cls := .ref C, dict := some dx, data := .fields fv } → h'.Ns1 dx (fun y => if y = name then some v else none) →
      R (.ok (.ret .none)) ⟨h', g, d, tk', os⟩) : codeAny (model prog w) A (.call (.builtin "object.__setattr__") ⟨[.ref x, .str name tk, v], []⟩) R ⟨hp, g, d, t, os⟩ := by
  have xs : x ≠ hp.objs.size := Nat.ne_of_lt (Heap.lt_size hx)
  have hcls : Looks (model prog w) hp (classData C) cd := looks_clsIn X hcd
  refine osa_openX (s := ⟨hp, g, d, t, os⟩) (ox := { cls := .ref C, data := .fields fv }) (od := none) SF X ⟨hx, rfl, rfl, trivial⟩ ho ht fun b => ?_
  show wpAny _ _ (storeInOwnDict (.ref x) (.ref C) (.str name tk) name v b) _ _ _
  obtain ⟨nm, bs, mro, ns, qn, hd, sn, sb, ab, col, del⟩ := cd
  cases hh
  unfold storeInOwnDict ownDictForStores
  repeat (first | with_reducible refine store_in_new ?_ ?_ | with_reducible refine wpAny_loadPart_at hx ?_ | with_reducible refine hcls.at ?_ | wp_step)
  · exact ⟨_, #[], _, (Heap.get?_update_ne _ _ _ _ xs.symm).trans (Heap.get?_push_at rfl rfl), rfl, fun e he => absurd he (by simp), fun _ => rfl⟩
  · intro h' tk' hn' hs
    refine hq h' tk' hp.objs.size (fun b o hb hob => ?_) (Nat.le_refl _) xs.symm ?_ hn'
    · exact (hs.2 b (Nat.ne_of_lt (Heap.lt_size hob))).trans ((Heap.get?_update_ne _ _ _ _ hb).trans (Heap.get?_push_of_some _ hob))
    · exact (hs.2 x xs).trans (Heap.get?_update_self _ (Heap.get?_push_of_some _ hx) rfl)
end
def iA (f : Str) (p1 p2 : Pos) : Arguments := { posonlyargs := [], args := [{ arg := "self", annotation := none, pos := p1 }, { arg := f, annotation := none, pos := p2 }], vararg := none, kwonlyargs := [], kw_defaults := [], kwarg := none, defaults := [] }
def iB (f : Str) (q1 q2 q3 q4 : Pos) : List Stmt := [.Assign [.Attribute (.Name "self" q1) f q2] (.Name f q3) q4]
def iS (f : Str) (m : List (Str × Const)) : Scope := { kind := .function, names := [("self", .local), (f, .local)], isGenerator := false, isCoroutine := false, more := m }
end Exn

set_option Elab.async false
set_option linter.all false
set_option maxRecDepth 100000
set_option maxHeartbeats 4000000
namespace Exn
open PySem PySem.W PySem.Calls PyProof.Rows PySem.HandSPX
abbrev keyTail : List Value := [.type "KeyError", .type "LookupError", .type "Exception", .type "BaseException", .type "object"]
open PySem.F in
theorem storeKey : StoreFacts "KeyError" keyTail "object.__setattr__" "object" :=
  { mro := by kernel_rfl, slot := .of (owner := "object") (n := "__setattr__") (by rw [typeLookup_type, builtinLookup_eq_fast]; kernel_rfl) (by decide +kernel) (by decide +kernel) (by decide +kernel) (by first | exact .inl (by decide +kernel) | exact .inr (by decide +kernel)) (by rw [isSubtype_type]; kernel_rfl),
    entry := entry_object_sa, kind := by decide +kernel, split := by decide +kernel, hasOwner := by decide +kernel, args := fun a b c => by unfold argsOk; kernel_rfl, passes := fun self => by kernel_rfl }
/-! such a class called, by position or with keywords; the maker may be that of a base -/
section
variable {prog : Program} {w : World} {M : Model} {A : Around} {E : Value → Shared → Prop} {R : Result → Shared → Prop} {h : Heap} {g : Array GenState} {d : Drawn} {t : Nat} {os : OsState}
variable {nm q : Str} {C N : Addr} {bs bm bm0 : List Value} {hdct : Bool} {sn : List Str} {sub : List Value} {ab : Bool} {col : Option Bool} {dd : Option Addr} {k0 k1 k2 k3 k5 : Option Value} {B newId initId : String} {rest : List Value} {kw : List (Str × Value)}
/-- what the class's chain must say of the maker -/
structure Chain (bm : List Value) (B : String) : Prop where
  cB : bm.contains (.type B) = true
  cA : bm.contains (.type "AttributeError") = false
  cN : bm.contains (.type "NameError") = false
theorem checkNewX (F : ExcBaseFacts B newId initId bm0) (hT : Chain bm B) {Q : Unit → Shared → Prop}
    (hC : h.get? C = some (excClassObj nm q C N bs bm hdct sn sub ab col dd k0 k1 k2 k3 k5 newId)) (hq : Q () ⟨h, g, d, t, os⟩) : wpAny M A (checkBuiltinCall newId ⟨.ref C :: rest, kw⟩) Q E ⟨h, g, d, t, os⟩ := by
  have hcB : (Value.ref C :: bm).contains (.type B) = true := by rw [List.contains_cons, hT.cB, Bool.or_true]
  have hst := F.noStar
  simp only [checkBuiltinCall, F.newKind, F.newSplit, F.newRow]
  repeat (first | refine wpAny_loadPart_at hC ?_ | (refine wpAny_isSubtype_exc hC ?_; rw [hcB]) | refine wpAny_staticBase_exc hC ?_ | refine wpAny_madeBy_exc hC ?_ | simp only [bne_self_eq_false, Bool.false_eq_true, if_false] | wp_step)
  exact hq
theorem newX (F : ExcBaseFacts B newId initId bm0) (hT : Chain bm B) (hC : h.get? C = some (excClassObj nm q C N bs bm hdct sn sub ab col dd k0 k1 k2 k3 k5 newId)) (hrest : rest.length ≤ sizeLine)
    (hq : R (.ok (.ret (.ref (h.objs.size + 1)))) ⟨(h.push (W.kdv_tup rest)).push (excO C h.objs.size), g, d, t, os⟩) :
    codeAny (model prog w) A (.builtin newId ⟨.ref C :: rest, kw⟩) R ⟨h, g, d, t, os⟩ := by
  have hends := F.ends
  have cB : (Value.ref C :: bm).contains (.type B) = true := by rw [List.contains_cons, hT.cB, Bool.or_true]
  have cA : (Value.ref C :: bm).contains (.type "AttributeError") = false := by rw [List.contains_cons, hT.cA]; rfl
  have cN : (Value.ref C :: bm).contains (.type "NameError") = false := by rw [List.contains_cons, hT.cN]; rfl
  refine codeAny_builtinAt F.entry ?_
  unfold Builtin.«BaseException.__new__»
  refine PySem.wpAt_bind ?_
  show PySem.wpAt _ _ _ (stack >>= _) _ _ _
  refine PySem.wpAt_bind (PySem.wpAt_stack fun p below => PySem.wpAt_of_wpAny ?_)
  wp_walk
  refine PySem.wpAt_of_wpAny ?_
  rw [F.owner]
  repeat (first | with_reducible refine wpAny_madeHere_exc F.canon hC ?_ | with_reducible refine wpAny_loadPart_at hC ?_ | (with_reducible refine wpAny_isSubtype_exc hC ?_; first | rw [cB] | rw [cA] | rw [cN]) | wp_step)
  show R _ _
  rw [Heap.size_push]
  exact hq
theorem typeCallX (F : ExcBaseFacts B newId initId bm0) (hT : Chain bm B) {fI : Addr} {Q : Fin → Shared → Prop} (hC : h.get? C = some (excClassObj nm q C N bs bm hdct sn sub ab col dd k0 k1 k2 k3 k5 newId))
    (hi : W.Looks (model prog w) h (typeLookup (.ref C) "__init__") (some (.ref fI))) (hb : ∀ self, W.Looks (model prog w) h (bindSpecial (.ref fI) self) (.ref fI, [self])) (hrest : rest.length ≤ sizeLine)
    (hq : codeAny (model prog w) A (.call (.ref fI) ⟨.ref (h.objs.size + 1) :: rest, kw⟩) (fun r s' => match r with | .ok (.ret v) => v = .none ∧ Q (.done (.ret (.ref (h.objs.size + 1)))) s' | .ok _ => False | .error e => E e s')
      ⟨(h.push (W.kdv_tup rest)).push (excO C h.objs.size), g, d, t, os⟩) : wpAny (model prog w) A (Builtin.«type.__call__» ⟨.ref C :: rest, kw⟩) Q E ⟨h, g, d, t, os⟩ := by
  repeat (first | with_reducible refine wpAny_loadPart_at hC ?_ | with_reducible refine wpAny_madeBy_exc hC ?_ | wp_step)
  refine codeAny_call_builtin_code (Code.quiet_builtin _ F.quiet) (checkNewX F hT hC (newX F hT hC hrest ?_))
  show wpAny _ _ _ _ _ _
  have k : ∀ b o, h.get? b = some o → ((h.push (W.kdv_tup rest)).push (excO C h.objs.size)).get? b = some o := fun b o e => Heap.get?_push_of_some _ (Heap.get?_push_of_some _ e)
  have hC1 := k _ _ hC
  have hge : ((h.push (W.kdv_tup rest)).push (excO C h.objs.size)).get? (h.objs.size + 1) = some (excO C h.objs.size) := by heap_get
  have cC : (Value.ref C :: bm).contains (.ref C) = true := by simp
  have i1 := hi.keeps k
  have b1 := (hb (.ref (h.objs.size + 1))).keeps k
  unfold isInstance
  repeat (first | with_reducible refine wpAny_loadPart_at hge ?_ | (with_reducible refine wpAny_isSubtype_exc hC1 ?_; rw [cC]) | wp_step)
  show wpAny _ _ (typeLookup (.ref C) _) _ _ _
  refine i1.at (wpAny_holding (wpAny_bind (b1.at (wpAny_bind (wpAny_call (codeAny_mono hq fun r s' z => ?_))))))
  rcases r with e | (v | _ | _ | _) <;> first | exact z | exact z.elim | skip
  obtain ⟨rfl, z⟩ := z
  first | exact wpAny_pure (wpAny_pure z) | (wp_walk; exact z)
theorem callX (F : ExcBaseFacts B newId initId bm0) (hT : Chain bm B) {fI : Addr} (hC : h.get? C = some (excClassObj nm q C N bs bm hdct sn sub ab col dd k0 k1 k2 k3 k5 newId))
    (hi : W.Looks (model prog w) h (typeLookup (.ref C) "__init__") (some (.ref fI))) (hb : ∀ self, W.Looks (model prog w) h (bindSpecial (.ref fI) self) (.ref fI, [self])) (hrest : rest.length ≤ sizeLine)
    (hq : codeAny (model prog w) (A.under (.builtin "type.__call__" ⟨.ref C :: rest, kw⟩)) (.call (.ref fI) ⟨.ref (h.objs.size + 1) :: rest, kw⟩) (W.InitBack (h.objs.size + 1) R)
      ⟨(h.push (W.kdv_tup rest)).push (excO C h.objs.size), g, d, t, os⟩) : codeAny (model prog w) A (.call (.ref C) ⟨rest, kw⟩) R ⟨h, g, d, t, os⟩ := by
  have f1 := tc_lookup
  have f2 := tc_bind (.ref C)
  have hTy : (⟨h, g, d, t, os⟩ : Shared).TypeIs (.ref C) "type" := ⟨_, hC, rfl⟩
  refine codeAny_of_tree ?_
  show wpAny _ _ (callAny (.ref C) _) _ _ _
  repeat (any_goals (first | assumption | with_reducible refine wpAny_loadPart_at hC ?_ | wp_step))
  refine ⟨rfl, codeAny_call_builtin_at (Code.quiet_builtin _ (by decide +kernel)) entry_typeCall (wpAny_check_type_call_sub hC (typeCallX F hT hC hi hb hrest ?_))⟩
  exact codeAny_mono hq fun r s' z => by rcases r with e | (v | _ | _ | _) <;> exact z
end
end Exn

set_option Elab.async false
set_option linter.all false
set_option maxRecDepth 100000
set_option maxHeartbeats 4000000
namespace Exn
open PySem PySem.Spec PyProof.Rows L2
/-! an own error held as a value: at a, of the class at C, its dict at d -/
def ExV (C d a : Addr) : HO := .ext fun h => ∃ t1 : Addr, h.get? a = some { cls := .ref C, dict := some d, data := .fields #[.ref t1, .none, .none, .none, .bool false, .none] }
theorem exV_ok {P : Program} {w : World} {H : Hp} {h : Heap} {a C d t1 : Addr} (e : h.get? a = some { cls := .ref C, dict := some d, data := .fields #[.ref t1, .none, .none, .none, .bool false, .none] }) : ObjOk P w H h a (ExV C d a) :=
  ⟨⟨t1, e⟩, ⟨_, e⟩, fun _ _ ⟨t, z⟩ k => ⟨t, k _ z⟩⟩
/-- what its class must say, for a field f to be read and for isinstance -/
structure Xv (K : PySem.W.Frag) (C : Addr) : Prop where
  ga : PySem.W.findIn K (.ref C) "__getattribute__" = some (some (.builtin "BaseException.__getattribute__"))
  gg : PySem.W.findIn K (.ref C) "__getattr__" = some none
  exC : PySem.W.subIn K (.ref C) (.type "BaseException") = some true
  hdC : PySem.W.hasDictIn K C = true
  ha : PySem.W.findIn K (.ref C) "__class__" = some (some (.builtin "object.__class__"))
  hm : PySem.W.mroIn K C (.type "object") = some true
  hn : PySem.W.specialIn K (.builtin "object.__class__") "__get__" = some (some (.builtin "getset_descriptor.__get__"))
  ht : PySem.W.takesIn K (.builtin "object.__class__") = some true
/-- an error made as a value: its dict at d, itself at a, both new -/
def tMkVg (f : Str) (C : Addr) (ta : TA) : TE := fun σ H Q => ta σ H fun vs H1 => ∃ v, vs = [v] ∧ ∀ d a, H1 d = none → H1 a = none → a ≠ d → Q (.ref a) (upd (upd H1 d (.xd [(f, v)])) a (ExV C d a))
open PySem.W in
/-- these facts, asked at once -/
def ecB (K : PySem.W.Frag) (C fI : Addr) (f : Str) (bmB : List Value) (newId : String) : Bool :=
  excInitIn K C bmB newId && (excOver K C bmB && (hasDictIn K C && (decide (findIn K (.ref C) "__setattr__" = some (some (.builtin "object.__setattr__"))) && (decide (findIn K (.ref C) "__getattribute__" = some (some (.builtin "BaseException.__getattribute__"))) && (decide (findIn K (.ref C) "__getattr__" = some none) &&
    (decide (findIn K (.ref C) f = some none) && (decide (takerIn K C f = some none) && (decide (typeIn K (.ref fI) = some (.type "function")) && (keepIn K (.ref C) && (decide (subIn K (.ref C) (.type "BaseException") = some true) && (decide (typeIn K (.ref C) = some (.type "type")) &&
      (decide (findIn K (.ref C) "__class__" = some (some (.builtin "object.__class__"))) && decide (mroIn K C (.type "object") = some true)))))))))))))
theorem xv_of {K : PySem.W.Frag} {C fI : Addr} {f : Str} {bmB : List Value} {newId : String} (h : ecB K C fI f bmB newId = true) (hn : PySem.W.specialIn K (.builtin "object.__class__") "__get__" = some (some (.builtin "getset_descriptor.__get__"))) (ht : PySem.W.takesIn K (.builtin "object.__class__") = some true) :
    Xv K C ∧ PySem.W.findIn K (.ref C) f = some none := by
  unfold ecB at h
  simp only [Bool.and_eq_true, decide_eq_true_eq] at h
  obtain ⟨_, _, h3, _, h5, h6, h7, _, _, _, h11, _, h13, h14⟩ := h
  exact ⟨⟨h5, h6, h11, h3, h13, h14, hn, ht⟩, h7⟩
section
variable {X : Cx}
theorem exV_inst {pins : List (Addr × Obj)} {σ : L2.St} {H : Hp} {s : Shared} {a C d : Addr} {fs : List (Str × V)} (I : Inv X pins σ H s) (ea : H a = some (ExV C d a)) (ed : H d = some (.xd fs)) :
    ∃ (ox od : Obj) (mA : Str → Option Value), PySem.W.InstAt s.heap a ox C (some od) ∧ (∀ n, PySem.W.lookIn n od = some (mA n)) ∧ ∀ f, RelO (fs.lookup f) (mA f) := by
  obtain ⟨⟨t1, ha⟩, _⟩ := (show ObjOk X.prog X.w H s.heap a (ExV C d a) from I.hok a _ ea)
  obtain ⟨mA, hns, hr⟩ := (show ObjOk X.prog X.w H s.heap d (.xd fs) from I.hok d _ ed)
  obtain ⟨od, ho, hl⟩ := lookIn_ns hns
  exact ⟨_, od, mA, ⟨ha, rfl, rfl, ho⟩, hl, hr⟩
def tAttrV (K : PySem.W.Frag) (f : Str) (te : TE) : TE := fun σ H Q => te σ H fun x H1 => ∃ (a C d : Addr) (fs : List (Str × V)) (v : V), x = .ref a ∧ H1 a = some (ExV C d a) ∧ H1 d = some (.xd fs) ∧ fs.lookup f = some v ∧ Xv K C ∧ PySem.W.findIn K (.ref C) f = some none ∧ Q v H1
theorem pe_attrV {e : Expr} {te : TE} {pos : Pos} {f : Str} (he : PE X e te) (hb : attributeBase e f X.env (eval e X.env) = eval e X.env := by rfl) : PE X (.Attribute e f pos) (tAttrV X.K f te) := by
  refine ⟨fun pins s σ H Q I h => attr_of hb (thn (he.run pins s σ H _ I h) ?_)⟩
  rintro u s1 ⟨x, H1, I1, rx, a, C, d, fs, v, rfl, ea, ed, l, T, hno, q⟩
  obtain rfl : u = Value.ref a := rx
  obtain ⟨ox, od, mA, J, hl, hr⟩ := exV_inst I1 ea ed
  obtain ⟨u, hu, ru⟩ := RelO.some_of (v := v) (o := mA f) (by rw [← l]; exact hr f)
  exact HandSPX.exc_get I1.kIn J T.ga T.gg T.exC (PySem.W.findObj_own T.hdC hno rfl (by rw [hl, hu])) (handed_of ru) ⟨v, H1, I1.tok _, ru, q⟩
def rIsV (K : PySem.W.Frag) : List V → Hp → VK → Prop := fun xs H Q => ∃ (a C d : Addr) (fs : List (Str × V)) (c : V) (u : Value) (b : Bool), xs = [.ref a, c] ∧ ClsV c u ∧ H a = some (ExV C d a) ∧ H d = some (.xd fs) ∧ Xv K C ∧ PySem.W.kitOne K (.ref C) u = some b ∧ Q (.bl b) H
theorem call_isV : CallR X (.builtin "isinstance") (rIsV X.K) := by
  intro pins s σ H xs us Q I r h
  obtain ⟨a, C, d, fs, c, u, b, rfl, kc, ea, ed, T, e, q⟩ := h
  obtain ⟨u1, u2, rfl, r1, r2⟩ := vals2 r
  obtain rfl : u1 = Value.ref a := r1
  have e2 := kc.eq r2
  subst e2
  obtain ⟨ox, od, mA, J, _, _⟩ := exV_inst I ea ed
  obtain ⟨cd, hcd, _⟩ := PySem.W.any_some T.hdC
  exact PySem.W.kia_one (PySem.W.kitx_exc (by rw [hcd]; rfl) T.ga T.gg T.exC T.ha T.hn T.ht T.hm) I.kIn J e (fun z => nomatch z) fun tk => ⟨.bl b, H, I.tok tk, rfl, q⟩
end
end Exn
/-! the field value -/
namespace Exn
open PySem PySem.W PySem.Calls PyProof.Rows PySem.HandSPX
/-- what the written part says of such a class: its name, its place C, its __init__ at fI -/
structure Ecl_value (K : Frag) (mg : Str → Option Value) (nm qual : Str) (B Bm newId initId : String) (bmB bm0 : List Value) (C fI : Addr) : Prop where
  fb : ExcBaseFacts Bm newId initId bm0
  ch : Chain bmB Bm
  sf : StoreFacts B bmB "object.__setattr__" "object"
  gC : mg nm = some (.ref C)
  ini : excInitIn K C bmB newId = true
  ovr : excOver K C bmB = true
  hdC : hasDictIn K C = true
  sa : findIn K (.ref C) "__setattr__" = some (some (.builtin "object.__setattr__"))
  ga : findIn K (.ref C) "__getattribute__" = some (some (.builtin "BaseException.__getattribute__"))
  gg : findIn K (.ref C) "__getattr__" = some none
  noN : findIn K (.ref C) "value" = some none
  tk : takerIn K C "value" = some none
  iC : findIn K (.ref C) "__init__" = some (some (.ref fI))
  tC : typeIn K (.ref fI) = some (.type "function")
  kC : keepIn K (.ref C) = true
  exC : subIn K (.ref C) (.type "BaseException") = some true
  tyC : typeIn K (.ref C) = some (.type "type")
  fn : ∃ (oc : Value) (od : Option Addr) (doc pm : Value) (an : Option Addr) (cdv ct : Value) (osl : Array (Option Value)) (p1 p2 q1 q2 q3 q4 : Pos),
    K.lookup fI = some ⟨oc, od, .func (fnOf "__init__" qual (iA "value" p1 p2) (iB "value" q1 q2 q3 q4) (iS "value" []) .none .none doc pm an cdv ct), osl⟩ ∧ codeIn K cdv qual = true
theorem ecl_value {K : Frag} {mg : Str → Option Value} {nm qual : Str} {B Bm newId initId : String} {bmB bm0 : List Value} {C fI : Addr} (fb : ExcBaseFacts Bm newId initId bm0) (ch : Chain bmB Bm) (sf : StoreFacts B bmB "object.__setattr__" "object") (gC : mg nm = some (.ref C))
    (h : ecB K C fI "value" bmB newId = true) (iC : findIn K (.ref C) "__init__" = some (some (.ref fI))) {oc : Value} {od : Option Addr} {doc pm : Value} {an : Option Addr} {cdv ct : Value} {osl : Array (Option Value)} {p1 p2 q1 q2 q3 q4 : Pos}
    (l : K.lookup fI = some ⟨oc, od, .func (fnOf "__init__" qual (iA "value" p1 p2) (iB "value" q1 q2 q3 q4) (iS "value" []) .none .none doc pm an cdv ct), osl⟩) (c : codeIn K cdv qual = true) : Ecl_value K mg nm qual B Bm newId initId bmB bm0 C fI := by
  unfold ecB at h
  simp only [Bool.and_eq_true, decide_eq_true_eq] at h
  obtain ⟨h1, h2, h3, h4, h5, h6, h7, h8, h9, h10, h11, h12, _⟩ := h
  exact ⟨fb, ch, sf, gC, h1, h2, h3, h4, h5, h6, h7, h8, iC, h9, h10, h11, h12, ⟨oc, od, doc, pm, an, cdv, ct, osl, p1, p2, q1, q2, q3, q4, l, c⟩⟩
/-- an error just made: at e, its dict at d, the field in it -/
structure Made_value (h h' : Heap) (e C d : Addr) (v : Value) : Prop where
  keep : ∀ b o, h.get? b = some o → h'.get? b = some o
  new : h.objs.size ≤ e
  obj : ∃ t1 : Addr, h'.get? e = some { cls := .ref C, dict := some d, data := .fields #[.ref t1, .none, .none, .none, .bool false, .none] }
  dbig : h.objs.size ≤ d
  dne : d ≠ e
  ns : h'.Ns1 d (fun y => if y = "value" then some v else none)
section
variable {prog : Program} {w : World} {A : Around} {E : Value → Shared → Prop} {R : Result → Shared → Prop} {s : Shared} {K : Frag} {mg : Str → Option Value} {nm qual : Str} {B Bm newId initId : String} {bmB bm0 : List Value} {C fI : Addr}
theorem init_value (T : Ecl_value K mg nm qual B Bm newId initId bmB bm0 C fI) {x t0 : Addr} {v : Value} {ar : Args} (X : K.In s.heap) (hlim : s.heap.NoLimit) (hx : s.heap.get? x = some (excO C t0)) (hroom : A.depth < recursionLimit)
    (hbind : ∀ doc pm an cdv ct p1 p2 q1 q2 q3 q4 s', BindsTo s' (fnOf "__init__" qual (iA "value" p1 p2) (iB "value" q1 q2 q3 q4) (iS "value" []) .none .none doc pm an cdv ct) ar [("self", .ref x), ("value", v)])
    (hq : ∀ h' tk dx, (∀ b o, b ≠ x → s.heap.get? b = some o → h'.get? b = some o) → h'.get? x = some { cls := .ref C, dict := some dx, data := .fields #[.ref t0, .none, .none, .none, .bool false, .none] } → s.heap.objs.size ≤ dx → dx ≠ x →
      h'.Ns1 dx (fun y => if y = "value" then some v else none) → R (.ok (.ret .none)) { s with heap := h', toks := tk }) :
    codeAny (model prog w) A (.call (.ref fI) ar) R s := by
  obtain ⟨oc, od, doc, pm, an, cdv, ct, osl, p1, p2, q1, q2, q3, q4, ho, hcd⟩ := T.fn
  obtain ⟨cd, hcl, hhd⟩ := any_some T.hdC
  refine Att.call_fn (binds := [("self", .ref x), ("value", v)]) X hlim ho hcd hroom (hbind _ _ _ _ _ _ _ _ _ _ _ _) (by first | rfl | decide | with_unfolding_all rfl) (fun s₁ IC => ?_) rfl rfl rfl
  obtain ⟨h₁, tk₁, rfl⟩ := IC.toInCall.same
  have k := IC.toInCall.keep
  have hn := IC.toInCall.ns
  have X₁ : K.In h₁ := X.keeps k
  show wpAny _ _ (execs _ _) _ _ _
  refine wpAny_execs_cons (plainObj_wpAny_Assign_Attribute ?_)
  refine wpAny_Name (wpAny_loadName_local rfl rfl hn (v := v) (by first | rfl | with_unfolding_all rfl | kernel_rfl) ?_) (by decide)
  refine wpAny_Name (wpAny_loadName_local rfl rfl hn (v := .ref x) (by first | rfl | with_unfolding_all rfl | kernel_rfl) ?_) (by decide)
  refine set_plain X₁ (ox := excO C t0) (od := none) ⟨k _ _ hx, rfl, rfl, trivial⟩ T.sa (osaB T.sf X₁ (k _ _ hx) T.ovr T.tk hcl hhd fun h₃ tk₃ dx k₃ dn dne hx₃ hn₃ => ?_)
  show wpAny _ _ (execs _ _) _ _ _
  exact wpAny_execs_nil (hq h₃ tk₃ dx (fun b o hb e => k₃ b o hb (k b o e)) hx₃ (Nat.le_of_lt (Nat.lt_of_lt_of_le hn.lt dn)) dne hn₃)
theorem made_value (T : Ecl_value K mg nm qual B Bm newId initId bmB bm0 C fI) {v : Value} {rest : List Value} {kw : List (Str × Value)} (X : K.In s.heap) (hlim : s.heap.NoLimit) (hroom : A.depth + 1 < recursionLimit) (how : (rest = [v] ∧ kw = []) ∨ (rest = [] ∧ kw = [(("value" : Str), v)]))
    (hq : ∀ h' tk e d, Made_value s.heap h' e C d v → R (.ok (.ret (.ref e))) { s with heap := h', toks := tk }) :
    codeAny (model prog w) A (.call (.ref C) ⟨rest, kw⟩) R s := by
  obtain ⟨nm', N, q, bs, bm, hd, sn, sub, ab, col, dd, k0, k1, k2, k3, k5, hC, hbm⟩ := excInit_of X T.ini
  obtain ⟨hp, g, dr, tk, os⟩ := s
  have k : ∀ b o, hp.get? b = some o → ((hp.push (kdv_tup rest)).push (excO C hp.objs.size)).get? b = some o := fun b o e => Heap.get?_push_of_some _ (Heap.get?_push_of_some _ e)
  have hget : ((hp.push (kdv_tup rest)).push (excO C hp.objs.size)).get? (hp.objs.size + 1) = some (excO C hp.objs.size) := by heap_get
  have chn : Chain bm Bm := ⟨by rw [hbm]; exact T.ch.cB, by rw [hbm]; exact T.ch.cA, by rw [hbm]; exact T.ch.cN⟩
  have hsz : rest.length ≤ sizeLine := by rcases how with ⟨rfl, _⟩ | ⟨rfl, _⟩ <;> (rw [sizeLine_eq]; simp)
  refine callX T.fb chn hC (looks_findIn X T.iC) (fun self => bind_fn X self T.tC) hsz ?_
  refine init_value (s := ⟨(hp.push (kdv_tup rest)).push (excO C hp.objs.size), g, dr, tk, os⟩) (v := v) T (X.keeps k) (hlim.keeps k) hget (show A.depth + 1 < recursionLimit from hroom) ?_ fun h' tk' dx k' hx dn dne hns => ?_
  · rcases how with ⟨rfl, rfl⟩ | ⟨rfl, rfl⟩
    · exact fun _ _ _ _ _ _ _ _ _ _ _ _ => BindsTo.of_eq (by first | rfl | with_unfolding_all rfl)
    · exact fun _ _ _ _ _ _ _ _ _ _ _ _ => BindsTo.of_eq (by first | rfl | with_unfolding_all rfl)
  have old : ∀ b o, hp.get? b = some o → h'.get? b = some o := fun b o e => k' b o (Nat.ne_of_lt (Nat.lt_succ_of_lt (Heap.lt_size e))) (k b o e)
  have z : hp.objs.size + 1 + 1 ≤ dx := by
    have q := dn
    rw [Heap.size_push, Heap.size_push] at q
    exact q
  exact ⟨rfl, hq h' tk' (hp.objs.size + 1) dx ⟨old, Nat.le_succ _, ⟨_, hx⟩, (show hp.objs.size ≤ dx by omega), dne, hns⟩⟩
end
end Exn
namespace Exn
open PySem PySem.Spec PyProof.Rows L2
theorem relO_value {v : V} {v' : Value} (r : RelV v v') (f : Str) : RelO (List.lookup f [(("value" : Str), v)]) (if f = "value" then some v' else none) := by
  by_cases hw : f = "value"
  · subst hw
    rw [if_pos rfl, show List.lookup ("value" : Str) [(("value" : Str), v)] = some v by simp [List.lookup]]
    exact r
  · have qw : (f == ("value" : Str)) = false := by simpa using hw
    rw [if_neg hw, show List.lookup f [(("value" : Str), v)] = none by simp [List.lookup, qw]]
    trivial
section
variable {X : Cx} {nm qual : Str} {B Bm newId initId : String} {bmB bm0 : List Value} {C fI : Addr}
/-- the making of the error that is raised at once -/
def tMk_value (C : Addr) (ta : TA) : L2.St → Hp → XK → Prop := fun σ H Q => ta σ H fun vs H1 => ∃ v, vs = [v] ∧ ∀ d, H1 d = none → Q (.ref C) (some d) (upd H1 d (.xd [(("value" : Str), v)]))
theorem pmk_value {a : Expr} {ta : TA} {p pos : Pos} {k : Nat} (T : Ecl_value X.K X.mg nm qual B Bm newId initId bmB bm0 C fI) (hr : Room k X.A) (ha : PA X [a] ta) (hg : Gl X nm) (hdb : (nm == ("__debug__" : Str)) = false := by decide)
    (he : starEach (a :: []) X.env = (false, eval a X.env) :: starEach [] X.env := by rfl) (hpl : (backTo pos (starEach [] X.env)).any (·.1) = false := by rfl) :
    PMk X (.Call (.Name nm p) [a] [] pos) (tMk_value C ta) := by
  intro pins s σ H Q I h
  refine wpAny_Call_Name_kw (ld_glob I hg T.gC ?_ hdb)
  refine PySem.W.callWith_K (h₀ := X.base) I.ok.mod.kin T.kC (thn (ha.run pos pins s σ H _ I h) ?_) he hpl
  rintro us s1 ⟨vs, H1, I1, r1, v, rfl, q1⟩
  obtain ⟨v', rfl, rv⟩ := vals1 r1
  refine ⟨I1.kIn, ?_⟩
  have hlim := I1.nolimit
  have hdp := hr.dp
  obtain ⟨hp, g, dr, tk, os⟩ := s1
  refine wpAny_call (made_value T I1.kIn hlim (by omega) (.inl ⟨rfl, rfl⟩) fun h' tk' e d M => ?_)
  show MkP X pins σ Q (.ref e) ⟨h', g, dr, tk', os⟩
  obtain ⟨t1, hoe⟩ := M.obj
  have hns := M.ns
  obtain ⟨G', g1, g2⟩ := restrict h' fun b => decide (b ≠ e)
  have gk : ∀ b, b ≠ e → G'.get? b = h'.get? b := fun b hb => g1 b (decide_eq_true hb)
  have ge : G'.get? e = none := g2 e (by simp)
  have old : ∀ b o, hp.get? b = some o → G'.get? b = some o := fun b o q => (gk b (Nat.ne_of_lt (Nat.lt_of_lt_of_le (Heap.lt_size q) M.new))).trans (M.keep b o q)
  have ob : ObjOk X.prog X.w (upd H1 d (.xd [(("value" : Str), v)])) G' d (.xd [(("value" : Str), v)]) := ⟨_, hns.at (fun o q => (gk d M.dne).trans q), fun f => relO_value rv f⟩
  have J : Inv X pins σ (upd H1 d (.xd [(("value" : Str), v)])) ⟨G', g, dr, tk', os⟩ := I1.laid (t' := tk') old M.dbig ob
  refine ⟨e, _, _, ⟨G', g, dr, tk', os⟩, _, .ref C, some d, rfl, J, fun b o q => ?_, ge, hoe, ⟨rfl, rfl⟩, rfl, rfl, ?_, rfl, I1.bare, raises_own T.exC T.tyC, q1 d (I1.hok.fresh M.dbig)⟩
  · by_cases hb : b = e
    · have q' : G'.get? b = some o := q
      rw [hb, ge] at q'
      cases q'
    · exact (gk b hb).symm.trans q
  · rw [upd_ne (Ne.symm M.dne)]
    exact I1.hok.fresh M.new
/-- the error as a value -/
abbrev tMkV_value (C : Addr) (ta : TA) : TE := tMkVg "value" C ta
theorem mkV_value {pins : List (Addr × Obj)} {s : Shared} {σ : L2.St} {H : Hp} {Q : VK} {v : V} {v' : Value} {rest : List Value} {kw : List (Str × Value)} {k : Nat} (T : Ecl_value X.K X.mg nm qual B Bm newId initId bmB bm0 C fI) (hr : Room k X.A) (I : Inv X pins σ H s) (rv : RelV v v')
    (how : (rest = [v'] ∧ kw = []) ∨ (rest = [] ∧ kw = [(("value" : Str), v')])) (q : ∀ d a, H d = none → H a = none → a ≠ d → Q (.ref a) (upd (upd H d (.xd [(("value" : Str), v)])) a (ExV C d a))) :
    wpAny (model X.prog X.w) X.A (call (.ref C) rest kw) (EP X pins σ Q) X.xe s := by
  have hlim := I.nolimit
  have hdp := hr.dp
  obtain ⟨hp, g, dr, tk, os⟩ := s
  refine wpAny_call (made_value T I.kIn hlim (by omega) how fun h' tk' e d M => ?_)
  obtain ⟨t1, hoe⟩ := M.obj
  obtain ⟨G', g1, g2⟩ := restrict h' fun b => decide (b ≠ e)
  have gk : ∀ b, b ≠ e → G'.get? b = h'.get? b := fun b hb => g1 b (decide_eq_true hb)
  have ge : G'.get? e = none := g2 e (by simp)
  have old : ∀ b o, hp.get? b = some o → G'.get? b = some o := fun b o z => (gk b (Nat.ne_of_lt (Nat.lt_of_lt_of_le (Heap.lt_size z) M.new))).trans (M.keep b o z)
  have J : Inv X pins σ (upd H d (.xd [(("value" : Str), v)])) ⟨G', g, dr, tk', os⟩ := I.laid (t' := tk') old M.dbig ⟨_, M.ns.at (fun o z => (gk d M.dne).trans z), fun f => relO_value rv f⟩
  have nHe : H e = none := I.hok.fresh M.new
  have nHe2 : (upd H d (.xd [(("value" : Str), v)])) e = none := by rw [upd_ne (Ne.symm M.dne)]; exact nHe
  have sub : ∀ b u, G'.get? b = some u → h'.get? b = some u := fun b o z => by
    by_cases hb : b = e
    · rw [hb, ge] at z; cases z
    · exact (gk b hb).symm.trans z
  exact ⟨.ref e, _, J.laidN (t' := tk') sub ge nHe2 (exV_ok hoe), rfl, q d e (I.hok.fresh M.dbig) nHe (Ne.symm M.dne)⟩
theorem pe_mkV_value {a : Expr} {ta : TA} {p pos : Pos} {k : Nat} (T : Ecl_value X.K X.mg nm qual B Bm newId initId bmB bm0 C fI) (hr : Room k X.A) (ha : PA X [a] ta) (hg : Gl X nm) (hdb : (nm == ("__debug__" : Str)) = false := by decide)
    (he : starEach (a :: []) X.env = (false, eval a X.env) :: starEach [] X.env := by rfl) (hpl : (backTo pos (starEach [] X.env)).any (·.1) = false := by rfl) : PE X (.Call (.Name nm p) [a] [] pos) (tMkV_value C ta) := by
  refine ⟨fun pins s σ H Q I h => wpAny_Call_Name_kw (ld_glob I hg T.gC ?_ hdb)⟩
  refine PySem.W.callWith_K (h₀ := X.base) I.ok.mod.kin T.kC (thn (ha.run pos pins s σ H _ I h) ?_) he hpl
  rintro us s1 ⟨vs, H1, I1, r1, v, rfl, q1⟩
  obtain ⟨v', rfl, rv⟩ := vals1 r1
  exact ⟨I1.kIn, mkV_value T hr I1 rv (.inl ⟨rfl, rfl⟩) q1⟩
theorem pe_mkK_value {kws : List Keyword} {tk : TA} {p pos : Pos} {k : Nat} (T : Ecl_value X.K X.mg nm qual B Bm newId initId bmB bm0 C fI) (hr : Room k X.A) (hkw : PK X kws tk) (hg : Gl X nm) (hdb : (nm == ("__debug__" : Str)) = false := by decide)
    (hal : (backToKw pos (keywordEach kws X.env)).all (·.1.isSome) = true := by rfl) (hks : (backToKw pos (keywordEach kws X.env)).filterMap (·.1) = [("value" : Str)] := by rfl)
    (hst : ((backTo pos (starEach [] X.env)).any (·.1) || (backToKw pos (keywordEach kws X.env)).any (·.1.isNone)) = false := by rfl) : PE X (.Call (.Name nm p) [] kws pos) (tMkV_value C tk) := by
  refine ⟨fun pins s σ H Q I h => wpAny_Call_Name_kw (ld_glob I hg T.gC ?_ hdb)⟩
  refine PySem.W.callWith_KW0 (h₀ := X.base) I.ok.mod.kin T.kC hal (thn (hkw.run pos pins s σ H _ I h) ?_) hst
  rintro us s1 ⟨vs, H1, I1, r1, v, rfl, q1⟩
  obtain ⟨v', rfl, rv⟩ := vals1 r1
  refine ⟨I1.kIn, ?_⟩
  rw [hks]
  exact mkV_value T hr I1 rv (.inr ⟨rfl, rfl⟩) q1
end
end Exn
/-! the field index -/
namespace Exn
open PySem PySem.W PySem.Calls PyProof.Rows PySem.HandSPX
/-- what the written part says of such a class: its name, its place C, its __init__ at fI -/
structure Ecl_index (K : Frag) (mg : Str → Option Value) (nm qual : Str) (B Bm newId initId : String) (bmB bm0 : List Value) (C fI : Addr) : Prop where
  fb : ExcBaseFacts Bm newId initId bm0
  ch : Chain bmB Bm
  sf : StoreFacts B bmB "object.__setattr__" "object"
  gC : mg nm = some (.ref C)
  ini : excInitIn K C bmB newId = true
  ovr : excOver K C bmB = true
  hdC : hasDictIn K C = true
  sa : findIn K (.ref C) "__setattr__" = some (some (.builtin "object.__setattr__"))
  ga : findIn K (.ref C) "__getattribute__" = some (some (.builtin "BaseException.__getattribute__"))
  gg : findIn K (.ref C) "__getattr__" = some none
  noN : findIn K (.ref C) "index" = some none
  tk : takerIn K C "index" = some none
  iC : findIn K (.ref C) "__init__" = some (some (.ref fI))
  tC : typeIn K (.ref fI) = some (.type "function")
  kC : keepIn K (.ref C) = true
  exC : subIn K (.ref C) (.type "BaseException") = some true
  tyC : typeIn K (.ref C) = some (.type "type")
  fn : ∃ (oc : Value) (od : Option Addr) (doc pm : Value) (an : Option Addr) (cdv ct : Value) (osl : Array (Option Value)) (p1 p2 q1 q2 q3 q4 : Pos),
    K.lookup fI = some ⟨oc, od, .func (fnOf "__init__" qual (iA "index" p1 p2) (iB "index" q1 q2 q3 q4) (iS "index" []) .none .none doc pm an cdv ct), osl⟩ ∧ codeIn K cdv qual = true
theorem ecl_index {K : Frag} {mg : Str → Option Value} {nm qual : Str} {B Bm newId initId : String} {bmB bm0 : List Value} {C fI : Addr} (fb : ExcBaseFacts Bm newId initId bm0) (ch : Chain bmB Bm) (sf : StoreFacts B bmB "object.__setattr__" "object") (gC : mg nm = some (.ref C))
    (h : ecB K C fI "index" bmB newId = true) (iC : findIn K (.ref C) "__init__" = some (some (.ref fI))) {oc : Value} {od : Option Addr} {doc pm : Value} {an : Option Addr} {cdv ct : Value} {osl : Array (Option Value)} {p1 p2 q1 q2 q3 q4 : Pos}
    (l : K.lookup fI = some ⟨oc, od, .func (fnOf "__init__" qual (iA "index" p1 p2) (iB "index" q1 q2 q3 q4) (iS "index" []) .none .none doc pm an cdv ct), osl⟩) (c : codeIn K cdv qual = true) : Ecl_index K mg nm qual B Bm newId initId bmB bm0 C fI := by
  unfold ecB at h
  simp only [Bool.and_eq_true, decide_eq_true_eq] at h
  obtain ⟨h1, h2, h3, h4, h5, h6, h7, h8, h9, h10, h11, h12, _⟩ := h
  exact ⟨fb, ch, sf, gC, h1, h2, h3, h4, h5, h6, h7, h8, iC, h9, h10, h11, h12, ⟨oc, od, doc, pm, an, cdv, ct, osl, p1, p2, q1, q2, q3, q4, l, c⟩⟩
/-- an error just made: at e, its dict at d, the field in it -/
structure Made_index (h h' : Heap) (e C d : Addr) (v : Value) : Prop where
  keep : ∀ b o, h.get? b = some o → h'.get? b = some o
  new : h.objs.size ≤ e
  obj : ∃ t1 : Addr, h'.get? e = some { cls := .ref C, dict := some d, data := .fields #[.ref t1, .none, .none, .none, .bool false, .none] }
  dbig : h.objs.size ≤ d
  dne : d ≠ e
  ns : h'.Ns1 d (fun y => if y = "index" then some v else none)
section
variable {prog : Program} {w : World} {A : Around} {E : Value → Shared → Prop} {R : Result → Shared → Prop} {s : Shared} {K : Frag} {mg : Str → Option Value} {nm qual : Str} {B Bm newId initId : String} {bmB bm0 : List Value} {C fI : Addr}
theorem init_index (T : Ecl_index K mg nm qual B Bm newId initId bmB bm0 C fI) {x t0 : Addr} {v : Value} {ar : Args} (X : K.In s.heap) (hlim : s.heap.NoLimit) (hx : s.heap.get? x = some (excO C t0)) (hroom : A.depth < recursionLimit)
    (hbind : ∀ doc pm an cdv ct p1 p2 q1 q2 q3 q4 s', BindsTo s' (fnOf "__init__" qual (iA "index" p1 p2) (iB "index" q1 q2 q3 q4) (iS "index" []) .none .none doc pm an cdv ct) ar [("self", .ref x), ("index", v)])
    (hq : ∀ h' tk dx, (∀ b o, b ≠ x → s.heap.get? b = some o → h'.get? b = some o) → h'.get? x = some { cls := .ref C, dict := some dx, data := .fields #[.ref t0, .none, .none, .none, .bool false, .none] } → s.heap.objs.size ≤ dx → dx ≠ x →
      h'.Ns1 dx (fun y => if y = "index" then some v else none) → R (.ok (.ret .none)) { s with heap := h', toks := tk }) :
    codeAny (model prog w) A (.call (.ref fI) ar) R s := by
  obtain ⟨oc, od, doc, pm, an, cdv, ct, osl, p1, p2, q1, q2, q3, q4, ho, hcd⟩ := T.fn
  obtain ⟨cd, hcl, hhd⟩ := any_some T.hdC
  refine Att.call_fn (binds := [("self", .ref x), ("index", v)]) X hlim ho hcd hroom (hbind _ _ _ _ _ _ _ _ _ _ _ _) (by first | rfl | decide | with_unfolding_all rfl) (fun s₁ IC => ?_) rfl rfl rfl
  obtain ⟨h₁, tk₁, rfl⟩ := IC.toInCall.same
  have k := IC.toInCall.keep
  have hn := IC.toInCall.ns
  have X₁ : K.In h₁ := X.keeps k
  show wpAny _ _ (execs _ _) _ _ _
  refine wpAny_execs_cons (plainObj_wpAny_Assign_Attribute ?_)
  refine wpAny_Name (wpAny_loadName_local rfl rfl hn (v := v) (by first | rfl | with_unfolding_all rfl | kernel_rfl) ?_) (by decide)
  refine wpAny_Name (wpAny_loadName_local rfl rfl hn (v := .ref x) (by first | rfl | with_unfolding_all rfl | kernel_rfl) ?_) (by decide)
  refine set_plain X₁ (ox := excO C t0) (od := none) ⟨k _ _ hx, rfl, rfl, trivial⟩ T.sa (osaB T.sf X₁ (k _ _ hx) T.ovr T.tk hcl hhd fun h₃ tk₃ dx k₃ dn dne hx₃ hn₃ => ?_)
  show wpAny _ _ (execs _ _) _ _ _
  exact wpAny_execs_nil (hq h₃ tk₃ dx (fun b o hb e => k₃ b o hb (k b o e)) hx₃ (Nat.le_of_lt (Nat.lt_of_lt_of_le hn.lt dn)) dne hn₃)
theorem made_index (T : Ecl_index K mg nm qual B Bm newId initId bmB bm0 C fI) {v : Value} {rest : List Value} {kw : List (Str × Value)} (X : K.In s.heap) (hlim : s.heap.NoLimit) (hroom : A.depth + 1 < recursionLimit) (how : (rest = [v] ∧ kw = []) ∨ (rest = [] ∧ kw = [(("index" : Str), v)]))
    (hq : ∀ h' tk e d, Made_index s.heap h' e C d v → R (.ok (.ret (.ref e))) { s with heap := h', toks := tk }) :
    codeAny (model prog w) A (.call (.ref C) ⟨rest, kw⟩) R s := by
  obtain ⟨nm', N, q, bs, bm, hd, sn, sub, ab, col, dd, k0, k1, k2, k3, k5, hC, hbm⟩ := excInit_of X T.ini
  obtain ⟨hp, g, dr, tk, os⟩ := s
  have k : ∀ b o, hp.get? b = some o → ((hp.push (kdv_tup rest)).push (excO C hp.objs.size)).get? b = some o := fun b o e => Heap.get?_push_of_some _ (Heap.get?_push_of_some _ e)
  have hget : ((hp.push (kdv_tup rest)).push (excO C hp.objs.size)).get? (hp.objs.size + 1) = some (excO C hp.objs.size) := by heap_get
  have chn : Chain bm Bm := ⟨by rw [hbm]; exact T.ch.cB, by rw [hbm]; exact T.ch.cA, by rw [hbm]; exact T.ch.cN⟩
  have hsz : rest.length ≤ sizeLine := by rcases how with ⟨rfl, _⟩ | ⟨rfl, _⟩ <;> (rw [sizeLine_eq]; simp)
  refine callX T.fb chn hC (looks_findIn X T.iC) (fun self => bind_fn X self T.tC) hsz ?_
  refine init_index (s := ⟨(hp.push (kdv_tup rest)).push (excO C hp.objs.size), g, dr, tk, os⟩) (v := v) T (X.keeps k) (hlim.keeps k) hget (show A.depth + 1 < recursionLimit from hroom) ?_ fun h' tk' dx k' hx dn dne hns => ?_
  · rcases how with ⟨rfl, rfl⟩ | ⟨rfl, rfl⟩
    · exact fun _ _ _ _ _ _ _ _ _ _ _ _ => BindsTo.of_eq (by first | rfl | with_unfolding_all rfl)
    · exact fun _ _ _ _ _ _ _ _ _ _ _ _ => BindsTo.of_eq (by first | rfl | with_unfolding_all rfl)
  have old : ∀ b o, hp.get? b = some o → h'.get? b = some o := fun b o e => k' b o (Nat.ne_of_lt (Nat.lt_succ_of_lt (Heap.lt_size e))) (k b o e)
  have z : hp.objs.size + 1 + 1 ≤ dx := by
    have q := dn
    rw [Heap.size_push, Heap.size_push] at q
    exact q
  exact ⟨rfl, hq h' tk' (hp.objs.size + 1) dx ⟨old, Nat.le_succ _, ⟨_, hx⟩, (show hp.objs.size ≤ dx by omega), dne, hns⟩⟩
end
end Exn
namespace Exn
open PySem PySem.Spec PyProof.Rows L2
theorem relO_index {v : V} {v' : Value} (r : RelV v v') (f : Str) : RelO (List.lookup f [(("index" : Str), v)]) (if f = "index" then some v' else none) := by
  by_cases hw : f = "index"
  · subst hw
    rw [if_pos rfl, show List.lookup ("index" : Str) [(("index" : Str), v)] = some v by simp [List.lookup]]
    exact r
  · have qw : (f == ("index" : Str)) = false := by simpa using hw
    rw [if_neg hw, show List.lookup f [(("index" : Str), v)] = none by simp [List.lookup, qw]]
    trivial
section
variable {X : Cx} {nm qual : Str} {B Bm newId initId : String} {bmB bm0 : List Value} {C fI : Addr}
/-- the making of the error that is raised at once -/
def tMk_index (C : Addr) (ta : TA) : L2.St → Hp → XK → Prop := fun σ H Q => ta σ H fun vs H1 => ∃ v, vs = [v] ∧ ∀ d, H1 d = none → Q (.ref C) (some d) (upd H1 d (.xd [(("index" : Str), v)]))
theorem pmk_index {a : Expr} {ta : TA} {p pos : Pos} {k : Nat} (T : Ecl_index X.K X.mg nm qual B Bm newId initId bmB bm0 C fI) (hr : Room k X.A) (ha : PA X [a] ta) (hg : Gl X nm) (hdb : (nm == ("__debug__" : Str)) = false := by decide)
    (he : starEach (a :: []) X.env = (false, eval a X.env) :: starEach [] X.env := by rfl) (hpl : (backTo pos (starEach [] X.env)).any (·.1) = false := by rfl) :
    PMk X (.Call (.Name nm p) [a] [] pos) (tMk_index C ta) := by
  intro pins s σ H Q I h
  refine wpAny_Call_Name_kw (ld_glob I hg T.gC ?_ hdb)
  refine PySem.W.callWith_K (h₀ := X.base) I.ok.mod.kin T.kC (thn (ha.run pos pins s σ H _ I h) ?_) he hpl
  rintro us s1 ⟨vs, H1, I1, r1, v, rfl, q1⟩
  obtain ⟨v', rfl, rv⟩ := vals1 r1
  refine ⟨I1.kIn, ?_⟩
  have hlim := I1.nolimit
  have hdp := hr.dp
  obtain ⟨hp, g, dr, tk, os⟩ := s1
  refine wpAny_call (made_index T I1.kIn hlim (by omega) (.inl ⟨rfl, rfl⟩) fun h' tk' e d M => ?_)
  show MkP X pins σ Q (.ref e) ⟨h', g, dr, tk', os⟩
  obtain ⟨t1, hoe⟩ := M.obj
  have hns := M.ns
  obtain ⟨G', g1, g2⟩ := restrict h' fun b => decide (b ≠ e)
  have gk : ∀ b, b ≠ e → G'.get? b = h'.get? b := fun b hb => g1 b (decide_eq_true hb)
  have ge : G'.get? e = none := g2 e (by simp)
  have old : ∀ b o, hp.get? b = some o → G'.get? b = some o := fun b o q => (gk b (Nat.ne_of_lt (Nat.lt_of_lt_of_le (Heap.lt_size q) M.new))).trans (M.keep b o q)
  have ob : ObjOk X.prog X.w (upd H1 d (.xd [(("index" : Str), v)])) G' d (.xd [(("index" : Str), v)]) := ⟨_, hns.at (fun o q => (gk d M.dne).trans q), fun f => relO_index rv f⟩
  have J : Inv X pins σ (upd H1 d (.xd [(("index" : Str), v)])) ⟨G', g, dr, tk', os⟩ := I1.laid (t' := tk') old M.dbig ob
  refine ⟨e, _, _, ⟨G', g, dr, tk', os⟩, _, .ref C, some d, rfl, J, fun b o q => ?_, ge, hoe, ⟨rfl, rfl⟩, rfl, rfl, ?_, rfl, I1.bare, raises_own T.exC T.tyC, q1 d (I1.hok.fresh M.dbig)⟩
  · by_cases hb : b = e
    · have q' : G'.get? b = some o := q
      rw [hb, ge] at q'
      cases q'
    · exact (gk b hb).symm.trans q
  · rw [upd_ne (Ne.symm M.dne)]
    exact I1.hok.fresh M.new
/-- the error as a value -/
abbrev tMkV_index (C : Addr) (ta : TA) : TE := tMkVg "index" C ta
theorem mkV_index {pins : List (Addr × Obj)} {s : Shared} {σ : L2.St} {H : Hp} {Q : VK} {v : V} {v' : Value} {rest : List Value} {kw : List (Str × Value)} {k : Nat} (T : Ecl_index X.K X.mg nm qual B Bm newId initId bmB bm0 C fI) (hr : Room k X.A) (I : Inv X pins σ H s) (rv : RelV v v')
    (how : (rest = [v'] ∧ kw = []) ∨ (rest = [] ∧ kw = [(("index" : Str), v')])) (q : ∀ d a, H d = none → H a = none → a ≠ d → Q (.ref a) (upd (upd H d (.xd [(("index" : Str), v)])) a (ExV C d a))) :
    wpAny (model X.prog X.w) X.A (call (.ref C) rest kw) (EP X pins σ Q) X.xe s := by
  have hlim := I.nolimit
  have hdp := hr.dp
  obtain ⟨hp, g, dr, tk, os⟩ := s
  refine wpAny_call (made_index T I.kIn hlim (by omega) how fun h' tk' e d M => ?_)
  obtain ⟨t1, hoe⟩ := M.obj
  obtain ⟨G', g1, g2⟩ := restrict h' fun b => decide (b ≠ e)
  have gk : ∀ b, b ≠ e → G'.get? b = h'.get? b := fun b hb => g1 b (decide_eq_true hb)
  have ge : G'.get? e = none := g2 e (by simp)
  have old : ∀ b o, hp.get? b = some o → G'.get? b = some o := fun b o z => (gk b (Nat.ne_of_lt (Nat.lt_of_lt_of_le (Heap.lt_size z) M.new))).trans (M.keep b o z)
  have J : Inv X pins σ (upd H d (.xd [(("index" : Str), v)])) ⟨G', g, dr, tk', os⟩ := I.laid (t' := tk') old M.dbig ⟨_, M.ns.at (fun o z => (gk d M.dne).trans z), fun f => relO_index rv f⟩
  have nHe : H e = none := I.hok.fresh M.new
  have nHe2 : (upd H d (.xd [(("index" : Str), v)])) e = none := by rw [upd_ne (Ne.symm M.dne)]; exact nHe
  have sub : ∀ b u, G'.get? b = some u → h'.get? b = some u := fun b o z => by
    by_cases hb : b = e
    · rw [hb, ge] at z; cases z
    · exact (gk b hb).symm.trans z
  exact ⟨.ref e, _, J.laidN (t' := tk') sub ge nHe2 (exV_ok hoe), rfl, q d e (I.hok.fresh M.dbig) nHe (Ne.symm M.dne)⟩
theorem pe_mkV_index {a : Expr} {ta : TA} {p pos : Pos} {k : Nat} (T : Ecl_index X.K X.mg nm qual B Bm newId initId bmB bm0 C fI) (hr : Room k X.A) (ha : PA X [a] ta) (hg : Gl X nm) (hdb : (nm == ("__debug__" : Str)) = false := by decide)
    (he : starEach (a :: []) X.env = (false, eval a X.env) :: starEach [] X.env := by rfl) (hpl : (backTo pos (starEach [] X.env)).any (·.1) = false := by rfl) : PE X (.Call (.Name nm p) [a] [] pos) (tMkV_index C ta) := by
  refine ⟨fun pins s σ H Q I h => wpAny_Call_Name_kw (ld_glob I hg T.gC ?_ hdb)⟩
  refine PySem.W.callWith_K (h₀ := X.base) I.ok.mod.kin T.kC (thn (ha.run pos pins s σ H _ I h) ?_) he hpl
  rintro us s1 ⟨vs, H1, I1, r1, v, rfl, q1⟩
  obtain ⟨v', rfl, rv⟩ := vals1 r1
  exact ⟨I1.kIn, mkV_index T hr I1 rv (.inl ⟨rfl, rfl⟩) q1⟩
theorem pe_mkK_index {kws : List Keyword} {tk : TA} {p pos : Pos} {k : Nat} (T : Ecl_index X.K X.mg nm qual B Bm newId initId bmB bm0 C fI) (hr : Room k X.A) (hkw : PK X kws tk) (hg : Gl X nm) (hdb : (nm == ("__debug__" : Str)) = false := by decide)
    (hal : (backToKw pos (keywordEach kws X.env)).all (·.1.isSome) = true := by rfl) (hks : (backToKw pos (keywordEach kws X.env)).filterMap (·.1) = [("index" : Str)] := by rfl)
    (hst : ((backTo pos (starEach [] X.env)).any (·.1) || (backToKw pos (keywordEach kws X.env)).any (·.1.isNone)) = false := by rfl) : PE X (.Call (.Name nm p) [] kws pos) (tMkV_index C tk) := by
  refine ⟨fun pins s σ H Q I h => wpAny_Call_Name_kw (ld_glob I hg T.gC ?_ hdb)⟩
  refine PySem.W.callWith_KW0 (h₀ := X.base) I.ok.mod.kin T.kC hal (thn (hkw.run pos pins s σ H _ I h) ?_) hst
  rintro us s1 ⟨vs, H1, I1, r1, v, rfl, q1⟩
  obtain ⟨v', rfl, rv⟩ := vals1 r1
  refine ⟨I1.kIn, ?_⟩
  rw [hks]
  exact mkV_index T hr I1 rv (.inr ⟨rfl, rfl⟩) q1
end
end Exn
/-! the field name -/
namespace Exn
open PySem PySem.W PySem.Calls PyProof.Rows PySem.HandSPX
/-- what the written part says of such a class: its name, its place C, its __init__ at fI -/
structure Ecl_name (K : Frag) (mg : Str → Option Value) (nm qual : Str) (B Bm newId initId : String) (bmB bm0 : List Value) (C fI : Addr) : Prop where
  fb : ExcBaseFacts Bm newId initId bm0
  ch : Chain bmB Bm
  sf : StoreFacts B bmB "object.__setattr__" "object"
  gC : mg nm = some (.ref C)
  ini : excInitIn K C bmB newId = true
  ovr : excOver K C bmB = true
  hdC : hasDictIn K C = true
  sa : findIn K (.ref C) "__setattr__" = some (some (.builtin "object.__setattr__"))
  ga : findIn K (.ref C) "__getattribute__" = some (some (.builtin "BaseException.__getattribute__"))
  gg : findIn K (.ref C) "__getattr__" = some none
  noN : findIn K (.ref C) "name" = some none
  tk : takerIn K C "name" = some none
  iC : findIn K (.ref C) "__init__" = some (some (.ref fI))
  tC : typeIn K (.ref fI) = some (.type "function")
  kC : keepIn K (.ref C) = true
  exC : subIn K (.ref C) (.type "BaseException") = some true
  tyC : typeIn K (.ref C) = some (.type "type")
  fn : ∃ (oc : Value) (od : Option Addr) (doc pm : Value) (an : Option Addr) (cdv ct : Value) (osl : Array (Option Value)) (p1 p2 q1 q2 q3 q4 : Pos),
    K.lookup fI = some ⟨oc, od, .func (fnOf "__init__" qual (iA "name" p1 p2) (iB "name" q1 q2 q3 q4) (iS "name" []) .none .none doc pm an cdv ct), osl⟩ ∧ codeIn K cdv qual = true
theorem ecl_name {K : Frag} {mg : Str → Option Value} {nm qual : Str} {B Bm newId initId : String} {bmB bm0 : List Value} {C fI : Addr} (fb : ExcBaseFacts Bm newId initId bm0) (ch : Chain bmB Bm) (sf : StoreFacts B bmB "object.__setattr__" "object") (gC : mg nm = some (.ref C))
    (h : ecB K C fI "name" bmB newId = true) (iC : findIn K (.ref C) "__init__" = some (some (.ref fI))) {oc : Value} {od : Option Addr} {doc pm : Value} {an : Option Addr} {cdv ct : Value} {osl : Array (Option Value)} {p1 p2 q1 q2 q3 q4 : Pos}
    (l : K.lookup fI = some ⟨oc, od, .func (fnOf "__init__" qual (iA "name" p1 p2) (iB "name" q1 q2 q3 q4) (iS "name" []) .none .none doc pm an cdv ct), osl⟩) (c : codeIn K cdv qual = true) : Ecl_name K mg nm qual B Bm newId initId bmB bm0 C fI := by
  unfold ecB at h
  simp only [Bool.and_eq_true, decide_eq_true_eq] at h
  obtain ⟨h1, h2, h3, h4, h5, h6, h7, h8, h9, h10, h11, h12, _⟩ := h
  exact ⟨fb, ch, sf, gC, h1, h2, h3, h4, h5, h6, h7, h8, iC, h9, h10, h11, h12, ⟨oc, od, doc, pm, an, cdv, ct, osl, p1, p2, q1, q2, q3, q4, l, c⟩⟩
/-- an error just made: at e, its dict at d, the field in it -/
structure Made_name (h h' : Heap) (e C d : Addr) (v : Value) : Prop where
  keep : ∀ b o, h.get? b = some o → h'.get? b = some o
  new : h.objs.size ≤ e
  obj : ∃ t1 : Addr, h'.get? e = some { cls := .ref C, dict := some d, data := .fields #[.ref t1, .none, .none, .none, .bool false, .none] }
  dbig : h.objs.size ≤ d
  dne : d ≠ e
  ns : h'.Ns1 d (fun y => if y = "name" then some v else none)
section
variable {prog : Program} {w : World} {A : Around} {E : Value → Shared → Prop} {R : Result → Shared → Prop} {s : Shared} {K : Frag} {mg : Str → Option Value} {nm qual : Str} {B Bm newId initId : String} {bmB bm0 : List Value} {C fI : Addr}
theorem init_name (T : Ecl_name K mg nm qual B Bm newId initId bmB bm0 C fI) {x t0 : Addr} {v : Value} {ar : Args} (X : K.In s.heap) (hlim : s.heap.NoLimit) (hx : s.heap.get? x = some (excO C t0)) (hroom : A.depth < recursionLimit)
    (hbind : ∀ doc pm an cdv ct p1 p2 q1 q2 q3 q4 s', BindsTo s' (fnOf "__init__" qual (iA "name" p1 p2) (iB "name" q1 q2 q3 q4) (iS "name" []) .none .none doc pm an cdv ct) ar [("self", .ref x), ("name", v)])
    (hq : ∀ h' tk dx, (∀ b o, b ≠ x → s.heap.get? b = some o → h'.get? b = some o) → h'.get? x = some { cls := .ref C, dict := some dx, data := .fields #[.ref t0, .none, .none, .none, .bool false, .none] } → s.heap.objs.size ≤ dx → dx ≠ x →
      h'.Ns1 dx (fun y => if y = "name" then some v else none) → R (.ok (.ret .none)) { s with heap := h', toks := tk }) :
    codeAny (model prog w) A (.call (.ref fI) ar) R s := by
  obtain ⟨oc, od, doc, pm, an, cdv, ct, osl, p1, p2, q1, q2, q3, q4, ho, hcd⟩ := T.fn
  obtain ⟨cd, hcl, hhd⟩ := any_some T.hdC
  refine Att.call_fn (binds := [("self", .ref x), ("name", v)]) X hlim ho hcd hroom (hbind _ _ _ _ _ _ _ _ _ _ _ _) (by first | rfl | decide | with_unfolding_all rfl) (fun s₁ IC => ?_) rfl rfl rfl
  obtain ⟨h₁, tk₁, rfl⟩ := IC.toInCall.same
  have k := IC.toInCall.keep
  have hn := IC.toInCall.ns
  have X₁ : K.In h₁ := X.keeps k
  show wpAny _ _ (execs _ _) _ _ _
  refine wpAny_execs_cons (plainObj_wpAny_Assign_Attribute ?_)
  refine wpAny_Name (wpAny_loadName_local rfl rfl hn (v := v) (by first | rfl | with_unfolding_all rfl | kernel_rfl) ?_) (by decide)
  refine wpAny_Name (wpAny_loadName_local rfl rfl hn (v := .ref x) (by first | rfl | with_unfolding_all rfl | kernel_rfl) ?_) (by decide)
  refine set_plain X₁ (ox := excO C t0) (od := none) ⟨k _ _ hx, rfl, rfl, trivial⟩ T.sa (osaB T.sf X₁ (k _ _ hx) T.ovr T.tk hcl hhd fun h₃ tk₃ dx k₃ dn dne hx₃ hn₃ => ?_)
  show wpAny _ _ (execs _ _) _ _ _
  exact wpAny_execs_nil (hq h₃ tk₃ dx (fun b o hb e => k₃ b o hb (k b o e)) hx₃ (Nat.le_of_lt (Nat.lt_of_lt_of_le hn.lt dn)) dne hn₃)
theorem made_name (T : Ecl_name K mg nm qual B Bm newId initId bmB bm0 C fI) {v : Value} {rest : List Value} {kw : List (Str × Value)} (X : K.In s.heap) (hlim : s.heap.NoLimit) (hroom : A.depth + 1 < recursionLimit) (how : (rest = [v] ∧ kw = []) ∨ (rest = [] ∧ kw = [(("name" : Str), v)]))
    (hq : ∀ h' tk e d, Made_name s.heap h' e C d v → R (.ok (.ret (.ref e))) { s with heap := h', toks := tk }) :
    codeAny (model prog w) A (.call (.ref C) ⟨rest, kw⟩) R s := by
  obtain ⟨nm', N, q, bs, bm, hd, sn, sub, ab, col, dd, k0, k1, k2, k3, k5, hC, hbm⟩ := excInit_of X T.ini
  obtain ⟨hp, g, dr, tk, os⟩ := s
  have k : ∀ b o, hp.get? b = some o → ((hp.push (kdv_tup rest)).push (excO C hp.objs.size)).get? b = some o := fun b o e => Heap.get?_push_of_some _ (Heap.get?_push_of_some _ e)
  have hget : ((hp.push (kdv_tup rest)).push (excO C hp.objs.size)).get? (hp.objs.size + 1) = some (excO C hp.objs.size) := by heap_get
  have chn : Chain bm Bm := ⟨by rw [hbm]; exact T.ch.cB, by rw [hbm]; exact T.ch.cA, by rw [hbm]; exact T.ch.cN⟩
  have hsz : rest.length ≤ sizeLine := by rcases how with ⟨rfl, _⟩ | ⟨rfl, _⟩ <;> (rw [sizeLine_eq]; simp)
  refine callX T.fb chn hC (looks_findIn X T.iC) (fun self => bind_fn X self T.tC) hsz ?_
  refine init_name (s := ⟨(hp.push (kdv_tup rest)).push (excO C hp.objs.size), g, dr, tk, os⟩) (v := v) T (X.keeps k) (hlim.keeps k) hget (show A.depth + 1 < recursionLimit from hroom) ?_ fun h' tk' dx k' hx dn dne hns => ?_
  · rcases how with ⟨rfl, rfl⟩ | ⟨rfl, rfl⟩
    · exact fun _ _ _ _ _ _ _ _ _ _ _ _ => BindsTo.of_eq (by first | rfl | with_unfolding_all rfl)
    · exact fun _ _ _ _ _ _ _ _ _ _ _ _ => BindsTo.of_eq (by first | rfl | with_unfolding_all rfl)
  have old : ∀ b o, hp.get? b = some o → h'.get? b = some o := fun b o e => k' b o (Nat.ne_of_lt (Nat.lt_succ_of_lt (Heap.lt_size e))) (k b o e)
  have z : hp.objs.size + 1 + 1 ≤ dx := by
    have q := dn
    rw [Heap.size_push, Heap.size_push] at q
    exact q
  exact ⟨rfl, hq h' tk' (hp.objs.size + 1) dx ⟨old, Nat.le_succ _, ⟨_, hx⟩, (show hp.objs.size ≤ dx by omega), dne, hns⟩⟩
end
end Exn
namespace Exn
open PySem PySem.Spec PyProof.Rows L2
theorem relO_name {v : V} {v' : Value} (r : RelV v v') (f : Str) : RelO (List.lookup f [(("name" : Str), v)]) (if f = "name" then some v' else none) := by
  by_cases hw : f = "name"
  · subst hw
    rw [if_pos rfl, show List.lookup ("name" : Str) [(("name" : Str), v)] = some v by simp [List.lookup]]
    exact r
  · have qw : (f == ("name" : Str)) = false := by simpa using hw
    rw [if_neg hw, show List.lookup f [(("name" : Str), v)] = none by simp [List.lookup, qw]]
    trivial
section
variable {X : Cx} {nm qual : Str} {B Bm newId initId : String} {bmB bm0 : List Value} {C fI : Addr}
/-- the making of the error that is raised at once -/
def tMk_name (C : Addr) (ta : TA) : L2.St → Hp → XK → Prop := fun σ H Q => ta σ H fun vs H1 => ∃ v, vs = [v] ∧ ∀ d, H1 d = none → Q (.ref C) (some d) (upd H1 d (.xd [(("name" : Str), v)]))
theorem pmk_name {a : Expr} {ta : TA} {p pos : Pos} {k : Nat} (T : Ecl_name X.K X.mg nm qual B Bm newId initId bmB bm0 C fI) (hr : Room k X.A) (ha : PA X [a] ta) (hg : Gl X nm) (hdb : (nm == ("__debug__" : Str)) = false := by decide)
    (he : starEach (a :: []) X.env = (false, eval a X.env) :: starEach [] X.env := by rfl) (hpl : (backTo pos (starEach [] X.env)).any (·.1) = false := by rfl) :
    PMk X (.Call (.Name nm p) [a] [] pos) (tMk_name C ta) := by
  intro pins s σ H Q I h
  refine wpAny_Call_Name_kw (ld_glob I hg T.gC ?_ hdb)
  refine PySem.W.callWith_K (h₀ := X.base) I.ok.mod.kin T.kC (thn (ha.run pos pins s σ H _ I h) ?_) he hpl
  rintro us s1 ⟨vs, H1, I1, r1, v, rfl, q1⟩
  obtain ⟨v', rfl, rv⟩ := vals1 r1
  refine ⟨I1.kIn, ?_⟩
  have hlim := I1.nolimit
  have hdp := hr.dp
  obtain ⟨hp, g, dr, tk, os⟩ := s1
  refine wpAny_call (made_name T I1.kIn hlim (by omega) (.inl ⟨rfl, rfl⟩) fun h' tk' e d M => ?_)
  show MkP X pins σ Q (.ref e) ⟨h', g, dr, tk', os⟩
  obtain ⟨t1, hoe⟩ := M.obj
  have hns := M.ns
  obtain ⟨G', g1, g2⟩ := restrict h' fun b => decide (b ≠ e)
  have gk : ∀ b, b ≠ e → G'.get? b = h'.get? b := fun b hb => g1 b (decide_eq_true hb)
  have ge : G'.get? e = none := g2 e (by simp)
  have old : ∀ b o, hp.get? b = some o → G'.get? b = some o := fun b o q => (gk b (Nat.ne_of_lt (Nat.lt_of_lt_of_le (Heap.lt_size q) M.new))).trans (M.keep b o q)
  have ob : ObjOk X.prog X.w (upd H1 d (.xd [(("name" : Str), v)])) G' d (.xd [(("name" : Str), v)]) := ⟨_, hns.at (fun o q => (gk d M.dne).trans q), fun f => relO_name rv f⟩
  have J : Inv X pins σ (upd H1 d (.xd [(("name" : Str), v)])) ⟨G', g, dr, tk', os⟩ := I1.laid (t' := tk') old M.dbig ob
  refine ⟨e, _, _, ⟨G', g, dr, tk', os⟩, _, .ref C, some d, rfl, J, fun b o q => ?_, ge, hoe, ⟨rfl, rfl⟩, rfl, rfl, ?_, rfl, I1.bare, raises_own T.exC T.tyC, q1 d (I1.hok.fresh M.dbig)⟩
  · by_cases hb : b = e
    · have q' : G'.get? b = some o := q
      rw [hb, ge] at q'
      cases q'
    · exact (gk b hb).symm.trans q
  · rw [upd_ne (Ne.symm M.dne)]
    exact I1.hok.fresh M.new
/-- the error as a value -/
abbrev tMkV_name (C : Addr) (ta : TA) : TE := tMkVg "name" C ta
theorem mkV_name {pins : List (Addr × Obj)} {s : Shared} {σ : L2.St} {H : Hp} {Q : VK} {v : V} {v' : Value} {rest : List Value} {kw : List (Str × Value)} {k : Nat} (T : Ecl_name X.K X.mg nm qual B Bm newId initId bmB bm0 C fI) (hr : Room k X.A) (I : Inv X pins σ H s) (rv : RelV v v')
    (how : (rest = [v'] ∧ kw = []) ∨ (rest = [] ∧ kw = [(("name" : Str), v')])) (q : ∀ d a, H d = none → H a = none → a ≠ d → Q (.ref a) (upd (upd H d (.xd [(("name" : Str), v)])) a (ExV C d a))) :
    wpAny (model X.prog X.w) X.A (call (.ref C) rest kw) (EP X pins σ Q) X.xe s := by
  have hlim := I.nolimit
  have hdp := hr.dp
  obtain ⟨hp, g, dr, tk, os⟩ := s
  refine wpAny_call (made_name T I.kIn hlim (by omega) how fun h' tk' e d M => ?_)
  obtain ⟨t1, hoe⟩ := M.obj
  obtain ⟨G', g1, g2⟩ := restrict h' fun b => decide (b ≠ e)
  have gk : ∀ b, b ≠ e → G'.get? b = h'.get? b := fun b hb => g1 b (decide_eq_true hb)
  have ge : G'.get? e = none := g2 e (by simp)
  have old : ∀ b o, hp.get? b = some o → G'.get? b = some o := fun b o z => (gk b (Nat.ne_of_lt (Nat.lt_of_lt_of_le (Heap.lt_size z) M.new))).trans (M.keep b o z)
  have J : Inv X pins σ (upd H d (.xd [(("name" : Str), v)])) ⟨G', g, dr, tk', os⟩ := I.laid (t' := tk') old M.dbig ⟨_, M.ns.at (fun o z => (gk d M.dne).trans z), fun f => relO_name rv f⟩
  have nHe : H e = none := I.hok.fresh M.new
  have nHe2 : (upd H d (.xd [(("name" : Str), v)])) e = none := by rw [upd_ne (Ne.symm M.dne)]; exact nHe
  have sub : ∀ b u, G'.get? b = some u → h'.get? b = some u := fun b o z => by
    by_cases hb : b = e
    · rw [hb, ge] at z; cases z
    · exact (gk b hb).symm.trans z
  exact ⟨.ref e, _, J.laidN (t' := tk') sub ge nHe2 (exV_ok hoe), rfl, q d e (I.hok.fresh M.dbig) nHe (Ne.symm M.dne)⟩
theorem pe_mkV_name {a : Expr} {ta : TA} {p pos : Pos} {k : Nat} (T : Ecl_name X.K X.mg nm qual B Bm newId initId bmB bm0 C fI) (hr : Room k X.A) (ha : PA X [a] ta) (hg : Gl X nm) (hdb : (nm == ("__debug__" : Str)) = false := by decide)
    (he : starEach (a :: []) X.env = (false, eval a X.env) :: starEach [] X.env := by rfl) (hpl : (backTo pos (starEach [] X.env)).any (·.1) = false := by rfl) : PE X (.Call (.Name nm p) [a] [] pos) (tMkV_name C ta) := by
  refine ⟨fun pins s σ H Q I h => wpAny_Call_Name_kw (ld_glob I hg T.gC ?_ hdb)⟩
  refine PySem.W.callWith_K (h₀ := X.base) I.ok.mod.kin T.kC (thn (ha.run pos pins s σ H _ I h) ?_) he hpl
  rintro us s1 ⟨vs, H1, I1, r1, v, rfl, q1⟩
  obtain ⟨v', rfl, rv⟩ := vals1 r1
  exact ⟨I1.kIn, mkV_name T hr I1 rv (.inl ⟨rfl, rfl⟩) q1⟩
theorem pe_mkK_name {kws : List Keyword} {tk : TA} {p pos : Pos} {k : Nat} (T : Ecl_name X.K X.mg nm qual B Bm newId initId bmB bm0 C fI) (hr : Room k X.A) (hkw : PK X kws tk) (hg : Gl X nm) (hdb : (nm == ("__debug__" : Str)) = false := by decide)
    (hal : (backToKw pos (keywordEach kws X.env)).all (·.1.isSome) = true := by rfl) (hks : (backToKw pos (keywordEach kws X.env)).filterMap (·.1) = [("name" : Str)] := by rfl)
    (hst : ((backTo pos (starEach [] X.env)).any (·.1) || (backToKw pos (keywordEach kws X.env)).any (·.1.isNone)) = false := by rfl) : PE X (.Call (.Name nm p) [] kws pos) (tMkV_name C tk) := by
  refine ⟨fun pins s σ H Q I h => wpAny_Call_Name_kw (ld_glob I hg T.gC ?_ hdb)⟩
  refine PySem.W.callWith_KW0 (h₀ := X.base) I.ok.mod.kin T.kC hal (thn (hkw.run pos pins s σ H _ I h) ?_) hst
  rintro us s1 ⟨vs, H1, I1, r1, v, rfl, q1⟩
  obtain ⟨v', rfl, rv⟩ := vals1 r1
  refine ⟨I1.kIn, ?_⟩
  rw [hks]
  exact mkV_name T hr I1 rv (.inr ⟨rfl, rfl⟩) q1
end
end Exn
/-! the field item -/
namespace Exn
open PySem PySem.W PySem.Calls PyProof.Rows PySem.HandSPX
/-- what the written part says of such a class: its name, its place C, its __init__ at fI -/
structure Ecl_item (K : Frag) (mg : Str → Option Value) (nm qual : Str) (B Bm newId initId : String) (bmB bm0 : List Value) (C fI : Addr) : Prop where
  fb : ExcBaseFacts Bm newId initId bm0
  ch : Chain bmB Bm
  sf : StoreFacts B bmB "object.__setattr__" "object"
  gC : mg nm = some (.ref C)
  ini : excInitIn K C bmB newId = true
  ovr : excOver K C bmB = true
  hdC : hasDictIn K C = true
  sa : findIn K (.ref C) "__setattr__" = some (some (.builtin "object.__setattr__"))
  ga : findIn K (.ref C) "__getattribute__" = some (some (.builtin "BaseException.__getattribute__"))
  gg : findIn K (.ref C) "__getattr__" = some none
  noN : findIn K (.ref C) "item" = some none
  tk : takerIn K C "item" = some none
  iC : findIn K (.ref C) "__init__" = some (some (.ref fI))
  tC : typeIn K (.ref fI) = some (.type "function")
  kC : keepIn K (.ref C) = true
  exC : subIn K (.ref C) (.type "BaseException") = some true
  tyC : typeIn K (.ref C) = some (.type "type")
  fn : ∃ (oc : Value) (od : Option Addr) (doc pm : Value) (an : Option Addr) (cdv ct : Value) (osl : Array (Option Value)) (p1 p2 q1 q2 q3 q4 : Pos),
    K.lookup fI = some ⟨oc, od, .func (fnOf "__init__" qual (iA "item" p1 p2) (iB "item" q1 q2 q3 q4) (iS "item" []) .none .none doc pm an cdv ct), osl⟩ ∧ codeIn K cdv qual = true
theorem ecl_item {K : Frag} {mg : Str → Option Value} {nm qual : Str} {B Bm newId initId : String} {bmB bm0 : List Value} {C fI : Addr} (fb : ExcBaseFacts Bm newId initId bm0) (ch : Chain bmB Bm) (sf : StoreFacts B bmB "object.__setattr__" "object") (gC : mg nm = some (.ref C))
    (h : ecB K C fI "item" bmB newId = true) (iC : findIn K (.ref C) "__init__" = some (some (.ref fI))) {oc : Value} {od : Option Addr} {doc pm : Value} {an : Option Addr} {cdv ct : Value} {osl : Array (Option Value)} {p1 p2 q1 q2 q3 q4 : Pos}
    (l : K.lookup fI = some ⟨oc, od, .func (fnOf "__init__" qual (iA "item" p1 p2) (iB "item" q1 q2 q3 q4) (iS "item" []) .none .none doc pm an cdv ct), osl⟩) (c : codeIn K cdv qual = true) : Ecl_item K mg nm qual B Bm newId initId bmB bm0 C fI := by
  unfold ecB at h
  simp only [Bool.and_eq_true, decide_eq_true_eq] at h
  obtain ⟨h1, h2, h3, h4, h5, h6, h7, h8, h9, h10, h11, h12, _⟩ := h
  exact ⟨fb, ch, sf, gC, h1, h2, h3, h4, h5, h6, h7, h8, iC, h9, h10, h11, h12, ⟨oc, od, doc, pm, an, cdv, ct, osl, p1, p2, q1, q2, q3, q4, l, c⟩⟩
/-- an error just made: at e, its dict at d, the field in it -/
structure Made_item (h h' : Heap) (e C d : Addr) (v : Value) : Prop where
  keep : ∀ b o, h.get? b = some o → h'.get? b = some o
  new : h.objs.size ≤ e
  obj : ∃ t1 : Addr, h'.get? e = some { cls := .ref C, dict := some d, data := .fields #[.ref t1, .none, .none, .none, .bool false, .none] }
  dbig : h.objs.size ≤ d
  dne : d ≠ e
  ns : h'.Ns1 d (fun y => if y = "item" then some v else none)
section
variable {prog : Program} {w : World} {A : Around} {E : Value → Shared → Prop} {R : Result → Shared → Prop} {s : Shared} {K : Frag} {mg : Str → Option Value} {nm qual : Str} {B Bm newId initId : String} {bmB bm0 : List Value} {C fI : Addr}
theorem init_item (T : Ecl_item K mg nm qual B Bm newId initId bmB bm0 C fI) {x t0 : Addr} {v : Value} {ar : Args} (X : K.In s.heap) (hlim : s.heap.NoLimit) (hx : s.heap.get? x = some (excO C t0)) (hroom : A.depth < recursionLimit)
    (hbind : ∀ doc pm an cdv ct p1 p2 q1 q2 q3 q4 s', BindsTo s' (fnOf "__init__" qual (iA "item" p1 p2) (iB "item" q1 q2 q3 q4) (iS "item" []) .none .none doc pm an cdv ct) ar [("self", .ref x), ("item", v)])
    (hq : ∀ h' tk dx, (∀ b o, b ≠ x → s.heap.get? b = some o → h'.get? b = some o) → h'.get? x = some { cls := .ref C, dict := some dx, data := .fields #[.ref t0, .none, .none, .none, .bool false, .none] } → s.heap.objs.size ≤ dx → dx ≠ x →
      h'.Ns1 dx (fun y => if y = "item" then some v else none) → R (.ok (.ret .none)) { s with heap := h', toks := tk }) :
    codeAny (model prog w) A (.call (.ref fI) ar) R s := by
  obtain ⟨oc, od, doc, pm, an, cdv, ct, osl, p1, p2, q1, q2, q3, q4, ho, hcd⟩ := T.fn
  obtain ⟨cd, hcl, hhd⟩ := any_some T.hdC
  refine Att.call_fn (binds := [("self", .ref x), ("item", v)]) X hlim ho hcd hroom (hbind _ _ _ _ _ _ _ _ _ _ _ _) (by first | rfl | decide | with_unfolding_all rfl) (fun s₁ IC => ?_) rfl rfl rfl
  obtain ⟨h₁, tk₁, rfl⟩ := IC.toInCall.same
  have k := IC.toInCall.keep
  have hn := IC.toInCall.ns
  have X₁ : K.In h₁ := X.keeps k
  show wpAny _ _ (execs _ _) _ _ _
  refine wpAny_execs_cons (plainObj_wpAny_Assign_Attribute ?_)
  refine wpAny_Name (wpAny_loadName_local rfl rfl hn (v := v) (by first | rfl | with_unfolding_all rfl | kernel_rfl) ?_) (by decide)
  refine wpAny_Name (wpAny_loadName_local rfl rfl hn (v := .ref x) (by first | rfl | with_unfolding_all rfl | kernel_rfl) ?_) (by decide)
  refine set_plain X₁ (ox := excO C t0) (od := none) ⟨k _ _ hx, rfl, rfl, trivial⟩ T.sa (osaB T.sf X₁ (k _ _ hx) T.ovr T.tk hcl hhd fun h₃ tk₃ dx k₃ dn dne hx₃ hn₃ => ?_)
  show wpAny _ _ (execs _ _) _ _ _
  exact wpAny_execs_nil (hq h₃ tk₃ dx (fun b o hb e => k₃ b o hb (k b o e)) hx₃ (Nat.le_of_lt (Nat.lt_of_lt_of_le hn.lt dn)) dne hn₃)
theorem made_item (T : Ecl_item K mg nm qual B Bm newId initId bmB bm0 C fI) {v : Value} {rest : List Value} {kw : List (Str × Value)} (X : K.In s.heap) (hlim : s.heap.NoLimit) (hroom : A.depth + 1 < recursionLimit) (how : (rest = [v] ∧ kw = []) ∨ (rest = [] ∧ kw = [(("item" : Str), v)]))
    (hq : ∀ h' tk e d, Made_item s.heap h' e C d v → R (.ok (.ret (.ref e))) { s with heap := h', toks := tk }) :
    codeAny (model prog w) A (.call (.ref C) ⟨rest, kw⟩) R s := by
  obtain ⟨nm', N, q, bs, bm, hd, sn, sub, ab, col, dd, k0, k1, k2, k3, k5, hC, hbm⟩ := excInit_of X T.ini
  obtain ⟨hp, g, dr, tk, os⟩ := s
  have k : ∀ b o, hp.get? b = some o → ((hp.push (kdv_tup rest)).push (excO C hp.objs.size)).get? b = some o := fun b o e => Heap.get?_push_of_some _ (Heap.get?_push_of_some _ e)
  have hget : ((hp.push (kdv_tup rest)).push (excO C hp.objs.size)).get? (hp.objs.size + 1) = some (excO C hp.objs.size) := by heap_get
  have chn : Chain bm Bm := ⟨by rw [hbm]; exact T.ch.cB, by rw [hbm]; exact T.ch.cA, by rw [hbm]; exact T.ch.cN⟩
  have hsz : rest.length ≤ sizeLine := by rcases how with ⟨rfl, _⟩ | ⟨rfl, _⟩ <;> (rw [sizeLine_eq]; simp)
  refine callX T.fb chn hC (looks_findIn X T.iC) (fun self => bind_fn X self T.tC) hsz ?_
  refine init_item (s := ⟨(hp.push (kdv_tup rest)).push (excO C hp.objs.size), g, dr, tk, os⟩) (v := v) T (X.keeps k) (hlim.keeps k) hget (show A.depth + 1 < recursionLimit from hroom) ?_ fun h' tk' dx k' hx dn dne hns => ?_
  · rcases how with ⟨rfl, rfl⟩ | ⟨rfl, rfl⟩
    · exact fun _ _ _ _ _ _ _ _ _ _ _ _ => BindsTo.of_eq (by first | rfl | with_unfolding_all rfl)
    · exact fun _ _ _ _ _ _ _ _ _ _ _ _ => BindsTo.of_eq (by first | rfl | with_unfolding_all rfl)
  have old : ∀ b o, hp.get? b = some o → h'.get? b = some o := fun b o e => k' b o (Nat.ne_of_lt (Nat.lt_succ_of_lt (Heap.lt_size e))) (k b o e)
  have z : hp.objs.size + 1 + 1 ≤ dx := by
    have q := dn
    rw [Heap.size_push, Heap.size_push] at q
    exact q
  exact ⟨rfl, hq h' tk' (hp.objs.size + 1) dx ⟨old, Nat.le_succ _, ⟨_, hx⟩, (show hp.objs.size ≤ dx by omega), dne, hns⟩⟩
end
end Exn
namespace Exn
open PySem PySem.Spec PyProof.Rows L2
theorem relO_item {v : V} {v' : Value} (r : RelV v v') (f : Str) : RelO (List.lookup f [(("item" : Str), v)]) (if f = "item" then some v' else none) := by
  by_cases hw : f = "item"
  · subst hw
    rw [if_pos rfl, show List.lookup ("item" : Str) [(("item" : Str), v)] = some v by simp [List.lookup]]
    exact r
  · have qw : (f == ("item" : Str)) = false := by simpa using hw
    rw [if_neg hw, show List.lookup f [(("item" : Str), v)] = none by simp [List.lookup, qw]]
    trivial
section
variable {X : Cx} {nm qual : Str} {B Bm newId initId : String} {bmB bm0 : List Value} {C fI : Addr}
/-- the making of the error that is raised at once -/
def tMk_item (C : Addr) (ta : TA) : L2.St → Hp → XK → Prop := fun σ H Q => ta σ H fun vs H1 => ∃ v, vs = [v] ∧ ∀ d, H1 d = none → Q (.ref C) (some d) (upd H1 d (.xd [(("item" : Str), v)]))
theorem pmk_item {a : Expr} {ta : TA} {p pos : Pos} {k : Nat} (T : Ecl_item X.K X.mg nm qual B Bm newId initId bmB bm0 C fI) (hr : Room k X.A) (ha : PA X [a] ta) (hg : Gl X nm) (hdb : (nm == ("__debug__" : Str)) = false := by decide)
    (he : starEach (a :: []) X.env = (false, eval a X.env) :: starEach [] X.env := by rfl) (hpl : (backTo pos (starEach [] X.env)).any (·.1) = false := by rfl) :
    PMk X (.Call (.Name nm p) [a] [] pos) (tMk_item C ta) := by
  intro pins s σ H Q I h
  refine wpAny_Call_Name_kw (ld_glob I hg T.gC ?_ hdb)
  refine PySem.W.callWith_K (h₀ := X.base) I.ok.mod.kin T.kC (thn (ha.run pos pins s σ H _ I h) ?_) he hpl
  rintro us s1 ⟨vs, H1, I1, r1, v, rfl, q1⟩
  obtain ⟨v', rfl, rv⟩ := vals1 r1
  refine ⟨I1.kIn, ?_⟩
  have hlim := I1.nolimit
  have hdp := hr.dp
  obtain ⟨hp, g, dr, tk, os⟩ := s1
  refine wpAny_call (made_item T I1.kIn hlim (by omega) (.inl ⟨rfl, rfl⟩) fun h' tk' e d M => ?_)
  show MkP X pins σ Q (.ref e) ⟨h', g, dr, tk', os⟩
  obtain ⟨t1, hoe⟩ := M.obj
  have hns := M.ns
  obtain ⟨G', g1, g2⟩ := restrict h' fun b => decide (b ≠ e)
  have gk : ∀ b, b ≠ e → G'.get? b = h'.get? b := fun b hb => g1 b (decide_eq_true hb)
  have ge : G'.get? e = none := g2 e (by simp)
  have old : ∀ b o, hp.get? b = some o → G'.get? b = some o := fun b o q => (gk b (Nat.ne_of_lt (Nat.lt_of_lt_of_le (Heap.lt_size q) M.new))).trans (M.keep b o q)
  have ob : ObjOk X.prog X.w (upd H1 d (.xd [(("item" : Str), v)])) G' d (.xd [(("item" : Str), v)]) := ⟨_, hns.at (fun o q => (gk d M.dne).trans q), fun f => relO_item rv f⟩
  have J : Inv X pins σ (upd H1 d (.xd [(("item" : Str), v)])) ⟨G', g, dr, tk', os⟩ := I1.laid (t' := tk') old M.dbig ob
  refine ⟨e, _, _, ⟨G', g, dr, tk', os⟩, _, .ref C, some d, rfl, J, fun b o q => ?_, ge, hoe, ⟨rfl, rfl⟩, rfl, rfl, ?_, rfl, I1.bare, raises_own T.exC T.tyC, q1 d (I1.hok.fresh M.dbig)⟩
  · by_cases hb : b = e
    · have q' : G'.get? b = some o := q
      rw [hb, ge] at q'
      cases q'
    · exact (gk b hb).symm.trans q
  · rw [upd_ne (Ne.symm M.dne)]
    exact I1.hok.fresh M.new
/-- the error as a value -/
abbrev tMkV_item (C : Addr) (ta : TA) : TE := tMkVg "item" C ta
theorem mkV_item {pins : List (Addr × Obj)} {s : Shared} {σ : L2.St} {H : Hp} {Q : VK} {v : V} {v' : Value} {rest : List Value} {kw : List (Str × Value)} {k : Nat} (T : Ecl_item X.K X.mg nm qual B Bm newId initId bmB bm0 C fI) (hr : Room k X.A) (I : Inv X pins σ H s) (rv : RelV v v')
    (how : (rest = [v'] ∧ kw = []) ∨ (rest = [] ∧ kw = [(("item" : Str), v')])) (q : ∀ d a, H d = none → H a = none → a ≠ d → Q (.ref a) (upd (upd H d (.xd [(("item" : Str), v)])) a (ExV C d a))) :
    wpAny (model X.prog X.w) X.A (call (.ref C) rest kw) (EP X pins σ Q) X.xe s := by
  have hlim := I.nolimit
  have hdp := hr.dp
  obtain ⟨hp, g, dr, tk, os⟩ := s
  refine wpAny_call (made_item T I.kIn hlim (by omega) how fun h' tk' e d M => ?_)
  obtain ⟨t1, hoe⟩ := M.obj
  obtain ⟨G', g1, g2⟩ := restrict h' fun b => decide (b ≠ e)
  have gk : ∀ b, b ≠ e → G'.get? b = h'.get? b := fun b hb => g1 b (decide_eq_true hb)
  have ge : G'.get? e = none := g2 e (by simp)
  have old : ∀ b o, hp.get? b = some o → G'.get? b = some o := fun b o z => (gk b (Nat.ne_of_lt (Nat.lt_of_lt_of_le (Heap.lt_size z) M.new))).trans (M.keep b o z)
  have J : Inv X pins σ (upd H d (.xd [(("item" : Str), v)])) ⟨G', g, dr, tk', os⟩ := I.laid (t' := tk') old M.dbig ⟨_, M.ns.at (fun o z => (gk d M.dne).trans z), fun f => relO_item rv f⟩
  have nHe : H e = none := I.hok.fresh M.new
  have nHe2 : (upd H d (.xd [(("item" : Str), v)])) e = none := by rw [upd_ne (Ne.symm M.dne)]; exact nHe
  have sub : ∀ b u, G'.get? b = some u → h'.get? b = some u := fun b o z => by
    by_cases hb : b = e
    · rw [hb, ge] at z; cases z
    · exact (gk b hb).symm.trans z
  exact ⟨.ref e, _, J.laidN (t' := tk') sub ge nHe2 (exV_ok hoe), rfl, q d e (I.hok.fresh M.dbig) nHe (Ne.symm M.dne)⟩
theorem pe_mkV_item {a : Expr} {ta : TA} {p pos : Pos} {k : Nat} (T : Ecl_item X.K X.mg nm qual B Bm newId initId bmB bm0 C fI) (hr : Room k X.A) (ha : PA X [a] ta) (hg : Gl X nm) (hdb : (nm == ("__debug__" : Str)) = false := by decide)
    (he : starEach (a :: []) X.env = (false, eval a X.env) :: starEach [] X.env := by rfl) (hpl : (backTo pos (starEach [] X.env)).any (·.1) = false := by rfl) : PE X (.Call (.Name nm p) [a] [] pos) (tMkV_item C ta) := by
  refine ⟨fun pins s σ H Q I h => wpAny_Call_Name_kw (ld_glob I hg T.gC ?_ hdb)⟩
  refine PySem.W.callWith_K (h₀ := X.base) I.ok.mod.kin T.kC (thn (ha.run pos pins s σ H _ I h) ?_) he hpl
  rintro us s1 ⟨vs, H1, I1, r1, v, rfl, q1⟩
  obtain ⟨v', rfl, rv⟩ := vals1 r1
  exact ⟨I1.kIn, mkV_item T hr I1 rv (.inl ⟨rfl, rfl⟩) q1⟩
theorem pe_mkK_item {kws : List Keyword} {tk : TA} {p pos : Pos} {k : Nat} (T : Ecl_item X.K X.mg nm qual B Bm newId initId bmB bm0 C fI) (hr : Room k X.A) (hkw : PK X kws tk) (hg : Gl X nm) (hdb : (nm == ("__debug__" : Str)) = false := by decide)
    (hal : (backToKw pos (keywordEach kws X.env)).all (·.1.isSome) = true := by rfl) (hks : (backToKw pos (keywordEach kws X.env)).filterMap (·.1) = [("item" : Str)] := by rfl)
    (hst : ((backTo pos (starEach [] X.env)).any (·.1) || (backToKw pos (keywordEach kws X.env)).any (·.1.isNone)) = false := by rfl) : PE X (.Call (.Name nm p) [] kws pos) (tMkV_item C tk) := by
  refine ⟨fun pins s σ H Q I h => wpAny_Call_Name_kw (ld_glob I hg T.gC ?_ hdb)⟩
  refine PySem.W.callWith_KW0 (h₀ := X.base) I.ok.mod.kin T.kC hal (thn (hkw.run pos pins s σ H _ I h) ?_) hst
  rintro us s1 ⟨vs, H1, I1, r1, v, rfl, q1⟩
  obtain ⟨v', rfl, rv⟩ := vals1 r1
  refine ⟨I1.kIn, ?_⟩
  rw [hks]
  exact mkV_item T hr I1 rv (.inr ⟨rfl, rfl⟩) q1
end
end Exn
/-! the field limit -/
namespace Exn
open PySem PySem.W PySem.Calls PyProof.Rows PySem.HandSPX
/-- what the written part says of such a class: its name, its place C, its __init__ at fI -/
structure Ecl_limit (K : Frag) (mg : Str → Option Value) (nm qual : Str) (B Bm newId initId : String) (bmB bm0 : List Value) (C fI : Addr) : Prop where
  fb : ExcBaseFacts Bm newId initId bm0
  ch : Chain bmB Bm
  sf : StoreFacts B bmB "object.__setattr__" "object"
  gC : mg nm = some (.ref C)
  ini : excInitIn K C bmB newId = true
  ovr : excOver K C bmB = true
  hdC : hasDictIn K C = true
  sa : findIn K (.ref C) "__setattr__" = some (some (.builtin "object.__setattr__"))
  ga : findIn K (.ref C) "__getattribute__" = some (some (.builtin "BaseException.__getattribute__"))
  gg : findIn K (.ref C) "__getattr__" = some none
  noN : findIn K (.ref C) "limit" = some none
  tk : takerIn K C "limit" = some none
  iC : findIn K (.ref C) "__init__" = some (some (.ref fI))
  tC : typeIn K (.ref fI) = some (.type "function")
  kC : keepIn K (.ref C) = true
  exC : subIn K (.ref C) (.type "BaseException") = some true
  tyC : typeIn K (.ref C) = some (.type "type")
  fn : ∃ (oc : Value) (od : Option Addr) (doc pm : Value) (an : Option Addr) (cdv ct : Value) (osl : Array (Option Value)) (p1 p2 q1 q2 q3 q4 : Pos),
    K.lookup fI = some ⟨oc, od, .func (fnOf "__init__" qual (iA "limit" p1 p2) (iB "limit" q1 q2 q3 q4) (iS "limit" []) .none .none doc pm an cdv ct), osl⟩ ∧ codeIn K cdv qual = true
theorem ecl_limit {K : Frag} {mg : Str → Option Value} {nm qual : Str} {B Bm newId initId : String} {bmB bm0 : List Value} {C fI : Addr} (fb : ExcBaseFacts Bm newId initId bm0) (ch : Chain bmB Bm) (sf : StoreFacts B bmB "object.__setattr__" "object") (gC : mg nm = some (.ref C))
    (h : ecB K C fI "limit" bmB newId = true) (iC : findIn K (.ref C) "__init__" = some (some (.ref fI))) {oc : Value} {od : Option Addr} {doc pm : Value} {an : Option Addr} {cdv ct : Value} {osl : Array (Option Value)} {p1 p2 q1 q2 q3 q4 : Pos}
    (l : K.lookup fI = some ⟨oc, od, .func (fnOf "__init__" qual (iA "limit" p1 p2) (iB "limit" q1 q2 q3 q4) (iS "limit" []) .none .none doc pm an cdv ct), osl⟩) (c : codeIn K cdv qual = true) : Ecl_limit K mg nm qual B Bm newId initId bmB bm0 C fI := by
  unfold ecB at h
  simp only [Bool.and_eq_true, decide_eq_true_eq] at h
  obtain ⟨h1, h2, h3, h4, h5, h6, h7, h8, h9, h10, h11, h12, _⟩ := h
  exact ⟨fb, ch, sf, gC, h1, h2, h3, h4, h5, h6, h7, h8, iC, h9, h10, h11, h12, ⟨oc, od, doc, pm, an, cdv, ct, osl, p1, p2, q1, q2, q3, q4, l, c⟩⟩
/-- an error just made: at e, its dict at d, the field in it -/
structure Made_limit (h h' : Heap) (e C d : Addr) (v : Value) : Prop where
  keep : ∀ b o, h.get? b = some o → h'.get? b = some o
  new : h.objs.size ≤ e
  obj : ∃ t1 : Addr, h'.get? e = some { cls := .ref C, dict := some d, data := .fields #[.ref t1, .none, .none, .none, .bool false, .none] }
  dbig : h.objs.size ≤ d
  dne : d ≠ e
  ns : h'.Ns1 d (fun y => if y = "limit" then some v else none)
section
variable {prog : Program} {w : World} {A : Around} {E : Value → Shared → Prop} {R : Result → Shared → Prop} {s : Shared} {K : Frag} {mg : Str → Option Value} {nm qual : Str} {B Bm newId initId : String} {bmB bm0 : List Value} {C fI : Addr}
theorem init_limit (T : Ecl_limit K mg nm qual B Bm newId initId bmB bm0 C fI) {x t0 : Addr} {v : Value} {ar : Args} (X : K.In s.heap) (hlim : s.heap.NoLimit) (hx : s.heap.get? x = some (excO C t0)) (hroom : A.depth < recursionLimit)
    (hbind : ∀ doc pm an cdv ct p1 p2 q1 q2 q3 q4 s', BindsTo s' (fnOf "__init__" qual (iA "limit" p1 p2) (iB "limit" q1 q2 q3 q4) (iS "limit" []) .none .none doc pm an cdv ct) ar [("self", .ref x), ("limit", v)])
    (hq : ∀ h' tk dx, (∀ b o, b ≠ x → s.heap.get? b = some o → h'.get? b = some o) → h'.get? x = some { cls := .ref C, dict := some dx, data := .fields #[.ref t0, .none, .none, .none, .bool false, .none] } → s.heap.objs.size ≤ dx → dx ≠ x →
      h'.Ns1 dx (fun y => if y = "limit" then some v else none) → R (.ok (.ret .none)) { s with heap := h', toks := tk }) :
    codeAny (model prog w) A (.call (.ref fI) ar) R s := by
  obtain ⟨oc, od, doc, pm, an, cdv, ct, osl, p1, p2, q1, q2, q3, q4, ho, hcd⟩ := T.fn
  obtain ⟨cd, hcl, hhd⟩ := any_some T.hdC
  refine Att.call_fn (binds := [("self", .ref x), ("limit", v)]) X hlim ho hcd hroom (hbind _ _ _ _ _ _ _ _ _ _ _ _) (by first | rfl | decide | with_unfolding_all rfl) (fun s₁ IC => ?_) rfl rfl rfl
  obtain ⟨h₁, tk₁, rfl⟩ := IC.toInCall.same
  have k := IC.toInCall.keep
  have hn := IC.toInCall.ns
  have X₁ : K.In h₁ := X.keeps k
  show wpAny _ _ (execs _ _) _ _ _
  refine wpAny_execs_cons (plainObj_wpAny_Assign_Attribute ?_)
  refine wpAny_Name (wpAny_loadName_local rfl rfl hn (v := v) (by first | rfl | with_unfolding_all rfl | kernel_rfl) ?_) (by decide)
  refine wpAny_Name (wpAny_loadName_local rfl rfl hn (v := .ref x) (by first | rfl | with_unfolding_all rfl | kernel_rfl) ?_) (by decide)
  refine set_plain X₁ (ox := excO C t0) (od := none) ⟨k _ _ hx, rfl, rfl, trivial⟩ T.sa (osaB T.sf X₁ (k _ _ hx) T.ovr T.tk hcl hhd fun h₃ tk₃ dx k₃ dn dne hx₃ hn₃ => ?_)
  show wpAny _ _ (execs _ _) _ _ _
  exact wpAny_execs_nil (hq h₃ tk₃ dx (fun b o hb e => k₃ b o hb (k b o e)) hx₃ (Nat.le_of_lt (Nat.lt_of_lt_of_le hn.lt dn)) dne hn₃)
theorem made_limit (T : Ecl_limit K mg nm qual B Bm newId initId bmB bm0 C fI) {v : Value} {rest : List Value} {kw : List (Str × Value)} (X : K.In s.heap) (hlim : s.heap.NoLimit) (hroom : A.depth + 1 < recursionLimit) (how : (rest = [v] ∧ kw = []) ∨ (rest = [] ∧ kw = [(("limit" : Str), v)]))
    (hq : ∀ h' tk e d, Made_limit s.heap h' e C d v → R (.ok (.ret (.ref e))) { s with heap := h', toks := tk }) :
    codeAny (model prog w) A (.call (.ref C) ⟨rest, kw⟩) R s := by
  obtain ⟨nm', N, q, bs, bm, hd, sn, sub, ab, col, dd, k0, k1, k2, k3, k5, hC, hbm⟩ := excInit_of X T.ini
  obtain ⟨hp, g, dr, tk, os⟩ := s
  have k : ∀ b o, hp.get? b = some o → ((hp.push (kdv_tup rest)).push (excO C hp.objs.size)).get? b = some o := fun b o e => Heap.get?_push_of_some _ (Heap.get?_push_of_some _ e)
  have hget : ((hp.push (kdv_tup rest)).push (excO C hp.objs.size)).get? (hp.objs.size + 1) = some (excO C hp.objs.size) := by heap_get
  have chn : Chain bm Bm := ⟨by rw [hbm]; exact T.ch.cB, by rw [hbm]; exact T.ch.cA, by rw [hbm]; exact T.ch.cN⟩
  have hsz : rest.length ≤ sizeLine := by rcases how with ⟨rfl, _⟩ | ⟨rfl, _⟩ <;> (rw [sizeLine_eq]; simp)
  refine callX T.fb chn hC (looks_findIn X T.iC) (fun self => bind_fn X self T.tC) hsz ?_
  refine init_limit (s := ⟨(hp.push (kdv_tup rest)).push (excO C hp.objs.size), g, dr, tk, os⟩) (v := v) T (X.keeps k) (hlim.keeps k) hget (show A.depth + 1 < recursionLimit from hroom) ?_ fun h' tk' dx k' hx dn dne hns => ?_
  · rcases how with ⟨rfl, rfl⟩ | ⟨rfl, rfl⟩
    · exact fun _ _ _ _ _ _ _ _ _ _ _ _ => BindsTo.of_eq (by first | rfl | with_unfolding_all rfl)
    · exact fun _ _ _ _ _ _ _ _ _ _ _ _ => BindsTo.of_eq (by first | rfl | with_unfolding_all rfl)
  have old : ∀ b o, hp.get? b = some o → h'.get? b = some o := fun b o e => k' b o (Nat.ne_of_lt (Nat.lt_succ_of_lt (Heap.lt_size e))) (k b o e)
  have z : hp.objs.size + 1 + 1 ≤ dx := by
    have q := dn
    rw [Heap.size_push, Heap.size_push] at q
    exact q
  exact ⟨rfl, hq h' tk' (hp.objs.size + 1) dx ⟨old, Nat.le_succ _, ⟨_, hx⟩, (show hp.objs.size ≤ dx by omega), dne, hns⟩⟩
end
end Exn
namespace Exn
open PySem PySem.Spec PyProof.Rows L2
theorem relO_limit {v : V} {v' : Value} (r : RelV v v') (f : Str) : RelO (List.lookup f [(("limit" : Str), v)]) (if f = "limit" then some v' else none) := by
  by_cases hw : f = "limit"
  · subst hw
    rw [if_pos rfl, show List.lookup ("limit" : Str) [(("limit" : Str), v)] = some v by simp [List.lookup]]
    exact r
  · have qw : (f == ("limit" : Str)) = false := by simpa using hw
    rw [if_neg hw, show List.lookup f [(("limit" : Str), v)] = none by simp [List.lookup, qw]]
    trivial
section
variable {X : Cx} {nm qual : Str} {B Bm newId initId : String} {bmB bm0 : List Value} {C fI : Addr}
/-- the making of the error that is raised at once -/
def tMk_limit (C : Addr) (ta : TA) : L2.St → Hp → XK → Prop := fun σ H Q => ta σ H fun vs H1 => ∃ v, vs = [v] ∧ ∀ d, H1 d = none → Q (.ref C) (some d) (upd H1 d (.xd [(("limit" : Str), v)]))
theorem pmk_limit {a : Expr} {ta : TA} {p pos : Pos} {k : Nat} (T : Ecl_limit X.K X.mg nm qual B Bm newId initId bmB bm0 C fI) (hr : Room k X.A) (ha : PA X [a] ta) (hg : Gl X nm) (hdb : (nm == ("__debug__" : Str)) = false := by decide)
    (he : starEach (a :: []) X.env = (false, eval a X.env) :: starEach [] X.env := by rfl) (hpl : (backTo pos (starEach [] X.env)).any (·.1) = false := by rfl) :
    PMk X (.Call (.Name nm p) [a] [] pos) (tMk_limit C ta) := by
  intro pins s σ H Q I h
  refine wpAny_Call_Name_kw (ld_glob I hg T.gC ?_ hdb)
  refine PySem.W.callWith_K (h₀ := X.base) I.ok.mod.kin T.kC (thn (ha.run pos pins s σ H _ I h) ?_) he hpl
  rintro us s1 ⟨vs, H1, I1, r1, v, rfl, q1⟩
  obtain ⟨v', rfl, rv⟩ := vals1 r1
  refine ⟨I1.kIn, ?_⟩
  have hlim := I1.nolimit
  have hdp := hr.dp
  obtain ⟨hp, g, dr, tk, os⟩ := s1
  refine wpAny_call (made_limit T I1.kIn hlim (by omega) (.inl ⟨rfl, rfl⟩) fun h' tk' e d M => ?_)
  show MkP X pins σ Q (.ref e) ⟨h', g, dr, tk', os⟩
  obtain ⟨t1, hoe⟩ := M.obj
  have hns := M.ns
  obtain ⟨G', g1, g2⟩ := restrict h' fun b => decide (b ≠ e)
  have gk : ∀ b, b ≠ e → G'.get? b = h'.get? b := fun b hb => g1 b (decide_eq_true hb)
  have ge : G'.get? e = none := g2 e (by simp)
  have old : ∀ b o, hp.get? b = some o → G'.get? b = some o := fun b o q => (gk b (Nat.ne_of_lt (Nat.lt_of_lt_of_le (Heap.lt_size q) M.new))).trans (M.keep b o q)
  have ob : ObjOk X.prog X.w (upd H1 d (.xd [(("limit" : Str), v)])) G' d (.xd [(("limit" : Str), v)]) := ⟨_, hns.at (fun o q => (gk d M.dne).trans q), fun f => relO_limit rv f⟩
  have J : Inv X pins σ (upd H1 d (.xd [(("limit" : Str), v)])) ⟨G', g, dr, tk', os⟩ := I1.laid (t' := tk') old M.dbig ob
  refine ⟨e, _, _, ⟨G', g, dr, tk', os⟩, _, .ref C, some d, rfl, J, fun b o q => ?_, ge, hoe, ⟨rfl, rfl⟩, rfl, rfl, ?_, rfl, I1.bare, raises_own T.exC T.tyC, q1 d (I1.hok.fresh M.dbig)⟩
  · by_cases hb : b = e
    · have q' : G'.get? b = some o := q
      rw [hb, ge] at q'
      cases q'
    · exact (gk b hb).symm.trans q
  · rw [upd_ne (Ne.symm M.dne)]
    exact I1.hok.fresh M.new
/-- the error as a value -/
abbrev tMkV_limit (C : Addr) (ta : TA) : TE := tMkVg "limit" C ta
theorem mkV_limit {pins : List (Addr × Obj)} {s : Shared} {σ : L2.St} {H : Hp} {Q : VK} {v : V} {v' : Value} {rest : List Value} {kw : List (Str × Value)} {k : Nat} (T : Ecl_limit X.K X.mg nm qual B Bm newId initId bmB bm0 C fI) (hr : Room k X.A) (I : Inv X pins σ H s) (rv : RelV v v')
    (how : (rest = [v'] ∧ kw = []) ∨ (rest = [] ∧ kw = [(("limit" : Str), v')])) (q : ∀ d a, H d = none → H a = none → a ≠ d → Q (.ref a) (upd (upd H d (.xd [(("limit" : Str), v)])) a (ExV C d a))) :
    wpAny (model X.prog X.w) X.A (call (.ref C) rest kw) (EP X pins σ Q) X.xe s := by
  have hlim := I.nolimit
  have hdp := hr.dp
  obtain ⟨hp, g, dr, tk, os⟩ := s
  refine wpAny_call (made_limit T I.kIn hlim (by omega) how fun h' tk' e d M => ?_)
  obtain ⟨t1, hoe⟩ := M.obj
  obtain ⟨G', g1, g2⟩ := restrict h' fun b => decide (b ≠ e)
  have gk : ∀ b, b ≠ e → G'.get? b = h'.get? b := fun b hb => g1 b (decide_eq_true hb)
  have ge : G'.get? e = none := g2 e (by simp)
  have old : ∀ b o, hp.get? b = some o → G'.get? b = some o := fun b o z => (gk b (Nat.ne_of_lt (Nat.lt_of_lt_of_le (Heap.lt_size z) M.new))).trans (M.keep b o z)
  have J : Inv X pins σ (upd H d (.xd [(("limit" : Str), v)])) ⟨G', g, dr, tk', os⟩ := I.laid (t' := tk') old M.dbig ⟨_, M.ns.at (fun o z => (gk d M.dne).trans z), fun f => relO_limit rv f⟩
  have nHe : H e = none := I.hok.fresh M.new
  have nHe2 : (upd H d (.xd [(("limit" : Str), v)])) e = none := by rw [upd_ne (Ne.symm M.dne)]; exact nHe
  have sub : ∀ b u, G'.get? b = some u → h'.get? b = some u := fun b o z => by
    by_cases hb : b = e
    · rw [hb, ge] at z; cases z
    · exact (gk b hb).symm.trans z
  exact ⟨.ref e, _, J.laidN (t' := tk') sub ge nHe2 (exV_ok hoe), rfl, q d e (I.hok.fresh M.dbig) nHe (Ne.symm M.dne)⟩
theorem pe_mkV_limit {a : Expr} {ta : TA} {p pos : Pos} {k : Nat} (T : Ecl_limit X.K X.mg nm qual B Bm newId initId bmB bm0 C fI) (hr : Room k X.A) (ha : PA X [a] ta) (hg : Gl X nm) (hdb : (nm == ("__debug__" : Str)) = false := by decide)
    (he : starEach (a :: []) X.env = (false, eval a X.env) :: starEach [] X.env := by rfl) (hpl : (backTo pos (starEach [] X.env)).any (·.1) = false := by rfl) : PE X (.Call (.Name nm p) [a] [] pos) (tMkV_limit C ta) := by
  refine ⟨fun pins s σ H Q I h => wpAny_Call_Name_kw (ld_glob I hg T.gC ?_ hdb)⟩
  refine PySem.W.callWith_K (h₀ := X.base) I.ok.mod.kin T.kC (thn (ha.run pos pins s σ H _ I h) ?_) he hpl
  rintro us s1 ⟨vs, H1, I1, r1, v, rfl, q1⟩
  obtain ⟨v', rfl, rv⟩ := vals1 r1
  exact ⟨I1.kIn, mkV_limit T hr I1 rv (.inl ⟨rfl, rfl⟩) q1⟩
theorem pe_mkK_limit {kws : List Keyword} {tk : TA} {p pos : Pos} {k : Nat} (T : Ecl_limit X.K X.mg nm qual B Bm newId initId bmB bm0 C fI) (hr : Room k X.A) (hkw : PK X kws tk) (hg : Gl X nm) (hdb : (nm == ("__debug__" : Str)) = false := by decide)
    (hal : (backToKw pos (keywordEach kws X.env)).all (·.1.isSome) = true := by rfl) (hks : (backToKw pos (keywordEach kws X.env)).filterMap (·.1) = [("limit" : Str)] := by rfl)
    (hst : ((backTo pos (starEach [] X.env)).any (·.1) || (backToKw pos (keywordEach kws X.env)).any (·.1.isNone)) = false := by rfl) : PE X (.Call (.Name nm p) [] kws pos) (tMkV_limit C tk) := by
  refine ⟨fun pins s σ H Q I h => wpAny_Call_Name_kw (ld_glob I hg T.gC ?_ hdb)⟩
  refine PySem.W.callWith_KW0 (h₀ := X.base) I.ok.mod.kin T.kC hal (thn (hkw.run pos pins s σ H _ I h) ?_) hst
  rintro us s1 ⟨vs, H1, I1, r1, v, rfl, q1⟩
  obtain ⟨v', rfl, rv⟩ := vals1 r1
  refine ⟨I1.kIn, ?_⟩
  rw [hks]
  exact mkV_limit T hr I1 rv (.inr ⟨rfl, rfl⟩) q1
end
end Exn
/-! the field count -/
namespace Exn
open PySem PySem.W PySem.Calls PyProof.Rows PySem.HandSPX
/-- what the written part says of such a class: its name, its place C, its __init__ at fI -/
structure Ecl_count (K : Frag) (mg : Str → Option Value) (nm qual : Str) (B Bm newId initId : String) (bmB bm0 : List Value) (C fI : Addr) : Prop where
  fb : ExcBaseFacts Bm newId initId bm0
  ch : Chain bmB Bm
  sf : StoreFacts B bmB "object.__setattr__" "object"
  gC : mg nm = some (.ref C)
  ini : excInitIn K C bmB newId = true
  ovr : excOver K C bmB = true
  hdC : hasDictIn K C = true
  sa : findIn K (.ref C) "__setattr__" = some (some (.builtin "object.__setattr__"))
  ga : findIn K (.ref C) "__getattribute__" = some (some (.builtin "BaseException.__getattribute__"))
  gg : findIn K (.ref C) "__getattr__" = some none
  noN : findIn K (.ref C) "count" = some none
  tk : takerIn K C "count" = some none
  iC : findIn K (.ref C) "__init__" = some (some (.ref fI))
  tC : typeIn K (.ref fI) = some (.type "function")
  kC : keepIn K (.ref C) = true
  exC : subIn K (.ref C) (.type "BaseException") = some true
  tyC : typeIn K (.ref C) = some (.type "type")
  fn : ∃ (oc : Value) (od : Option Addr) (doc pm : Value) (an : Option Addr) (cdv ct : Value) (osl : Array (Option Value)) (p1 p2 q1 q2 q3 q4 : Pos),
    K.lookup fI = some ⟨oc, od, .func (fnOf "__init__" qual (iA "count" p1 p2) (iB "count" q1 q2 q3 q4) (iS "count" []) .none .none doc pm an cdv ct), osl⟩ ∧ codeIn K cdv qual = true
theorem ecl_count {K : Frag} {mg : Str → Option Value} {nm qual : Str} {B Bm newId initId : String} {bmB bm0 : List Value} {C fI : Addr} (fb : ExcBaseFacts Bm newId initId bm0) (ch : Chain bmB Bm) (sf : StoreFacts B bmB "object.__setattr__" "object") (gC : mg nm = some (.ref C))
    (h : ecB K C fI "count" bmB newId = true) (iC : findIn K (.ref C) "__init__" = some (some (.ref fI))) {oc : Value} {od : Option Addr} {doc pm : Value} {an : Option Addr} {cdv ct : Value} {osl : Array (Option Value)} {p1 p2 q1 q2 q3 q4 : Pos}
    (l : K.lookup fI = some ⟨oc, od, .func (fnOf "__init__" qual (iA "count" p1 p2) (iB "count" q1 q2 q3 q4) (iS "count" []) .none .none doc pm an cdv ct), osl⟩) (c : codeIn K cdv qual = true) : Ecl_count K mg nm qual B Bm newId initId bmB bm0 C fI := by
  unfold ecB at h
  simp only [Bool.and_eq_true, decide_eq_true_eq] at h
  obtain ⟨h1, h2, h3, h4, h5, h6, h7, h8, h9, h10, h11, h12, _⟩ := h
  exact ⟨fb, ch, sf, gC, h1, h2, h3, h4, h5, h6, h7, h8, iC, h9, h10, h11, h12, ⟨oc, od, doc, pm, an, cdv, ct, osl, p1, p2, q1, q2, q3, q4, l, c⟩⟩
/-- an error just made: at e, its dict at d, the field in it -/
structure Made_count (h h' : Heap) (e C d : Addr) (v : Value) : Prop where
  keep : ∀ b o, h.get? b = some o → h'.get? b = some o
  new : h.objs.size ≤ e
  obj : ∃ t1 : Addr, h'.get? e = some { cls := .ref C, dict := some d, data := .fields #[.ref t1, .none, .none, .none, .bool false, .none] }
  dbig : h.objs.size ≤ d
  dne : d ≠ e
  ns : h'.Ns1 d (fun y => if y = "count" then some v else none)
section
variable {prog : Program} {w : World} {A : Around} {E : Value → Shared → Prop} {R : Result → Shared → Prop} {s : Shared} {K : Frag} {mg : Str → Option Value} {nm qual : Str} {B Bm newId initId : String} {bmB bm0 : List Value} {C fI : Addr}
theorem init_count (T : Ecl_count K mg nm qual B Bm newId initId bmB bm0 C fI) {x t0 : Addr} {v : Value} {ar : Args} (X : K.In s.heap) (hlim : s.heap.NoLimit) (hx : s.heap.get? x = some (excO C t0)) (hroom : A.depth < recursionLimit)
    (hbind : ∀ doc pm an cdv ct p1 p2 q1 q2 q3 q4 s', BindsTo s' (fnOf "__init__" qual (iA "count" p1 p2) (iB "count" q1 q2 q3 q4) (iS "count" []) .none .none doc pm an cdv ct) ar [("self", .ref x), ("count", v)])
    (hq : ∀ h' tk dx, (∀ b o, b ≠ x → s.heap.get? b = some o → h'.get? b = some o) → h'.get? x = some { cls := .ref C, dict := some dx, data := .fields #[.ref t0, .none, .none, .none, .bool false, .none] } → s.heap.objs.size ≤ dx → dx ≠ x →
      h'.Ns1 dx (fun y => if y = "count" then some v else none) → R (.ok (.ret .none)) { s with heap := h', toks := tk }) :
    codeAny (model prog w) A (.call (.ref fI) ar) R s := by
  obtain ⟨oc, od, doc, pm, an, cdv, ct, osl, p1, p2, q1, q2, q3, q4, ho, hcd⟩ := T.fn
  obtain ⟨cd, hcl, hhd⟩ := any_some T.hdC
  refine Att.call_fn (binds := [("self", .ref x), ("count", v)]) X hlim ho hcd hroom (hbind _ _ _ _ _ _ _ _ _ _ _ _) (by first | rfl | decide | with_unfolding_all rfl) (fun s₁ IC => ?_) rfl rfl rfl
  obtain ⟨h₁, tk₁, rfl⟩ := IC.toInCall.same
  have k := IC.toInCall.keep
  have hn := IC.toInCall.ns
  have X₁ : K.In h₁ := X.keeps k
  show wpAny _ _ (execs _ _) _ _ _
  refine wpAny_execs_cons (plainObj_wpAny_Assign_Attribute ?_)
  refine wpAny_Name (wpAny_loadName_local rfl rfl hn (v := v) (by first | rfl | with_unfolding_all rfl | kernel_rfl) ?_) (by decide)
  refine wpAny_Name (wpAny_loadName_local rfl rfl hn (v := .ref x) (by first | rfl | with_unfolding_all rfl | kernel_rfl) ?_) (by decide)
  refine set_plain X₁ (ox := excO C t0) (od := none) ⟨k _ _ hx, rfl, rfl, trivial⟩ T.sa (osaB T.sf X₁ (k _ _ hx) T.ovr T.tk hcl hhd fun h₃ tk₃ dx k₃ dn dne hx₃ hn₃ => ?_)
  show wpAny _ _ (execs _ _) _ _ _
  exact wpAny_execs_nil (hq h₃ tk₃ dx (fun b o hb e => k₃ b o hb (k b o e)) hx₃ (Nat.le_of_lt (Nat.lt_of_lt_of_le hn.lt dn)) dne hn₃)
theorem made_count (T : Ecl_count K mg nm qual B Bm newId initId bmB bm0 C fI) {v : Value} {rest : List Value} {kw : List (Str × Value)} (X : K.In s.heap) (hlim : s.heap.NoLimit) (hroom : A.depth + 1 < recursionLimit) (how : (rest = [v] ∧ kw = []) ∨ (rest = [] ∧ kw = [(("count" : Str), v)]))
    (hq : ∀ h' tk e d, Made_count s.heap h' e C d v → R (.ok (.ret (.ref e))) { s with heap := h', toks := tk }) :
    codeAny (model prog w) A (.call (.ref C) ⟨rest, kw⟩) R s := by
  obtain ⟨nm', N, q, bs, bm, hd, sn, sub, ab, col, dd, k0, k1, k2, k3, k5, hC, hbm⟩ := excInit_of X T.ini
  obtain ⟨hp, g, dr, tk, os⟩ := s
  have k : ∀ b o, hp.get? b = some o → ((hp.push (kdv_tup rest)).push (excO C hp.objs.size)).get? b = some o := fun b o e => Heap.get?_push_of_some _ (Heap.get?_push_of_some _ e)
  have hget : ((hp.push (kdv_tup rest)).push (excO C hp.objs.size)).get? (hp.objs.size + 1) = some (excO C hp.objs.size) := by heap_get
  have chn : Chain bm Bm := ⟨by rw [hbm]; exact T.ch.cB, by rw [hbm]; exact T.ch.cA, by rw [hbm]; exact T.ch.cN⟩
  have hsz : rest.length ≤ sizeLine := by rcases how with ⟨rfl, _⟩ | ⟨rfl, _⟩ <;> (rw [sizeLine_eq]; simp)
  refine callX T.fb chn hC (looks_findIn X T.iC) (fun self => bind_fn X self T.tC) hsz ?_
  refine init_count (s := ⟨(hp.push (kdv_tup rest)).push (excO C hp.objs.size), g, dr, tk, os⟩) (v := v) T (X.keeps k) (hlim.keeps k) hget (show A.depth + 1 < recursionLimit from hroom) ?_ fun h' tk' dx k' hx dn dne hns => ?_
  · rcases how with ⟨rfl, rfl⟩ | ⟨rfl, rfl⟩
    · exact fun _ _ _ _ _ _ _ _ _ _ _ _ => BindsTo.of_eq (by first | rfl | with_unfolding_all rfl)
    · exact fun _ _ _ _ _ _ _ _ _ _ _ _ => BindsTo.of_eq (by first | rfl | with_unfolding_all rfl)
  have old : ∀ b o, hp.get? b = some o → h'.get? b = some o := fun b o e => k' b o (Nat.ne_of_lt (Nat.lt_succ_of_lt (Heap.lt_size e))) (k b o e)
  have z : hp.objs.size + 1 + 1 ≤ dx := by
    have q := dn
    rw [Heap.size_push, Heap.size_push] at q
    exact q
  exact ⟨rfl, hq h' tk' (hp.objs.size + 1) dx ⟨old, Nat.le_succ _, ⟨_, hx⟩, (show hp.objs.size ≤ dx by omega), dne, hns⟩⟩
end
end Exn
namespace Exn
open PySem PySem.Spec PyProof.Rows L2
theorem relO_count {v : V} {v' : Value} (r : RelV v v') (f : Str) : RelO (List.lookup f [(("count" : Str), v)]) (if f = "count" then some v' else none) := by
  by_cases hw : f = "count"
  · subst hw
    rw [if_pos rfl, show List.lookup ("count" : Str) [(("count" : Str), v)] = some v by simp [List.lookup]]
    exact r
  · have qw : (f == ("count" : Str)) = false := by simpa using hw
    rw [if_neg hw, show List.lookup f [(("count" : Str), v)] = none by simp [List.lookup, qw]]
    trivial
section
variable {X : Cx} {nm qual : Str} {B Bm newId initId : String} {bmB bm0 : List Value} {C fI : Addr}
/-- the making of the error that is raised at once -/
def tMk_count (C : Addr) (ta : TA) : L2.St → Hp → XK → Prop := fun σ H Q => ta σ H fun vs H1 => ∃ v, vs = [v] ∧ ∀ d, H1 d = none → Q (.ref C) (some d) (upd H1 d (.xd [(("count" : Str), v)]))
theorem pmk_count {a : Expr} {ta : TA} {p pos : Pos} {k : Nat} (T : Ecl_count X.K X.mg nm qual B Bm newId initId bmB bm0 C fI) (hr : Room k X.A) (ha : PA X [a] ta) (hg : Gl X nm) (hdb : (nm == ("__debug__" : Str)) = false := by decide)
    (he : starEach (a :: []) X.env = (false, eval a X.env) :: starEach [] X.env := by rfl) (hpl : (backTo pos (starEach [] X.env)).any (·.1) = false := by rfl) :
    PMk X (.Call (.Name nm p) [a] [] pos) (tMk_count C ta) := by
  intro pins s σ H Q I h
  refine wpAny_Call_Name_kw (ld_glob I hg T.gC ?_ hdb)
  refine PySem.W.callWith_K (h₀ := X.base) I.ok.mod.kin T.kC (thn (ha.run pos pins s σ H _ I h) ?_) he hpl
  rintro us s1 ⟨vs, H1, I1, r1, v, rfl, q1⟩
  obtain ⟨v', rfl, rv⟩ := vals1 r1
  refine ⟨I1.kIn, ?_⟩
  have hlim := I1.nolimit
  have hdp := hr.dp
  obtain ⟨hp, g, dr, tk, os⟩ := s1
  refine wpAny_call (made_count T I1.kIn hlim (by omega) (.inl ⟨rfl, rfl⟩) fun h' tk' e d M => ?_)
  show MkP X pins σ Q (.ref e) ⟨h', g, dr, tk', os⟩
  obtain ⟨t1, hoe⟩ := M.obj
  have hns := M.ns
  obtain ⟨G', g1, g2⟩ := restrict h' fun b => decide (b ≠ e)
  have gk : ∀ b, b ≠ e → G'.get? b = h'.get? b := fun b hb => g1 b (decide_eq_true hb)
  have ge : G'.get? e = none := g2 e (by simp)
  have old : ∀ b o, hp.get? b = some o → G'.get? b = some o := fun b o q => (gk b (Nat.ne_of_lt (Nat.lt_of_lt_of_le (Heap.lt_size q) M.new))).trans (M.keep b o q)
  have ob : ObjOk X.prog X.w (upd H1 d (.xd [(("count" : Str), v)])) G' d (.xd [(("count" : Str), v)]) := ⟨_, hns.at (fun o q => (gk d M.dne).trans q), fun f => relO_count rv f⟩
  have J : Inv X pins σ (upd H1 d (.xd [(("count" : Str), v)])) ⟨G', g, dr, tk', os⟩ := I1.laid (t' := tk') old M.dbig ob
  refine ⟨e, _, _, ⟨G', g, dr, tk', os⟩, _, .ref C, some d, rfl, J, fun b o q => ?_, ge, hoe, ⟨rfl, rfl⟩, rfl, rfl, ?_, rfl, I1.bare, raises_own T.exC T.tyC, q1 d (I1.hok.fresh M.dbig)⟩
  · by_cases hb : b = e
    · have q' : G'.get? b = some o := q
      rw [hb, ge] at q'
      cases q'
    · exact (gk b hb).symm.trans q
  · rw [upd_ne (Ne.symm M.dne)]
    exact I1.hok.fresh M.new
/-- the error as a value -/
abbrev tMkV_count (C : Addr) (ta : TA) : TE := tMkVg "count" C ta
theorem mkV_count {pins : List (Addr × Obj)} {s : Shared} {σ : L2.St} {H : Hp} {Q : VK} {v : V} {v' : Value} {rest : List Value} {kw : List (Str × Value)} {k : Nat} (T : Ecl_count X.K X.mg nm qual B Bm newId initId bmB bm0 C fI) (hr : Room k X.A) (I : Inv X pins σ H s) (rv : RelV v v')
    (how : (rest = [v'] ∧ kw = []) ∨ (rest = [] ∧ kw = [(("count" : Str), v')])) (q : ∀ d a, H d = none → H a = none → a ≠ d → Q (.ref a) (upd (upd H d (.xd [(("count" : Str), v)])) a (ExV C d a))) :
    wpAny (model X.prog X.w) X.A (call (.ref C) rest kw) (EP X pins σ Q) X.xe s := by
  have hlim := I.nolimit
  have hdp := hr.dp
  obtain ⟨hp, g, dr, tk, os⟩ := s
  refine wpAny_call (made_count T I.kIn hlim (by omega) how fun h' tk' e d M => ?_)
  obtain ⟨t1, hoe⟩ := M.obj
  obtain ⟨G', g1, g2⟩ := restrict h' fun b => decide (b ≠ e)
  have gk : ∀ b, b ≠ e → G'.get? b = h'.get? b := fun b hb => g1 b (decide_eq_true hb)
  have ge : G'.get? e = none := g2 e (by simp)
  have old : ∀ b o, hp.get? b = some o → G'.get? b = some o := fun b o z => (gk b (Nat.ne_of_lt (Nat.lt_of_lt_of_le (Heap.lt_size z) M.new))).trans (M.keep b o z)
  have J : Inv X pins σ (upd H d (.xd [(("count" : Str), v)])) ⟨G', g, dr, tk', os⟩ := I.laid (t' := tk') old M.dbig ⟨_, M.ns.at (fun o z => (gk d M.dne).trans z), fun f => relO_count rv f⟩
  have nHe : H e = none := I.hok.fresh M.new
  have nHe2 : (upd H d (.xd [(("count" : Str), v)])) e = none := by rw [upd_ne (Ne.symm M.dne)]; exact nHe
  have sub : ∀ b u, G'.get? b = some u → h'.get? b = some u := fun b o z => by
    by_cases hb : b = e
    · rw [hb, ge] at z; cases z
    · exact (gk b hb).symm.trans z
  exact ⟨.ref e, _, J.laidN (t' := tk') sub ge nHe2 (exV_ok hoe), rfl, q d e (I.hok.fresh M.dbig) nHe (Ne.symm M.dne)⟩
theorem pe_mkV_count {a : Expr} {ta : TA} {p pos : Pos} {k : Nat} (T : Ecl_count X.K X.mg nm qual B Bm newId initId bmB bm0 C fI) (hr : Room k X.A) (ha : PA X [a] ta) (hg : Gl X nm) (hdb : (nm == ("__debug__" : Str)) = false := by decide)
    (he : starEach (a :: []) X.env = (false, eval a X.env) :: starEach [] X.env := by rfl) (hpl : (backTo pos (starEach [] X.env)).any (·.1) = false := by rfl) : PE X (.Call (.Name nm p) [a] [] pos) (tMkV_count C ta) := by
  refine ⟨fun pins s σ H Q I h => wpAny_Call_Name_kw (ld_glob I hg T.gC ?_ hdb)⟩
  refine PySem.W.callWith_K (h₀ := X.base) I.ok.mod.kin T.kC (thn (ha.run pos pins s σ H _ I h) ?_) he hpl
  rintro us s1 ⟨vs, H1, I1, r1, v, rfl, q1⟩
  obtain ⟨v', rfl, rv⟩ := vals1 r1
  exact ⟨I1.kIn, mkV_count T hr I1 rv (.inl ⟨rfl, rfl⟩) q1⟩
theorem pe_mkK_count {kws : List Keyword} {tk : TA} {p pos : Pos} {k : Nat} (T : Ecl_count X.K X.mg nm qual B Bm newId initId bmB bm0 C fI) (hr : Room k X.A) (hkw : PK X kws tk) (hg : Gl X nm) (hdb : (nm == ("__debug__" : Str)) = false := by decide)
    (hal : (backToKw pos (keywordEach kws X.env)).all (·.1.isSome) = true := by rfl) (hks : (backToKw pos (keywordEach kws X.env)).filterMap (·.1) = [("count" : Str)] := by rfl)
    (hst : ((backTo pos (starEach [] X.env)).any (·.1) || (backToKw pos (keywordEach kws X.env)).any (·.1.isNone)) = false := by rfl) : PE X (.Call (.Name nm p) [] kws pos) (tMkV_count C tk) := by
  refine ⟨fun pins s σ H Q I h => wpAny_Call_Name_kw (ld_glob I hg T.gC ?_ hdb)⟩
  refine PySem.W.callWith_KW0 (h₀ := X.base) I.ok.mod.kin T.kC hal (thn (hkw.run pos pins s σ H _ I h) ?_) hst
  rintro us s1 ⟨vs, H1, I1, r1, v, rfl, q1⟩
  obtain ⟨v', rfl, rv⟩ := vals1 r1
  refine ⟨I1.kIn, ?_⟩
  rw [hks]
  exact mkV_count T hr I1 rv (.inr ⟨rfl, rfl⟩) q1
end
end Exn

set_option Elab.async false
set_option linter.all false
set_option maxRecDepth 100000
set_option maxHeartbeats 4000000
namespace E2
open PySem PySem.Spec PyProof.Rows L2 Own Mth Exn
def topS (i : Nat) : Stmt := PySem.Challenge.pw_leakyqueue_k02_embeddings.main.body.getD i (.Pass ⟨0, 0, 0, 0⟩)
abbrev s_is_string_of : Stmt := topS 6
abbrev N_is_string_of : List Str := ["value", "letters", "longest"]
theorem sc_is_string_of : FnScope N_is_string_of ["value", "letters", "longest"] (defScope s_is_string_of) := ⟨rfl, rfl, rfl, by decide +kernel, rfl, by decide +kernel, by decide +kernel⟩
abbrev s_is_word : Stmt := topS 7
abbrev N_is_word : List Str := ["value"]
theorem sc_is_word : FnScope N_is_word ["value"] (defScope s_is_word) := ⟨rfl, rfl, rfl, by decide +kernel, rfl, by decide +kernel, by decide +kernel⟩
abbrev s_require_word : Stmt := topS 8
abbrev N_require_word : List Str := ["value"]
theorem sc_require_word : FnScope N_require_word ["value"] (defScope s_require_word) := ⟨rfl, rfl, rfl, by decide +kernel, rfl, by decide +kernel, by decide +kernel⟩
abbrev s_earliest_positions : Stmt := topS 9
abbrev N_earliest_positions : List Str := ["part", "word", "positions", "start", "item", "position"]
theorem sc_earliest_positions : FnScope N_earliest_positions ["part", "word"] (defScope s_earliest_positions) := ⟨rfl, rfl, rfl, by decide +kernel, rfl, by decide +kernel, by decide +kernel⟩
abbrev s_embeds : Stmt := topS 10
abbrev N_embeds : List Str := ["part", "word"]
theorem sc_embeds : FnScope N_embeds ["part", "word"] (defScope s_embeds) := ⟨rfl, rfl, rfl, by decide +kernel, rfl, by decide +kernel, by decide +kernel⟩
abbrev s_is_subsequence : Stmt := topS 11
abbrev N_is_subsequence : List Str := ["part", "word"]
theorem sc_is_subsequence : FnScope N_is_subsequence ["part", "word"] (defScope s_is_subsequence) := ⟨rfl, rfl, rfl, by decide +kernel, rfl, by decide +kernel, by decide +kernel⟩
abbrev s_embedding : Stmt := topS 12
abbrev N_embedding : List Str := ["part", "word", "positions"]
theorem sc_embedding : FnScope N_embedding ["part", "word"] (defScope s_embedding) := ⟨rfl, rfl, rfl, by decide +kernel, rfl, by decide +kernel, by decide +kernel⟩
abbrev s_prefix_length : Stmt := topS 13
abbrev N_prefix_length : List Str := ["part", "word"]
theorem sc_prefix_length : FnScope N_prefix_length ["part", "word"] (defScope s_prefix_length) := ⟨rfl, rfl, rfl, by decide +kernel, rfl, by decide +kernel, by decide +kernel⟩
abbrev s_Lpool : Stmt := topS 15
abbrev N_Lpool : List Str := ["_law_script", "_law_k", "_law_cell", "_law_number", "_law_mixed"]
theorem sc_Lpool : FnScope N_Lpool ["_law_script", "_law_k"] (defScope s_Lpool) := ⟨rfl, rfl, rfl, by decide +kernel, rfl, by decide +kernel, by decide +kernel⟩
abbrev s_Ltake : Stmt := topS 16
abbrev N_Ltake : List Str := ["_law_pool_here", "_law_many", "_law_digit"]
theorem sc_Ltake : FnScope N_Ltake ["_law_pool_here", "_law_many"] (defScope s_Ltake) := ⟨rfl, rfl, rfl, by decide +kernel, rfl, by decide +kernel, by decide +kernel⟩
abbrev s_Lword : Stmt := topS 17
abbrev N_Lword : List Str := ["_law_pool_here", "_law_most", "_law_letters", "_law_turn"]
theorem sc_Lword : FnScope N_Lword ["_law_pool_here", "_law_most", "_law_letters"] (defScope s_Lword) := ⟨rfl, rfl, rfl, by decide +kernel, rfl, by decide +kernel, by decide +kernel⟩
abbrev s_Lchoices : Stmt := topS 18
abbrev N_Lchoices : List Str := ["_law_size", "_law_many", "_law_found", "_law_turn", "_law_longer", "_law_choice", "_law_least", "_law_place"]
theorem sc_Lchoices : FnScope N_Lchoices ["_law_size", "_law_many"] (defScope s_Lchoices) := ⟨rfl, rfl, rfl, by decide +kernel, rfl, by decide +kernel, by decide +kernel⟩
abbrev s_Ldue : Stmt := topS 19
abbrev N_Ldue : List Str := ["_law_piece", "_law_string", "_law_some", "_law_found", "_law_place", "_law_choice"]
theorem sc_Ldue : FnScope N_Ldue ["_law_piece", "_law_string"] (defScope s_Ldue) := ⟨rfl, rfl, rfl, by decide +kernel, rfl, by decide +kernel, by decide +kernel⟩
abbrev s_law : Stmt := topS 20
abbrev N_law : List Str := ["_law_script", "_law_k", "_law_pool_here", "_law_letters", "_law_string", "_law_piece", "_law_kept", "_law_one", "_law_due_here", "_law_size", "_law_spots", "_law_item"]
theorem sc_law : FnScope N_law ["_law_script"] (defScope s_law) := ⟨rfl, rfl, rfl, by decide +kernel, rfl, by decide +kernel, by decide +kernel⟩
structure Ad where
  f_is_string_of : Addr
  d_is_string_of : FuncData
  f_is_word : Addr
  d_is_word : FuncData
  f_require_word : Addr
  d_require_word : FuncData
  f_earliest_positions : Addr
  d_earliest_positions : FuncData
  f_embeds : Addr
  d_embeds : FuncData
  f_is_subsequence : Addr
  d_is_subsequence : FuncData
  f_embedding : Addr
  d_embedding : FuncData
  f_prefix_length : Addr
  d_prefix_length : FuncData
  f_Lpool : Addr
  d_Lpool : FuncData
  f_Ltake : Addr
  d_Ltake : FuncData
  f_Lword : Addr
  d_Lword : FuncData
  f_Lchoices : Addr
  d_Lchoices : FuncData
  f_Ldue : Addr
  d_Ldue : FuncData
  f_law : Addr
  d_law : FuncData
  t_ITEMS : Tok
  t_MAX_LENGTH : Tok
  C_LeakError : Addr
  C_InvalidWord : Addr
  I_InvalidWord : Addr
structure Txt (K : PySem.W.Frag) (mg : Str → Option Value) (a : Ad) : Prop where
  F_is_string_of : FunD K "is_string_of" "is_string_of" (defArgs s_is_string_of) (defBody s_is_string_of) (defScope s_is_string_of) [.int 400] [] a.f_is_string_of a.d_is_string_of
  b_is_string_of : ∃ ds, Vals [.int 400] ds ∧ Binds K a.d_is_string_of ["value", "letters", "longest"] ds
  g_is_string_of : mg "is_string_of" = some (.ref a.f_is_string_of)
  F_is_word : Fun K "is_word" "is_word" s_is_word a.f_is_word a.d_is_word
  b_is_word : Binds K a.d_is_word ["value"] []
  g_is_word : mg "is_word" = some (.ref a.f_is_word)
  F_require_word : Fun K "require_word" "require_word" s_require_word a.f_require_word a.d_require_word
  b_require_word : Binds K a.d_require_word ["value"] []
  g_require_word : mg "require_word" = some (.ref a.f_require_word)
  F_earliest_positions : Fun K "earliest_positions" "earliest_positions" s_earliest_positions a.f_earliest_positions a.d_earliest_positions
  b_earliest_positions : Binds K a.d_earliest_positions ["part", "word"] []
  g_earliest_positions : mg "earliest_positions" = some (.ref a.f_earliest_positions)
  F_embeds : Fun K "embeds" "embeds" s_embeds a.f_embeds a.d_embeds
  b_embeds : Binds K a.d_embeds ["part", "word"] []
  g_embeds : mg "embeds" = some (.ref a.f_embeds)
  F_is_subsequence : Fun K "is_subsequence" "is_subsequence" s_is_subsequence a.f_is_subsequence a.d_is_subsequence
  b_is_subsequence : Binds K a.d_is_subsequence ["part", "word"] []
  g_is_subsequence : mg "is_subsequence" = some (.ref a.f_is_subsequence)
  F_embedding : Fun K "embedding" "embedding" s_embedding a.f_embedding a.d_embedding
  b_embedding : Binds K a.d_embedding ["part", "word"] []
  g_embedding : mg "embedding" = some (.ref a.f_embedding)
  F_prefix_length : Fun K "prefix_length" "prefix_length" s_prefix_length a.f_prefix_length a.d_prefix_length
  b_prefix_length : Binds K a.d_prefix_length ["part", "word"] []
  g_prefix_length : mg "prefix_length" = some (.ref a.f_prefix_length)
  F_Lpool : Fun K "_law_pool" "_law_pool" s_Lpool a.f_Lpool a.d_Lpool
  b_Lpool : Binds K a.d_Lpool ["_law_script", "_law_k"] []
  g_Lpool : mg "_law_pool" = some (.ref a.f_Lpool)
  F_Ltake : Fun K "_law_take" "_law_take" s_Ltake a.f_Ltake a.d_Ltake
  b_Ltake : Binds K a.d_Ltake ["_law_pool_here", "_law_many"] []
  g_Ltake : mg "_law_take" = some (.ref a.f_Ltake)
  F_Lword : Fun K "_law_word" "_law_word" s_Lword a.f_Lword a.d_Lword
  b_Lword : Binds K a.d_Lword ["_law_pool_here", "_law_most", "_law_letters"] []
  g_Lword : mg "_law_word" = some (.ref a.f_Lword)
  F_Lchoices : Fun K "_law_choices" "_law_choices" s_Lchoices a.f_Lchoices a.d_Lchoices
  b_Lchoices : Binds K a.d_Lchoices ["_law_size", "_law_many"] []
  g_Lchoices : mg "_law_choices" = some (.ref a.f_Lchoices)
  F_Ldue : Fun K "_law_due" "_law_due" s_Ldue a.f_Ldue a.d_Ldue
  b_Ldue : Binds K a.d_Ldue ["_law_piece", "_law_string"] []
  g_Ldue : mg "_law_due" = some (.ref a.f_Ldue)
  F_law : Fun K "law" "law" s_law a.f_law a.d_law
  b_law : Binds K a.d_law ["_law_script"] []
  g_law : mg "law" = some (.ref a.f_law)
  kb_embedding : KBinds K a.d_embedding ["part", "word"] ["word", "part"] sw sw
  kb_is_subsequence : KBinds K a.d_is_subsequence ["part", "word"] ["word", "part"] sw sw
  kb_prefix_length : KBinds K a.d_prefix_length ["part", "word"] ["word", "part"] sw sw
  c_ITEMS : mg "ITEMS" = some (.str "abcdefgh" a.t_ITEMS)
  c_MAX_LENGTH : mg "MAX_LENGTH" = some (.int 400 a.t_MAX_LENGTH)
  z_isinstance : mg "isinstance" = none
  z_str : mg "str" = none
  z_len : mg "len" = none
  z_max : mg "max" = none
  z_int : mg "int" = none
  z_range : mg "range" = none
  z_min : mg "min" = none
  z_list : mg "list" = none
  z_repr : mg "repr" = none
  g_LeakError : mg "LeakError" = some (.ref a.C_LeakError)
  e_InvalidWord : Ecl_value K mg "InvalidWord" "InvalidWord.__init__" "ValueError" "ValueError" "ValueError.__new__" "ValueError.__init__" [.type "ValueError", .type "Exception", .type "BaseException", .type "object"] [.type "ValueError", .type "Exception", .type "BaseException", .type "object"] a.C_InvalidWord a.I_InvalidWord
  h_InvalidWord : ecB K a.C_InvalidWord a.I_InvalidWord "value" [.type "ValueError", .type "Exception", .type "BaseException", .type "object"] "ValueError.__new__" = true
theorem txt_mk {K : PySem.W.Frag} {h : Heap} {mg : Str → Option Value} {f1 f2 f3 f4 f5 f6 f7 f8 f9 f10 f11 f12 f13 f14 : Addr} {od1 an1 od2 an2 od3 an3 od4 an4 od5 an5 od6 an6 od7 an7 od8 an8 od9 an9 od10 an10 od11 an11 od12 an12 od13 an13 od14 an14 : Option Addr} {sl1 sl2 sl3 sl4 sl5 sl6 sl7 sl8 sl9 sl10 sl11 sl12 sl13 sl14 : Array (Option Value)}
    {oc1 kV1 dc1 pm1 cd1 ct1 oc2 kV2 dc2 pm2 cd2 ct2 oc3 kV3 dc3 pm3 cd3 ct3 oc4 kV4 dc4 pm4 cd4 ct4 oc5 kV5 dc5 pm5 cd5 ct5 oc6 kV6 dc6 pm6 cd6 ct6 oc7 kV7 dc7 pm7 cd7 ct7 oc8 kV8 dc8 pm8 cd8 ct8 oc9 kV9 dc9 pm9 cd9 ct9 oc10 kV10 dc10 pm10 cd10 ct10 oc11 kV11 dc11 pm11 cd11 ct11 oc12 kV12 dc12 pm12 cd12 ct12 oc13 kV13 dc13 pm13 cd13 ct13 oc14 kV14 dc14 pm14 cd14 ct14 : Value}
    {t_ITEMS t_MAX_LENGTH : Tok}
    (X : K.In h) (G : h.Ns mainGlobals mg)
    {td1 : Addr} {to1 : Value} {tp1 : Option Addr} {tn1 : Nat} {ts1 : Array (Option Value)} {tk1_0 : Tok}
    (t1 : K.lookup td1 = some ⟨to1, tp1, .seq #[.int 400 tk1_0] tn1, ts1⟩)
    (a1 : PySem.W.nsIn K mainGlobals "is_string_of" = some (some (.ref f1))) (l1 : K.lookup f1 = some ⟨oc1, od1, .func (PySem.W.fnOf "is_string_of" "is_string_of" (defArgs s_is_string_of) (defBody s_is_string_of) (defScope s_is_string_of) (.ref td1) kV1 dc1 pm1 an1 cd1 ct1), sl1⟩)
    (c1 : PySem.W.codeIn K cd1 "is_string_of" = true) (k1 : PySem.W.keepIn K (.ref f1) = true)
    (a2 : PySem.W.nsIn K mainGlobals "is_word" = some (some (.ref f2))) (l2 : K.lookup f2 = some ⟨oc2, od2, .func (PySem.W.fnOf "is_word" "is_word" (defArgs s_is_word) (defBody s_is_word) (defScope s_is_word) .none kV2 dc2 pm2 an2 cd2 ct2), sl2⟩)
    (c2 : PySem.W.codeIn K cd2 "is_word" = true) (k2 : PySem.W.keepIn K (.ref f2) = true)
    (a3 : PySem.W.nsIn K mainGlobals "require_word" = some (some (.ref f3))) (l3 : K.lookup f3 = some ⟨oc3, od3, .func (PySem.W.fnOf "require_word" "require_word" (defArgs s_require_word) (defBody s_require_word) (defScope s_require_word) .none kV3 dc3 pm3 an3 cd3 ct3), sl3⟩)
    (c3 : PySem.W.codeIn K cd3 "require_word" = true) (k3 : PySem.W.keepIn K (.ref f3) = true)
    (a4 : PySem.W.nsIn K mainGlobals "earliest_positions" = some (some (.ref f4))) (l4 : K.lookup f4 = some ⟨oc4, od4, .func (PySem.W.fnOf "earliest_positions" "earliest_positions" (defArgs s_earliest_positions) (defBody s_earliest_positions) (defScope s_earliest_positions) .none kV4 dc4 pm4 an4 cd4 ct4), sl4⟩)
    (c4 : PySem.W.codeIn K cd4 "earliest_positions" = true) (k4 : PySem.W.keepIn K (.ref f4) = true)
    (a5 : PySem.W.nsIn K mainGlobals "embeds" = some (some (.ref f5))) (l5 : K.lookup f5 = some ⟨oc5, od5, .func (PySem.W.fnOf "embeds" "embeds" (defArgs s_embeds) (defBody s_embeds) (defScope s_embeds) .none kV5 dc5 pm5 an5 cd5 ct5), sl5⟩)
    (c5 : PySem.W.codeIn K cd5 "embeds" = true) (k5 : PySem.W.keepIn K (.ref f5) = true)
    (a6 : PySem.W.nsIn K mainGlobals "is_subsequence" = some (some (.ref f6))) (l6 : K.lookup f6 = some ⟨oc6, od6, .func (PySem.W.fnOf "is_subsequence" "is_subsequence" (defArgs s_is_subsequence) (defBody s_is_subsequence) (defScope s_is_subsequence) .none kV6 dc6 pm6 an6 cd6 ct6), sl6⟩)
    (c6 : PySem.W.codeIn K cd6 "is_subsequence" = true) (k6 : PySem.W.keepIn K (.ref f6) = true)
    (a7 : PySem.W.nsIn K mainGlobals "embedding" = some (some (.ref f7))) (l7 : K.lookup f7 = some ⟨oc7, od7, .func (PySem.W.fnOf "embedding" "embedding" (defArgs s_embedding) (defBody s_embedding) (defScope s_embedding) .none kV7 dc7 pm7 an7 cd7 ct7), sl7⟩)
    (c7 : PySem.W.codeIn K cd7 "embedding" = true) (k7 : PySem.W.keepIn K (.ref f7) = true)
    (a8 : PySem.W.nsIn K mainGlobals "prefix_length" = some (some (.ref f8))) (l8 : K.lookup f8 = some ⟨oc8, od8, .func (PySem.W.fnOf "prefix_length" "prefix_length" (defArgs s_prefix_length) (defBody s_prefix_length) (defScope s_prefix_length) .none kV8 dc8 pm8 an8 cd8 ct8), sl8⟩)
    (c8 : PySem.W.codeIn K cd8 "prefix_length" = true) (k8 : PySem.W.keepIn K (.ref f8) = true)
    (a9 : PySem.W.nsIn K mainGlobals "_law_pool" = some (some (.ref f9))) (l9 : K.lookup f9 = some ⟨oc9, od9, .func (PySem.W.fnOf "_law_pool" "_law_pool" (defArgs s_Lpool) (defBody s_Lpool) (defScope s_Lpool) .none kV9 dc9 pm9 an9 cd9 ct9), sl9⟩)
    (c9 : PySem.W.codeIn K cd9 "_law_pool" = true) (k9 : PySem.W.keepIn K (.ref f9) = true)
    (a10 : PySem.W.nsIn K mainGlobals "_law_take" = some (some (.ref f10))) (l10 : K.lookup f10 = some ⟨oc10, od10, .func (PySem.W.fnOf "_law_take" "_law_take" (defArgs s_Ltake) (defBody s_Ltake) (defScope s_Ltake) .none kV10 dc10 pm10 an10 cd10 ct10), sl10⟩)
    (c10 : PySem.W.codeIn K cd10 "_law_take" = true) (k10 : PySem.W.keepIn K (.ref f10) = true)
    (a11 : PySem.W.nsIn K mainGlobals "_law_word" = some (some (.ref f11))) (l11 : K.lookup f11 = some ⟨oc11, od11, .func (PySem.W.fnOf "_law_word" "_law_word" (defArgs s_Lword) (defBody s_Lword) (defScope s_Lword) .none kV11 dc11 pm11 an11 cd11 ct11), sl11⟩)
    (c11 : PySem.W.codeIn K cd11 "_law_word" = true) (k11 : PySem.W.keepIn K (.ref f11) = true)
    (a12 : PySem.W.nsIn K mainGlobals "_law_choices" = some (some (.ref f12))) (l12 : K.lookup f12 = some ⟨oc12, od12, .func (PySem.W.fnOf "_law_choices" "_law_choices" (defArgs s_Lchoices) (defBody s_Lchoices) (defScope s_Lchoices) .none kV12 dc12 pm12 an12 cd12 ct12), sl12⟩)
    (c12 : PySem.W.codeIn K cd12 "_law_choices" = true) (k12 : PySem.W.keepIn K (.ref f12) = true)
    (a13 : PySem.W.nsIn K mainGlobals "_law_due" = some (some (.ref f13))) (l13 : K.lookup f13 = some ⟨oc13, od13, .func (PySem.W.fnOf "_law_due" "_law_due" (defArgs s_Ldue) (defBody s_Ldue) (defScope s_Ldue) .none kV13 dc13 pm13 an13 cd13 ct13), sl13⟩)
    (c13 : PySem.W.codeIn K cd13 "_law_due" = true) (k13 : PySem.W.keepIn K (.ref f13) = true)
    (a14 : PySem.W.nsIn K mainGlobals "law" = some (some (.ref f14))) (l14 : K.lookup f14 = some ⟨oc14, od14, .func (PySem.W.fnOf "law" "law" (defArgs s_law) (defBody s_law) (defScope s_law) .none kV14 dc14 pm14 an14 cd14 ct14), sl14⟩)
    (c14 : PySem.W.codeIn K cd14 "law" = true) (k14 : PySem.W.keepIn K (.ref f14) = true)
    (v_ITEMS : PySem.W.nsIn K mainGlobals "ITEMS" = some (some (.str "abcdefgh" t_ITEMS)))
    (v_MAX_LENGTH : PySem.W.nsIn K mainGlobals "MAX_LENGTH" = some (some (.int 400 t_MAX_LENGTH)))
    (z_isinstance : PySem.W.nsIn K mainGlobals "isinstance" = some none)
    (z_str : PySem.W.nsIn K mainGlobals "str" = some none)
    (z_len : PySem.W.nsIn K mainGlobals "len" = some none)
    (z_max : PySem.W.nsIn K mainGlobals "max" = some none)
    (z_int : PySem.W.nsIn K mainGlobals "int" = some none)
    (z_range : PySem.W.nsIn K mainGlobals "range" = some none)
    (z_min : PySem.W.nsIn K mainGlobals "min" = some none)
    (z_list : PySem.W.nsIn K mainGlobals "list" = some none)
    (z_repr : PySem.W.nsIn K mainGlobals "repr" = some none)
    {C_LeakError : Addr} (n_LeakError : PySem.W.nsIn K mainGlobals "LeakError" = some (some (.ref C_LeakError)))
    {C_InvalidWord I_InvalidWord : Addr} {x1InvalidWord : Value} {x2InvalidWord : Option Addr} {x3InvalidWord x4InvalidWord : Value} {x5InvalidWord : Option Addr} {x6InvalidWord x7InvalidWord : Value} {x8InvalidWord : Array (Option Value)} {p1InvalidWord p2InvalidWord q1InvalidWord q2InvalidWord q3InvalidWord q4InvalidWord : Pos}
    (n_InvalidWord : PySem.W.nsIn K mainGlobals "InvalidWord" = some (some (.ref C_InvalidWord))) (i_InvalidWord : PySem.W.findIn K (.ref C_InvalidWord) "__init__" = some (some (.ref I_InvalidWord)))
    (m_InvalidWord : K.lookup I_InvalidWord = some ⟨x1InvalidWord, x2InvalidWord, .func (PySem.W.fnOf "__init__" "InvalidWord.__init__" (iA "value" p1InvalidWord p2InvalidWord) (iB "value" q1InvalidWord q2InvalidWord q3InvalidWord q4InvalidWord) (iS "value" []) .none .none x3InvalidWord x4InvalidWord x5InvalidWord x6InvalidWord x7InvalidWord), x8InvalidWord⟩) (d_InvalidWord : PySem.W.codeIn K x6InvalidWord "InvalidWord.__init__" = true)
    (h_InvalidWord : ecB K C_InvalidWord I_InvalidWord "value" [.type "ValueError", .type "Exception", .type "BaseException", .type "object"] "ValueError.__new__" = true)
    : Txt K mg ⟨f1, (PySem.W.fnOf "is_string_of" "is_string_of" (defArgs s_is_string_of) (defBody s_is_string_of) (defScope s_is_string_of) (.ref td1) kV1 dc1 pm1 an1 cd1 ct1), f2, (PySem.W.fnOf "is_word" "is_word" (defArgs s_is_word) (defBody s_is_word) (defScope s_is_word) .none kV2 dc2 pm2 an2 cd2 ct2), f3, (PySem.W.fnOf "require_word" "require_word" (defArgs s_require_word) (defBody s_require_word) (defScope s_require_word) .none kV3 dc3 pm3 an3 cd3 ct3), f4, (PySem.W.fnOf "earliest_positions" "earliest_positions" (defArgs s_earliest_positions) (defBody s_earliest_positions) (defScope s_earliest_positions) .none kV4 dc4 pm4 an4 cd4 ct4), f5, (PySem.W.fnOf "embeds" "embeds" (defArgs s_embeds) (defBody s_embeds) (defScope s_embeds) .none kV5 dc5 pm5 an5 cd5 ct5), f6, (PySem.W.fnOf "is_subsequence" "is_subsequence" (defArgs s_is_subsequence) (defBody s_is_subsequence) (defScope s_is_subsequence) .none kV6 dc6 pm6 an6 cd6 ct6), f7, (PySem.W.fnOf "embedding" "embedding" (defArgs s_embedding) (defBody s_embedding) (defScope s_embedding) .none kV7 dc7 pm7 an7 cd7 ct7), f8, (PySem.W.fnOf "prefix_length" "prefix_length" (defArgs s_prefix_length) (defBody s_prefix_length) (defScope s_prefix_length) .none kV8 dc8 pm8 an8 cd8 ct8), f9, (PySem.W.fnOf "_law_pool" "_law_pool" (defArgs s_Lpool) (defBody s_Lpool) (defScope s_Lpool) .none kV9 dc9 pm9 an9 cd9 ct9), f10, (PySem.W.fnOf "_law_take" "_law_take" (defArgs s_Ltake) (defBody s_Ltake) (defScope s_Ltake) .none kV10 dc10 pm10 an10 cd10 ct10), f11, (PySem.W.fnOf "_law_word" "_law_word" (defArgs s_Lword) (defBody s_Lword) (defScope s_Lword) .none kV11 dc11 pm11 an11 cd11 ct11), f12, (PySem.W.fnOf "_law_choices" "_law_choices" (defArgs s_Lchoices) (defBody s_Lchoices) (defScope s_Lchoices) .none kV12 dc12 pm12 an12 cd12 ct12), f13, (PySem.W.fnOf "_law_due" "_law_due" (defArgs s_Ldue) (defBody s_Ldue) (defScope s_Ldue) .none kV13 dc13 pm13 an13 cd13 ct13), f14, (PySem.W.fnOf "law" "law" (defArgs s_law) (defBody s_law) (defScope s_law) .none kV14 dc14 pm14 an14 cd14 ct14), t_ITEMS, t_MAX_LENGTH, C_LeakError, C_InvalidWord, I_InvalidWord⟩ := by
  have F1 : FunD K "is_string_of" "is_string_of" (defArgs s_is_string_of) (defBody s_is_string_of) (defScope s_is_string_of) [.int 400] [] f1 (PySem.W.fnOf "is_string_of" "is_string_of" (defArgs s_is_string_of) (defBody s_is_string_of) (defScope s_is_string_of) (.ref td1) kV1 dc1 pm1 an1 cd1 ct1) := ⟨⟨_, _, _, _, _, _, _, _, _, _, rfl, l1, c1, Or.inr ⟨(fun h => nomatch h), _, _, [.int 400 tk1_0], _, rfl, t1, rfl, (.cons ⟨_, rfl⟩ .nil)⟩, Or.inl rfl⟩, k1⟩
  have b1 := F1.binds1 (ps := ["value", "letters", "longest"]) 2 0 (fun h => nomatch h) rfl fun _ _ _ _ _ _ _ us its hl hi => match us, its, hl, hi with | [_, _], [_], _, _ => ⟨_, rfl, rfl⟩
  have F2 := fun_mk (st := s_is_word) l2 c2 k2
  have b2 := F2.binds (ps := ["value"]) fun _ _ _ _ _ _ us hl => match us, hl with | [_], _ => rfl
  have F3 := fun_mk (st := s_require_word) l3 c3 k3
  have b3 := F3.binds (ps := ["value"]) fun _ _ _ _ _ _ us hl => match us, hl with | [_], _ => rfl
  have F4 := fun_mk (st := s_earliest_positions) l4 c4 k4
  have b4 := F4.binds (ps := ["part", "word"]) fun _ _ _ _ _ _ us hl => match us, hl with | [_, _], _ => rfl
  have F5 := fun_mk (st := s_embeds) l5 c5 k5
  have b5 := F5.binds (ps := ["part", "word"]) fun _ _ _ _ _ _ us hl => match us, hl with | [_, _], _ => rfl
  have F6 := fun_mk (st := s_is_subsequence) l6 c6 k6
  have b6 := F6.binds (ps := ["part", "word"]) fun _ _ _ _ _ _ us hl => match us, hl with | [_, _], _ => rfl
  have F7 := fun_mk (st := s_embedding) l7 c7 k7
  have b7 := F7.binds (ps := ["part", "word"]) fun _ _ _ _ _ _ us hl => match us, hl with | [_, _], _ => rfl
  have F8 := fun_mk (st := s_prefix_length) l8 c8 k8
  have b8 := F8.binds (ps := ["part", "word"]) fun _ _ _ _ _ _ us hl => match us, hl with | [_, _], _ => rfl
  have F9 := fun_mk (st := s_Lpool) l9 c9 k9
  have b9 := F9.binds (ps := ["_law_script", "_law_k"]) fun _ _ _ _ _ _ us hl => match us, hl with | [_, _], _ => rfl
  have F10 := fun_mk (st := s_Ltake) l10 c10 k10
  have b10 := F10.binds (ps := ["_law_pool_here", "_law_many"]) fun _ _ _ _ _ _ us hl => match us, hl with | [_, _], _ => rfl
  have F11 := fun_mk (st := s_Lword) l11 c11 k11
  have b11 := F11.binds (ps := ["_law_pool_here", "_law_most", "_law_letters"]) fun _ _ _ _ _ _ us hl => match us, hl with | [_, _, _], _ => rfl
  have F12 := fun_mk (st := s_Lchoices) l12 c12 k12
  have b12 := F12.binds (ps := ["_law_size", "_law_many"]) fun _ _ _ _ _ _ us hl => match us, hl with | [_, _], _ => rfl
  have F13 := fun_mk (st := s_Ldue) l13 c13 k13
  have b13 := F13.binds (ps := ["_law_piece", "_law_string"]) fun _ _ _ _ _ _ us hl => match us, hl with | [_, _], _ => rfl
  have F14 := fun_mk (st := s_law) l14 c14 k14
  have b14 := F14.binds (ps := ["_law_script"]) fun _ _ _ _ _ _ us hl => match us, hl with | [_], _ => rfl
  exact ⟨F1, b1, PySem.W.mg_of X G a1, F2, b2, PySem.W.mg_of X G a2, F3, b3, PySem.W.mg_of X G a3, F4, b4, PySem.W.mg_of X G a4, F5, b5, PySem.W.mg_of X G a5, F6, b6, PySem.W.mg_of X G a6, F7, b7, PySem.W.mg_of X G a7, F8, b8, PySem.W.mg_of X G a8, F9, b9, PySem.W.mg_of X G a9, F10, b10, PySem.W.mg_of X G a10, F11, b11, PySem.W.mg_of X G a11, F12, b12, PySem.W.mg_of X G a12, F13, b13, PySem.W.mg_of X G a13, F14, b14, PySem.W.mg_of X G a14, kb_sw (fun s a b => .of_eq rfl), kb_sw (fun s a b => .of_eq rfl), kb_sw (fun s a b => .of_eq rfl), PySem.W.mg_of X G v_ITEMS, PySem.W.mg_of X G v_MAX_LENGTH, PySem.W.mg_none_of X G z_isinstance, PySem.W.mg_none_of X G z_str, PySem.W.mg_none_of X G z_len, PySem.W.mg_none_of X G z_max, PySem.W.mg_none_of X G z_int, PySem.W.mg_none_of X G z_range, PySem.W.mg_none_of X G z_min, PySem.W.mg_none_of X G z_list, PySem.W.mg_none_of X G z_repr, PySem.W.mg_of X G n_LeakError, ecl_value PySem.F.excBase_ValueError ⟨by decide +kernel, by decide +kernel, by decide +kernel⟩ PySem.F.store_ValueError (PySem.W.mg_of X G n_InvalidWord) h_InvalidWord i_InvalidWord m_InvalidWord d_InvalidWord, h_InvalidWord⟩
end E2

set_option Elab.async false
set_option linter.all false
set_option maxRecDepth 100000
set_option maxHeartbeats 4000000
namespace E2
open PySem PySem.Spec PyProof.Rows L2 Own Mth Exn
abbrev cs (z : Str) : List Nat := z.cps.toList
theorem len_cs (z : Str) : z.length = (cs z).length := by
  show z.cps.size = z.cps.toList.length
  rw [Array.length_toList]
def isW (z : Str) : Prop := z.length ≤ 400 ∧ ∀ c ∈ cs z, c ∈ cs "abcdefgh"
theorem le_line {n : Nat} (h : n ≤ 100000) : n ≤ sizeLine := by rw [sizeLine_eq]; omega
theorem lt_line {n : Nat} (h : n ≤ 100000) : n < sizeLine := by rw [sizeLine_eq]; omega
section
variable {P : Program} {w : World} {K : PySem.W.Frag} {mg : Str → Option Value} {base : Heap} {a : Ad}
/-! the words -/
def sp_is_string_of : Sp := fun vs H Q _ => ∃ z b : Str, vs = [.str z, .str b, .int 400] ∧ z.length ≤ 400 ∧ (∀ c ∈ cs z, c ∈ cs b) ∧ Q (.bl true) H
theorem ok_is_string_of (T : Txt K mg a) : FnOk P w K mg base CX0 1 a.f_is_string_of a.d_is_string_of ["value", "letters", "longest"] sp_is_string_of := by
  refine T.F_is_string_of.ok sc_is_string_of (fun vs H Q E h => ?_) (fun cdv A outer s H vs Q E hr h => ?_)
  · obtain ⟨z, b, rfl, _⟩ := h
    rfl
  · obtain ⟨z, b, rfl, hz, hb, q⟩ := h
    refine ⟨_, (pss_one (ps_ret (pe_and (pe_callB call_isi (by rfl) T.z_isinstance (by decide +kernel) (pa_cons (pv 0) (pa_cons (pe_bltn (v := .ty "str") (by rfl) T.z_str (by decide +kernel) rfl) pa_nil))) (pe_and (pe_cmpR op_le (pe_callB call_len_str (by rfl) T.z_len (by decide +kernel) (pa_cons (pv 0) pa_nil)) (pv 2) (nomark _)) (pe_one (pe_cmpR op_eq (pe_bm PySem.F.plainAttrs_str PySem.F.slot_str_strip PySem.F.type_str_strip mt_stripChars (pv 0) (pa_cons (pv 1) pa_nil)) pe_str (nomark _))))))), ?_⟩
    refine ⟨.str z, rfl, .str z, .ty "str", .type "str", .type "str", true, rfl, .ty "str", .base (.str z), kit_ty (by decide +kernel), true, rfl, iteT ?_⟩
    refine ⟨.str z, rfl, z, rfl, le_line (by omega), .int 400, rfl, _, _, rfl, rfl, _, rfl, ?_⟩
    rw [decide_eq_true (show (z.length : Int) ≤ 400 by omega)]
    refine iteT ⟨.str z, rfl, rfl, .str b, rfl, z, b, rfl, rfl, le_line (by omega), rfl, ?_⟩
    rw [strip_all hb]
    exact q
def sp_is_word : Sp := fun vs H Q _ => ∃ z : Str, vs = [.str z] ∧ isW z ∧ Q (.bl true) H
theorem ok_is_word (T : Txt K mg a) : FnOk P w K mg base CX0 2 a.f_is_word a.d_is_word ["value"] sp_is_word := by
  have G_is_string_of := ok_is_string_of (P := P) (w := w) (base := base) T
  refine T.F_is_word.ok sc_is_word (fun vs H Q E h => ?_) (fun cdv A outer s H vs Q E hr h => ?_)
  · obtain ⟨z, rfl, _⟩ := h
    rfl
  · obtain ⟨z, rfl, hz, q⟩ := h
    refine ⟨_, (pss_one (ps_ret (pe_call G_is_string_of (hr.mono (by decide)) (by rfl) T.g_is_string_of T.F_is_string_of.kp T.b_is_string_of.choose_spec.2 T.b_is_string_of.choose_spec.1 pass0 (pa_cons (pv 0) (pa_cons (pe_glob (v := .str "abcdefgh") (by rfl) T.c_ITEMS ⟨_, rfl⟩) pa_nil))))), ?_⟩
    exact ⟨.str z, rfl, z, "abcdefgh", rfl, hz.1, hz.2, q⟩
def sp_require_word : Sp := fun vs H Q _ => ∃ z : Str, vs = [.str z] ∧ isW z ∧ Q .non H
theorem ok_require_word (T : Txt K mg a) : FnOk P w K mg base CX0 3 a.f_require_word a.d_require_word ["value"] sp_require_word := by
  have G_is_word := ok_is_word (P := P) (w := w) (base := base) T
  refine T.F_require_word.ok sc_require_word (fun vs H Q E h => ?_) (fun cdv A outer s H vs Q E hr h => ?_)
  · obtain ⟨z, rfl, _⟩ := h
    rfl
  · obtain ⟨z, rfl, hz, q⟩ := h
    refine ⟨_, (pss_one (ps_if (pt_not (pt_val (pe_call G_is_word (hr.mono (by decide)) (by rfl) T.g_is_word T.F_is_word.kp T.b_is_word .nil pass0 (pa_cons (pv 0) pa_nil))))
        (pss_one ps_never)
        pss_nil)), ?_⟩
    exact ⟨.str z, rfl, z, rfl, hz, true, rfl, iteF q⟩
end
end E2

set_option Elab.async false
set_option linter.all false
set_option maxRecDepth 100000
set_option maxHeartbeats 4000000
namespace E2
open PySem PySem.Spec PyProof.Rows L2 Own Mth Exn
theorem same_new {H : Hp} {p : Addr} {o : HO} (h : H p = none) : Same H (upd H p o) := fun b x e => by
  rw [upd_ne (ne_of_none e h)]
  exact e
theorem same_put {H H1 : Hp} {p : Addr} {o : HO} (s : Same H H1) (h : H p = none) : Same H (upd H1 p o) := fun b x e => by
  rw [upd_ne (ne_of_none e h)]
  exact s b x e
abbrev iV (l : List Nat) : List V := l.map fun j => V.int (j : Nat)
theorem iV_snoc (l : List Nat) (k : Nat) : iV (l ++ [k]) = iV l ++ [V.int (k : Nat)] := List.map_append
theorem iV_len (l : List Nat) : (iV l).length = l.length := List.length_map _
theorem getD_cs {z : Str} {v : Nat} (h : v < z.length) : (cs z)[v]? = some (z.cps.getD v 0) := by
  have h' : v < z.cps.size := h
  show z.cps.toList[v]? = _
  rw [Array.getElem?_toList, Array.getElem?_eq_getElem h', Array.getD, dif_pos h']
  rfl
section
variable {P : Program} {w : World} {K : PySem.W.Frag} {mg : Str → Option Value} {base : Heap} {a : Ad}
def sp_earliest_positions : Sp := fun vs H Q _ => ∃ p z : Str, vs = [.str p, .str z] ∧ z.length ≤ 400 ∧ p.length ≤ 400 ∧
  ∀ H' o, Same H H' → H o = none → H' o = some (.lst (iV (emb (cs p) (cs z) 0))) → Q (.ref o) H'
theorem ok_earliest_positions (T : Txt K mg a) : FnOk P w K mg base CX0 1 a.f_earliest_positions a.d_earliest_positions ["part", "word"] sp_earliest_positions := by
  refine T.F_earliest_positions.ok sc_earliest_positions (fun vs H Q E h => ?_) (fun cdv A outer s H vs Q E hr h => ?_)
  · obtain ⟨p, z, rfl, _⟩ := h
    rfl
  · obtain ⟨p, z, rfl, hz, hp, q⟩ := h
    refine ⟨_, (pss_cons (ps_set (i := 2) sc_earliest_positions.nd rfl (Or.inl rfl) (pe_lst pa_nil))
      (pss_cons (ps_set (i := 3) sc_earliest_positions.nd rfl (Or.inl rfl) pe_int)
      (pss_cons (ps_for PassesOwn.never rfl (pi_str (pv 0)) (pg_name (i := 4) sc_earliest_positions.nd rfl (Or.inl rfl))
        (pss_cons (ps_set (i := 5) sc_earliest_positions.nd rfl (Or.inl rfl) (pe_bm PySem.F.plainAttrs_str PySem.F.slot_str_find PySem.F.type_str_find mt_find3 (pv 1) (pa_cons (pv 4) (pa_cons (pv 3) pa_nil))))
        (pss_cons (ps_if (pt_cmpR op_lt (pv 5) pe_int (nomark _))
          (pss_one ps_break)
          pss_nil)
        (pss_cons (ps_expr (pe_bm PySem.F.plainAttrs_list PySem.F.slot_list_append PySem.F.type_list_append mt_append (pv 2) (pa_cons (pv 5) pa_nil)))
        (pss_one (ps_set (i := 3) sc_earliest_positions.nd rfl (Or.inl rfl) (pe_op op_add (pv 5) pe_int)))))))
      (pss_one (ps_ret (pv 2)))))), ?_⟩
    refine ⟨Nat.zero_le _, fun o no => ?_⟩
    refine ⟨.str p, rfl, p, rfl, for_it walk_str (fun i σ H3 => ∃ (acc : List Nat) (st : Nat) (y4 y5 : Option V), σ = [some (.str p), some (.str z), some (.ref o), some (.int (st : Nat)), y4, y5] ∧ Same H H3 ∧ H3 o = some (.lst (iV acc)) ∧ acc.length = i ∧
      acc ++ emb ((cs p).drop i) ((cs z).drop st) st = emb (cs p) (cs z) 0) ?_ (fun _ _ _ _ _ => trivial) ?_ ?_⟩
    · exact ⟨[], 0, none, none, rfl, same_new no, upd_same, rfl, rfl⟩
    · rintro i x σ H3 H4 hi ⟨acc, st, y4, y5, rfl, sm, eo, la, em⟩ ⟨rfl, c, hc, rfl⟩
      have hpc : (cs p).drop i = c :: (cs p).drop (i + 1) := by
        have hl : i < (cs p).length := by rw [← len_cs]; exact hi
        rw [List.drop_eq_getElem_cons hl]
        congr 1
        have : (cs p)[i]? = some c := by
          show p.cps.toList[i]? = some c
          rw [Array.getElem?_toList]
          exact hc
        rw [List.getElem?_eq_getElem hl] at this
        exact Option.some.inj this
      rw [hpc] at em
      have hfi : fromIndex z.length (st : Int) = st := by
        unfold fromIndex
        rw [if_neg (by omega)]
        omega
      refine ⟨.str z, rfl, rfl, .str ⟨#[c]⟩, rfl, .int st, rfl, z, ⟨#[c]⟩, st, rfl, rfl, ?_⟩
      rcases PySem.StrLaws.find3_spec z c (st : Int) with ⟨hf, hn⟩ | ⟨k, hf, h1, h2, h3, h4⟩
      · rw [hf]
        refine ⟨_, rfl, _, _, rfl, rfl, _, rfl, ?_⟩
        refine iteT ?_
        refine ⟨.ref o, rfl, q _ o sm no ?_⟩
        rw [emb_stop fun v hv => by
          rcases Nat.lt_or_ge v z.length with hl | hl
          · rw [getD_cs hl]
            intro e
            exact hn v (by rw [hfi]; exact hv) hl (Option.some.inj e)
          · rw [List.getElem?_eq_none (by rw [← len_cs]; exact hl)]
            exact (fun e => by cases e), List.append_nil] at em
        rw [← em]
        exact eo
      · rw [hf]
        refine ⟨_, rfl, _, _, rfl, rfl, _, rfl, ?_⟩
        rw [decide_eq_false (by omega)]
        refine iteF ?_
        refine ⟨.ref o, rfl, .inl ⟨rfl, _, SqL.of eo⟩, .int k, rfl, o, _, _, rfl, rfl, eo, ?_, ?_⟩
        · rw [List.length_map]
          have : i < p.length := hi
          exact lt_line (by omega)
        · refine ⟨_, rfl, _, _, rfl, rfl, ?_⟩
          refine ⟨acc ++ [k], k + 1, _, _, rfl, same_put sm no, ?_, by rw [List.length_append, la]; rfl, ?_⟩
          · rw [upd_same, iV_snoc]
          · rw [hfi] at h1
            rw [emb_step (k := k) (by rw [getD_cs h2, h3]) h1 fun v hv hvk => by
              rw [getD_cs (by omega)]
              intro e
              exact h4 v (by rw [hfi]; exact hv) hvk (Option.some.inj e)] at em
            rw [List.append_assoc]
            exact em
    · rintro σ H3 ⟨acc, st, y4, y5, rfl, sm, eo, la, em⟩
      refine ⟨.ref o, rfl, q _ o sm no ?_⟩
      rw [List.drop_of_length_le (by rw [← len_cs]; exact Nat.le_refl _), emb_nil, List.append_nil] at em
      rw [← em]
      exact eo
def sp_prefix_length : Sp := fun vs H Q _ => ∃ p z : Str, vs = [.str p, .str z] ∧ isW p ∧ isW z ∧ ∀ H', Same H H' → Q (.int (emb (cs p) (cs z) 0).length) H'
theorem ok_prefix_length (T : Txt K mg a) : FnOk P w K mg base CX0 4 a.f_prefix_length a.d_prefix_length ["part", "word"] sp_prefix_length := by
  have G_require_word := ok_require_word (P := P) (w := w) (base := base) T
  have G_earliest_positions := ok_earliest_positions (P := P) (w := w) (base := base) T
  refine T.F_prefix_length.ok sc_prefix_length (fun vs H Q E h => ?_) (fun cdv A outer s H vs Q E hr h => ?_)
  · obtain ⟨p, z, rfl, _⟩ := h
    rfl
  · obtain ⟨p, z, rfl, hp, hz, q⟩ := h
    refine ⟨_, (pss_cons (ps_expr (pe_call G_require_word (hr.mono (by decide)) (by rfl) T.g_require_word T.F_require_word.kp T.b_require_word .nil pass0 (pa_cons (pv 0) pa_nil)))
      (pss_cons (ps_expr (pe_call G_require_word (hr.mono (by decide)) (by rfl) T.g_require_word T.F_require_word.kp T.b_require_word .nil pass0 (pa_cons (pv 1) pa_nil)))
      (pss_one (ps_ret (pe_callB call_len_seq (by rfl) T.z_len (by decide +kernel) (pa_cons (pe_call G_earliest_positions (hr.mono (by decide)) (by rfl) T.g_earliest_positions T.F_earliest_positions.kp T.b_earliest_positions .nil pass0 (pa_cons (pv 0) (pa_cons (pv 1) pa_nil))) pa_nil)))))), ?_⟩
    refine ⟨.str p, rfl, p, rfl, hp, .str z, rfl, z, rfl, hz, ?_⟩
    refine ⟨.str p, rfl, .str z, rfl, p, z, rfl, hz.1, hp.1, fun H' o sm no eo => ?_⟩
    refine ⟨o, _, rfl, .inl (SqL.of eo), ?_⟩
    rw [List.length_map]
    exact q H' sm
def sp_embeds : Sp := fun vs H Q _ => ∃ p z : Str, vs = [.str p, .str z] ∧ isW p ∧ isW z ∧ ∀ H', Same H H' → Q (.bl (due (cs p) (cs z)).isSome) H'
theorem ok_embeds (T : Txt K mg a) : FnOk P w K mg base CX0 2 a.f_embeds a.d_embeds ["part", "word"] sp_embeds := by
  have G_earliest_positions := ok_earliest_positions (P := P) (w := w) (base := base) T
  refine T.F_embeds.ok sc_embeds (fun vs H Q E h => ?_) (fun cdv A outer s H vs Q E hr h => ?_)
  · obtain ⟨p, z, rfl, _⟩ := h
    rfl
  · obtain ⟨p, z, rfl, hp, hz, q⟩ := h
    refine ⟨_, (pss_one (ps_ret (pe_cmpR op_eq (pe_callB call_len_seq (by rfl) T.z_len (by decide +kernel) (pa_cons (pe_call G_earliest_positions (hr.mono (by decide)) (by rfl) T.g_earliest_positions T.F_earliest_positions.kp T.b_earliest_positions .nil pass0 (pa_cons (pv 0) (pa_cons (pv 1) pa_nil))) pa_nil)) (pe_callB call_len_str (by rfl) T.z_len (by decide +kernel) (pa_cons (pv 0) pa_nil)) (nomark _)))), ?_⟩
    refine ⟨.str p, rfl, .str z, rfl, p, z, rfl, hz.1, hp.1, fun H' o sm no eo => ?_⟩
    refine ⟨o, _, rfl, .inl (SqL.of eo), .str p, rfl, p, rfl, le_line (by have := hp.1; omega), rfl, ?_⟩
    have e : (due (cs p) (cs z)).isSome = decide (V.int ((iV (emb (cs p) (cs z) 0)).length : Nat) = V.int p.length) := by
      unfold due
      rw [len_cs p, iV_len]
      by_cases h : (emb (cs p) (cs z) 0).length = (cs p).length
      · rw [if_pos h, h]; simp
      · rw [if_neg h, decide_eq_false fun z => h (by have := V.int.inj z; omega)]; rfl
    rw [← e]
    exact q H' sm
def sp_is_subsequence : Sp := fun vs H Q _ => ∃ p z : Str, vs = [.str p, .str z] ∧ isW p ∧ isW z ∧ ∀ H', Same H H' → Q (.bl (due (cs p) (cs z)).isSome) H'
theorem ok_is_subsequence (T : Txt K mg a) : FnOk P w K mg base CX0 5 a.f_is_subsequence a.d_is_subsequence ["part", "word"] sp_is_subsequence := by
  have G_require_word := ok_require_word (P := P) (w := w) (base := base) T
  have G_embeds := ok_embeds (P := P) (w := w) (base := base) T
  refine T.F_is_subsequence.ok sc_is_subsequence (fun vs H Q E h => ?_) (fun cdv A outer s H vs Q E hr h => ?_)
  · obtain ⟨p, z, rfl, _⟩ := h
    rfl
  · obtain ⟨p, z, rfl, hp, hz, q⟩ := h
    refine ⟨_, (pss_cons (ps_expr (pe_call G_require_word (hr.mono (by decide)) (by rfl) T.g_require_word T.F_require_word.kp T.b_require_word .nil pass0 (pa_cons (pv 0) pa_nil)))
      (pss_cons (ps_expr (pe_call G_require_word (hr.mono (by decide)) (by rfl) T.g_require_word T.F_require_word.kp T.b_require_word .nil pass0 (pa_cons (pv 1) pa_nil)))
      (pss_one (ps_ret (pe_call G_embeds (hr.mono (by decide)) (by rfl) T.g_embeds T.F_embeds.kp T.b_embeds .nil pass0 (pa_cons (pv 0) (pa_cons (pv 1) pa_nil))))))), ?_⟩
    exact ⟨.str p, rfl, p, rfl, hp, .str z, rfl, z, rfl, hz, .str p, rfl, .str z, rfl, p, z, rfl, hp, hz, q⟩
/-! what embedding hands back, and the law's own search -/
def Got (H : Hp) : Option (List Nat) → V → Prop
  | none, v => v = .non
  | some l, v => ∃ o, v = .ref o ∧ H o = some (.lst (iV l))
def sp_embedding : Sp := fun vs H Q _ => ∃ p z : Str, vs = [.str p, .str z] ∧ isW p ∧ isW z ∧
  ∀ H' v, Same H H' → Got H' (due (cs p) (cs z)) v → (∀ o, v = .ref o → H o = none) → Q v H'
theorem ok_embedding (T : Txt K mg a) : FnOk P w K mg base CX0 4 a.f_embedding a.d_embedding ["part", "word"] sp_embedding := by
  have G_require_word := ok_require_word (P := P) (w := w) (base := base) T
  have G_earliest_positions := ok_earliest_positions (P := P) (w := w) (base := base) T
  refine T.F_embedding.ok sc_embedding (fun vs H Q E h => ?_) (fun cdv A outer s H vs Q E hr h => ?_)
  · obtain ⟨p, z, rfl, _⟩ := h
    rfl
  · obtain ⟨p, z, rfl, hp, hz, q⟩ := h
    refine ⟨_, (pss_cons (ps_expr (pe_call G_require_word (hr.mono (by decide)) (by rfl) T.g_require_word T.F_require_word.kp T.b_require_word .nil pass0 (pa_cons (pv 0) pa_nil)))
      (pss_cons (ps_expr (pe_call G_require_word (hr.mono (by decide)) (by rfl) T.g_require_word T.F_require_word.kp T.b_require_word .nil pass0 (pa_cons (pv 1) pa_nil)))
      (pss_cons (ps_set (i := 2) sc_embedding.nd rfl (Or.inl rfl) (pe_call G_earliest_positions (hr.mono (by decide)) (by rfl) T.g_earliest_positions T.F_earliest_positions.kp T.b_earliest_positions .nil pass0 (pa_cons (pv 0) (pa_cons (pv 1) pa_nil))))
      (pss_one (ps_ret (pe_ifExp (pt_cmpR op_eq (pe_callB call_len_seq (by rfl) T.z_len (by decide +kernel) (pa_cons (pv 2) pa_nil)) (pe_callB call_len_str (by rfl) T.z_len (by decide +kernel) (pa_cons (pv 0) pa_nil)) (nomark _)) (pv 2) pe_non)))))), ?_⟩
    refine ⟨.str p, rfl, p, rfl, hp, .str z, rfl, z, rfl, hz, ?_⟩
    refine ⟨.str p, rfl, .str z, rfl, p, z, rfl, hz.1, hp.1, fun H' o sm no eo => ?_⟩
    refine ⟨.ref o, rfl, o, _, rfl, .inl (SqL.of eo), .str p, rfl, p, rfl, le_line (by have := hp.1; omega), rfl, _, rfl, ?_⟩
    rw [List.length_map, len_cs p]
    by_cases h : (emb (cs p) (cs z) 0).length = (cs p).length
    · rw [h, decide_eq_true rfl]
      refine iteT ⟨.ref o, rfl, q H' _ sm ?_ fun o' e => ?_⟩
      · unfold due
        rw [if_pos h]
        exact ⟨o, rfl, eo⟩
      · cases e
        exact no
    · rw [decide_eq_false fun z => h (by have := V.int.inj z; omega)]
      refine iteF (q H' _ sm ?_ fun o' e => nomatch e)
      unfold due
      rw [if_neg h]
      rfl
end
end E2

set_option Elab.async false
set_option linter.all false
set_option maxRecDepth 100000
set_option maxHeartbeats 4000000
namespace E2
open PySem PySem.Spec PyProof.Rows L2 Own Mth Exn
/-! the law's draws -/
def Pool (H : Hp) (p : Addr) : Prop := ∃ n m : Int, H p = some (.lst [.int n, .int m]) ∧ 0 ≤ n ∧ 0 ≤ m ∧ m < 2147483647
section
variable {P : Program} {w : World} {K : PySem.W.Frag} {mg : Str → Option Value} {base : Heap} {a : Ad}
def sp_Lpool (K : PySem.W.Frag) : Sp := fun vs H Q _ => ∃ (s : Addr) (k : Int) (ns : List Int), vs = [.ref s, .int k] ∧ SqL K H s (ns.map V.int) ∧ ns.length ≤ 1000 ∧ 0 ≤ k ∧ k ≤ 1000 ∧
  ∀ H' p, Same H H' → H p = none → Pool H' p → Q (.ref p) H'
theorem cut_int (ns : List Int) (lo hi : Option Int) : ∃ l : List Int, cutV (ns.map V.int) lo hi = l.map V.int := by
  unfold cutV
  exact ⟨_, by rw [← List.map_drop, ← List.map_take]⟩
theorem ok_Lpool (T : Txt K mg a) : FnOk P w K mg base CX0 1 a.f_Lpool a.d_Lpool ["_law_script", "_law_k"] (sp_Lpool K) := by
  refine T.F_Lpool.ok sc_Lpool (fun vs H Q E h => ?_) (fun cdv A outer s H vs Q E hr h => ?_)
  · obtain ⟨s, k, ns, rfl, _⟩ := h
    rfl
  · obtain ⟨sc, k, ns, rfl, hS, hns, hk0, hk1, q⟩ := h
    refine ⟨_, (pss_cons (ps_set (i := 2) sc_Lpool.nd rfl (Or.inl rfl) (pe_ix ix_list (pe_op op_cat (pe_slice sl_list (pv 0) (po_some (pv 1)) (po_some (pe_op op_add (pv 1) pe_int))) (pe_lst (pa_cons pe_int pa_nil))) pe_int (fun _ _ => rfl)))
      (pss_cons (ps_set (i := 3) sc_Lpool.nd rfl (Or.inl rfl) (pe_callB (call_max2 rfl) (by rfl) T.z_max (by decide +kernel) (pa_cons (pv 2) (pa_cons (pe_op op_sub (pe_un un_neg pe_int) (pv 2)) pa_nil))))
      (pss_cons (ps_set (i := 4) sc_Lpool.nd rfl (Or.inl rfl) (pe_op op_mod (pe_op op_mul (pe_op op_add (pe_op op_add (pe_op op_add (pe_op op_mod (pv 3) pe_int) (pe_op op_mul (pe_op op_mul pe_int (pv 1)) (pv 1))) (pe_op op_mul pe_int (pv 1))) pe_int) pe_int) pe_int))
      (pss_one (ps_ret (pe_lst (pa_cons (pe_op op_mul (pv 3) (pe_callTy call_int1 (by rfl) T.z_int (by decide +kernel) (pa_cons (pe_cmpR op_ge (pv 3) (pe_op op_pow pe_int pe_int) (nomark _)) pa_nil))) (pa_cons (pe_op op_mod (pe_op op_mul (pv 4) (pv 4)) pe_int) pa_nil)))))))), ?_⟩
    refine ⟨.ref sc, rfl, .int k, rfl, k, rfl, .int k, rfl, k, 1, rfl, rfl, k + 1, rfl, sc, _, rfl, hS, fun c nc => ?_⟩
    obtain ⟨l, hl⟩ := cut_int ns (some k) (some (k + 1))
    have hlen := cutV_length (ns.map V.int) (some k) (some (k + 1))
    rw [hl] at hlen ⊢
    have s1 : Same H (upd H c (.lst (l.map V.int))) := same_new nc
    refine ⟨le_line (by decide), fun d nd => ?_⟩
    have ndc : d ≠ c := fun e => by rw [e, upd_same] at nd; cases nd
    have s2 := s1.trans (same_new (o := .lst [V.int 0]) nd)
    obtain ⟨x, r, hx⟩ : ∃ x r, l.map V.int ++ [V.int 0] = V.int x :: r := by
      cases l with
      | nil => exact ⟨0, _, rfl⟩
      | cons y l => exact ⟨y, _, rfl⟩
    refine ⟨c, d, l.map V.int, [V.int 0], rfl, rfl, by rw [upd_ne ndc.symm, upd_same], upd_same, ?_, fun e ne => ?_⟩
    · rw [List.length_map] at hlen ⊢
      rw [List.length_map] at hlen
      exact le_line (by rw [List.length_singleton]; omega)
    have s3 := s2.trans (same_new (o := .lst (l.map V.int ++ [V.int 0])) ne)
    refine ⟨e, _, 0, V.int x, rfl, rfl, SqL.of upd_same, atI_nat (j := 0) (by rw [hx]; rfl), ?_⟩
    -- the number
    refine ⟨.int x, rfl, 1, rfl, .int x, rfl, -1, x, rfl, rfl, _, _, rfl, ?_⟩
    obtain ⟨n, hn, hn0⟩ : ∃ n, (if -1 - x > x then -1 - x else x) = n ∧ 0 ≤ n := by
      refine ⟨_, rfl, ?_⟩
      split <;> omega
    rw [hn]
    have e1 : n % 2147483629 < 2147483629 := Int.emod_lt_of_pos _ (by decide)
    have e0 : 0 ≤ n % 2147483629 := Int.emod_nonneg _ (by decide)
    have k2 : 0 ≤ 7919 * k * k ∧ 7919 * k * k ≤ 7919 * 1000 * 1000 := by
      constructor
      · exact Int.mul_nonneg (by omega) hk0
      · exact Int.mul_le_mul (by omega) hk1 hk0 (by decide)
    refine ⟨.int n, rfl, n, 2147483629, rfl, rfl, (show (0 : Int) < 2147483629 by decide), .int k, rfl, 7919, k, rfl, rfl, .inl ⟨by decide, by decide⟩, .int k, rfl, 7919 * k, k, rfl, rfl, .inl ⟨by omega, by omega⟩, _, _, rfl, rfl,
      .int k, rfl, 31, k, rfl, rfl, .inl ⟨by decide, by decide⟩, _, _, rfl, rfl, _, _, rfl, rfl, _, 48271, rfl, rfl, .inr ⟨by decide, by decide⟩, _, 2147483647, rfl, rfl, (show (0 : Int) < 2147483647 by decide), ?_⟩
    obtain ⟨mx, hm, hm0, hm1⟩ : ∃ mx, ((n % 2147483629 + 7919 * k * k + 31 * k + 17) * 48271) % 2147483647 = mx ∧ 0 ≤ mx ∧ mx < 2147483647 :=
      ⟨_, rfl, Int.emod_nonneg _ (by decide), Int.emod_lt_of_pos _ (by decide)⟩
    dsimp only
    rw [hm]
    refine ⟨.int n, rfl, .int n, rfl, 10, 18, rfl, rfl, ⟨by decide, by decide, by decide⟩, _, _, rfl, rfl, .inr ⟨_, rfl, ?_⟩⟩
    have hb : ∀ b : Bool, (0 : Int) ≤ (if b = true then 1 else 0) ∧ (if b = true then (1 : Int) else 0) ≤ 1 := by intro b; cases b <;> decide
    have hb' := hb (decide ((10 : Int) ^ (18 : Int).toNat ≤ n))
    refine ⟨n, _, rfl, rfl, .inr ⟨by omega, by omega⟩, .int mx, rfl, .int mx, rfl, mx, mx, rfl, rfl, .inl ⟨by omega, by omega⟩, _, 2147483629, rfl, rfl, (show (0 : Int) < 2147483629 by decide), le_line (show 2 ≤ 100000 by decide), fun p np => ?_⟩
    have h1 : 0 ≤ mx * mx % 2147483629 := Int.emod_nonneg _ (by decide)
    have h2 : mx * mx % 2147483629 < 2147483629 := Int.emod_lt_of_pos _ (by decide)
    exact q _ p (s3.trans (same_new np)) (s3.free np) ⟨_, _, upd_same, Int.mul_nonneg hn0 hb'.1, h1, by omega⟩
def sp_Ltake : Sp := fun vs H Q _ => ∃ (p : Addr) (k : Int), vs = [.ref p, .int k] ∧ Pool H p ∧ 1 ≤ k ∧ k ≤ 1000000 ∧
  ∀ n m d : Int, 0 ≤ n → 0 ≤ m → m < 2147483647 → 0 ≤ d → d < k → Q (.int d) (upd H p (.lst [.int n, .int m]))
theorem ok_Ltake (T : Txt K mg a) : FnOk P w K mg base CX0 1 a.f_Ltake a.d_Ltake ["_law_pool_here", "_law_many"] sp_Ltake := by
  refine T.F_Ltake.ok sc_Ltake (fun vs H Q E h => ?_) (fun cdv A outer s H vs Q E hr h => ?_)
  · obtain ⟨p, k, rfl, _⟩ := h
    rfl
  · obtain ⟨p, k, rfl, ⟨n, m, hp, hn, hm0, hm1⟩, hk0, hk1, q⟩ := h
    refine ⟨_, (pss_cons (ps_if (pt_cmpR op_gt (pe_ix ix_list (pv 0) pe_int (fun _ _ => rfl)) pe_int (nomark _))
        (pss_cons (ps_set (i := 2) sc_Ltake.nd rfl (Or.inl rfl) (pe_op op_mod (pe_ix ix_list (pv 0) pe_int (fun _ _ => rfl)) (pv 1)))
        (pss_cons (ps_asg (pe_op op_fdiv (pe_ix ix_list (pv 0) pe_int (fun _ _ => rfl)) (pv 1)) (pg_sub (pv 0) pe_int set_list))
        (pss_one (ps_ret (pv 2)))))
        pss_nil)
      (pss_cons (ps_asg (pe_op op_mod (pe_op op_add (pe_op op_mul (pe_ix ix_list (pv 0) pe_int (fun _ _ => rfl)) pe_int) pe_int) pe_int) (pg_sub (pv 0) pe_int set_list))
      (pss_one (ps_ret (pe_op op_mod (pe_op op_fdiv (pe_op op_mod (pe_op op_mul (pe_ix ix_list (pv 0) pe_int (fun _ _ => rfl)) (pe_ix ix_list (pv 0) pe_int (fun _ _ => rfl))) pe_int) pe_int) (pv 1)))))), ?_⟩
    refine ⟨.ref p, rfl, p, _, 0, _, rfl, rfl, SqL.of hp, atI_nat (j := 0) rfl, _, _, rfl, rfl, _, rfl, ite2 (fun e => ?_) (fun e => ?_)⟩
    · refine ⟨.ref p, rfl, p, _, 0, _, rfl, rfl, SqL.of hp, atI_nat (j := 0) rfl, .int k, rfl, n, k, rfl, rfl, by omega, ?_⟩
      refine ⟨.ref p, rfl, p, _, 0, _, rfl, rfl, SqL.of hp, atI_nat (j := 0) rfl, .int k, rfl, n, k, rfl, rfl, ⟨by omega, by omega⟩, ?_⟩
      refine ⟨.ref p, rfl, p, _, 0, 0, rfl, rfl, hp, rfl, ?_⟩
      refine ⟨_, rfl, ?_⟩
      exact q (n / k) m (n % k) (Int.ediv_nonneg hn (by omega)) hm0 hm1 (Int.emod_nonneg _ (by omega)) (Int.emod_lt_of_pos _ (by omega))
    · refine ⟨.ref p, rfl, p, _, 1, _, rfl, rfl, SqL.of hp, atI_nat (j := 1) rfl, m, 48271, rfl, rfl, .inr ⟨by decide, by decide⟩, _, _, rfl, rfl, _, 2147483647, rfl, rfl, (show (0 : Int) < 2147483647 by decide), ?_⟩
      obtain ⟨x, hx, hx0, hx1⟩ : ∃ x, (m * 48271 + 12345) % 2147483647 = x ∧ 0 ≤ x ∧ x < 2147483647 := ⟨_, rfl, Int.emod_nonneg _ (by decide), Int.emod_lt_of_pos _ (by decide)⟩
      dsimp only
      rw [hx]
      refine ⟨.ref p, rfl, p, _, 1, 1, rfl, rfl, hp, rfl, ?_⟩
      have hp2 : (upd H p (.lst ([V.int n, V.int m].set 1 (.int x)))) p = some (.lst [.int n, .int x]) := upd_same
      refine ⟨.ref p, rfl, p, _, 1, _, rfl, rfl, SqL.of hp2, atI_nat (j := 1) rfl, .ref p, rfl, p, _, 1, _, rfl, rfl, SqL.of hp2, atI_nat (j := 1) rfl, x, x, rfl, rfl, .inl ⟨by omega, by omega⟩, _, 2147483629, rfl, rfl, (show (0 : Int) < 2147483629 by decide),
        _, 64, rfl, rfl, ⟨by decide, by decide⟩, .int k, rfl, _, k, rfl, rfl, by omega, ?_⟩
      exact q n x _ hn hx0 hx1 (Int.emod_nonneg _ (by omega)) (Int.emod_lt_of_pos _ (by omega))
end
end E2

set_option Elab.async false
set_option linter.all false
set_option maxRecDepth 100000
set_option maxHeartbeats 4000000
namespace E2
open PySem PySem.Spec PyProof.Rows L2 Own Mth Exn
/-! texts of single signs, joined -/
abbrev sg (c : Nat) : Str := ⟨#[c]⟩
abbrev sV (l : List Nat) : List V := l.map fun c => V.str ⟨#[c]⟩
theorem sV_eq (l : List Nat) : sV l = (l.map sg).map V.str := by rw [List.map_map]; rfl
theorem sV_snoc (l : List Nat) (k : Nat) : sV (l ++ [k]) = sV l ++ [V.str ⟨#[k]⟩] := List.map_append
theorem sV_len (l : List Nat) : (sV l).length = l.length := List.length_map _
theorem join_signs : ∀ l : List Nat, cs (Txt.join "" (l.map sg)) = l := by
  intro l
  have : ∀ l : List Nat, cs (Str.join "" (l.map sg)) = l := by
    intro l
    induction l with
    | nil => rfl
    | cons a l ih =>
      cases l with
      | nil => rfl
      | cons b l =>
        show (sg a ++ "" ++ Str.join "" ((b :: l).map sg)).cps.toList = a :: b :: l
        have e : ∀ x y : Str, (x ++ y).cps.toList = x.cps.toList ++ y.cps.toList := fun x y => Array.toList_append
        rw [e, e]
        show ([a] ++ []) ++ cs (Str.join "" ((b :: l).map sg)) = _
        rw [ih]
        rfl
  show cs (Builtin.Str.glued "" (l.map sg)) = l
  rw [PySem.StrLaws.glued_eq_join]
  exact this l
theorem sum_ones : ∀ l : List Nat, ((l.map sg).map (·.length)).sum = l.length
  | [] => rfl
  | a :: l => by
    rw [List.map_cons, List.map_cons, List.sum_cons, sum_ones l, List.length_cons]
    show 1 + l.length = l.length + 1
    omega
theorem item8 {d k : Int} (h0 : 0 ≤ d) (h1 : d < k) (hk : k ≤ 8) : ∃ c, atI (cs "abcdefgh") d = some c ∧ c ∈ cs "abcdefgh" := by
  obtain ⟨n, rfl⟩ : ∃ n : Nat, d = n := ⟨d.toNat, by omega⟩
  have hn : n < (cs "abcdefgh").length := by
    have : (cs "abcdefgh").length = 8 := by decide +kernel
    omega
  exact ⟨(cs "abcdefgh")[n], atI_nat (List.getElem?_eq_getElem hn), List.getElem_mem hn⟩
/-! what stands but for one object -/
def But (p : Addr) (H H' : Hp) : Prop := ∀ b o, b ≠ p → H b = some o → H' b = some o
theorem But.trans {p : Addr} {H H1 H2 : Hp} (x : But p H H1) (y : But p H1 H2) : But p H H2 := fun b o n e => y b o n (x b o n e)
theorem But.refl {p : Addr} {H : Hp} : But p H H := fun _ _ _ e => e
theorem But.put {p : Addr} {H H1 : Hp} {o : HO} (x : But p H H1) : But p H (upd H1 p o) := fun b u n e => by rw [upd_ne n]; exact x b u n e
theorem But.new {p q : Addr} {H H1 : Hp} {o : HO} (x : But p H H1) (h : H q = none) : But p H (upd H1 q o) := fun b u n e => by
  rw [upd_ne (ne_of_none e h)]
  exact x b u n e
theorem But.same {p : Addr} {H H1 H2 : Hp} (s : Same H H1) (hp : H p = none) (x : But p H1 H2) : Same H H2 := fun b o e => x b o (ne_of_none e hp) (s b o e)
section
variable {P : Program} {w : World} {K : PySem.W.Frag} {mg : Str → Option Value} {base : Heap} {a : Ad}
def sp_Lword : Sp := fun vs H Q _ => ∃ (p : Addr) (m k : Int), vs = [.ref p, .int m, .int k] ∧ Pool H p ∧ 0 ≤ m ∧ m ≤ 100 ∧ 1 ≤ k ∧ k ≤ 8 ∧
  ∀ H' z, Pool H' p → But p H H' → z.length ≤ m → (∀ c ∈ cs z, c ∈ cs "abcdefgh") → Q (.str z) H'
theorem ok_Lword (T : Txt K mg a) : FnOk P w K mg base CX0 2 a.f_Lword a.d_Lword ["_law_pool_here", "_law_most", "_law_letters"] sp_Lword := by
  have G_Ltake := ok_Ltake (P := P) (w := w) (base := base) T
  refine T.F_Lword.ok sc_Lword (fun vs H Q E h => ?_) (fun cdv A outer s H vs Q E hr h => ?_)
  · obtain ⟨p, m, k, rfl, _⟩ := h
    rfl
  · obtain ⟨p, m, k, rfl, hP, hm0, hm1, hk0, hk1, q⟩ := h
    refine ⟨_, (pss_one (ps_ret (pe_join pe_str (pe_lc (own := [("_law_turn", 3)]) (g := gName 3) (by rfl) sc_Lword.nd (pi_range1 (by rfl) T.z_range (pa_cons (pe_call G_Ltake (hr.mono (by decide)) (by rfl) T.g_Ltake T.F_Ltake.kp T.b_Ltake .nil pass0 (pa_cons (pv 0) (pa_cons (pe_op op_add (pv 1) pe_int) pa_nil))) pa_nil)) (blkOk_by (own := [("_law_turn", 3)]) (N := N_Lword) (sc := defScope s_Lword) (by decide +kernel)) (fun _ _ _ _ _ => pg_name (i := 3) sc_Lword.nd rfl (Or.inl rfl)) (fun _ _ _ _ _ => pts_nil) (fun _ _ _ _ _ => (pe_ix ix_str pe_str (pe_call G_Ltake (hr.mono (by decide)) (by rfl) T.g_Ltake T.F_Ltake.kp T.b_Ltake .nil pass0 (pa_cons (pv 0) (pa_cons (pv 2) pa_nil))) (fun _ _ => rfl))))))), ?_⟩
    refine ⟨⟨_, rfl⟩, .ref p, rfl, .int m, rfl, m, 1, rfl, rfl, p, m + 1, rfl, hP, by omega, by omega, fun n1 m1 d h1 h2 h3 h4 h5 => ?_⟩
    refine ⟨d, rfl, by omega, by omega, fun D hD => ?_⟩
    have hDp : D ≠ p := fun e => by rw [e, upd_same] at hD; cases hD
    have hDH : H D = none := by rw [upd_ne hDp] at hD; exact hD
    refine lc_it walk_range (fun i H3 => ∃ acc : List Nat, Pool H3 p ∧ But p H H3 ∧ H3 D = some (.lst (sV acc)) ∧ acc.length = i ∧ ∀ c ∈ acc, c ∈ cs "abcdefgh") ?_ (fun _ _ _ _ => trivial) ?_ ?_
    · exact ⟨[], ⟨n1, m1, by rw [upd_ne hDp.symm, upd_same], h1, h2, h3⟩, (But.put But.refl).new hDH, upd_same, rfl, fun c hc => by cases hc⟩
    · rintro i x H3 H4 hi ⟨acc, hP3, b3, eD, la, hc⟩ ⟨rfl, rfl⟩
      refine ⟨rfl, .ref p, rfl, .int k, rfl, p, k, rfl, hP3, by omega, by omega, fun n2 m2 e g1 g2 g3 g4 g5 => ?_⟩
      obtain ⟨c, hc1, hc2⟩ := item8 g4 g5 hk1
      refine ⟨"abcdefgh", e, c, rfl, rfl, le_line (by decide +kernel), hc1, sV acc, by rw [upd_ne hDp]; exact eD, ?_, acc ++ [c], ⟨n2, m2, by rw [upd_ne hDp.symm, upd_same], g1, g2, g3⟩, b3.put.new hDH, by rw [upd_same, sV_snoc], by rw [List.length_append, la]; rfl, ?_⟩
      · rw [sV_len]
        exact lt_line (by omega)
      · intro y hy
        rcases List.mem_append.mp hy with h | h
        · exact hc y h
        · rw [List.mem_singleton.mp h]; exact hc2
    · rintro H3 ⟨acc, hP3, b3, eD, la, hc⟩
      refine ⟨"", D, acc.map sg, rfl, rfl, .inl (SqL.of (by rw [eD, sV_eq])), ?_, q H3 _ hP3 b3 ?_ ?_⟩
      · rw [sum_ones, List.length_map]
        show acc.length + acc.length * 0 ≤ 16777216
        omega
      · rw [len_cs, join_signs]
        omega
      · rw [join_signs]
        exact hc
/-! lists of lists of places -/
def Each (H : Hp) : List Addr → List (List Nat) → Prop
  | [], [] => True
  | x :: xs, l :: ls => H x = some (.lst (iV l)) ∧ Each H xs ls
  | _, _ => False
theorem Each.mono {H H' : Hp} (s : Same H H') : ∀ {xs : List Addr} {ls : List (List Nat)}, Each H xs ls → Each H' xs ls
  | [], [], _ => trivial
  | _ :: _, _ :: _, ⟨h, r⟩ => ⟨s _ _ h, Each.mono s r⟩
  | [], _ :: _, h => h.elim
  | _ :: _, [], h => h.elim
theorem Each.len {H : Hp} : ∀ {xs : List Addr} {ls : List (List Nat)}, Each H xs ls → xs.length = ls.length
  | [], [], _ => rfl
  | _ :: _, _ :: _, ⟨_, r⟩ => by rw [List.length_cons, List.length_cons, Each.len r]
  | [], _ :: _, h => h.elim
  | _ :: _, [], h => h.elim
theorem Each.app {H : Hp} : ∀ {xs : List Addr} {ls : List (List Nat)} {ys : List Addr} {ms : List (List Nat)}, Each H xs ls → Each H ys ms → Each H (xs ++ ys) (ls ++ ms)
  | [], [], _, _, _, h => h
  | _ :: _, _ :: _, _, _, ⟨h, r⟩, g => ⟨h, Each.app r g⟩
  | [], _ :: _, _, _, h, _ => h.elim
  | _ :: _, [], _, _, h, _ => h.elim
theorem Each.get {H : Hp} : ∀ {xs : List Addr} {ls : List (List Nat)} {i : Nat} {x : Addr}, Each H xs ls → xs[i]? = some x → ∃ l, ls[i]? = some l ∧ H x = some (.lst (iV l))
  | [], _, i, x, _, e => by simp at e
  | y :: _, l :: _, 0, x, ⟨h, _⟩, e => by
    have e' : y = x := by simpa using e
    subst e'
    exact ⟨l, rfl, h⟩
  | y :: xs, l :: ls, i + 1, x, ⟨_, r⟩, e => by
    obtain ⟨m, h1, h2⟩ := Each.get (i := i) (x := x) r (by simpa using e)
    exact ⟨m, by simpa using h1, h2⟩
  | _ :: _, [], _, _, h, _ => h.elim
theorem dp_ints {K : PySem.W.Frag} {H : Hp} : ∀ l : List Nat, DpAll K H (iV l) (l.map fun j => PyData.int (j : Nat))
  | [] => .nil
  | a :: l => .cons (.int _) (dp_ints l)
theorem dp_signs {K : PySem.W.Frag} {H : Hp} : ∀ l : List Nat, DpAll K H (sV l) (l.map fun c => PyData.str ⟨#[c]⟩)
  | [] => .nil
  | a :: l => .cons (.str _) (dp_signs l)
theorem dp_list {K : PySem.W.Frag} {H : Hp} {p : Addr} {l : List Nat} (h : H p = some (.lst (iV l))) : Dp K H (.ref p) (iL l) := .lst (SqL.of h) (dp_ints l)
theorem Each.dp {K : PySem.W.Frag} {H : Hp} : ∀ {xs : List Addr} {ls : List (List Nat)}, Each H xs ls → DpAll K H (xs.map V.ref) (ls.map iL)
  | [], [], _ => .nil
  | _ :: _, _ :: _, ⟨h, r⟩ => .cons (dp_list h) (Each.dp r)
  | [], _ :: _, h => h.elim
  | _ :: _, [], h => h.elim
def LL (H : Hp) (p : Addr) (ls : List (List Nat)) : Prop := ∃ xs : List Addr, H p = some (.lst (xs.map V.ref)) ∧ Each H xs ls
theorem LL.mono {H H' : Hp} {p : Addr} {ls : List (List Nat)} (s : Same H H') : LL H p ls → LL H' p ls := fun ⟨xs, h, r⟩ => ⟨xs, s _ _ h, r.mono s⟩
theorem dp_lists {K : PySem.W.Frag} {H : Hp} {p : Addr} {ls : List (List Nat)} : LL H p ls → Dp K H (.ref p) (.list (ls.map iL)) := fun ⟨_, h, r⟩ => .lst (SqL.of h) r.dp
theorem flat_take {α β : Type} (f : α → List β) : ∀ (L : List α) (i : Nat), ((L.take i).flatMap f).length ≤ (L.flatMap f).length
  | [], i => by simp
  | x :: L, 0 => by simp
  | x :: L, i + 1 => by
    have := flat_take f L i
    simp only [List.take_succ_cons, List.flatMap_cons, List.length_append]
    omega
theorem flat_next {α β : Type} (f : α → List β) {L : List α} {i : Nat} {x : α} (h : L[i]? = some x) : (L.take (i + 1)).flatMap f = (L.take i).flatMap f ++ f x := by
  rw [List.take_add_one, h, List.flatMap_append]
  simp
theorem eqv_nil (l : List Nat) : PyData.eqv (iL l) (.list []) = l.isEmpty := by cases l <;> rfl
end
end E2

set_option Elab.async false
set_option linter.all false
set_option maxRecDepth 100000
set_option maxHeartbeats 4000000
namespace E2
open PySem PySem.Spec PyProof.Rows L2 Own Mth Exn
section
variable {P : Program} {w : World} {K : PySem.W.Frag} {mg : Str → Option Value} {base : Heap} {a : Ad}
def sp_Lchoices : Sp := fun vs H Q _ => ∃ n m : Nat, vs = [.int (n : Nat), .int (m : Nat)] ∧ n < 9 ∧ m < 10 ∧ ∀ H' p, Same H H' → LL H' p (ch n m) → Q (.ref p) H'
theorem Each.put {H : Hp} {D : Addr} {o : HO} : ∀ {xs : List Addr} {ls : List (List Nat)}, Each H xs ls → D ∉ xs → Each (upd H D o) xs ls
  | [], [], _, _ => trivial
  | x :: _, _ :: _, ⟨h, r⟩, n => ⟨by rw [upd_ne fun e => n (by rw [e]; exact List.mem_cons_self ..)]; exact h, Each.put r fun hm => n (List.mem_cons_of_mem _ hm)⟩
  | [], _ :: _, h, _ => h.elim
  | _ :: _, [], h, _ => h.elim
theorem least_le {n : Nat} {l : List Nat} (h : Asc 0 n l) : least l ≤ n := by
  unfold least
  cases q : l.getLast? with
  | none => exact Nat.zero_le _
  | some j => exact (h.mem (List.mem_of_getLast? q)).2
theorem ext_get {n : Nat} {l : List Nat} {k : Nat} (h : k < n - least l) : (ext n l)[k]? = some (l ++ [least l + k]) := by
  unfold ext
  rw [List.getElem?_map, List.getElem?_range' h]
  simp
theorem ext_len (n : Nat) (l : List Nat) : (ext n l).length = n - least l := by
  unfold ext
  rw [List.length_map, List.length_range']
theorem ok_Lchoices (T : Txt K mg a) : FnOk P w K mg base CX0 1 a.f_Lchoices a.d_Lchoices ["_law_size", "_law_many"] sp_Lchoices := by
  refine T.F_Lchoices.ok sc_Lchoices (fun vs H Q E h => ?_) (fun cdv A outer s H vs Q E hr h => ?_)
  · obtain ⟨n, m, rfl, _⟩ := h
    rfl
  · obtain ⟨n, m, rfl, hn, hm, q⟩ := h
    refine ⟨_, (pss_cons (ps_set (i := 2) sc_Lchoices.nd rfl (Or.inl rfl) (pe_lst (pa_cons (pe_lst pa_nil) pa_nil)))
      (pss_cons (ps_for PassesOwn.never rfl (pi_range1 (by rfl) T.z_range (pa_cons (pv 1) pa_nil)) (pg_name (i := 3) sc_Lchoices.nd rfl (Or.inl rfl))
        (pss_cons (ps_set (i := 4) sc_Lchoices.nd rfl (Or.inl rfl) (pe_lst pa_nil))
        (pss_cons (ps_for PassesOwn.never rfl (pi_list (pv 2)) (pg_name (i := 5) sc_Lchoices.nd rfl (Or.inr rfl))
          (pss_cons (ps_set (i := 6) sc_Lchoices.nd rfl (Or.inl rfl) (pe_ifExp (pt_cmpR (op_neD hr.units) (pv 5) (pe_lst pa_nil) (nomark _)) (pe_op op_add (pe_ix ix_list (pv 5) (pe_un un_neg pe_int) (fun _ _ => rfl)) pe_int) pe_int))
          (pss_one (ps_set (i := 4) sc_Lchoices.nd rfl (Or.inl rfl) (pe_op op_cat (pv 4) (pe_lc (own := [("_law_place", 7)]) (g := gName 7) (by rfl) sc_Lchoices.nd (pi_range2 (by rfl) T.z_range (pa_cons (pv 6) (pa_cons (pv 0) pa_nil))) (blkOk_by (own := [("_law_place", 7)]) (N := N_Lchoices) (sc := defScope s_Lchoices) (by decide +kernel)) (fun _ _ _ _ _ => pg_name (i := 7) sc_Lchoices.nd rfl (Or.inl rfl)) (fun _ _ _ _ _ => pts_nil) (fun _ _ _ _ _ => (pe_op op_cat (pv 5) (pe_lst (pa_cons (pv 7) pa_nil))))))))))
        (pss_one (ps_set (i := 2) sc_Lchoices.nd rfl (Or.inl rfl) (pv 4))))))
      (pss_one (ps_ret (pv 2))))), ?_⟩
    refine ⟨Nat.zero_le _, fun c nc => ⟨le_line (show 1 ≤ 100000 by decide), fun p np => ?_⟩⟩
    have npc : c ≠ p := fun e => by rw [← e, upd_same] at np; cases np
    have s1 : Same H (upd (upd H c (.lst [])) p (.lst [.ref c])) := (same_new nc).trans (same_new np)
    refine ⟨.int (m : Nat), rfl, m, rfl, by omega, by omega, for_it walk_range (fun t σ H3 => ∃ (p3 : Addr) (y3 y4 y5 y6 y7 : Option V), σ = [some (.int (n : Nat)), some (.int (m : Nat)), some (.ref p3), y3, y4, y5, y6, y7] ∧ Same H H3 ∧ LL H3 p3 (ch n t)) ?_ (fun _ _ _ _ _ => trivial) ?_ ?_⟩
    · exact ⟨p, none, none, none, none, none, rfl, s1, [c], upd_same, by rw [upd_ne npc, upd_same]; rfl, trivial⟩
    · rintro t x σ H3 H4 ht ⟨p3, y3, y4, y5, y6, y7, rfl, sm, hL⟩ ⟨rfl, rfl⟩
      have htm : t < m := by omega
      have hbig : (ch n (t + 1)).length ≤ 70 := ch_small n hn (t + 1) (by omega)
      refine ⟨Nat.zero_le _, fun q0 nq0 => ?_⟩
      have s4 : Same H4 (upd H4 q0 (.lst [])) := same_new nq0
      obtain ⟨xs, hx, hE⟩ := hL
      refine ⟨.ref p3, rfl, p3, rfl, ⟨_, SqL.of (s4 _ _ hx)⟩, for_it (walk_list (xs := xs.map V.ref)) (fun i σ H5 => ∃ (q4 : Addr) (y5 y6 y7 : Option V), σ = [some (.int (n : Nat)), some (.int (m : Nat)), some (.ref p3), some (.int (0 + (t : Nat))), some (.ref q4), y5, y6, y7] ∧ Same H4 H5 ∧
        LL H5 q4 (((ch n t).take i).flatMap (ext n))) ?_ (fun i σ H5 _ hp => ?_) ?_ ?_⟩
      · exact ⟨q0, y5, y6, y7, rfl, s4, [], upd_same, trivial⟩
      · obtain ⟨_, _, _, _, _, s5, _⟩ := hp
        exact SqL.of (s5 _ _ hx)
      · rintro i x σ H5 H6 hi ⟨q4, z5, z6, z7, rfl, s5, hL5⟩ ⟨rfl, hxi⟩
        obtain ⟨ai, hai, rfl⟩ : ∃ ai, xs[i]? = some ai ∧ x = V.ref ai := by
          rw [List.getElem?_map] at hxi
          cases hq : xs[i]? with
          | none => rw [hq] at hxi; cases hxi
          | some ai => rw [hq] at hxi; exact ⟨ai, rfl, (Option.some.inj hxi).symm⟩
        obtain ⟨l, hl, hal⟩ := hE.get hai
        have hal6 := s5 _ _ hal
        have hlm : l ∈ ch n t := List.mem_of_getElem? hl
        have hll : l.length = t := ((mem_ch n t l).mp hlm).1
        have hle : least l ≤ n := least_le ((mem_ch n t l).mp hlm).2
        -- the least next place
        refine ⟨.ref ai, rfl, Nat.zero_le _, fun e ne => ?_⟩
        have s7 := s5.trans (same_new (o := .lst []) ne)
        have hal7 := s7 _ _ hal
        refine ⟨iL l, .list [], dp_list hal7, .lst (SqL.of upd_same) .nil, shaped_ints l, by decide +kernel, _, rfl, ?_⟩
        rw [eqv_nil]
        refine ite2 (fun hb => ?_) (fun hb => ?_)
        case' refine_1 =>
          obtain ⟨l', j, hlj⟩ : ∃ l' j, l = l' ++ [j] := by
            cases l with
            | nil => cases hb
            | cons y r => exact ⟨_, _, (List.dropLast_concat_getLast (List.cons_ne_nil y r)).symm⟩
          refine ⟨.ref ai, rfl, 1, rfl, ai, _, -1, .int (j : Nat), rfl, rfl, SqL.of hal7, by rw [hlj, iV_snoc]; exact atI_last _ _, (j : Nat), 1, rfl, rfl, ?_⟩
          have hv : ((j : Nat) : Int) + 1 = (least l : Nat) := by
            unfold least
            rw [hlj, List.getLast?_concat]
            rfl
        case' refine_2 =>
          have hv : (0 : Int) = (least l : Nat) := by
            cases l with
            | nil => rfl
            | cons y r => exact absurd rfl hb
        all_goals
          -- the longer ones
          refine ⟨.ref q4, rfl, _, rfl, .int (n : Nat), rfl, _, n, rfl, ⟨by omega, by omega, by omega, by omega⟩, fun D nD => ?_⟩
          have nDH : H4 D = none := s7.free nD
          refine lc_it walk_range (fun k H8 => ∃ ys : List Addr, Same (upd H6 e (.lst [])) H8 ∧ H8 D = some (.lst (ys.map V.ref)) ∧ D ∉ ys ∧ Each H8 ys ((ext n l).take k)) ?_ (fun _ _ _ _ => trivial) ?_ ?_
          · exact ⟨[], same_new nD, upd_same, (fun z => by cases z), trivial⟩
          · rintro k x H8 H9 hk ⟨ys, s8, hD8, nDy, hE8⟩ ⟨rfl, rfl⟩
            have hk' : k < n - least l := by omega
            have hal9 := s8 _ _ hal7
            refine ⟨rfl, .ref ai, rfl, _, rfl, le_line (show 1 ≤ 100000 by decide), fun f nf => ?_⟩
            have nfa : ai ≠ f := ne_of_none hal9 nf
            refine ⟨ai, f, _, _, rfl, rfl, by rw [upd_ne nfa]; exact hal9, upd_same, ?_, fun g ng => ?_⟩
            · rw [iV_len]
              exact le_line (by rw [hll]; show t + 1 ≤ 100000; omega)
            have nfD : D ≠ f := ne_of_none hD8 nf
            have ngD : D ≠ g := fun z => by
              rw [← z, upd_ne nfD, hD8] at ng
              cases ng
            refine ⟨ys.map V.ref, by rw [upd_ne ngD, upd_ne nfD]; exact hD8, ?_, ys ++ [g], ?_, ?_, ?_, ?_⟩
            · rw [List.length_map, hE8.len, List.length_take, ext_len]
              exact lt_line (by omega)
            · exact same_put ((s8.trans (same_new nf)).trans (same_new ng)) nD
            · rw [upd_same, List.map_append]
              rfl
            · intro hm
              rcases List.mem_append.mp hm with z | z
              · exact nDy z
              · exact ngD (List.mem_singleton.mp z)
            · rw [List.take_add_one, ext_get hk']
              refine Each.app (((hE8.mono (same_new nf)).mono (same_new ng)).put nDy) ⟨?_, trivial⟩
              rw [upd_ne ngD.symm, upd_same, iV_snoc]
              have e4 : ∀ x y : Int, x = y → some (HO.lst (iV l ++ [V.int x])) = some (HO.lst (iV l ++ [V.int y])) := fun x y e => by rw [e]
              exact e4 _ _ (by rw [hv]; omega)
          · rintro H8 ⟨ys, s8, hD8, nDy, hE8⟩
            obtain ⟨zs, hq, hEq⟩ := hL5
            have t8 := (same_new (o := .lst []) ne).trans s8
            have hq8 := t8 _ _ hq
            have htot : ((((ch n t).take i).flatMap (ext n)) ++ ext n l).length ≤ 70 := by
              rw [← flat_next (ext n) hl]
              exact Nat.le_trans (flat_take (ext n) (ch n t) (i + 1)) hbig
            rw [List.length_append] at htot
            have hE8' : Each H8 ys (ext n l) := by
              rw [List.take_of_length_le (by rw [ext_len]; omega)] at hE8
              exact hE8
            refine ⟨q4, D, _, _, rfl, rfl, hq8, hD8, ?_, fun r nr => ?_⟩
            · rw [List.length_map, List.length_map, hEq.len, hE8'.len]
              exact le_line (by omega)
            · refine ⟨r, _, _, _, rfl, (s5.trans t8).trans (same_new nr), zs ++ ys, by rw [upd_same, List.map_append], ?_⟩
              rw [flat_next (ext n) hl]
              exact ((hEq.mono t8).app hE8').mono (same_new nr)
      · rintro σ H5 ⟨q4, z5, z6, z7, rfl, s5, hL5⟩
        refine ⟨.ref q4, rfl, q4, _, _, _, _, _, rfl, sm.trans s5, ?_⟩
        rw [List.length_map, hE.len, List.take_length] at hL5
        exact hL5
    · rintro σ H3 ⟨p3, y3, y4, y5, y6, y7, rfl, sm, hL⟩
      exact ⟨.ref p3, rfl, q H3 p3 sm hL⟩
end
end E2

set_option Elab.async false
set_option linter.all false
set_option maxRecDepth 100000
set_option maxHeartbeats 4000000
namespace E2
open PySem PySem.Spec PyProof.Rows L2 Own Mth Exn
def SCOPE_Ldue_69_17 : Scope := { kind := .function, names := [(".0", .local), ("_law_choice", .local), ("list", .globalImplicit), ("_law_piece", .cell), ("_law_string", .cell)], isGenerator := false, isCoroutine := false, more := [] }
theorem filter_next {α : Type} (f : α → Bool) {L : List α} {i : Nat} {x : α} (h : L[i]? = some x) : (L.take (i + 1)).filter f = (L.take i).filter f ++ (if f x = true then [x] else []) := by
  rw [List.take_add_one, h, List.filter_append]
  congr 1
  show List.filter f [x] = _
  rw [List.filter_cons]
  rfl
theorem eqv_none (ls : List (List Nat)) : PyData.eqv (.list (ls.map iL)) (.list []) = ls.isEmpty := by cases ls <;> rfl
section
variable {P : Program} {w : World} {K : PySem.W.Frag} {mg : Str → Option Value} {base : Heap} {a : Ad}
def sp_Ldue : Sp := fun vs H Q _ => ∃ p z : Str, vs = [.str p, .str z] ∧ p.length < 10 ∧ z.length < 9 ∧ (∀ c ∈ cs p, c < 1114112) ∧ (∀ c ∈ cs z, c < 1114112) ∧
  ∀ H' v, Same H H' → Got H' (due (cs p) (cs z)) v → Q v H'
theorem ok_Ldue (T : Txt K mg a) : FnOk P w K mg base CX0 2 a.f_Ldue a.d_Ldue ["_law_piece", "_law_string"] sp_Ldue := by
  have G_Lchoices := ok_Lchoices (P := P) (w := w) (base := base) T
  refine T.F_Ldue.ok sc_Ldue (fun vs H Q E h => ?_) (fun cdv A outer s H vs Q E hr h => ?_)
  · obtain ⟨p, z, rfl, _⟩ := h
    rfl
  · obtain ⟨p, z, rfl, hp, hz, cp, cz, q⟩ := h
    refine ⟨_, (pss_cons (ps_set (i := 2) sc_Ldue.nd rfl (Or.inl rfl) (pe_call G_Lchoices (hr.mono (by decide)) (by rfl) T.g_Lchoices T.F_Lchoices.kp T.b_Lchoices .nil pass0 (pa_cons (pe_callB call_len_str (by rfl) T.z_len (by decide +kernel) (pa_cons (pv 1) pa_nil)) (pa_cons (pe_callB call_len_str (by rfl) T.z_len (by decide +kernel) (pa_cons (pv 0) pa_nil)) pa_nil))))
      (pss_cons (ps_setLc (i := 3) (own := [("_law_choice", 5)]) (g := gName 5) (by rfl) sc_Ldue.nd rfl rfl (sw_true rfl rfl rfl (by decide +kernel)) (pi_list (pv 2)) (blkOk_by (own := [("_law_choice", 5)]) (N := N_Ldue) (sc := defScope s_Ldue) (by decide +kernel)) (fun _ _ _ _ _ => pg_name (i := 5) sc_Ldue.nd rfl (Or.inl rfl)) (fun _ _ _ _ _ => (pts_one (pt_cmpR (show OpR _ _ (rEqD K) from op_eqD hr.units) (pe_lc (own := [("_law_place", 4)]) (g := gName 4) (by rfl) sc_Ldue.nd (show PI _ _ _ (iList K _) from pi_list (pv 5)) (blkOk_by (own := [("_law_place", 4)]) (N := N_Ldue) (sc := SCOPE_Ldue_69_17) (by decide +kernel)) (fun _ _ _ _ _ => pg_name (i := 4) sc_Ldue.nd rfl (Or.inl rfl)) (fun _ _ _ _ _ => pts_nil) (fun _ _ _ _ _ => (pe_ix ix_str (pv 1) (pv 4) (fun _ _ => rfl)))) (pe_callTy (call_list_str rfl) (by rfl) T.z_list (by decide +kernel) (pa_cons (pv 0) pa_nil)) (nomark _)))) (fun _ _ _ _ _ => (pv 5)))
      (pss_one (ps_ret (pe_ifExp (pt_cmpR (op_neD hr.units) (pv 3) (pe_lst pa_nil) (nomark _)) (pe_callB (call_minD rfl hr) (by rfl) T.z_min (by decide +kernel) (pa_cons (pv 3) pa_nil)) pe_non))))), ?_⟩
    refine ⟨.str z, rfl, z, rfl, le_line (by omega), .str p, rfl, p, rfl, le_line (by omega), z.length, p.length, rfl, hz, hp, fun H1 p1 s1 hL => ?_⟩
    rw [len_cs z, len_cs p] at hL
    obtain ⟨xs, hx, hE⟩ := hL
    refine ⟨.ref p1, rfl, p1, rfl, ⟨_, SqL.of hx⟩, fun D nD => ?_⟩
    refine lc_it (walk_list (xs := xs.map V.ref)) (fun i H3 => ∃ ys : List Addr, Same H1 H3 ∧ H3 D = some (.lst (ys.map V.ref)) ∧ D ∉ ys ∧
      Each H3 ys (((ch (cs z).length (cs p).length).take i).filter fun c => decide (rdOf (cs z) c = cs p))) ?_ (fun i H3 _ hp => ?_) ?_ ?_
    · exact ⟨[], same_new nD, upd_same, (fun z => by cases z), trivial⟩
    · obtain ⟨_, s3, _⟩ := hp
      exact SqL.of (s3 _ _ hx)
    · rintro i x H3 H4 hi ⟨ys, s3, hD3, nDy, hE3⟩ ⟨rfl, hxi⟩
      obtain ⟨ai, hai, rfl⟩ : ∃ ai, xs[i]? = some ai ∧ x = V.ref ai := by
        rw [List.getElem?_map] at hxi
        cases hq : xs[i]? with
        | none => rw [hq] at hxi; cases hxi
        | some ai => rw [hq] at hxi; exact ⟨ai, rfl, (Option.some.inj hxi).symm⟩
      obtain ⟨l, hl, hal⟩ := hE.get hai
      have hal4 := s3 _ _ hal
      have hasc := ((mem_ch _ _ l).mp (List.mem_of_getElem? hl)).2
      refine ⟨rfl, .ref ai, rfl, ai, rfl, ⟨_, SqL.of hal4⟩, fun D2 nD2 => ?_⟩
      have nDD : D ≠ D2 := ne_of_none hD3 nD2
      refine lc_it (walk_list (xs := iV l)) (fun k H5 => Same H4 H5 ∧ H5 D2 = some (.lst (sV ((rdOf (cs z) l).take k)))) ?_ (fun k H5 _ hp => SqL.of (hp.1 _ _ hal4)) ?_ ?_
      · exact ⟨same_new nD2, upd_same⟩
      · rintro k x H5 H6 hk ⟨s5, hD5⟩ ⟨rfl, hxk⟩
        obtain ⟨j, hj, rfl⟩ : ∃ j : Nat, l[k]? = some j ∧ x = V.int (j : Nat) := by
          rw [List.getElem?_map] at hxk
          cases hq : l[k]? with
          | none => rw [hq] at hxk; cases hxk
          | some j => rw [hq] at hxk; exact ⟨j, rfl, (Option.some.inj hxk).symm⟩
        have hjz : j < (cs z).length := (hasc.mem (List.mem_of_getElem? hj)).2
        have hrd : (rdOf (cs z) l)[k]? = some (cs z)[j] := by
          unfold rdOf
          rw [List.getElem?_map, hj]
          show some ((cs z).getD j 0) = _
          rw [List.getD_eq_getElem?_getD, List.getElem?_eq_getElem hjz]
          rfl
        refine ⟨rfl, .str z, rfl, .int (j : Nat), rfl, z, (j : Nat), (cs z)[j], rfl, rfl, le_line (by omega), atI_nat (List.getElem?_eq_getElem hjz), _, hD5, ?_, same_put s5 nD2, ?_⟩
        · rw [sV_len, List.length_take]
          have : (rdOf (cs z) l).length = l.length := List.length_map _
          have : k < l.length := by rw [iV_len] at hk; exact hk
          exact lt_line (by have : l.length = (cs p).length := ((mem_ch _ _ l).mp (List.mem_of_getElem? hl)).1
                            rw [← len_cs] at this
                            omega)
        · rw [upd_same, List.take_add_one, hrd]
          show _ = some (HO.lst (sV (_ ++ [(cs z)[j]])))
          rw [sV_snoc]
      · rintro H5 ⟨s5, hD5⟩
        have e5 : (rdOf (cs z) l).take (iV l).length = rdOf (cs z) l := List.take_of_length_le (by rw [iV_len]; exact Nat.le_of_eq (List.length_map _))
        rw [e5] at hD5
        refine ⟨.str p, rfl, p, rfl, le_line (by show p.length ≤ 100000; omega), fun e ne => ?_⟩
        have s6 := s5.trans (same_new (o := .lst (sgV p)) ne)
        have nD2e : D2 ≠ e := ne_of_none hD5 ne
        refine ⟨sL (rdOf (cs z) l), sL (cs p), .lst (SqL.of (by rw [upd_ne nD2e]; exact hD5)) (dp_signs _), .lst (SqL.of upd_same) (dp_signs _), shaped_sgs ?_, shaped_sgs cp, _, rfl, ?_⟩
        · intro c hc
          obtain ⟨j, hj, rfl⟩ := List.mem_map.mp hc
          have hjz := (hasc.mem hj).2
          refine cz _ ?_
          rw [List.getD_eq_getElem?_getD, List.getElem?_eq_getElem hjz]
          exact List.getElem_mem hjz
        · have ee : PyData.eqv (sL (rdOf (cs z) l)) (sL (cs p)) = decide (rdOf (cs z) l = cs p) := eqv_sgs _ _
          rw [ee]
          have nDai : D ≠ ai := fun z => by rw [z, hal] at nD; cases nD
          by_cases hr1 : rdOf (cs z) l = cs p
          · rw [decide_eq_true hr1]
            refine iteT ⟨.ref ai, rfl, ys.map V.ref, s6 _ _ hD3, ?_, ys ++ [ai], ?_, ?_, ?_, ?_⟩
            · rw [List.length_map, hE3.len]
              have h1 := List.length_filter_le (fun c => decide (rdOf (cs z) c = cs p)) ((ch (cs z).length (cs p).length).take i)
              have h2 : ((ch (cs z).length (cs p).length).take i).length ≤ (ch (cs z).length (cs p).length).length := by rw [List.length_take]; omega
              have h3 := ch_small (cs z).length (by rw [← len_cs]; exact hz) (cs p).length (by rw [← len_cs]; exact hp)
              exact lt_line (by omega)
            · exact same_put (s3.trans s6) nD
            · rw [upd_same, List.map_append]
              rfl
            · intro hm
              rcases List.mem_append.mp hm with z | z
              · exact nDy z
              · exact nDai (List.mem_singleton.mp z)
            · rw [filter_next _ hl, if_pos (decide_eq_true hr1)]
              refine Each.app ((hE3.mono s6).put nDy) ⟨?_, trivial⟩
              rw [upd_ne nDai.symm]
              exact s6 _ _ hal4
          · rw [decide_eq_false hr1]
            refine iteF ⟨ys, s3.trans s6, s6 _ _ hD3, nDy, ?_⟩
            rw [filter_next _ hl, if_neg (by rw [decide_eq_false hr1]; exact Bool.false_ne_true), List.append_nil]
            exact hE3.mono s6
    · rintro H3 ⟨ys, s3, hD3, nDy, hE3⟩
      have hE4 : Each H3 ys (fnd (cs p) (cs z)) := by
        rw [List.length_map, hE.len, List.take_length] at hE3
        exact hE3
      refine ⟨.ref D, rfl, Nat.zero_le _, fun e ne => ?_⟩
      have s4 := same_new (o := .lst []) ne
      refine ⟨.list ((fnd (cs p) (cs z)).map iL), .list [], dp_lists ⟨ys, s4 _ _ hD3, hE4.mono s4⟩, .lst (SqL.of upd_same) .nil, shaped_lists _, by decide +kernel, _, rfl, ?_⟩
      rw [eqv_none]
      cases hf : fnd (cs p) (cs z) with
      | nil =>
        refine iteF (q _ _ ((s1.trans s3).trans s4) ?_)
        rw [due_none hf]
        rfl
      | cons c r =>
        rw [hf] at hE4
        obtain ⟨hmin, hdue⟩ := min_due hf
        refine iteT ⟨.ref D, rfl, D, ys.map V.ref, iL c, r.map iL, rfl, SqL.of (s4 _ _ hD3), (hE4.mono s4).dp, alike_lists (c :: r), ?_, fun i v hv hm => ?_⟩
        · have := depth_lists (c :: r)
          rw [List.map_cons] at this
          omega
        · obtain ⟨y, hy, rfl⟩ : ∃ y, ys[i]? = some y ∧ v = V.ref y := by
            rw [List.getElem?_map] at hv
            cases hq : ys[i]? with
            | none => rw [hq] at hv; cases hv
            | some y => rw [hq] at hv; exact ⟨y, rfl, (Option.some.inj hv).symm⟩
          obtain ⟨l, hl, hyl⟩ := hE4.get hy
          rw [hmin, ← List.map_cons, List.getElem?_map, hl] at hm
          have el : l = emb (cs p) (cs z) 0 := ints_inj (Option.some.inj hm)
          refine q _ _ ((s1.trans s3).trans s4) ?_
          rw [hdue]
          exact ⟨y, rfl, by rw [← el]; exact s4 _ _ hyl⟩
end
end E2

set_option Elab.async false
set_option linter.all false
set_option maxRecDepth 100000
set_option maxHeartbeats 4000000
namespace E2
open PySem PySem.Spec PyProof.Rows L2 Own Mth Exn
/-! the law itself -/
def dt : Option (List Nat) → PyData
  | none => .none
  | some l => iL l
theorem Got.dp {K : PySem.W.Frag} {H : Hp} {x : Option (List Nat)} {v : V} (h : Got H x v) : Dp K H v (dt x) := by
  cases x with
  | none => obtain rfl : v = .non := h; exact .non
  | some l => obtain ⟨o, rfl, e⟩ := h; exact dp_list e
theorem Got.mono {H H' : Hp} {x : Option (List Nat)} {v : V} (s : Same H H') (h : Got H x v) : Got H' x v := by
  cases x with
  | none => exact h
  | some l => obtain ⟨o, rfl, e⟩ := h; exact ⟨o, rfl, s _ _ e⟩
theorem Got.non {H : Hp} {x : Option (List Nat)} {v : V} (h : Got H x v) : (!decide (v = .non)) = x.isSome := by
  cases x with
  | none => obtain rfl : v = .non := h; rfl
  | some l => obtain ⟨o, rfl, e⟩ := h; rfl
theorem dt_shown {p z : List Nat} (hp : p.length < 10) (hz : z.length < 9) : (dt (due p z)).showable = true ∧ (dt (due p z)).hasDict = false ∧ (dt (due p z)).depth ≤ 60 ∧ (dt (due p z)).shown.length ≤ sizeLine := by
  unfold due
  split
  · refine shown_ints (fun j hj => ?_) ?_
    · have := ((emb_asc z p 0).mem hj).2
      omega
    · have := emb_le z p 0
      omega
  · exact ⟨rfl, rfl, by decide, by decide +kernel⟩
theorem bool_shown (b : Bool) : (PyData.bool b).showable = true ∧ (PyData.bool b).hasDict = false ∧ (PyData.bool b).depth ≤ 60 ∧ (PyData.bool b).shown.length ≤ sizeLine := by
  cases b <;> exact ⟨rfl, rfl, by decide, by decide +kernel⟩
def Sm (z : Str) (n : Nat) : Prop := z.length < n ∧ ∀ c ∈ cs z, c ∈ cs "abcdefgh"
theorem Sm.w {z : Str} {n : Nat} (h : Sm z n) (hn : n ≤ 400) : isW z := ⟨by have := h.1; omega, h.2⟩
theorem abc_small {c : Nat} (h : c ∈ cs "abcdefgh") : c < 1114112 := by
  have : ∀ c ∈ cs "abcdefgh", c < 1114112 := by decide +kernel
  exact this c h
theorem cut_take {z : Str} (k : Nat) : cs (cutS z none (some (0 + (k : Nat)))) = (cs z).take k := by
  show (((cs z).drop (HT.sIx z.length 0 none)).take (HT.sIx z.length z.length (some (0 + (k : Nat))) - HT.sIx z.length 0 none)).toArray.toList = _
  rw [HT.sIx_none, show ((0 : Int) + (k : Nat)) = ((k : Nat) : Int) by omega, HT.sIx_nat, List.drop_zero, Nat.sub_zero]
  show (cs z).take (min k z.length) = _
  rw [len_cs, ← List.take_take, List.take_length]
theorem iV_int (l : List Nat) : iV l = (l.map fun j => ((j : Nat) : Int)).map V.int := by rw [List.map_map]; rfl
theorem range_iV (n : Nat) : rgV 0 (n : Nat) = iV (List.range' 0 n) := by
  unfold rgV
  rw [show ((n : Nat) : Int) - 0 = (n : Nat) by omega, Int.toNat_natCast, ← List.range_eq_range']
  refine List.map_congr_left fun i _ => ?_
  rw [show (0 : Int) + (i : Nat) = (i : Nat) by omega]
theorem filt_next (f : Nat → Bool) (k : Nat) : (List.range (k + 1)).filter f = (List.range k).filter f ++ (if f k = true then [k] else []) := by
  rw [List.range_succ, List.filter_append]
  congr 1
  rw [List.filter_cons]
  rfl
theorem due_self (w : List Nat) : due w w = some (List.range' 0 w.length) := by
  unfold due
  rw [emb_self, List.length_range', if_pos rfl]
theorem due_nil (w : List Nat) : (due [] w).isSome = true := by
  unfold due
  rw [emb_nil]
  rfl
theorem sm_join {acc : List Nat} {n : Nat} (h : acc.length < n) (hc : ∀ c ∈ acc, c ∈ cs "abcdefgh") : Sm (Txt.join "" (acc.map sg)) n := by
  refine ⟨by rw [len_cs, join_signs]; exact h, ?_⟩
  rw [join_signs]
  exact hc
theorem sm_a {z : Str} {n : Nat} (h : Sm z n) : Sm (z ++ "a") (n + 1) := by
  have e : cs (z ++ "a") = cs z ++ [97] := Array.toList_append
  refine ⟨?_, ?_⟩
  · rw [len_cs, e, List.length_append, ← len_cs]
    have := h.1
    show z.length + 1 < n + 1
    omega
  · rw [e]
    intro c hc
    rcases List.mem_append.mp hc with x | x
    · exact h.2 c x
    · rw [List.mem_singleton.mp x]; decide +kernel
theorem sm_e {n : Nat} (h : 0 < n) : Sm "" n := ⟨h, fun c hc => by cases hc⟩
theorem Sm.up {z : Str} {n m : Nat} (h : Sm z n) (hm : n ≤ m) : Sm z m := ⟨by have := h.1; omega, h.2⟩
section
variable {P : Program} {w : World} {K : PySem.W.Frag} {mg : Str → Option Value} {base : Heap} {a : Ad}
def sp_law (K : PySem.W.Frag) : Sp := fun vs H Q _ => ∃ (s : Addr) (ns : List Int), vs = [.ref s] ∧ SqL K H s (ns.map V.int) ∧ ns.length ≤ 63 ∧ ∀ H', Q (.bl true) H'
theorem ok_law (T : Txt K mg a) : FnG P w K mg base CX0 6 a.f_law a.d_law ["_law_script"] (sp_law K) := by
  have G_Lpool := ok_Lpool (P := P) (w := w) (base := base) T
  have G_Ltake := ok_Ltake (P := P) (w := w) (base := base) T
  have G_Lword := ok_Lword (P := P) (w := w) (base := base) T
  have G_Ldue := ok_Ldue (P := P) (w := w) (base := base) T
  have G_embedding := ok_embedding (P := P) (w := w) (base := base) T
  have G_is_subsequence := ok_is_subsequence (P := P) (w := w) (base := base) T
  have G_prefix_length := ok_prefix_length (P := P) (w := w) (base := base) T
  refine Fun_okG T.F_law sc_law (fun vs H Q E h => ?_) (fun cdv A outer s H vs Q E hg hr h => ?_)
  · obtain ⟨s, ns, rfl, _⟩ := h
    rfl
  · obtain ⟨sc, ns, rfl, hS, hns, q⟩ := h
    refine ⟨_, (pss_cons (ps_for PassesOwn.never rfl (pi_range1 (by rfl) T.z_range (pa_cons (pe_callB (call_max2 rfl) (by rfl) T.z_max (by decide +kernel) (pa_cons pe_int (pa_cons (pe_callB (call_min2 rfl) (by rfl) T.z_min (by decide +kernel) (pa_cons pe_int (pa_cons (pe_callB call_len_seq (by rfl) T.z_len (by decide +kernel) (pa_cons (pv 0) pa_nil)) pa_nil))) pa_nil))) pa_nil)) (pg_name (i := 1) sc_law.nd rfl (Or.inl rfl))
        (pss_cons (ps_set (i := 2) sc_law.nd rfl (Or.inr rfl) (pe_call G_Lpool (hr.mono (by decide)) (by rfl) T.g_Lpool T.F_Lpool.kp T.b_Lpool .nil pass0 (pa_cons (pv 0) (pa_cons (pv 1) pa_nil))))
        (pss_cons (ps_set (i := 3) sc_law.nd rfl (Or.inl rfl) (pe_op op_add pe_int (pe_call G_Ltake (hr.mono (by decide)) (by rfl) T.g_Ltake T.F_Ltake.kp T.b_Ltake .nil pass0 (pa_cons (pv 2) (pa_cons pe_int pa_nil)))))
        (pss_cons (ps_set (i := 4) sc_law.nd rfl (Or.inr rfl) (pe_call G_Lword (hr.mono (by decide)) (by rfl) T.g_Lword T.F_Lword.kp T.b_Lword .nil pass0 (pa_cons (pv 2) (pa_cons pe_int (pa_cons (pv 3) pa_nil)))))
        (pss_cons (ps_set (i := 5) sc_law.nd rfl (Or.inl rfl) (pe_call G_Lword (hr.mono (by decide)) (by rfl) T.g_Lword T.F_Lword.kp T.b_Lword .nil pass0 (pa_cons (pv 2) (pa_cons pe_int (pa_cons (pv 3) pa_nil)))))
        (pss_cons (ps_setLc (i := 6) (own := [("_law_item", 11)]) (g := gName 11) (by rfl) sc_law.nd rfl rfl (sw_true rfl rfl rfl (by decide +kernel)) (pi_str (pv 4)) (blkOk_by (own := [("_law_item", 11)]) (N := N_law) (sc := defScope s_law) (by decide +kernel)) (fun _ _ _ _ _ => pg_name (i := 11) sc_law.nd rfl (Or.inl rfl)) (fun _ _ _ _ _ => (pts_one (pt_cmpR op_eq (pe_call G_Ltake (hr.mono (by decide)) (by rfl) T.g_Ltake T.F_Ltake.kp T.b_Ltake .nil pass0 (pa_cons (pv 2) (pa_cons pe_int pa_nil))) pe_int (nomark _)))) (fun _ _ _ _ _ => (pv 11)))
        (pss_cons (ps_for PassesOwn.never rfl (pi_list (pe_lst (pa_cons (pv 5) (pa_cons (pe_join pe_str (pv 6)) (pa_cons (pv 4) (pa_cons (pe_op op_add_str (pv 4) pe_str) (pa_cons pe_str pa_nil))))))) (pg_name (i := 7) sc_law.nd rfl (Or.inr rfl))
          (pss_cons (ps_set (i := 8) sc_law.nd rfl (Or.inl rfl) (pe_call G_Ldue (hr.mono (by decide)) (by rfl) T.g_Ldue T.F_Ldue.kp T.b_Ldue .nil pass0 (pa_cons (pv 7) (pa_cons (pv 4) pa_nil))))
          (pss_cons (ps_if (PW.pt (pw_or (pt_cmpR op_ne (pe_callB (call_reprD hg hr) (by rfl) T.z_repr (by decide +kernel) (pa_cons (pe_call G_embedding (hr.mono (by decide)) (by rfl) T.g_embedding T.F_embedding.kp T.b_embedding .nil pass0 (pa_cons (pv 7) (pa_cons (pv 4) pa_nil))) pa_nil)) (pe_callB (call_reprD hg hr) (by rfl) T.z_repr (by decide +kernel) (pa_cons (pv 8) pa_nil)) (nomark _)) (pw_or1 (pt_cmpR op_ne (pe_callB (call_reprD hg hr) (by rfl) T.z_repr (by decide +kernel) (pa_cons (pe_call G_is_subsequence (hr.mono (by decide)) (by rfl) T.g_is_subsequence T.F_is_subsequence.kp T.b_is_subsequence .nil pass0 (pa_cons (pv 7) (pa_cons (pv 4) pa_nil))) pa_nil)) (pe_callB (call_reprD hg hr) (by rfl) T.z_repr (by decide +kernel) (pa_cons (pe_cmpR op_notN (pv 8) pe_non (nomark _)) pa_nil)) (nomark _)))))
            (pss_one (ps_ret pe_bl))
            pss_nil)
          (pss_cons (ps_set (i := 9) sc_law.nd rfl (Or.inl rfl) (pe_callB (cr_max rfl) (by rfl) T.z_max (by decide +kernel) (pa_cons (pe_lc (own := [("_law_size", 9)]) (g := gName 9) (by rfl) sc_law.nd (pi_range1 (by rfl) T.z_range (pa_cons (pe_op op_add (pe_callB call_len_str (by rfl) T.z_len (by decide +kernel) (pa_cons (pv 7) pa_nil)) pe_int) pa_nil)) (blkOk_by (own := [("_law_size", 9)]) (N := N_law) (sc := defScope s_law) (by decide +kernel)) (fun _ _ _ _ _ => pg_name (i := 9) sc_law.nd rfl (Or.inl rfl)) (fun _ _ _ _ _ => (pts_one (pt_cmpR op_notN (pe_call G_Ldue (hr.mono (by decide)) (by rfl) T.g_Ldue T.F_Ldue.kp T.b_Ldue .nil pass0 (pa_cons (pe_slice sl_str (pv 7) po_none (po_some (pv 9))) (pa_cons (pv 4) pa_nil))) pe_non (nomark _)))) (fun _ _ _ _ _ => (pv 9))) pa_nil)))
          (pss_one (ps_if (PW.pt (pw_or (pt_cmpR op_ne (pe_call G_prefix_length (hr.mono (by decide)) (by rfl) T.g_prefix_length T.F_prefix_length.kp T.b_prefix_length .nil pass0 (pa_cons (pv 7) (pa_cons (pv 4) pa_nil))) (pv 9) (nomark _)) (pw_or1 (pt_cmpR op_ne (pe_callK0 G_prefix_length (hr.mono (by decide)) (by rfl) T.g_prefix_length T.F_prefix_length.kp T.kb_prefix_length pass0 (pk_cons (pv 4) (pk_cons (pv 7) pk_nil))) (pv 9) (nomark _)))))
            (pss_one (ps_ret pe_bl))
            pss_nil))))))
        (pss_cons (ps_set (i := 10) sc_law.nd rfl (Or.inl rfl) (pe_call G_embedding (hr.mono (by decide)) (by rfl) T.g_embedding T.F_embedding.kp T.b_embedding .nil pass0 (pa_cons (pv 4) (pa_cons (pv 4) pa_nil))))
        (pss_cons (ps_expr (pe_bm PySem.F.plainAttrs_list PySem.F.slot_list_append PySem.F.type_list_append mt_append (pv 10) (pa_cons pe_int pa_nil)))
        (pss_one (ps_if (PW.pt (pw_or (pt_cmpR (op_neD hr.units) (pe_callK0 G_embedding (hr.mono (by decide)) (by rfl) T.g_embedding T.F_embedding.kp T.kb_embedding pass0 (pk_cons (pv 4) (pk_cons (pv 4) pk_nil))) (pe_listRg rfl (by rfl) T.z_list (prg_1 (by rfl) T.z_range (pe_callB call_len_str (by rfl) T.z_len (by decide +kernel) (pa_cons (pv 4) pa_nil)))) (nomark _)) (pw_or1 (pt_not (pt_val (pe_callK0 G_is_subsequence (hr.mono (by decide)) (by rfl) T.g_is_subsequence T.F_is_subsequence.kp T.kb_is_subsequence pass0 (pk_cons (pv 4) (pk_cons pe_str pk_nil))))))))
          (pss_one (ps_ret pe_bl))
          pss_nil)))))))))))
      (pss_one (ps_ret pe_bl))), ?_⟩
    refine ⟨.ref sc, rfl, sc, _, rfl, .inl hS, _, _, rfl, _, _, rfl, _, rfl, ?_, ?_, for_it walk_range (fun i σ H3 => ∃ y1 y2 y3 y4 y5 y6 y7 y8 y9 y10 y11 : Option V, σ = [some (.ref sc), y1, y2, y3, y4, y5, y6, y7, y8, y9, y10, y11] ∧ Same H H3) ?_ (fun _ _ _ _ _ => trivial) ?_ ?_⟩
    · split <;> omega
    · rw [List.length_map]
      split
      · split <;> omega
      · omega
    · exact ⟨none, none, none, none, none, none, none, none, none, none, none, rfl, Same.refl H⟩
    · rintro i x σ H3 H3' hi ⟨y1, y2, y3, y4, y5, y6, y7, y8, y9, y10, y11, rfl, sm0⟩ ⟨rfl, rfl⟩
      have hi12 : i < 12 := by
        rw [List.length_map] at hi
        split at hi
        · split at hi <;> omega
        · omega
      -- the draws
      refine ⟨.ref sc, rfl, .int (0 + (i : Nat)), rfl, sc, 0 + (i : Nat), ns, rfl, sm0.seq hS, by omega, by omega, by omega, fun H1 p sm1 np hP1 => ?_⟩
      refine ⟨.ref p, rfl, p, 3, rfl, hP1, by decide, by decide, fun n1 m1 d h1 h2 h3 h4 h5 => ⟨1, d, rfl, rfl, ?_⟩⟩
      refine ⟨.ref p, rfl, .int (1 + d), rfl, p, 8, 1 + d, rfl, ⟨n1, m1, upd_same, h1, h2, h3⟩, by decide, by decide, by omega, by omega, fun H2 z hP2 b2 lz cz => ?_⟩
      refine ⟨.ref p, rfl, .int (1 + d), rfl, p, 6, 1 + d, rfl, hP2, by decide, by decide, by omega, by omega, fun H4 z2 hP4 b4 lz2 cz2 => ?_⟩
      have hz : Sm z 9 := ⟨by omega, cz⟩
      have hz2 : Sm z2 10 := ⟨by omega, cz2⟩
      have sm4 : Same H3' H4 := But.same sm1 np ((But.put But.refl).trans (b2.trans b4))
      refine ⟨.str z, rfl, z, rfl, fun D nD => ?_⟩
      have nDp : D ≠ p := fun e => by
        obtain ⟨_, _, e2, _⟩ := hP4
        rw [e, e2] at nD
        cases nD
      refine lc_it walk_str (fun k H5 => ∃ acc : List Nat, Pool H5 p ∧ But p H4 H5 ∧ H5 D = some (.lst (sV acc)) ∧ acc.length ≤ k ∧ ∀ c ∈ acc, c ∈ cs "abcdefgh") ?_ (fun _ _ _ _ => trivial) ?_ ?_
      · refine ⟨[], ?_, But.refl.new nD, upd_same, Nat.le_refl _, fun c hc => by cases hc⟩
        obtain ⟨n, m, e2, r⟩ := hP4
        exact ⟨n, m, by rw [upd_ne nDp.symm]; exact e2, r⟩
      · rintro k x H5 H6 hk ⟨acc, hP5, b5, hD5, la, hc⟩ ⟨rfl, c, hzc, rfl⟩
        refine ⟨rfl, .ref p, rfl, p, 2, rfl, hP5, by decide, by decide, fun n2 m2 e g1 g2 g3 g4 g5 => ⟨rfl, _, rfl, ite2 (fun he => ?_) (fun he => ?_)⟩⟩
        · refine ⟨_, rfl, sV acc, by rw [upd_ne nDp]; exact hD5, ?_, acc ++ [c], ⟨n2, m2, by rw [upd_ne nDp.symm, upd_same], g1, g2, g3⟩, b5.put.new nD, by rw [upd_same, sV_snoc], by rw [List.length_append]; show acc.length + 1 ≤ k + 1; omega, ?_⟩
          · rw [sV_len]
            have := hz.1
            have : k < z.length := hk
            exact lt_line (by omega)
          · intro y hy
            rcases List.mem_append.mp hy with h | h
            · exact hc y h
            · rw [List.mem_singleton.mp h]
              refine cz c ?_
              show c ∈ z.cps.toList
              exact List.mem_of_getElem? (i := k) (by rw [Array.getElem?_toList]; exact hzc)
        · exact ⟨acc, ⟨n2, m2, upd_same, g1, g2, g3⟩, b5.put, by rw [upd_ne nDp]; exact hD5, by omega, hc⟩
      · rintro H5 ⟨acc, hP5, b5, hD5, la, hc⟩
        have sm5 : Same H3' H5 := But.same sm4 np b5
        -- the five words
        refine ⟨.str z2, rfl, ⟨_, rfl⟩, .ref D, rfl, "", D, acc.map sg, rfl, rfl, .inl (SqL.of (by rw [hD5, sV_eq])), ?_, .str z, rfl, .str z, rfl, z, "a", rfl, rfl, ?_, le_line (show 5 ≤ 100000 by decide), fun L nL => ?_⟩
        · rw [sum_ones, List.length_map]
          show acc.length + acc.length * 0 ≤ 16777216
          have : acc.length ≤ z.length := la
          have := hz.1
          omega
        · have := hz.1
          exact le_line (by show z.length + 1 ≤ 100000; omega)
        have smL := sm5.trans (same_new (o := .lst [.str z2, .str (Txt.join "" (acc.map sg)), .str z, .str (z ++ "a"), .str ""]) nL)
        have hacc : acc.length < 10 := by
          have : acc.length ≤ z.length := la
          have := hz.1
          omega
        have hones : ∀ x ∈ [V.str z2, .str (Txt.join "" (acc.map sg)), .str z, .str (z ++ "a"), .str ""], ∃ o, x = V.str o ∧ Sm o 10 := by
          intro x hx
          simp only [List.mem_cons, List.not_mem_nil, or_false] at hx
          rcases hx with rfl | rfl | rfl | rfl | rfl
          · exact ⟨_, rfl, hz2⟩
          · exact ⟨_, rfl, sm_join hacc hc⟩
          · exact ⟨_, rfl, hz.up (by decide)⟩
          · exact ⟨_, rfl, sm_a hz⟩
          · exact ⟨_, rfl, sm_e (by decide)⟩
        generalize hLs : [V.str z2, .str (Txt.join "" (acc.map sg)), .str z, .str (z ++ "a"), .str ""] = Ls at smL hones ⊢
        generalize hHL : upd H5 L (.lst Ls) = HL at smL ⊢
        have hLL : HL L = some (.lst Ls) := by rw [← hHL, upd_same]
        refine ⟨L, rfl, ⟨Ls, SqL.of hLL⟩, for_it (walk_list (xs := Ls)) (fun j σ H6 => ∃ y7 y8 y9 y10 y11 : Option V, σ = [some (.ref sc), some (.int (0 + (i : Nat))), some (.ref p), some (.int (1 + d)), some (.str z), some (.str z2), some (.ref D), y7, y8, y9, y10, y11] ∧ Same HL H6) ?_ (fun j σ H6 _ hp => ?_) ?_ ?_⟩
        · exact ⟨y7, y8, y9, y10, y11, rfl, Same.refl _⟩
        · obtain ⟨_, _, _, _, _, _, s6⟩ := hp
          exact SqL.of (s6 _ _ hLL)
        · rintro j x σ H6 H6' hj ⟨y7, y8, y9, y10, y11, rfl, s6⟩ ⟨rfl, hxj⟩
          obtain ⟨o, rfl, ho⟩ := hones x (List.mem_of_getElem? hxj)
          have wo := ho.w (by decide)
          have wz := hz.w (by decide)
          have co : ∀ c ∈ cs o, c < 1114112 := fun c hc => abc_small (ho.2 c hc)
          have czs : ∀ c ∈ cs z, c < 1114112 := fun c hc => abc_small (hz.2 c hc)
          refine ⟨.str o, rfl, .str z, rfl, o, z, rfl, ho.1, hz.1, co, czs, fun H7 v s7 g7 => ?_⟩
          obtain ⟨t1, t2, t3, t4⟩ := dt_shown (p := cs o) (z := cs z) (by rw [← len_cs]; exact ho.1) (by rw [← len_cs]; exact hz.1)
          -- the two texts of places
          refine ⟨.str o, rfl, .str z, rfl, o, z, rfl, wo, wz, fun H8 v8 s8 g8 f8 => ⟨v8, _, rfl, g8.dp, t1, t2, t3, t4, v, rfl, v, _, rfl, (g7.mono s8).dp, t1, t2, t3, t4, rfl, _, rfl, iteNS rfl ?_⟩⟩
          -- the two answers
          refine ⟨.str o, rfl, .str z, rfl, o, z, rfl, wo, wz, fun H9 s9 => ?_⟩
          obtain ⟨u1, u2, u3, u4⟩ := bool_shown (due (cs o) (cs z)).isSome
          refine ⟨_, _, rfl, .bl _, u1, u2, u3, u4, v, rfl, rfl, _, _, rfl, .bl _, ?_⟩
          rw [g7.non]
          refine ⟨u1, u2, u3, u4, rfl, _, rfl, iteNS rfl ?_⟩
          -- the longest part
          have lo := ho.1
          have lz := hz.1
          refine ⟨.str o, rfl, o, rfl, le_line (by omega), (o.length : Nat), 1, rfl, rfl, (o.length : Nat) + 1, rfl, by omega, by omega, fun D3 nD3 => ?_⟩
          refine lc_it walk_range (fun k H10 => Same H9 H10 ∧ H10 D3 = some (.lst (iV ((List.range k).filter fun j => decide (j ≤ (emb (cs o) (cs z) 0).length))))) ?_ (fun _ _ _ _ => trivial) ?_ ?_
          · exact ⟨same_new nD3, upd_same⟩
          · rintro k x H10 H11 hk ⟨s10, hD10⟩ ⟨rfl, rfl⟩
            have hk' : k ≤ o.length := by omega
            refine ⟨rfl, .str o, rfl, .int (0 + (k : Nat)), rfl, 0 + (k : Nat), rfl, o, rfl, le_line (by omega), .str z, rfl, cutS o none (some (0 + (k : Nat))), z, rfl, ?_, hz.1, ?_, czs, fun H12 v12 s12 g12 => ⟨rfl, _, rfl, ?_⟩⟩
            · rw [len_cs, cut_take, List.length_take, ← len_cs]
              omega
            · rw [cut_take]
              exact fun c hc => co c (List.mem_of_mem_take hc)
            · rw [g12.non, cut_take, due_take (by rw [← len_cs]; exact hk')]
              by_cases hm : k ≤ (emb (cs o) (cs z) 0).length
              · rw [decide_eq_true hm]
                refine iteT ⟨_, rfl, _, s12 _ _ hD10, ?_, same_put (s10.trans s12) nD3, ?_⟩
                · rw [iV_len]
                  have := List.length_filter_le (fun j => decide (j ≤ (emb (cs o) (cs z) 0).length)) (List.range k)
                  rw [List.length_range] at this
                  exact lt_line (by omega)
                · rw [upd_same, filt_next, if_pos (decide_eq_true hm), iV_snoc]
                  show some (HO.lst (_ ++ [V.int (0 + (k : Nat))])) = _
                  rw [show (0 : Int) + (k : Nat) = (k : Nat) by omega]
              · rw [decide_eq_false hm]
                refine iteF ⟨s10.trans s12, ?_⟩
                rw [filt_next, if_neg (by rw [decide_eq_false hm]; exact Bool.false_ne_true), List.append_nil]
                exact s12 _ _ hD10
          · rintro H10 ⟨s10, hD10⟩
            have em := emb_le (cs z) (cs o) 0
            rw [← len_cs] at em
            have hin : (emb (cs o) (cs z) 0).length ∈ (List.range ((o.length : Nat) + 1 : Int).toNat).filter fun j => decide (j ≤ (emb (cs o) (cs z) 0).length) := by
              rw [List.mem_filter, List.mem_range, decide_eq_true_iff]
              exact ⟨by omega, Nat.le_refl _⟩
            rw [iV_int] at hD10
            refine ⟨D3, _, rfl, SqL.of hD10, ?_, fun mx hmx hall => ?_⟩
            · rw [List.length_map]
              exact List.length_pos_of_mem hin
            · have e : mx = ((emb (cs o) (cs z) 0).length : Nat) := by
                have h1 := hall _ (List.mem_map.mpr ⟨_, hin, rfl⟩)
                obtain ⟨j, hj, rfl⟩ := List.mem_map.mp hmx
                have h2 := of_decide_eq_true (List.mem_filter.mp hj).2
                omega
              subst e
              -- the two lengths
              refine ⟨.str o, rfl, .str z, rfl, o, z, rfl, wo, wz, fun H11 s11 => ⟨_, rfl, rfl, _, rfl, iteNS rfl ?_⟩⟩
              refine ⟨.str z, rfl, .str o, rfl, o, z, rfl, wo, wz, fun H12 s12 => ⟨_, rfl, rfl, _, rfl, iteNS rfl ?_⟩⟩
              exact ⟨_, _, _, _, _, rfl, (((((s6.trans s7).trans s8).trans s9).trans s10).trans s11).trans s12⟩
        · rintro σ H6 ⟨y7, y8, y9, y10, y11, rfl, s6⟩
          have wz := hz.w (by decide)
          have lz := hz.1
          -- the word in itself
          refine ⟨.str z, rfl, .str z, rfl, z, z, rfl, wz, wz, fun H7 v s7 g7 f7 => ?_⟩
          rw [due_self] at g7
          obtain ⟨o1, rfl, ho1⟩ := g7
          have no1 := f7 o1 rfl
          refine ⟨.ref o1, rfl, .inl ⟨rfl, _, SqL.of ho1⟩, o1, _, _, rfl, rfl, ho1, ?_, ?_⟩
          · rw [iV_len, List.length_range', ← len_cs]
            exact lt_line (by omega)
          have s8 := same_put (o := .lst (iV (List.range' 0 (cs z).length) ++ [V.int 0])) s7 no1
          refine ⟨.str z, rfl, .str z, rfl, z, z, rfl, wz, wz, fun H9 v s9 g9 f9 => ?_⟩
          rw [due_self] at g9
          obtain ⟨o2, rfl, ho2⟩ := g9
          refine ⟨.str z, rfl, z, rfl, le_line (by omega), (z.length : Nat), rfl, RgOk.of_le (by omega) (by omega) (by omega) (by omega), fun r nr => ?_⟩
          have n2r : o2 ≠ r := ne_of_none ho2 nr
          refine ⟨iL (List.range' 0 (cs z).length), iL (List.range' 0 (cs z).length), dp_list (by rw [upd_ne n2r]; exact ho2), dp_list (by rw [upd_same, range_iV, len_cs]), shaped_ints _, shaped_ints _, _, rfl, ?_⟩
          rw [show PyData.eqv (iL (List.range' 0 (cs z).length)) (iL (List.range' 0 (cs z).length)) = true from (eqv_ints _ _).trans (decide_eq_true rfl)]
          refine iteF ⟨.str z, rfl, "", z, rfl, (sm_e (n := 9) (by decide)).w (by decide), wz, fun H10 s10 => ⟨_, rfl, ?_⟩⟩
          have e0 : (due (cs "") (cs z)).isSome = true := due_nil (cs z)
          rw [e0]
          refine iteF ?_
          exact ⟨_, _, _, _, _, _, _, _, _, _, _, rfl, sm0.trans (smL.trans (s6.trans (s8.trans (s9.trans ((same_new nr).trans s10)))))⟩
    · rintro σ H3 ⟨y1, y2, y3, y4, y5, y6, y7, y8, y9, y10, y11, rfl, sm0⟩
      exact q _
end
end E2

set_option Elab.async false
set_option linter.all false
set_option maxRecDepth 100000
namespace E2
open PySem PySem.Spec PyProof.Rows L2 Own Mth
theorem all_mk {l : PySem.W.OpenLaw} {w : World} {K : PySem.W.Frag} {mg : Str → Option Value} {fa : Addr} {a : Ad} (T : Txt K mg a) (hfa : mg "law" = some (.ref fa)) :
    ∃ fd : FuncData, (∀ (s : Shared) (v : Value), BindsTo s fd ⟨[v], []⟩ [("_law_script", v)]) ∧ ∀ base : Heap, K.In base → base.Ns mainGlobals mg → FnG l.prog w K mg base CX0 6 fa fd ["_law_script"] (sp_law K) := by
  have e := hfa.symm.trans T.g_law
  cases e
  refine ⟨a.d_law, fun s v => ?_, fun base _ _ => ok_law T⟩
  obtain ⟨oc, od, kV, doc, pm, an, cdv, ct, osl, hfd, lk, hcd⟩ := T.F_law.ex
  rw [hfd]
  exact .of_eq rfl
end E2
open PySem PySem.W PyProof.Rows
set_option maxHeartbeats 0 in
theorem PySem.Challenge.cw_leakyqueue_k02_embeddings_holds : PySem.Challenge.rw_leakyqueue_k02_embeddings.Holds := by
  w_on; o_law; k_head; (case hw => w_witness2)
  k_fill
  refine Own.walk_G (l := PySem.Challenge.rw_leakyqueue_k02_embeddings) (n := 63) (k := 6) (x := "_law_script") (CX := fun _ => L2.CX0) (sp := fun w => E2.sp_law _) rfl (by decide) rfl ⟨rfl, by decide, by decide⟩ (fun w h Y => PySem.W.kIn_of Y) ?F (fun _ _ a ns hl _ hS => ⟨a, ns, rfl, hS, hl, fun _ => rfl⟩) (fun _ _ _ _ _ h => h)
  case F =>
    intro w mg fa h KX G hmg
    refine' E2.all_mk (E2.txt_mk KX G ?t1 ?a1 ?l1 ?c1 ?k1 ?a2 ?l2 ?c2 ?k2 ?a3 ?l3 ?c3 ?k3 ?a4 ?l4 ?c4 ?k4 ?a5 ?l5 ?c5 ?k5 ?a6 ?l6 ?c6 ?k6 ?a7 ?l7 ?c7 ?k7 ?a8 ?l8 ?c8 ?k8 ?a9 ?l9 ?c9 ?k9 ?a10 ?l10 ?c10 ?k10 ?a11 ?l11 ?c11 ?k11 ?a12 ?l12 ?c12 ?k12 ?a13 ?l13 ?c13 ?k13 ?a14 ?l14 ?c14 ?k14 ?v_ITEMS ?v_MAX_LENGTH ?z_isinstance ?z_str ?z_len ?z_max ?z_int ?z_range ?z_min ?z_list ?z_repr ?n_LeakError ?n_InvalidWord ?i_InvalidWord ?m_InvalidWord ?d_InvalidWord ?h_InvalidWord) hmg
    (case a1 => k_is); (case l1 => k_is); (case c1 => k_is); (case k1 => k_is); (case a2 => k_is); (case l2 => k_is); (case c2 => k_is); (case k2 => k_is); (case a3 => k_is); (case l3 => k_is); (case c3 => k_is); (case k3 => k_is); (case a4 => k_is); (case l4 => k_is); (case c4 => k_is); (case k4 => k_is); (case a5 => k_is); (case l5 => k_is); (case c5 => k_is); (case k5 => k_is); (case a6 => k_is); (case l6 => k_is); (case c6 => k_is); (case k6 => k_is); (case a7 => k_is); (case l7 => k_is); (case c7 => k_is); (case k7 => k_is); (case a8 => k_is); (case l8 => k_is); (case c8 => k_is); (case k8 => k_is); (case a9 => k_is); (case l9 => k_is); (case c9 => k_is); (case k9 => k_is); (case a10 => k_is); (case l10 => k_is); (case c10 => k_is); (case k10 => k_is); (case a11 => k_is); (case l11 => k_is); (case c11 => k_is); (case k11 => k_is); (case a12 => k_is); (case l12 => k_is); (case c12 => k_is); (case k12 => k_is); (case a13 => k_is); (case l13 => k_is); (case c13 => k_is); (case k13 => k_is); (case a14 => k_is); (case l14 => k_is); (case c14 => k_is); (case k14 => k_is); (case v_ITEMS => k_is); (case v_MAX_LENGTH => k_is); (case z_isinstance => k_is); (case z_str => k_is); (case z_len => k_is); (case z_max => k_is); (case z_int => k_is); (case z_range => k_is); (case z_min => k_is); (case z_list => k_is); (case z_repr => k_is); (case n_LeakError => k_is); (case n_InvalidWord => k_is); (case i_InvalidWord => k_is); (case m_InvalidWord => k_is); (case d_InvalidWord => k_is); (case h_InvalidWord => kernel_rfl); (case t1 => k_is)
