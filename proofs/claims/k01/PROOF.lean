import PyProof.Rows.All
import Wide.All
import OpenK.AllK
import Wide.FinOn
import HandS.ForMost
import HandS.Conv
import HandS.StrMore
import HandS.IsInst
import HandS.Walk
import KE.DataMinMax
import HandS.ForExc
import HandS.ExcField
import HandS.TryMany
import HandS.ExcValue
import KE.KExcInit
import KE.KExcIs
import HandS.GenList
import HandS.NoneIn
import HandS.Star
import HandS.Defaults
import PySem.Challenge.RW_leakyqueue_k01_words_and_programs_valida
set_option Elab.async false
set_option linter.all false
set_option maxRecDepth 100000
set_option maxHeartbeats 4000000
namespace Own
open PySem PySem.Spec PyProof.Rows L2

section
variable {X : Cx} {k : Nat}
/-! repr of data, where no repr is under way -/
def rRepr (K : PySem.W.Frag) : List V → Hp → VK → Prop := fun xs H Q =>
  ∃ v d, xs = [v] ∧ Dp K H v d ∧ d.showable = true ∧ d.hasDict = false ∧ d.depth ≤ 60 ∧ d.shown.length ≤ sizeLine ∧ Q (.str d.shown) H
theorem call_reprD (hg : X.A.guards = some []) (hr : Room k X.A) : CallR X (.builtin "repr") (rRepr X.K) := by
  intro pins s σ H xs us Q I rl hh
  obtain ⟨v, d, rfl, hd, hs, hn, hdep, hsz, hq⟩ := hh
  obtain ⟨u, rfl, ru⟩ := vals1 rl
  have hun := hr.un
  obtain ⟨as, rd⟩ := Dp.reads I d v u hd ru
  cases hd with
  | non =>
    cases ru
    exact PySem.P.repr_of_none ⟨.str _, H, I.tok _, ⟨_, rfl⟩, hq⟩
  | bl b =>
    cases ru
    exact PySem.P.repr_of_bool ⟨.str _, H, I.tok _, ⟨_, rfl⟩, hq⟩
  | int i =>
    obtain ⟨t, rfl⟩ := ru
    exact PySem.P.repr_of_int (of_decide_eq_true hs) ⟨.str _, H, I.tok _, ⟨_, rfl⟩, hq⟩
  | str x =>
    obtain ⟨t, rfl⟩ := ru
    exact PySem.P.repr_of_str ⟨.str _, H, I.tok _, ⟨_, rfl⟩, hq⟩ hsz
  | lst h1 h2 =>
    cases ru
    exact repr_of_reads' rd hs (PyData.noDict_hsm hn) hg (by omega) (fun _ _ e => e)
      (fun h' u tk hk => ⟨.str _, H, I.kept hk, ⟨_, rfl⟩, hq⟩) hsz
  | tup h1 h2 =>
    cases ru
    exact repr_of_reads' rd hs (PyData.noDict_hsm hn) hg (by omega) (fun _ _ e => e)
      (fun h' u tk hk => ⟨.str _, H, I.kept hk, ⟨_, rfl⟩, hq⟩) hsz

/-! min of a list of alike data -/
theorem minD_mem (x : PyData) : ∀ ds : List PyData, PySem.W.minD x ds ∈ x :: ds := by
  intro ds
  unfold PySem.W.minD
  suffices h : ∀ (ds all : List PyData) (a : PyData), a ∈ all → (∀ y ∈ ds, y ∈ all) → ds.foldl (fun a y => if PySem.W.dataLt y a then y else a) a ∈ all from
    h ds (x :: ds) x (List.mem_cons_self ..) (fun y hy => List.mem_cons_of_mem _ hy)
  intro ds
  induction ds with
  | nil => intro all a ha _; exact ha
  | cons d ds ih =>
    intro all a ha hall
    rw [List.foldl_cons]
    refine ih all _ ?_ (fun y hy => hall y (List.mem_cons_of_mem _ hy))
    split
    · exact hall d (List.mem_cons_self ..)
    · exact ha
theorem DpAll.at {K : PySem.W.Frag} {H : Hp} : ∀ {vs : List V} {ds : List PyData} {i : Nat} {v : V}, DpAll K H vs ds → vs[i]? = some v → ∃ d, ds[i]? = some d ∧ Dp K H v d
  | _, _, _, _, .nil, e => by simp at e
  | _, _, 0, _, .cons h _, e => by simp at e; subst e; exact ⟨_, rfl, h⟩
  | _, _, i + 1, v, .cons _ t, e => by
    obtain ⟨d, h1, h2⟩ := DpAll.at (i := i) (v := v) t (by simpa using e)
    exact ⟨d, by simpa using h1, h2⟩
def rMinD (K : PySem.W.Frag) : List V → Hp → VK → Prop := fun xs H Q =>
  ∃ a vs x ds, xs = [.ref a] ∧ SqL K H a vs ∧ DpAll K H vs (x :: ds) ∧ PySem.W.AlikeAll (x :: ds) ∧ PyData.depthAll (x :: ds) ≤ 60 ∧
    ∀ (i : Nat) (v : V), vs[i]? = some v → (x :: ds)[i]? = some (PySem.W.minD x ds) → Q v H
theorem call_minD (hc : X.calm = true) (hr : Room k X.A) : CallR X (.builtin "min") (rMinD X.K) := by
  intro pins s σ H xs us Q I rl hh
  obtain ⟨a, vs, x, ds, rfl, hl, hd, hal, hdep, hq⟩ := hh
  obtain ⟨u, rfl, ru⟩ := vals1 rl
  cases ru
  have hun := hr.un
  obtain ⟨its, rv, pl, _⟩ := I.list hl
  obtain ⟨o, n, ho, hcl, hsl, hdt⟩ := pl
  obtain ⟨as, rd⟩ := Dp.readsAll I (x :: ds) vs its hd rv
  refine PySem.W.min_list_data (vs := its.toArray) (I.ok.hd hc) ⟨o, ho, hcl, n, hdt⟩ (by simpa using rd) hal (by omega) fun i v h' tk bs hv hrd hk => ?_
  have hv' : its[i]? = some v := by simpa using hv
  have hi : i < its.length := by
    rcases Nat.lt_or_ge i its.length with h | h
    · exact h
    · rw [List.getElem?_eq_none h] at hv'; cases hv'
  have hlen : vs.length = its.length := rv.length
  obtain ⟨w, hw⟩ : ∃ w, vs[i]? = some w := ⟨vs[i], List.getElem?_eq_getElem (by omega)⟩
  obtain ⟨v2, e2, rw2⟩ := rv.get hw
  rw [hv'] at e2
  cases e2
  obtain ⟨d, hd1, hd2⟩ := DpAll.at hd hw
  obtain ⟨cs, rdd⟩ := Dp.reads I d w v hd2 rw2
  have hmem : d ∈ x :: ds := List.mem_of_getElem? hd1
  have e : d = PySem.W.minD x ds := PySem.W.alike_unique d (PySem.W.minD x ds) v cs bs (hal.1 d hmem _ (minD_mem x ds)) (PySem.W.reads_keeps hk rdd) hrd
  rw [e] at hd1
  exact ⟨w, H, I.kept hk, rw2, hq i w hw hd1⟩

/-! list(text) -/
def sgV (z : Str) : List V := z.cps.toList.map fun c => V.str ⟨#[c]⟩
theorem vals_signs {z : Str} : ∀ (cs : List Nat) (its : List Value), cs.length = its.length → (∀ (j : Nat) (v : Value), its[j]? = some v → ∃ c u, cs[j]? = some c ∧ v = .str ⟨#[c]⟩ u) → Vals (cs.map fun c => V.str ⟨#[c]⟩) its
  | [], [], _, _ => .nil
  | c :: cs, v :: its, hl, h => by
    obtain ⟨c', u, e1, e2⟩ := h 0 v rfl
    have e1' : c = c' := by simpa using e1
    subst e1'
    refine .cons ⟨u, e2⟩ (vals_signs (z := z) cs its (by simpa using hl) fun j w hw => ?_)
    have := h (j + 1) w (by simpa using hw)
    simpa using this
  | [], _ :: _, hl, _ => by simp at hl
  | _ :: _, [], hl, _ => by simp at hl
theorem call_list_str (hc : X.calm = true) : CallR X (.type "list") (fun xs H Q => ∃ z : Str, xs = [.str z] ∧ z.cps.size ≤ sizeLine ∧ ∀ p, H p = none → Q (.ref p) (upd H p (.lst (sgV z)))) := by
  intro pins s σ H xs us Q I rl hh
  obtain ⟨z, rfl, hz, hq⟩ := hh
  obtain ⟨u, rfl, t, rfl⟩ := vals1 rl
  refine PySem.call_list_str (I.ok.hd hc) z t (fun h' tk acc c' hk hS hacc => ?_) hz
  have hf : H s.heap.objs.size = none := I.hok.fresh (Nat.le_refl _)
  have hv : Vals (sgV z) acc.toList := vals_signs (z := z) z.cps.toList acc.toList (by simp [hacc.1]) fun j v hv => by
    obtain ⟨c, u, h1, h2⟩ := hacc.2 j v (by simpa using hv)
    exact ⟨c, u, by simpa using h1, h2⟩
  have hlen : (sgV z).length ≤ sizeLine := by
    unfold sgV
    rw [List.length_map, Array.length_toList]
    exact hz
  exact ⟨.ref _, upd H _ (.lst (sgV z)), I.laid hk (Nat.le_refl _) ⟨hlen, acc.toList, c', hv, by simpa using hS⟩, rfl, hq _ hf⟩

/-! f(k = v, ..), nothing by position -/
theorem pe_callK0 {CX : CXT} {f : Addr} {fd : FuncData} {ps ks : List Str} {sp : Sp} {E : XK} {x : Str} {p pos : Pos} {kws : List Keyword} {tk : TA} {g : List Value → List Value → List Value} {gV : List V → List V → List V}
    (F : FnOk X.prog X.w X.K X.mg X.base CX k f fd ps sp) (hr : Room k X.A) (hg : Gl X x) (hm : X.mg x = some (.ref f)) (hk : PySem.W.keepIn X.K (.ref f) = true) (hb : KBinds X.K fd ps ks g gV) (hx : Passes CX X E) (hkw : PK X kws tk)
    (hal : (backToKw pos (keywordEach kws X.env)).all (·.1.isSome) = true := by rfl) (hks : (backToKw pos (keywordEach kws X.env)).filterMap (·.1) = ks := by rfl) (hdg : (x == ("__debug__" : Str)) = false := by decide)
    (hst : ((backTo pos (starEach [] X.env)).any (·.1) || (backToKw pos (keywordEach kws X.env)).any (·.1.isNone)) = false := by rfl) :
    PE X (.Call (.Name x p) [] kws pos) (tCallK sp gV E tNil tk) := by
  refine ⟨fun pins s σ H Q I q => wpAny_Call_Name_kw (ld_glob I hg hm ?_ hdg)⟩
  refine PySem.W.callWith_KW0 (h₀ := X.base) I.ok.mod.kin hk hal (thn (hkw.run pos pins s σ H _ I q) ?_) hst
  rintro ws s2 ⟨zs, H2, I2, rz, q2⟩
  refine ⟨I2.kIn, ?_⟩
  rw [hks]
  exact run_fnk (us := []) (vs := []) F hr hb hx I2 .nil rz q2
def sw {α : Type} : List α → List α → List α
  | [], [a, b] => [b, a]
  | _, _ => []
theorem sw_rel : ∀ {vs : List V} {us : List Value} {zs : List V} {ws : List Value}, Vals vs us → Vals zs ws → Vals (sw vs zs) (sw us ws)
  | _, _, _, _, .nil, .nil => .nil
  | _, _, _, _, .nil, .cons _ .nil => .nil
  | _, _, _, _, .nil, .cons a (.cons b .nil) => .cons b (.cons a .nil)
  | _, _, _, _, .nil, .cons _ (.cons _ (.cons _ _)) => .nil
  | _, _, _, _, .cons _ _, .nil => .nil
  | _, _, _, _, .cons _ _, .cons _ _ => .nil
theorem kb_sw {K : PySem.W.Frag} {fd : FuncData} {p1 p2 k1 k2 : Str} (h : ∀ (s : Shared) (a b : Value), BindsTo s fd ⟨[], [(k1, a), (k2, b)]⟩ [(p1, b), (p2, a)]) : KBinds K fd [p1, p2] [k1, k2] sw sw where
  to := fun s us ws _ hl => by
    match us, ws, hl with
    | [], [a, b], _ => exact h s a b
    | [], [], hl => cases hl
    | [], [_], hl => cases hl
    | [], _ :: _ :: _ :: _, hl => cases hl
    | _ :: _, _, hl => cases hl
  rel := sw_rel
end
/-! a def's promise where no repr is under way -/
structure FnG (P : Program) (w : World) (K : PySem.W.Frag) (mg : Str → Option Value) (base : Heap) (CX : CXT) (k : Nat) (f : Addr) (fd : FuncData) (ps : List Str) (sp : Sp) : Prop where
  lenG : ∀ vs H Q E, sp vs H Q E → vs.length = ps.length
  runG : ∀ (A : Around) (out : List Env) (s : Shared) (H : Hp) (ar : Args) (us : List Value) (vs : List V) (Q : VK) (E : XK), A.guards = some [] → Room k A → Env0 P w K mg base A out s H →
    BindsTo s fd ar (ps.zip us) → Vals vs us → sp vs H Q E → codeAny (model P w) A (.call (.ref f) ar) (CR CX out P w H s Q E) s
section
variable {P : Program} {w : World} {K : PySem.W.Frag} {mg : Str → Option Value} {base : Heap} {CX : CXT} {k : Nat} {f : Addr} {fd : FuncData} {ps : List Str} {sp : Sp}
theorem FnG.of (F : FnOk P w K mg base CX k f fd ps sp) : FnG P w K mg base CX k f fd ps sp :=
  ⟨F.len, fun A out s H ar us vs Q E _ hr he hb hv hs => F.run A out s H ar us vs Q E hr he hb hv hs⟩
theorem FnG.mono {j : Nat} (F : FnG P w K mg base CX j f fd ps sp) (h : j ≤ k) : FnG P w K mg base CX k f fd ps sp :=
  ⟨F.lenG, fun A out s H ar us vs Q E hg hr => F.runG A out s H ar us vs Q E hg (hr.mono h)⟩
/-- by its body -/
theorem fnG_of {name qual : Str} {params : Arguments} {body : List Stmt} {scope : Scope} {dV kV doc pm cdv ct oc : Value} {an od : Option Addr} {osl : Array (Option Value)} {N : List Str}
    (lk : K.lookup f = some ⟨oc, od, .func (PySem.W.fnOf name qual params body scope dV kV doc pm an cdv ct), osl⟩) (hcd : PySem.W.codeIn K cdv qual = true) (S : FnScope N ps scope) (len : ∀ vs H Q E, sp vs H Q E → vs.length = ps.length)
    (hbody : ∀ (A : Around) (out : List Env) (s : Shared) (H : Hp) (vs : List V) (Q : VK) (E : XK), (A.deeper (envOfC qual scope s.heap.objs.size f cdv)).guards = some [] → Room k (A.deeper (envOfC qual scope s.heap.objs.size f cdv)) → sp vs H Q E →
      ∃ t, PSs (cxOf CX P w K mg base N qual scope f cdv A out s H E) body t ∧ t { nx := fun _ H' => Q .non H', rt := Q } (start N vs) H) :
    FnG P w K mg base CX (k + 1) f (PySem.W.fnOf name qual params body scope dV kV doc pm an cdv ct) ps sp := by
  constructor
  · exact len
  intro A out s H ar us vs Q E hg hr e0 hb rv hsp
  have keeps : ∀ b o, base.get? b = some o → s.heap.get? b = some o := fun b o e => (e0.bs b o e).1
  have KX : K.In s.heap := e0.mod.kin.keeps keeps
  have kinds : ∀ y ∈ ps.zip us, scope.names.lookup y.1 = some .local ∨
      (scope.names.lookup y.1 = some .cell ∧ ((cellsFrom (s.heap.objs.size + 1) scope.names []).lookup y.1).isSome = true) := by
    rintro ⟨n, v⟩ hy
    exact (S.par n (List.of_mem_zip hy).1).imp id fun q => ⟨q, PySem.W.cellsFrom_some _ _ _ (.inl q)⟩
  refine codeAny_call_function hr.depth (KX _ _ lk) rfl S.co S.gen rfl (PySem.W.codeRec_of KX hcd) (hb _ _ _ _ (wpAny_newFunctionEnv_cells S.kind kinds ?_))
  rintro env rfl s1 x
  refine ⟨(e0.mod.nolimit.keeps keeps).keeps x.toInCall.keep, codeAny_func ?_⟩
  obtain ⟨t, ht, hq⟩ := hbody A out s H vs Q E hg (hr.deeper _) hsp
  have I := inv_start (CX := CX) (E := E) S hr.hd e0 (len _ _ _ _ hsp) rv x
  refine wpAny_mono (ht.run [] s1 (start N vs) H _ I hq) ?_ fun e s' hs => hs
  rintro (u | _ | _ | u) s' hs
  all_goals first
    | (obtain ⟨σ', H', J, q⟩ := hs; exact ⟨.non, H', J.os, J.bare, J.base, J.hok, rfl, q⟩)
    | (obtain ⟨v, σ', H', J, rr, q⟩ := hs; exact ⟨v, H', J.os, J.bare, J.base, J.hok, rr, q⟩)
    | (obtain ⟨_, _, _, q⟩ := hs; exact False.elim q)
theorem Fun_okG {x qual : Str} {st : Stmt} {N : List Str} (F : Fun K x qual st f fd) (S : FnScope N ps (defScope st)) (len : ∀ vs H Q E, sp vs H Q E → vs.length = ps.length)
    (hbody : ∀ (cdv : Value) (A : Around) (out : List Env) (s : Shared) (H : Hp) (vs : List V) (Q : VK) (E : XK), (A.deeper (envOfC qual (defScope st) s.heap.objs.size f cdv)).guards = some [] → Room k (A.deeper (envOfC qual (defScope st) s.heap.objs.size f cdv)) → sp vs H Q E →
      ∃ t, PSs (cxOf CX0 P w K mg base N qual (defScope st) f cdv A out s H E).nox (defBody st) t ∧ t { nx := fun _ H' => Q .non H', rt := Q } (start N vs) H) :
    FnG P w K mg base CX0 (k + 1) f fd ps sp := by
  obtain ⟨oc, od, kV, doc, pm, an, cdv, ct, osl, rfl, lk, hcd⟩ := F.ex
  exact fnG_of lk hcd S len fun A out s H vs Q E hg hr hsp => let ⟨t, h, q⟩ := hbody cdv A out s H vs Q E hg hr hsp; ⟨t, h.nox, q⟩
end
/-! the law's end -/
theorem law_callG {P : Program} {w : World} {K : PySem.W.Frag} {mg mb : Str → Option Value} {CX : CXT} {k : Nat} {fa a : Addr} {fd : FuncData} {x : Str} {sp : Sp} {s1 : Shared} {vs : List Value} {ns : List Int}
    (KX : K.In s1.heap) (hns : s1.heap.Ns mainGlobals mg) (hb : s1.heap.Ns builtinsNs mb) (hbb : ∀ x : Str, x ≠ "__name__" → mb x = bootBuiltins x) (hlim : s1.heap.NoLimit) (hgen : s1.gens = #[])
    (ha : s1.heap.get? a = some { cls := .type "list", data := .seq vs.toArray }) (hi : IntsAre vs ns) (hl : ns.length ≤ sizeLine) (hr : Room k callerA)
    (F : ∀ base : Heap, K.In base → base.Ns mainGlobals mg → FnG P w K mg base CX k fa fd [x] sp) (hbind : ∀ (s : Shared) (u : Value), BindsTo s fd ⟨[u], []⟩ [(x, u)])
    (hsp : ∀ H : Hp, Only H → SqL K H a (ns.map V.int) → sp [.ref a] H (fun v _ => v = .bl true) fun _ _ _ => False) (hCX : ∀ H e s', CX [] H s1 (fun _ _ _ => False) e s' → False) :
    codeAny (model P w) callerA (.call (.ref fa) ⟨[.ref a], []⟩) (fun r s' => r = .ok (.ret (.bool true)) ∧ OldK s1.heap s'.heap ∧ s'.os = s1.os ∧ AllBare s'.gens) s1 := by
  have rv := vals_ints hi
  have core : ∀ H : Hp, Only H → SqL K H a (ns.map V.int) → HOk P w H s1.heap → (∀ b, H b ≠ none → b = a ∧ K.lookup a = none) →
      codeAny (model P w) callerA (.call (.ref fa) ⟨[.ref a], []⟩) (fun r s' => r = .ok (.ret (.bool true)) ∧ OldK s1.heap s'.heap ∧ s'.os = s1.os ∧ AllBare s'.gens) s1 := by
    intro H hO hS hok hA
    have off : ∀ {b : Addr} {o : Obj} {es : Array DictEntry} {ep : Nat}, s1.heap.get? b = some o → o.data = .dict es ep → H b = none := by
      intro b o es ep e d
      rcases Option.eq_none_or_eq_some (H b) with q | ⟨u, q⟩
      · exact q
      · obtain ⟨e', _⟩ := hA b (by simp [q])
        subst e'
        rw [ha] at e
        cases e
        cases d
    have nsK : ∀ {b : Addr} {m : Str → Option Value}, s1.heap.Ns b m → (hidT s1.heap H).Ns b m := by
      rintro b m ⟨o, es, ep, e, d, r⟩
      exact ⟨o, es, ep, hidT_get e (off e d), d, r⟩
    have KB : K.In (hidT s1.heap H) := by
      intro b o e
      refine hidT_get (KX b o e) ?_
      rcases Option.eq_none_or_eq_some (H b) with q | ⟨u, q⟩
      · exact q
      · obtain ⟨e', kn⟩ := hA b (by simp [q])
        subst e'
        rw [kn] at e
        cases e
    obtain ⟨mc, l1, l2⟩ := hlim
    have md : Mod K mg (hidT s1.heap H) := ⟨KB, nsK hns, ⟨mb, nsK hb, hbb⟩, mc, nsK l1, l2⟩
    have e0 : Env0 P w K mg (hidT s1.heap H) callerA [] s1 H :=
      { frames := rfl, mod := md, bs := fun b o e => of_hidT e, bsz := Nat.le_of_eq (hidT_size _ _), funs := trivial, frf := fun b hb => (by cases hb), hok := hok, bare := .of_eq hgen }
    have run := (F _ KB (nsK hns)).runG callerA [] s1 H ⟨[.ref a], []⟩ [.ref a] [.ref a] _ _ rfl hr e0 (hbind s1 (.ref a)) (.cons rfl .nil) (hsp H hO hS)
    refine codeAny_mono run ?_
    rintro (e | _ | _ | _ | u) s' hh
    all_goals first
      | exact (hCX H e s' hh).elim
      | exact False.elim hh
      | skip
    obtain ⟨v, H', os, bare, un, hok', r', q⟩ := hh
    obtain rfl : v = .bl true := q
    obtain rfl : u = Value.bool true := r'
    refine ⟨rfl, OldK.of_keep fun b o e => ?_, os, bare⟩
    rcases hO b with z | ⟨ob, xs, z⟩
    · exact un.keep b o e z (fun y => by cases y) (fun y => by cases y)
    · have g1 := (hok b _ z).1
      have g2 := (hok' b _ (un.frzs b ob _ z)).1
      rw [e] at g1
      cases g1
      exact g2
  have hv : (ns.map V.int).length ≤ sizeLine := by rw [List.length_map]; exact hl
  rcases Option.eq_none_or_eq_some (K.lookup a) with kn | ⟨o, kn⟩
  · refine core (fun b => if b = a then some (.frz { cls := .type "list", data := .seq vs.toArray } (.lst (ns.map V.int))) else none) ?_ (.inl (.inr ⟨_, if_pos rfl⟩)) ?_ ?_
    · intro b
      by_cases hb : b = a
      · exact .inr ⟨_, _, if_pos hb⟩
      · exact .inl (if_neg hb)
    · intro b u z
      by_cases hb : b = a
      · subst hb
        have z' := (if_pos rfl).symm.trans z
        cases z'
        exact ⟨ha, hv, vs, _, rv, ha⟩
      · have z' := (if_neg hb).symm.trans z
        cases z'
    · intro b z
      by_cases hb : b = a
      · exact ⟨hb, kn⟩
      · exact absurd (if_neg hb) z
  · have e := KX a o kn
    rw [ha] at e
    cases e
    refine core (fun _ => none) (fun _ => .inl rfl) (.inr ⟨_, vs.toArray, _, kn, rfl, rfl, rfl, ?_, by simpa using rv⟩) (fun b u z => by cases z) (fun b z => absurd rfl z)
    rw [List.size_toArray, hi.length]
    exact hl
theorem walk_G {l : PySem.W.OpenLaw} {n k : Nat} {q : Program} {loose : List Str} {XP : (Str → Option Value) → Heap → Prop} {YP : World → Heap → Prop} {d : DefRec} {K : Params → PySem.W.Frag} {CX : World → CXT} {sp : World → Sp} {x : Str}
    (hn : l.most = some n) (hn2 : n ≤ sizeLine) (hdf : d.params.defaults = []) (hr : Room k callerA) (hY : ∀ (w : World) (h : Heap), YP w h → (K w.params).In h)
    (F : ∀ (w : World) (mg : Str → Option Value) (fa : Addr) (h : Heap), (K w.params).In h → h.Ns mainGlobals mg → mg d.name = some (.ref fa) →
      ∃ fd : FuncData, (∀ (s : Shared) (u : Value), BindsTo s fd ⟨[u], []⟩ [(x, u)]) ∧ ∀ base : Heap, (K w.params).In base → base.Ns mainGlobals mg → FnG l.prog w (K w.params) mg base (CX w) k fa fd [x] (sp w))
    (hsp : ∀ (w : World) (H : Hp) (a : Addr) (ns : List Int), ns.length ≤ n → Only H → SqL (K w.params) H a (ns.map V.int) → sp w [.ref a] H (fun v _ => v = .bl true) fun _ _ _ => False)
    (hCX : ∀ (w : World) (H : Hp) (s : Shared) (e : Value) (s' : Shared), CX w [] H s (fun _ _ _ => False) e s' → False) :
    PySem.W.WalkO q loose XP YP l.row.toRowW d [] (fun f vs => PySem.call f vs) := by
  apply Att.attach_call hn hdf
  intro w s0 s1 mg mb fa o pm cd doc a vs ns G Y _ _ _ hmg hobj hints hlen hgen
  obtain ⟨fd, hb, hF⟩ := F w mg fa _ (hY w _ Y) G.T.g hmg
  exact law_callG (hY w _ Y) G.T.g G.T.b G.T.builtins G.T.nolimit hgen hobj hints (Nat.le_trans hlen hn2) hr hF hb (fun H => hsp w H a ns hlen) fun H e s' => hCX w H s1 e s'
end Own

set_option Elab.async false
set_option linter.all false
set_option maxRecDepth 100000
set_option maxHeartbeats 4000000
namespace Mth
/-! the earliest places of a part in a word (w: the rest of the word from o on) -/
def emb : List Nat → List Nat → Nat → List Nat
  | [], _, _ => []
  | _ :: _, [], _ => []
  | c :: p, x :: w, o => if x = c then o :: emb p w (o + 1) else emb (c :: p) w (o + 1)
theorem emb_nil (w : List Nat) (o : Nat) : emb [] w o = [] := by cases w <;> rfl
theorem emb_none' : ∀ (p : List Nat) (o : Nat), emb p [] o = []
  | [], _ => rfl
  | _ :: _, _ => rfl
theorem emb_yes {c : Nat} {p w : List Nat} {o : Nat} : emb (c :: p) (c :: w) o = o :: emb p w (o + 1) := by
  rw [emb, if_pos rfl]
theorem emb_no {c x : Nat} {p w : List Nat} {o : Nat} (h : x ≠ c) : emb (c :: p) (x :: w) o = emb (c :: p) w (o + 1) := by
  rw [emb, if_neg h]
theorem emb_le : ∀ (w p : List Nat) (o : Nat), (emb p w o).length ≤ p.length
  | [], p, o => by rw [emb_none']; exact Nat.zero_le _
  | x :: w, [], o => by rw [emb_nil]; exact Nat.zero_le _
  | x :: w, c :: p, o => by
    by_cases h : x = c
    · subst h
      rw [emb_yes]
      have := emb_le w p (o + 1)
      simp only [List.length_cons]
      omega
    · rw [emb_no h]
      exact emb_le w (c :: p) (o + 1)
theorem emb_skip (c : Nat) (p : List Nat) (w : List Nat) : ∀ (n o : Nat), (∀ v, o ≤ v → v < o + n → w[v]? ≠ some c) → o + n ≤ w.length → emb (c :: p) (w.drop o) o = emb (c :: p) (w.drop (o + n)) (o + n)
  | 0, o, _, _ => rfl
  | n + 1, o, h, hl => by
    have ho : o < w.length := by omega
    rw [List.drop_eq_getElem_cons ho, emb_no (by
      have := h o (Nat.le_refl _) (by omega)
      rw [List.getElem?_eq_getElem ho] at this
      exact fun e => this (by rw [e])), emb_skip c p w n (o + 1) (fun v h1 h2 => h v (by omega) (by omega)) (by omega)]
    rw [show o + 1 + n = o + (n + 1) by omega]
theorem emb_step {c : Nat} {p w : List Nat} {o k : Nat} (hk : w[k]? = some c) (hok : o ≤ k) (hn : ∀ v, o ≤ v → v < k → w[v]? ≠ some c) : emb (c :: p) (w.drop o) o = k :: emb p (w.drop (k + 1)) (k + 1) := by
  have hl : k < w.length := by
    rcases Nat.lt_or_ge k w.length with h | h
    · exact h
    · rw [List.getElem?_eq_none h] at hk; cases hk
  rw [emb_skip c p w (k - o) o (fun v h1 h2 => hn v h1 (by omega)) (by omega), show o + (k - o) = k by omega, List.drop_eq_getElem_cons hl]
  rw [List.getElem?_eq_getElem hl] at hk
  rw [Option.some.inj hk, emb_yes]
theorem emb_stop {c : Nat} {p w : List Nat} {o : Nat} (hn : ∀ v, o ≤ v → w[v]? ≠ some c) : emb (c :: p) (w.drop o) o = [] := by
  rcases Nat.lt_or_ge o w.length with h | h
  · rw [emb_skip c p w (w.length - o) o (fun v h1 _ => hn v h1) (by omega), show o + (w.length - o) = w.length by omega, List.drop_length, emb_none']
  · rw [List.drop_of_length_le h, emb_none']
theorem emb_take : ∀ (w p : List Nat) (o k : Nat), emb (p.take k) w o = (emb p w o).take k
  | [], p, o, k => by rw [emb_none', emb_none', List.take_nil]
  | x :: w, [], o, k => by rw [List.take_nil, emb_nil, List.take_nil]
  | x :: w, c :: p, o, 0 => by rw [List.take_zero, List.take_zero, emb_nil]
  | x :: w, c :: p, o, k + 1 => by
    rw [List.take_succ_cons]
    by_cases h : x = c
    · subst h
      rw [emb_yes, emb_yes, List.take_succ_cons, emb_take w p (o + 1) k]
    · rw [emb_no h, emb_no h, ← List.take_succ_cons, emb_take w (c :: p) (o + 1) (k + 1)]
/-! ascending places -/
def Asc : Nat → Nat → List Nat → Prop
  | _, _, [] => True
  | lo, hi, j :: r => lo ≤ j ∧ j < hi ∧ Asc (j + 1) hi r
theorem Asc.lower : ∀ {l : List Nat} {lo lo' hi : Nat}, Asc lo hi l → lo' ≤ lo → Asc lo' hi l
  | [], _, _, _, _, _ => trivial
  | _ :: _, _, _, _, ⟨h1, h2, h3⟩, h => ⟨Nat.le_trans h h1, h2, h3⟩
theorem Asc.mem : ∀ {l : List Nat} {lo hi j : Nat}, Asc lo hi l → j ∈ l → lo ≤ j ∧ j < hi
  | [], _, _, _, _, h => by cases h
  | i :: r, lo, hi, j, ⟨h1, h2, h3⟩, h => by
    rcases List.mem_cons.mp h with e | e
    · subst e; exact ⟨h1, h2⟩
    · have := Asc.mem h3 e
      exact ⟨by omega, this.2⟩
theorem emb_asc : ∀ (w p : List Nat) (o : Nat), Asc o (o + w.length) (emb p w o)
  | [], p, o => by rw [emb_none']; trivial
  | x :: w, [], o => by rw [emb_nil]; trivial
  | x :: w, c :: p, o => by
    have e : o + (x :: w).length = o + 1 + w.length := by simp only [List.length_cons]; omega
    by_cases h : x = c
    · subst h
      rw [emb_yes, e]
      exact ⟨Nat.le_refl _, by omega, emb_asc w p (o + 1)⟩
    · rw [emb_no h, e]
      exact (emb_asc w (c :: p) (o + 1)).lower (by omega)
theorem getD_cons {x : Nat} {w : List Nat} {j o : Nat} (h : o + 1 ≤ j) : (x :: w).getD (j - o) 0 = w.getD (j - (o + 1)) 0 := by
  rw [show j - o = (j - (o + 1)) + 1 by omega]
  rfl
theorem emb_reads : ∀ (w p : List Nat) (o : Nat), (emb p w o).map (fun j => w.getD (j - o) 0) = p.take (emb p w o).length
  | [], p, o => by rw [emb_none']; rfl
  | x :: w, [], o => by rw [emb_nil]; rfl
  | x :: w, c :: p, o => by
    by_cases h : x = c
    · subst h
      rw [emb_yes, List.map_cons, List.length_cons, List.take_succ_cons, ← emb_reads w p (o + 1)]
      congr 1
      · rw [Nat.sub_self]; rfl
      · refine List.map_congr_left fun j hj => ?_
        exact getD_cons ((emb_asc w p (o + 1)).mem hj).1
    · rw [emb_no h, ← emb_reads w (c :: p) (o + 1)]
      refine List.map_congr_left fun j hj => ?_
      exact getD_cons ((emb_asc w (c :: p) (o + 1)).mem hj).1
/-! place by place no greater -/
def Leq : List Nat → List Nat → Prop
  | [], [] => True
  | a :: l, b :: m => a ≤ b ∧ Leq l m
  | _, _ => False
theorem emb_least : ∀ (w p c : List Nat) (o : Nat), Asc o (o + w.length) c → c.map (fun j => w.getD (j - o) 0) = p → Leq (emb p w o) c
  | [], p, [], o, _, e => by subst e; trivial
  | [], p, j :: c, o, ⟨h1, h2, _⟩, _ => by simp only [List.length_nil] at h2; omega
  | x :: w, p, [], o, _, e => by subst e; rw [List.map_nil, emb_nil]; trivial
  | x :: w, p, j :: c, o, ⟨h1, h2, h3⟩, e => by
    have el : o + (x :: w).length = o + 1 + w.length := by simp only [List.length_cons]; omega
    rw [el] at h2 h3
    rw [List.map_cons] at e
    by_cases h : o + 1 ≤ j
    · have e2 : (j :: c).map (fun i => w.getD (i - (o + 1)) 0) = p := by
        rw [← e, List.map_cons, getD_cons h]
        congr 1
        refine List.map_congr_left fun i hi => ?_
        exact (getD_cons (by have := (h3.mem hi).1; omega)).symm
      have ih := emb_least w p (j :: c) (o + 1) ⟨h, h2, h3⟩ e2
      subst e
      by_cases hx : x = (x :: w).getD (j - o) 0
      · rw [← hx, emb_yes]
        refine ⟨h1, ?_⟩
        refine emb_least w _ c (o + 1) (h3.lower (by omega)) ?_
        refine List.map_congr_left fun i hi => ?_
        exact (getD_cons (by have := (h3.mem hi).1; omega)).symm
      · rw [emb_no hx]
        exact ih
    · have hj : j = o := by omega
      subst hj
      rw [Nat.sub_self] at e
      have e0 : (x :: w).getD 0 0 = x := rfl
      rw [e0] at e
      subst e
      rw [emb_yes]
      refine ⟨Nat.le_refl _, emb_least w _ c (j + 1) h3 ?_⟩
      refine List.map_congr_left fun i hi => ?_
      exact (getD_cons ((h3.mem hi).1)).symm
theorem Leq.len : ∀ {l m : List Nat}, Leq l m → l.length = m.length
  | [], [], _ => rfl
  | _ :: _, _ :: _, ⟨_, h⟩ => by rw [List.length_cons, List.length_cons, Leq.len h]
  | [], _ :: _, h => h.elim
  | _ :: _, [], h => h.elim
/-! all choices of places, as the law lists them -/
def least (c : List Nat) : Nat := match c.getLast? with | some j => j + 1 | none => 0
def ext (size : Nat) (c : List Nat) : List (List Nat) := (List.range' (least c) (size - least c)).map fun j => c ++ [j]
def ch (size : Nat) : Nat → List (List Nat)
  | 0 => [[]]
  | m + 1 => (ch size m).flatMap (ext size)
theorem ch_small : ∀ size < 9, ∀ m < 10, (ch size m).length ≤ 70 := by decide +kernel
theorem asc_snoc : ∀ {c : List Nat} {lo hi x : Nat}, Asc lo hi (c ++ [x]) ↔ Asc lo hi c ∧ (match c.getLast? with | some j => j + 1 | none => lo) ≤ x ∧ x < hi
  | [], lo, hi, x => by simp [Asc]
  | [j], lo, hi, x => by simp [Asc]; omega
  | j :: i :: r, lo, hi, x => by
    have ih := asc_snoc (c := i :: r) (lo := j + 1) (hi := hi) (x := x)
    have e : (j :: i :: r).getLast? = (i :: r).getLast? := List.getLast?_cons_cons
    have e2 : (i :: r).getLast? ≠ none := by simp
    rw [e]
    cases q : (i :: r).getLast? with
    | none => exact absurd q e2
    | some y =>
      rw [q] at ih
      show lo ≤ j ∧ j < hi ∧ Asc (j + 1) hi ((i :: r) ++ [x]) ↔ _
      rw [ih]
      show _ ↔ (lo ≤ j ∧ j < hi ∧ Asc (j + 1) hi (i :: r)) ∧ _
      constructor
      · rintro ⟨a, b, c, d, e⟩; exact ⟨⟨a, b, c⟩, d, e⟩
      · rintro ⟨⟨a, b, c⟩, d, e⟩; exact ⟨a, b, c, d, e⟩
theorem mem_ch (size : Nat) : ∀ (m : Nat) (c : List Nat), c ∈ ch size m ↔ c.length = m ∧ Asc 0 size c
  | 0, c => by
    rw [ch, List.mem_singleton]
    constructor
    · rintro rfl; exact ⟨rfl, trivial⟩
    · rintro ⟨h, _⟩; exact List.length_eq_zero_iff.mp h
  | m + 1, c => by
    rw [ch, List.mem_flatMap]
    constructor
    · rintro ⟨d, hd, hc⟩
      obtain ⟨h1, h2⟩ := (mem_ch size m d).mp hd
      obtain ⟨j, hj, rfl⟩ := List.mem_map.mp hc
      rw [List.mem_range'_1] at hj
      refine ⟨by simp [h1], asc_snoc.mpr ⟨h2, ?_, by omega⟩⟩
      exact hj.1
    · rintro ⟨h1, h2⟩
      have hne : c ≠ [] := by rintro rfl; cases h1
      have hc : c = c.dropLast ++ [c.getLast hne] := (List.dropLast_concat_getLast hne).symm
      rw [hc] at h2
      obtain ⟨a1, a2, a3⟩ := asc_snoc.mp h2
      refine ⟨c.dropLast, (mem_ch size m _).mpr ⟨by simp [h1], a1⟩, ?_⟩
      refine List.mem_map.mpr ⟨c.getLast hne, ?_, hc.symm⟩
      rw [List.mem_range'_1]
      exact ⟨a2, by have : least c.dropLast ≤ c.getLast hne := a2
                    omega⟩
/-! which of them read the part, and the least of these -/
def rdOf (w c : List Nat) : List Nat := c.map fun j => w.getD j 0
def fnd (p w : List Nat) : List (List Nat) := (ch w.length p.length).filter fun c => decide (rdOf w c = p)
def due (p w : List Nat) : Option (List Nat) := if (emb p w 0).length = p.length then some (emb p w 0) else none
theorem mem_fnd {p w c : List Nat} : c ∈ fnd p w ↔ Asc 0 w.length c ∧ rdOf w c = p := by
  unfold fnd
  rw [List.mem_filter, mem_ch, decide_eq_true_iff]
  constructor
  · rintro ⟨⟨_, h⟩, e⟩; exact ⟨h, e⟩
  · rintro ⟨h, e⟩
    refine ⟨⟨?_, h⟩, e⟩
    rw [← e]; simp [rdOf]
theorem emb_in_fnd {p w : List Nat} (h : (emb p w 0).length = p.length) : emb p w 0 ∈ fnd p w := by
  refine mem_fnd.mpr ⟨by have := emb_asc w p 0; rw [Nat.zero_add] at this; exact this, ?_⟩
  have := emb_reads w p 0
  rw [h, List.take_length] at this
  exact this
theorem fnd_leq {p w c : List Nat} (h : c ∈ fnd p w) : Leq (emb p w 0) c := by
  obtain ⟨h1, h2⟩ := mem_fnd.mp h
  exact emb_least w p c 0 (by rw [Nat.zero_add]; exact h1) h2
theorem fnd_nil {p w : List Nat} (h : (emb p w 0).length ≠ p.length) : fnd p w = [] := by
  cases q : fnd p w with
  | nil => rfl
  | cons c r =>
    have hc : c ∈ fnd p w := by rw [q]; exact List.mem_cons_self ..
    have e1 := (fnd_leq hc).len
    have e2 := (mem_fnd.mp hc).2
    exact absurd (by rw [e1, ← e2]; simp [rdOf]) h
theorem due_take {p w : List Nat} {k : Nat} (hk : k ≤ p.length) : (due (p.take k) w).isSome = decide (k ≤ (emb p w 0).length) := by
  unfold due
  rw [emb_take, List.length_take, List.length_take]
  have := emb_le w p 0
  by_cases h : k ≤ (emb p w 0).length
  · rw [if_pos (by omega), decide_eq_true h]; rfl
  · rw [if_neg (by omega), decide_eq_false h]; rfl
theorem emb_self : ∀ (w : List Nat) (o : Nat), emb w w o = List.range' o w.length
  | [], _ => rfl
  | x :: w, o => by rw [emb_yes, emb_self w (o + 1)]; rfl
end Mth

set_option Elab.async false
set_option linter.all false
set_option maxRecDepth 100000
set_option maxHeartbeats 4000000
namespace Mth
open PySem PySem.Spec PyProof.Rows L2
/-! data: lists of places, lists of signs -/
def iL (l : List Nat) : PyData := .list (l.map fun j => PyData.int (j : Nat))
def sL (l : List Nat) : PyData := .list (l.map fun c => PyData.str ⟨#[c]⟩)
theorem toks_leq : ∀ {g y : List Nat}, Leq g y → PyProof.Rows.lexLt PyProof.Rows.itemOrd (PySem.W.keyToksAll (y.map fun j => PyData.int (j : Nat))) (PySem.W.keyToksAll (g.map fun j => PyData.int (j : Nat))) = false ∧
    (g ≠ y → PyProof.Rows.lexLt PyProof.Rows.itemOrd (PySem.W.keyToksAll (g.map fun j => PyData.int (j : Nat))) (PySem.W.keyToksAll (y.map fun j => PyData.int (j : Nat))) = true)
  | [], [], _ => ⟨by decide +kernel, fun h => absurd rfl h⟩
  | a :: g, b :: y, ⟨h, r⟩ => by
    obtain ⟨i1, i2⟩ := toks_leq r
    rw [List.map_cons, List.map_cons]
    by_cases e : a = b
    · subst e
      have eq : PyData.eqv (.int (a : Nat)) (.int (a : Nat)) = true := by simp [PyData.eqv]
      rw [PySem.W.dataLt_all_yes rfl eq, PySem.W.dataLt_all_yes rfl eq]
      exact ⟨i1, fun hne => i2 fun z => hne (by rw [z])⟩
    · have e1 : PyData.eqv (.int (a : Nat)) (.int (b : Nat)) = false := by simp [PyData.eqv]; omega
      have e2 : PyData.eqv (.int (b : Nat)) (.int (a : Nat)) = false := by simp [PyData.eqv]; omega
      rw [PySem.W.dataLt_all_no rfl e1, PySem.W.dataLt_all_no rfl e2, PySem.W.dataLt_int, PySem.W.dataLt_int]
      exact ⟨decide_eq_false (by omega), fun _ => decide_eq_true (by omega)⟩
theorem lt_leq {g y : List Nat} (h : Leq g y) : PySem.W.dataLt (iL y) (iL g) = false ∧ (g ≠ y → PySem.W.dataLt (iL g) (iL y) = true) := by
  unfold iL
  rw [PySem.W.dataLt_list, PySem.W.dataLt_list]
  exact toks_leq h
theorem minD_eq {g : PyData} : ∀ (ds : List PyData) (x : PyData), g ∈ x :: ds → (∀ y ∈ x :: ds, PySem.W.dataLt y g = false) → (∀ a ∈ x :: ds, a ≠ g → PySem.W.dataLt g a = true) → PySem.W.minD x ds = g
  | [], x, h, _, _ => by
    rcases List.mem_cons.mp h with e | e
    · exact e.symm
    · cases e
  | d :: ds, x, h, h1, h2 => by
    show PySem.W.minD (if PySem.W.dataLt d x then d else x) ds = g
    have sub : ∀ y ∈ (if PySem.W.dataLt d x then d else x) :: ds, y ∈ x :: d :: ds := by
      intro y hy
      rcases List.mem_cons.mp hy with e | e
      · subst e
        split
        · exact List.mem_cons_of_mem _ (List.mem_cons_self ..)
        · exact List.mem_cons_self ..
      · exact List.mem_cons_of_mem _ (List.mem_cons_of_mem _ e)
    refine minD_eq ds _ ?_ (fun y hy => h1 y (sub y hy)) (fun a ha => h2 a (sub a ha))
    rcases List.mem_cons.mp h with e | e
    · subst e
      rw [if_neg (by rw [h1 d (by simp)]; exact Bool.false_ne_true)]
      exact List.mem_cons_self ..
    · rcases List.mem_cons.mp e with e | e
      · subst e
        by_cases hx : x = g
        · subst hx; split <;> exact List.mem_cons_self ..
        · rw [if_pos (h2 x (by simp) hx)]
          exact List.mem_cons_self ..
      · exact List.mem_cons_of_mem _ e
theorem ints_inj {l m : List Nat} (h : iL l = iL m) : l = m := by
  unfold iL at h
  have h' := PyData.list.inj h
  have : ∀ (l m : List Nat), l.map (fun j => PyData.int (j : Nat)) = m.map (fun j => PyData.int (j : Nat)) → l = m := by
    intro l
    induction l with
    | nil => intro m e; cases m with
      | nil => rfl
      | cons _ _ => simp at e
    | cons a l ih => intro m e; cases m with
      | nil => simp at e
      | cons b m =>
        rw [List.map_cons, List.map_cons] at e
        injection e with e1 e2
        injection e1 with e1
        rw [ih m e2, show a = b by omega]
  exact this l m h'
theorem min_due {p w : List Nat} {x : List Nat} {r : List (List Nat)} (h : fnd p w = x :: r) : PySem.W.minD (iL x) (r.map iL) = iL (emb p w 0) ∧ due p w = some (emb p w 0) := by
  have ne : (emb p w 0).length = p.length := by
    rcases Decidable.em ((emb p w 0).length = p.length) with e | e
    · exact e
    · rw [fnd_nil e] at h; cases h
  refine ⟨?_, by unfold due; rw [if_pos ne]⟩
  have mm : ∀ y ∈ iL x :: r.map iL, ∃ c ∈ fnd p w, y = iL c := by
    intro y hy
    rw [← List.map_cons, List.mem_map] at hy
    obtain ⟨c, hc, rfl⟩ := hy
    exact ⟨c, by rw [h]; exact hc, rfl⟩
  refine minD_eq _ _ ?_ (fun y hy => ?_) fun a ha hne => ?_
  · rw [← List.map_cons, ← h]
    exact List.mem_map.mpr ⟨_, emb_in_fnd ne, rfl⟩
  · obtain ⟨c, hc, rfl⟩ := mm y hy
    exact (lt_leq (fnd_leq hc)).1
  · obtain ⟨c, hc, rfl⟩ := mm a ha
    exact (lt_leq (fnd_leq hc)).2 fun e => hne (by rw [e])
theorem due_none {p w : List Nat} (h : fnd p w = []) : due p w = none := by
  unfold due
  rw [if_neg]
  intro e
  have := emb_in_fnd e
  rw [h] at this
  cases this
theorem depth_ints : ∀ l : List Nat, PyData.depthAll (l.map fun j => PyData.int (j : Nat)) = 0
  | [] => rfl
  | a :: l => by rw [List.map_cons, PyData.depthAll, depth_ints l]; rfl
theorem depth_sgs : ∀ l : List Nat, PyData.depthAll (l.map fun c => PyData.str ⟨#[c]⟩) = 0
  | [] => rfl
  | a :: l => by rw [List.map_cons, PyData.depthAll, depth_sgs l]; rfl
theorem depth_lists : ∀ ls : List (List Nat), PyData.depthAll (ls.map iL) ≤ 1
  | [] => by decide
  | l :: ls => by
    rw [List.map_cons, PyData.depthAll]
    have := depth_lists ls
    have e : (iL l).depth = 1 := by unfold iL; rw [PyData.depth, depth_ints]
    omega
theorem alike_ints : ∀ l m : List Nat, PySem.W.alikeAll (l.map fun j => PyData.int (j : Nat)) (m.map fun j => PyData.int (j : Nat)) = true
  | [], m => by rw [List.map_nil]; unfold PySem.W.alikeAll; cases m <;> rfl
  | a :: l, [] => by rw [List.map_nil, List.map_cons, PySem.W.alikeAll]
  | a :: l, b :: m => by rw [List.map_cons, List.map_cons, PySem.W.alikeAll, alike_ints l m]; rfl
theorem alike_lists (ls : List (List Nat)) : PySem.W.AlikeAll (ls.map iL) := by
  refine ⟨fun x hx y hy => ?_, fun x hx => ?_⟩
  · obtain ⟨l, _, rfl⟩ := List.mem_map.mp hx
    obtain ⟨m, _, rfl⟩ := List.mem_map.mp hy
    unfold iL
    rw [PySem.W.alike]
    exact alike_ints l m
  · obtain ⟨l, _, rfl⟩ := List.mem_map.mp hx
    intro e; cases e
theorem lay_ints : ∀ l : List Nat, PyData.canLayAll0 (l.map fun j => PyData.int (j : Nat)) = true
  | [] => rfl
  | a :: l => by rw [List.map_cons, PyData.canLayAll0, lay_ints l]; rfl
theorem lay_sgs : ∀ l : List Nat, (∀ c ∈ l, c < 1114112) → PyData.canLayAll0 (l.map fun c => PyData.str ⟨#[c]⟩) = true
  | [], _ => rfl
  | a :: l, h => by
    rw [List.map_cons, PyData.canLayAll0, lay_sgs l fun c hc => h c (List.mem_cons_of_mem _ hc), PyData.canLay0]
    have ha : a < 1114112 := h a (List.mem_cons_self ..)
    have : PyData.strOk ⟨#[a]⟩ = true := by
      unfold PyData.strOk
      simp
      exact ha
    rw [this]
    rfl
theorem shaped_ints (l : List Nat) : SeqAt.shaped (iL l) = true := by
  unfold SeqAt.shaped iL
  rw [PyData.canLay0, lay_ints, PyData.depth, depth_ints]
  rfl
theorem shaped_sgs {l : List Nat} (h : ∀ c ∈ l, c < 1114112) : SeqAt.shaped (sL l) = true := by
  unfold SeqAt.shaped sL
  rw [PyData.canLay0, lay_sgs l h, PyData.depth, depth_sgs]
  rfl
theorem lay_lists : ∀ ls : List (List Nat), PyData.canLayAll0 (ls.map iL) = true
  | [] => rfl
  | l :: ls => by
    rw [List.map_cons, PyData.canLayAll0, lay_lists ls]
    unfold iL
    rw [PyData.canLay0, lay_ints]
    rfl
theorem shaped_lists (ls : List (List Nat)) : SeqAt.shaped (.list (ls.map iL)) = true := by
  unfold SeqAt.shaped
  rw [PyData.canLay0, lay_lists, PyData.depth]
  have := depth_lists ls
  rw [Bool.true_and, decide_eq_true_iff]
  omega
theorem eqv_sgs : ∀ l m : List Nat, PyData.eqvAll (l.map fun c => PyData.str ⟨#[c]⟩) (m.map fun c => PyData.str ⟨#[c]⟩) = decide (l = m)
  | [], [] => rfl
  | [], b :: m => rfl
  | a :: l, [] => rfl
  | a :: l, b :: m => by
    rw [List.map_cons, List.map_cons, PyData.eqvAll, eqv_sgs l m, PyData.eqv]
    by_cases e : a = b
    · subst e; simp
    · have : ((⟨#[a]⟩ : Str) == ⟨#[b]⟩) = false := by
        rw [beq_eq_false_iff_ne]
        intro z
        injection z with z
        simp at z
        exact e z
      rw [this]; simp [e]
theorem eqv_ints : ∀ l m : List Nat, PyData.eqvAll (l.map fun j => PyData.int (j : Nat)) (m.map fun j => PyData.int (j : Nat)) = decide (l = m)
  | [], [] => rfl
  | [], b :: m => rfl
  | a :: l, [] => rfl
  | a :: l, b :: m => by
    rw [List.map_cons, List.map_cons, PyData.eqvAll, eqv_ints l m, PyData.eqv]
    by_cases e : a = b
    · subst e; simp
    · have : (((a : Nat) : Int) == ((b : Nat) : Int)) = false := by
        rw [beq_eq_false_iff_ne]; omega
      rw [this]; simp [e]
/-! what is shown -/
theorem show_ints : ∀ l : List Nat, (∀ j ∈ l, j < 10) → PyData.showableAll (l.map fun j => PyData.int (j : Nat)) = true ∧ ((PyData.shownAll (l.map fun j => PyData.int (j : Nat))).map (·.length)).sum = l.length ∧ (PyData.shownAll (l.map fun j => PyData.int (j : Nat))).length = l.length
  | [], _ => ⟨rfl, rfl, rfl⟩
  | a :: l, h => by
    obtain ⟨h1, h2, h3⟩ := show_ints l fun j hj => h j (List.mem_cons_of_mem _ hj)
    have ha : a < 10 := h a (List.mem_cons_self ..)
    have key : ∀ a < 10, (PyData.int ((a : Nat) : Int)).showable = true ∧ (PyData.int ((a : Nat) : Int)).shown.length = 1 := by decide +kernel
    obtain ⟨k1, k2⟩ := key a ha
    rw [List.map_cons, PyData.showableAll, h1, k1, PyData.shownAll, List.map_cons, List.sum_cons, h2, k2, List.length_cons, List.length_cons, h3]
    exact ⟨rfl, by omega, rfl⟩
theorem shown_ints {l : List Nat} (h : ∀ j ∈ l, j < 10) (hl : l.length ≤ 1000) : (iL l).showable = true ∧ (iL l).hasDict = false ∧ (iL l).depth ≤ 60 ∧ (iL l).shown.length ≤ sizeLine := by
  obtain ⟨h1, h2, h3⟩ := show_ints l h
  have nd : ∀ l : List Nat, PyData.hasDictAll (l.map fun j => PyData.int (j : Nat)) = false := by
    intro l
    induction l with
    | nil => rfl
    | cons a l ih => rw [List.map_cons, PyData.hasDictAll, ih]; rfl
  unfold iL
  rw [PyData.showable, h1, PyData.hasDict, nd, PyData.depth, depth_ints, PyData.shown]
  refine ⟨rfl, rfl, by decide, ?_⟩
  have := listText_len_le (PyData.shownAll (l.map fun j => PyData.int (j : Nat)))
  rw [h2, h3] at this
  rw [sizeLine_eq]
  omega
/-! a part of the letters is stripped away -/
theorem strip_all {z b : Str} (h : ∀ c ∈ z.cps.toList, c ∈ b.cps.toList) : Txt.stripChars z b = (⟨#[]⟩ : Str) := by
  unfold Txt.stripChars
  rw [PySem.W.stripBy_eq]
  unfold PySem.W.stripped
  have e : z.cps.toList.takeWhile b.cps.contains = z.cps.toList := by
    have : ∀ l : List Nat, (∀ c ∈ l, c ∈ b.cps.toList) → l.takeWhile b.cps.contains = l := by
      intro l
      induction l with
      | nil => intro _; rfl
      | cons a l ih =>
        intro hl
        have ha : b.cps.contains a = true := by simpa using hl a (List.mem_cons_self ..)
        rw [List.takeWhile_cons_of_pos ha, ih fun c hc => hl c (List.mem_cons_of_mem _ hc)]
    exact this _ h
  simp only [if_true, e]
  rw [Array.length_toList]
  unfold Builtin.Str.strSub
  simp [Str.length]
end Mth

set_option Elab.async false
set_option linter.all false
set_option maxRecDepth 100000
set_option maxHeartbeats 4000000
namespace Exn
open PySem PySem.W PySem.Calls PyProof.Rows PySem.HandSPX
/-! an own error class over any built-in error: def __init__(self, f): self.f = f -/
section
open Builtin Builtin.ObjectAttr
variable {prog : Program} {w : World} {A : Around} {E : Value → Shared → Prop} {R : Result → Shared → Prop} {hp : Heap} {g : Array GenState} {d : Drawn} {t : Nat} {os : OsState} {B : String} {bmB : List Value}
theorem osaB {K : Frag} {name : Str} {tk : Tok} {v : Value} {x C : Addr} {fv : Array Value} {cd : ClassData} (SF : StoreFacts B bmB "object.__setattr__" "object")
    (X : K.In hp) (hx : hp.get? x = some { cls := .ref C, data := .fields fv }) (ho : excOver K C bmB = true) (ht : takerIn K C name = some none) (hcd : clsIn K C = some cd) (hh : cd.hasDict = true)
    (hq : ∀ h' tk' dx, (∀ b o, b ≠ x → hp.get? b = some o → h'.get? b = some o) → hp.objs.size ≤ dx → dx ≠ x → h'.get? x = some { cls := .ref C, dict := some dx, data := .fields fv } → h'.Ns1 dx (fun y => if y = name then some v else none) →
      R (.ok (.ret .none)) ⟨h', g, d, tk', os⟩) : codeAny (model prog w) A (.call (.builtin "object.__setattr__") ⟨[.ref x, .str name tk, v], []⟩) R ⟨hp, g, d, t, os⟩ := by
  have xs : x ≠ hp.objs.size := Nat.ne_of_lt (Heap.lt_size hx)
  have hcls : Looks (model prog w) hp (classData C) cd := looks_clsIn X hcd
  refine osa_openX (s := ⟨hp, g, d, t, os⟩) (ox := { cls := .ref C, data := .fields fv }) (od := none) SF X ⟨hx, rfl, rfl, trivial⟩ ho ht fun b => ?_
  show wpAny _ _ (storeInOwnDict (.ref x) (.ref C) (.str name tk) name v b) _ _ _
  obtain ⟨nm, bs, mro, ns, qn, hd, sn, sb, ab, col, del⟩ := cd
  cases hh
  unfold storeInOwnDict ownDictForStores
  repeat (first | with_reducible refine store_in_new ?_ ?_ | with_reducible refine wpAny_loadPart_at hx ?_ | with_reducible refine hcls.at ?_ | wp_step)
  · exact ⟨_, #[], _, (Heap.get?_update_ne _ _ _ _ xs.symm).trans (Heap.get?_push_at rfl rfl), rfl, fun e he => absurd he (by simp), fun _ => rfl⟩
  · intro h' tk' hn' hs
    refine hq h' tk' hp.objs.size (fun b o hb hob => ?_) (Nat.le_refl _) xs.symm ?_ hn'
    · exact (hs.2 b (Nat.ne_of_lt (Heap.lt_size hob))).trans ((Heap.get?_update_ne _ _ _ _ hb).trans (Heap.get?_push_of_some _ hob))
    · exact (hs.2 x xs).trans (Heap.get?_update_self _ (Heap.get?_push_of_some _ hx) rfl)
end
def iA (f : Str) (p1 p2 : Pos) : Arguments := { posonlyargs := [], args := [{ arg := "self", annotation := none, pos := p1 }, { arg := f, annotation := none, pos := p2 }], vararg := none, kwonlyargs := [], kw_defaults := [], kwarg := none, defaults := [] }
def iB (f : Str) (q1 q2 q3 q4 : Pos) : List Stmt := [.Assign [.Attribute (.Name "self" q1) f q2] (.Name f q3) q4]
def iS (f : Str) (m : List (Str × Const)) : Scope := { kind := .function, names := [("self", .local), (f, .local)], isGenerator := false, isCoroutine := false, more := m }
end Exn

set_option Elab.async false
set_option linter.all false
set_option maxRecDepth 100000
set_option maxHeartbeats 4000000
namespace Exn
open PySem PySem.W PySem.Calls PyProof.Rows PySem.HandSPX
abbrev keyTail : List Value := [.type "KeyError", .type "LookupError", .type "Exception", .type "BaseException", .type "object"]
open PySem.F in
theorem storeKey : StoreFacts "KeyError" keyTail "object.__setattr__" "object" :=
  { mro := by kernel_rfl, slot := .of (owner := "object") (n := "__setattr__") (by rw [typeLookup_type, builtinLookup_eq_fast]; kernel_rfl) (by decide +kernel) (by decide +kernel) (by decide +kernel) (by first | exact .inl (by decide +kernel) | exact .inr (by decide +kernel)) (by rw [isSubtype_type]; kernel_rfl),
    entry := entry_object_sa, kind := by decide +kernel, split := by decide +kernel, hasOwner := by decide +kernel, args := fun a b c => by unfold argsOk; kernel_rfl, passes := fun self => by kernel_rfl }
/-! such a class called, by position or with keywords; the maker may be that of a base -/
section
variable {prog : Program} {w : World} {M : Model} {A : Around} {E : Value → Shared → Prop} {R : Result → Shared → Prop} {h : Heap} {g : Array GenState} {d : Drawn} {t : Nat} {os : OsState}
variable {nm q : Str} {C N : Addr} {bs bm bm0 : List Value} {hdct : Bool} {sn : List Str} {sub : List Value} {ab : Bool} {col : Option Bool} {dd : Option Addr} {k0 k1 k2 k3 k5 : Option Value} {B newId initId : String} {rest : List Value} {kw : List (Str × Value)}
/-- what the class's chain must say of the maker -/
structure Chain (bm : List Value) (B : String) : Prop where
  cB : bm.contains (.type B) = true
  cA : bm.contains (.type "AttributeError") = false
  cN : bm.contains (.type "NameError") = false
theorem checkNewX (F : ExcBaseFacts B newId initId bm0) (hT : Chain bm B) {Q : Unit → Shared → Prop}
    (hC : h.get? C = some (excClassObj nm q C N bs bm hdct sn sub ab col dd k0 k1 k2 k3 k5 newId)) (hq : Q () ⟨h, g, d, t, os⟩) : wpAny M A (checkBuiltinCall newId ⟨.ref C :: rest, kw⟩) Q E ⟨h, g, d, t, os⟩ := by
  have hcB : (Value.ref C :: bm).contains (.type B) = true := by rw [List.contains_cons, hT.cB, Bool.or_true]
  have hst := F.noStar
  simp only [checkBuiltinCall, F.newKind, F.newSplit, F.newRow]
  repeat (first | refine wpAny_loadPart_at hC ?_ | (refine wpAny_isSubtype_exc hC ?_; rw [hcB]) | refine wpAny_staticBase_exc hC ?_ | refine wpAny_madeBy_exc hC ?_ | simp only [bne_self_eq_false, Bool.false_eq_true, if_false] | wp_step)
  exact hq
theorem newX (F : ExcBaseFacts B newId initId bm0) (hT : Chain bm B) (hC : h.get? C = some (excClassObj nm q C N bs bm hdct sn sub ab col dd k0 k1 k2 k3 k5 newId)) (hrest : rest.length ≤ sizeLine)
    (hq : R (.ok (.ret (.ref (h.objs.size + 1)))) ⟨(h.push (W.kdv_tup rest)).push (excO C h.objs.size), g, d, t, os⟩) :
    codeAny (model prog w) A (.builtin newId ⟨.ref C :: rest, kw⟩) R ⟨h, g, d, t, os⟩ := by
  have hends := F.ends
  have cB : (Value.ref C :: bm).contains (.type B) = true := by rw [List.contains_cons, hT.cB, Bool.or_true]
  have cA : (Value.ref C :: bm).contains (.type "AttributeError") = false := by rw [List.contains_cons, hT.cA]; rfl
  have cN : (Value.ref C :: bm).contains (.type "NameError") = false := by rw [List.contains_cons, hT.cN]; rfl
  refine codeAny_builtinAt F.entry ?_
  unfold Builtin.«BaseException.__new__»
  refine PySem.wpAt_bind ?_
  show PySem.wpAt _ _ _ (stack >>= _) _ _ _
  refine PySem.wpAt_bind (PySem.wpAt_stack fun p below => PySem.wpAt_of_wpAny ?_)
  wp_walk
  refine PySem.wpAt_of_wpAny ?_
  rw [F.owner]
  repeat (first | with_reducible refine wpAny_madeHere_exc F.canon hC ?_ | with_reducible refine wpAny_loadPart_at hC ?_ | (with_reducible refine wpAny_isSubtype_exc hC ?_; first | rw [cB] | rw [cA] | rw [cN]) | wp_step)
  show R _ _
  rw [Heap.size_push]
  exact hq
theorem typeCallX (F : ExcBaseFacts B newId initId bm0) (hT : Chain bm B) {fI : Addr} {Q : Fin → Shared → Prop} (hC : h.get? C = some (excClassObj nm q C N bs bm hdct sn sub ab col dd k0 k1 k2 k3 k5 newId))
    (hi : W.Looks (model prog w) h (typeLookup (.ref C) "__init__") (some (.ref fI))) (hb : ∀ self, W.Looks (model prog w) h (bindSpecial (.ref fI) self) (.ref fI, [self])) (hrest : rest.length ≤ sizeLine)
    (hq : codeAny (model prog w) A (.call (.ref fI) ⟨.ref (h.objs.size + 1) :: rest, kw⟩) (fun r s' => match r with | .ok (.ret v) => v = .none ∧ Q (.done (.ret (.ref (h.objs.size + 1)))) s' | .ok _ => False | .error e => E e s')
      ⟨(h.push (W.kdv_tup rest)).push (excO C h.objs.size), g, d, t, os⟩) : wpAny (model prog w) A (Builtin.«type.__call__» ⟨.ref C :: rest, kw⟩) Q E ⟨h, g, d, t, os⟩ := by
  repeat (first | with_reducible refine wpAny_loadPart_at hC ?_ | with_reducible refine wpAny_madeBy_exc hC ?_ | wp_step)
  refine codeAny_call_builtin_code (Code.quiet_builtin _ F.quiet) (checkNewX F hT hC (newX F hT hC hrest ?_))
  show wpAny _ _ _ _ _ _
  have k : ∀ b o, h.get? b = some o → ((h.push (W.kdv_tup rest)).push (excO C h.objs.size)).get? b = some o := fun b o e => Heap.get?_push_of_some _ (Heap.get?_push_of_some _ e)
  have hC1 := k _ _ hC
  have hge : ((h.push (W.kdv_tup rest)).push (excO C h.objs.size)).get? (h.objs.size + 1) = some (excO C h.objs.size) := by heap_get
  have cC : (Value.ref C :: bm).contains (.ref C) = true := by simp
  have i1 := hi.keeps k
  have b1 := (hb (.ref (h.objs.size + 1))).keeps k
  unfold isInstance
  repeat (first | with_reducible refine wpAny_loadPart_at hge ?_ | (with_reducible refine wpAny_isSubtype_exc hC1 ?_; rw [cC]) | wp_step)
  show wpAny _ _ (typeLookup (.ref C) _) _ _ _
  refine i1.at (wpAny_holding (wpAny_bind (b1.at (wpAny_bind (wpAny_call (codeAny_mono hq fun r s' z => ?_))))))
  rcases r with e | (v | _ | _ | _) <;> first | exact z | exact z.elim | skip
  obtain ⟨rfl, z⟩ := z
  first | exact wpAny_pure (wpAny_pure z) | (wp_walk; exact z)
theorem callX (F : ExcBaseFacts B newId initId bm0) (hT : Chain bm B) {fI : Addr} (hC : h.get? C = some (excClassObj nm q C N bs bm hdct sn sub ab col dd k0 k1 k2 k3 k5 newId))
    (hi : W.Looks (model prog w) h (typeLookup (.ref C) "__init__") (some (.ref fI))) (hb : ∀ self, W.Looks (model prog w) h (bindSpecial (.ref fI) self) (.ref fI, [self])) (hrest : rest.length ≤ sizeLine)
    (hq : codeAny (model prog w) (A.under (.builtin "type.__call__" ⟨.ref C :: rest, kw⟩)) (.call (.ref fI) ⟨.ref (h.objs.size + 1) :: rest, kw⟩) (W.InitBack (h.objs.size + 1) R)
      ⟨(h.push (W.kdv_tup rest)).push (excO C h.objs.size), g, d, t, os⟩) : codeAny (model prog w) A (.call (.ref C) ⟨rest, kw⟩) R ⟨h, g, d, t, os⟩ := by
  have f1 := tc_lookup
  have f2 := tc_bind (.ref C)
  have hTy : (⟨h, g, d, t, os⟩ : Shared).TypeIs (.ref C) "type" := ⟨_, hC, rfl⟩
  refine codeAny_of_tree ?_
  show wpAny _ _ (callAny (.ref C) _) _ _ _
  repeat (any_goals (first | assumption | with_reducible refine wpAny_loadPart_at hC ?_ | wp_step))
  refine ⟨rfl, codeAny_call_builtin_at (Code.quiet_builtin _ (by decide +kernel)) entry_typeCall (wpAny_check_type_call_sub hC (typeCallX F hT hC hi hb hrest ?_))⟩
  exact codeAny_mono hq fun r s' z => by rcases r with e | (v | _ | _ | _) <;> exact z
end
end Exn

set_option Elab.async false
set_option linter.all false
set_option maxRecDepth 100000
set_option maxHeartbeats 4000000
namespace Exn
open PySem PySem.Spec PyProof.Rows L2
/-! an own error held as a value: at a, of the class at C, its dict at d -/
def ExV (C d a : Addr) : HO := .ext fun h => ∃ t1 : Addr, h.get? a = some { cls := .ref C, dict := some d, data := .fields #[.ref t1, .none, .none, .none, .bool false, .none] }
theorem exV_ok {P : Program} {w : World} {H : Hp} {h : Heap} {a C d t1 : Addr} (e : h.get? a = some { cls := .ref C, dict := some d, data := .fields #[.ref t1, .none, .none, .none, .bool false, .none] }) : ObjOk P w H h a (ExV C d a) :=
  ⟨⟨t1, e⟩, ⟨_, e⟩, fun _ _ ⟨t, z⟩ k => ⟨t, k _ z⟩⟩
/-- what its class must say, for a field f to be read and for isinstance -/
structure Xv (K : PySem.W.Frag) (C : Addr) : Prop where
  ga : PySem.W.findIn K (.ref C) "__getattribute__" = some (some (.builtin "BaseException.__getattribute__"))
  gg : PySem.W.findIn K (.ref C) "__getattr__" = some none
  exC : PySem.W.subIn K (.ref C) (.type "BaseException") = some true
  hdC : PySem.W.hasDictIn K C = true
  ha : PySem.W.findIn K (.ref C) "__class__" = some (some (.builtin "object.__class__"))
  hm : PySem.W.mroIn K C (.type "object") = some true
  hn : PySem.W.specialIn K (.builtin "object.__class__") "__get__" = some (some (.builtin "getset_descriptor.__get__"))
  ht : PySem.W.takesIn K (.builtin "object.__class__") = some true
/-- an error made as a value: its dict at d, itself at a, both new -/
def tMkVg (f : Str) (C : Addr) (ta : TA) : TE := fun σ H Q => ta σ H fun vs H1 => ∃ v, vs = [v] ∧ ∀ d a, H1 d = none → H1 a = none → a ≠ d → Q (.ref a) (upd (upd H1 d (.xd [(f, v)])) a (ExV C d a))
open PySem.W in
/-- these facts, asked at once -/
def ecB (K : PySem.W.Frag) (C fI : Addr) (f : Str) (bmB : List Value) (newId : String) : Bool :=
  excInitIn K C bmB newId && (excOver K C bmB && (hasDictIn K C && (decide (findIn K (.ref C) "__setattr__" = some (some (.builtin "object.__setattr__"))) && (decide (findIn K (.ref C) "__getattribute__" = some (some (.builtin "BaseException.__getattribute__"))) && (decide (findIn K (.ref C) "__getattr__" = some none) &&
    (decide (findIn K (.ref C) f = some none) && (decide (takerIn K C f = some none) && (decide (typeIn K (.ref fI) = some (.type "function")) && (keepIn K (.ref C) && (decide (subIn K (.ref C) (.type "BaseException") = some true) && (decide (typeIn K (.ref C) = some (.type "type")) &&
      (decide (findIn K (.ref C) "__class__" = some (some (.builtin "object.__class__"))) && decide (mroIn K C (.type "object") = some true)))))))))))))
theorem xv_of {K : PySem.W.Frag} {C fI : Addr} {f : Str} {bmB : List Value} {newId : String} (h : ecB K C fI f bmB newId = true) (hn : PySem.W.specialIn K (.builtin "object.__class__") "__get__" = some (some (.builtin "getset_descriptor.__get__"))) (ht : PySem.W.takesIn K (.builtin "object.__class__") = some true) :
    Xv K C ∧ PySem.W.findIn K (.ref C) f = some none := by
  unfold ecB at h
  simp only [Bool.and_eq_true, decide_eq_true_eq] at h
  obtain ⟨_, _, h3, _, h5, h6, h7, _, _, _, h11, _, h13, h14⟩ := h
  exact ⟨⟨h5, h6, h11, h3, h13, h14, hn, ht⟩, h7⟩
section
variable {X : Cx}
theorem exV_inst {pins : List (Addr × Obj)} {σ : L2.St} {H : Hp} {s : Shared} {a C d : Addr} {fs : List (Str × V)} (I : Inv X pins σ H s) (ea : H a = some (ExV C d a)) (ed : H d = some (.xd fs)) :
    ∃ (ox od : Obj) (mA : Str → Option Value), PySem.W.InstAt s.heap a ox C (some od) ∧ (∀ n, PySem.W.lookIn n od = some (mA n)) ∧ ∀ f, RelO (fs.lookup f) (mA f) := by
  obtain ⟨⟨t1, ha⟩, _⟩ := (show ObjOk X.prog X.w H s.heap a (ExV C d a) from I.hok a _ ea)
  obtain ⟨mA, hns, hr⟩ := (show ObjOk X.prog X.w H s.heap d (.xd fs) from I.hok d _ ed)
  obtain ⟨od, ho, hl⟩ := lookIn_ns hns
  exact ⟨_, od, mA, ⟨ha, rfl, rfl, ho⟩, hl, hr⟩
def tAttrV (K : PySem.W.Frag) (f : Str) (te : TE) : TE := fun σ H Q => te σ H fun x H1 => ∃ (a C d : Addr) (fs : List (Str × V)) (v : V), x = .ref a ∧ H1 a = some (ExV C d a) ∧ H1 d = some (.xd fs) ∧ fs.lookup f = some v ∧ Xv K C ∧ PySem.W.findIn K (.ref C) f = some none ∧ Q v H1
theorem pe_attrV {e : Expr} {te : TE} {pos : Pos} {f : Str} (he : PE X e te) (hb : attributeBase e f X.env (eval e X.env) = eval e X.env := by rfl) : PE X (.Attribute e f pos) (tAttrV X.K f te) := by
  refine ⟨fun pins s σ H Q I h => attr_of hb (thn (he.run pins s σ H _ I h) ?_)⟩
  rintro u s1 ⟨x, H1, I1, rx, a, C, d, fs, v, rfl, ea, ed, l, T, hno, q⟩
  obtain rfl : u = Value.ref a := rx
  obtain ⟨ox, od, mA, J, hl, hr⟩ := exV_inst I1 ea ed
  obtain ⟨u, hu, ru⟩ := RelO.some_of (v := v) (o := mA f) (by rw [← l]; exact hr f)
  exact HandSPX.exc_get I1.kIn J T.ga T.gg T.exC (PySem.W.findObj_own T.hdC hno rfl (by rw [hl, hu])) (handed_of ru) ⟨v, H1, I1.tok _, ru, q⟩
def rIsV (K : PySem.W.Frag) : List V → Hp → VK → Prop := fun xs H Q => ∃ (a C d : Addr) (fs : List (Str × V)) (c : V) (u : Value) (b : Bool), xs = [.ref a, c] ∧ ClsV c u ∧ H a = some (ExV C d a) ∧ H d = some (.xd fs) ∧ Xv K C ∧ PySem.W.kitOne K (.ref C) u = some b ∧ Q (.bl b) H
theorem call_isV : CallR X (.builtin "isinstance") (rIsV X.K) := by
  intro pins s σ H xs us Q I r h
  obtain ⟨a, C, d, fs, c, u, b, rfl, kc, ea, ed, T, e, q⟩ := h
  obtain ⟨u1, u2, rfl, r1, r2⟩ := vals2 r
  obtain rfl : u1 = Value.ref a := r1
  have e2 := kc.eq r2
  subst e2
  obtain ⟨ox, od, mA, J, _, _⟩ := exV_inst I ea ed
  obtain ⟨cd, hcd, _⟩ := PySem.W.any_some T.hdC
  exact PySem.W.kia_one (PySem.W.kitx_exc (by rw [hcd]; rfl) T.ga T.gg T.exC T.ha T.hn T.ht T.hm) I.kIn J e (fun z => nomatch z) fun tk => ⟨.bl b, H, I.tok tk, rfl, q⟩
end
end Exn
/-! the field value -/
namespace Exn
open PySem PySem.W PySem.Calls PyProof.Rows PySem.HandSPX
/-- what the written part says of such a class: its name, its place C, its __init__ at fI -/
structure Ecl_value (K : Frag) (mg : Str → Option Value) (nm qual : Str) (B Bm newId initId : String) (bmB bm0 : List Value) (C fI : Addr) : Prop where
  fb : ExcBaseFacts Bm newId initId bm0
  ch : Chain bmB Bm
  sf : StoreFacts B bmB "object.__setattr__" "object"
  gC : mg nm = some (.ref C)
  ini : excInitIn K C bmB newId = true
  ovr : excOver K C bmB = true
  hdC : hasDictIn K C = true
  sa : findIn K (.ref C) "__setattr__" = some (some (.builtin "object.__setattr__"))
  ga : findIn K (.ref C) "__getattribute__" = some (some (.builtin "BaseException.__getattribute__"))
  gg : findIn K (.ref C) "__getattr__" = some none
  noN : findIn K (.ref C) "value" = some none
  tk : takerIn K C "value" = some none
  iC : findIn K (.ref C) "__init__" = some (some (.ref fI))
  tC : typeIn K (.ref fI) = some (.type "function")
  kC : keepIn K (.ref C) = true
  exC : subIn K (.ref C) (.type "BaseException") = some true
  tyC : typeIn K (.ref C) = some (.type "type")
  fn : ∃ (oc : Value) (od : Option Addr) (doc pm : Value) (an : Option Addr) (cdv ct : Value) (osl : Array (Option Value)) (p1 p2 q1 q2 q3 q4 : Pos),
    K.lookup fI = some ⟨oc, od, .func (fnOf "__init__" qual (iA "value" p1 p2) (iB "value" q1 q2 q3 q4) (iS "value" []) .none .none doc pm an cdv ct), osl⟩ ∧ codeIn K cdv qual = true
theorem ecl_value {K : Frag} {mg : Str → Option Value} {nm qual : Str} {B Bm newId initId : String} {bmB bm0 : List Value} {C fI : Addr} (fb : ExcBaseFacts Bm newId initId bm0) (ch : Chain bmB Bm) (sf : StoreFacts B bmB "object.__setattr__" "object") (gC : mg nm = some (.ref C))
    (h : ecB K C fI "value" bmB newId = true) (iC : findIn K (.ref C) "__init__" = some (some (.ref fI))) {oc : Value} {od : Option Addr} {doc pm : Value} {an : Option Addr} {cdv ct : Value} {osl : Array (Option Value)} {p1 p2 q1 q2 q3 q4 : Pos}
    (l : K.lookup fI = some ⟨oc, od, .func (fnOf "__init__" qual (iA "value" p1 p2) (iB "value" q1 q2 q3 q4) (iS "value" []) .none .none doc pm an cdv ct), osl⟩) (c : codeIn K cdv qual = true) : Ecl_value K mg nm qual B Bm newId initId bmB bm0 C fI := by
  unfold ecB at h
  simp only [Bool.and_eq_true, decide_eq_true_eq] at h
  obtain ⟨h1, h2, h3, h4, h5, h6, h7, h8, h9, h10, h11, h12, _⟩ := h
  exact ⟨fb, ch, sf, gC, h1, h2, h3, h4, h5, h6, h7, h8, iC, h9, h10, h11, h12, ⟨oc, od, doc, pm, an, cdv, ct, osl, p1, p2, q1, q2, q3, q4, l, c⟩⟩
/-- an error just made: at e, its dict at d, the field in it -/
structure Made_value (h h' : Heap) (e C d : Addr) (v : Value) : Prop where
  keep : ∀ b o, h.get? b = some o → h'.get? b = some o
  new : h.objs.size ≤ e
  obj : ∃ t1 : Addr, h'.get? e = some { cls := .ref C, dict := some d, data := .fields #[.ref t1, .none, .none, .none, .bool false, .none] }
  dbig : h.objs.size ≤ d
  dne : d ≠ e
  ns : h'.Ns1 d (fun y => if y = "value" then some v else none)
section
variable {prog : Program} {w : World} {A : Around} {E : Value → Shared → Prop} {R : Result → Shared → Prop} {s : Shared} {K : Frag} {mg : Str → Option Value} {nm qual : Str} {B Bm newId initId : String} {bmB bm0 : List Value} {C fI : Addr}
theorem init_value (T : Ecl_value K mg nm qual B Bm newId initId bmB bm0 C fI) {x t0 : Addr} {v : Value} {ar : Args} (X : K.In s.heap) (hlim : s.heap.NoLimit) (hx : s.heap.get? x = some (excO C t0)) (hroom : A.depth < recursionLimit)
    (hbind : ∀ doc pm an cdv ct p1 p2 q1 q2 q3 q4 s', BindsTo s' (fnOf "__init__" qual (iA "value" p1 p2) (iB "value" q1 q2 q3 q4) (iS "value" []) .none .none doc pm an cdv ct) ar [("self", .ref x), ("value", v)])
    (hq : ∀ h' tk dx, (∀ b o, b ≠ x → s.heap.get? b = some o → h'.get? b = some o) → h'.get? x = some { cls := .ref C, dict := some dx, data := .fields #[.ref t0, .none, .none, .none, .bool false, .none] } → s.heap.objs.size ≤ dx → dx ≠ x →
      h'.Ns1 dx (fun y => if y = "value" then some v else none) → R (.ok (.ret .none)) { s with heap := h', toks := tk }) :
    codeAny (model prog w) A (.call (.ref fI) ar) R s := by
  obtain ⟨oc, od, doc, pm, an, cdv, ct, osl, p1, p2, q1, q2, q3, q4, ho, hcd⟩ := T.fn
  obtain ⟨cd, hcl, hhd⟩ := any_some T.hdC
  refine Att.call_fn (binds := [("self", .ref x), ("value", v)]) X hlim ho hcd hroom (hbind _ _ _ _ _ _ _ _ _ _ _ _) (by first | rfl | decide | with_unfolding_all rfl) (fun s₁ IC => ?_) rfl rfl rfl
  obtain ⟨h₁, tk₁, rfl⟩ := IC.toInCall.same
  have k := IC.toInCall.keep
  have hn := IC.toInCall.ns
  have X₁ : K.In h₁ := X.keeps k
  show wpAny _ _ (execs _ _) _ _ _
  refine wpAny_execs_cons (plainObj_wpAny_Assign_Attribute ?_)
  refine wpAny_Name (wpAny_loadName_local rfl rfl hn (v := v) (by first | rfl | with_unfolding_all rfl | kernel_rfl) ?_) (by decide)
  refine wpAny_Name (wpAny_loadName_local rfl rfl hn (v := .ref x) (by first | rfl | with_unfolding_all rfl | kernel_rfl) ?_) (by decide)
  refine set_plain X₁ (ox := excO C t0) (od := none) ⟨k _ _ hx, rfl, rfl, trivial⟩ T.sa (osaB T.sf X₁ (k _ _ hx) T.ovr T.tk hcl hhd fun h₃ tk₃ dx k₃ dn dne hx₃ hn₃ => ?_)
  show wpAny _ _ (execs _ _) _ _ _
  exact wpAny_execs_nil (hq h₃ tk₃ dx (fun b o hb e => k₃ b o hb (k b o e)) hx₃ (Nat.le_of_lt (Nat.lt_of_lt_of_le hn.lt dn)) dne hn₃)
theorem made_value (T : Ecl_value K mg nm qual B Bm newId initId bmB bm0 C fI) {v : Value} {rest : List Value} {kw : List (Str × Value)} (X : K.In s.heap) (hlim : s.heap.NoLimit) (hroom : A.depth + 1 < recursionLimit) (how : (rest = [v] ∧ kw = []) ∨ (rest = [] ∧ kw = [(("value" : Str), v)]))
    (hq : ∀ h' tk e d, Made_value s.heap h' e C d v → R (.ok (.ret (.ref e))) { s with heap := h', toks := tk }) :
    codeAny (model prog w) A (.call (.ref C) ⟨rest, kw⟩) R s := by
  obtain ⟨nm', N, q, bs, bm, hd, sn, sub, ab, col, dd, k0, k1, k2, k3, k5, hC, hbm⟩ := excInit_of X T.ini
  obtain ⟨hp, g, dr, tk, os⟩ := s
  have k : ∀ b o, hp.get? b = some o → ((hp.push (kdv_tup rest)).push (excO C hp.objs.size)).get? b = some o := fun b o e => Heap.get?_push_of_some _ (Heap.get?_push_of_some _ e)
  have hget : ((hp.push (kdv_tup rest)).push (excO C hp.objs.size)).get? (hp.objs.size + 1) = some (excO C hp.objs.size) := by heap_get
  have chn : Chain bm Bm := ⟨by rw [hbm]; exact T.ch.cB, by rw [hbm]; exact T.ch.cA, by rw [hbm]; exact T.ch.cN⟩
  have hsz : rest.length ≤ sizeLine := by rcases how with ⟨rfl, _⟩ | ⟨rfl, _⟩ <;> (rw [sizeLine_eq]; simp)
  refine callX T.fb chn hC (looks_findIn X T.iC) (fun self => bind_fn X self T.tC) hsz ?_
  refine init_value (s := ⟨(hp.push (kdv_tup rest)).push (excO C hp.objs.size), g, dr, tk, os⟩) (v := v) T (X.keeps k) (hlim.keeps k) hget (show A.depth + 1 < recursionLimit from hroom) ?_ fun h' tk' dx k' hx dn dne hns => ?_
  · rcases how with ⟨rfl, rfl⟩ | ⟨rfl, rfl⟩
    · exact fun _ _ _ _ _ _ _ _ _ _ _ _ => BindsTo.of_eq (by first | rfl | with_unfolding_all rfl)
    · exact fun _ _ _ _ _ _ _ _ _ _ _ _ => BindsTo.of_eq (by first | rfl | with_unfolding_all rfl)
  have old : ∀ b o, hp.get? b = some o → h'.get? b = some o := fun b o e => k' b o (Nat.ne_of_lt (Nat.lt_succ_of_lt (Heap.lt_size e))) (k b o e)
  have z : hp.objs.size + 1 + 1 ≤ dx := by
    have q := dn
    rw [Heap.size_push, Heap.size_push] at q
    exact q
  exact ⟨rfl, hq h' tk' (hp.objs.size + 1) dx ⟨old, Nat.le_succ _, ⟨_, hx⟩, (show hp.objs.size ≤ dx by omega), dne, hns⟩⟩
end
end Exn
namespace Exn
open PySem PySem.Spec PyProof.Rows L2
theorem relO_value {v : V} {v' : Value} (r : RelV v v') (f : Str) : RelO (List.lookup f [(("value" : Str), v)]) (if f = "value" then some v' else none) := by
  by_cases hw : f = "value"
  · subst hw
    rw [if_pos rfl, show List.lookup ("value" : Str) [(("value" : Str), v)] = some v by simp [List.lookup]]
    exact r
  · have qw : (f == ("value" : Str)) = false := by simpa using hw
    rw [if_neg hw, show List.lookup f [(("value" : Str), v)] = none by simp [List.lookup, qw]]
    trivial
section
variable {X : Cx} {nm qual : Str} {B Bm newId initId : String} {bmB bm0 : List Value} {C fI : Addr}
/-- the making of the error that is raised at once -/
def tMk_value (C : Addr) (ta : TA) : L2.St → Hp → XK → Prop := fun σ H Q => ta σ H fun vs H1 => ∃ v, vs = [v] ∧ ∀ d, H1 d = none → Q (.ref C) (some d) (upd H1 d (.xd [(("value" : Str), v)]))
theorem pmk_value {a : Expr} {ta : TA} {p pos : Pos} {k : Nat} (T : Ecl_value X.K X.mg nm qual B Bm newId initId bmB bm0 C fI) (hr : Room k X.A) (ha : PA X [a] ta) (hg : Gl X nm) (hdb : (nm == ("__debug__" : Str)) = false := by decide)
    (he : starEach (a :: []) X.env = (false, eval a X.env) :: starEach [] X.env := by rfl) (hpl : (backTo pos (starEach [] X.env)).any (·.1) = false := by rfl) :
    PMk X (.Call (.Name nm p) [a] [] pos) (tMk_value C ta) := by
  intro pins s σ H Q I h
  refine wpAny_Call_Name_kw (ld_glob I hg T.gC ?_ hdb)
  refine PySem.W.callWith_K (h₀ := X.base) I.ok.mod.kin T.kC (thn (ha.run pos pins s σ H _ I h) ?_) he hpl
  rintro us s1 ⟨vs, H1, I1, r1, v, rfl, q1⟩
  obtain ⟨v', rfl, rv⟩ := vals1 r1
  refine ⟨I1.kIn, ?_⟩
  have hlim := I1.nolimit
  have hdp := hr.dp
  obtain ⟨hp, g, dr, tk, os⟩ := s1
  refine wpAny_call (made_value T I1.kIn hlim (by omega) (.inl ⟨rfl, rfl⟩) fun h' tk' e d M => ?_)
  show MkP X pins σ Q (.ref e) ⟨h', g, dr, tk', os⟩
  obtain ⟨t1, hoe⟩ := M.obj
  have hns := M.ns
  obtain ⟨G', g1, g2⟩ := restrict h' fun b => decide (b ≠ e)
  have gk : ∀ b, b ≠ e → G'.get? b = h'.get? b := fun b hb => g1 b (decide_eq_true hb)
  have ge : G'.get? e = none := g2 e (by simp)
  have old : ∀ b o, hp.get? b = some o → G'.get? b = some o := fun b o q => (gk b (Nat.ne_of_lt (Nat.lt_of_lt_of_le (Heap.lt_size q) M.new))).trans (M.keep b o q)
  have ob : ObjOk X.prog X.w (upd H1 d (.xd [(("value" : Str), v)])) G' d (.xd [(("value" : Str), v)]) := ⟨_, hns.at (fun o q => (gk d M.dne).trans q), fun f => relO_value rv f⟩
  have J : Inv X pins σ (upd H1 d (.xd [(("value" : Str), v)])) ⟨G', g, dr, tk', os⟩ := I1.laid (t' := tk') old M.dbig ob
  refine ⟨e, _, _, ⟨G', g, dr, tk', os⟩, _, .ref C, some d, rfl, J, fun b o q => ?_, ge, hoe, ⟨rfl, rfl⟩, rfl, rfl, ?_, rfl, I1.bare, raises_own T.exC T.tyC, q1 d (I1.hok.fresh M.dbig)⟩
  · by_cases hb : b = e
    · have q' : G'.get? b = some o := q
      rw [hb, ge] at q'
      cases q'
    · exact (gk b hb).symm.trans q
  · rw [upd_ne (Ne.symm M.dne)]
    exact I1.hok.fresh M.new
/-- the error as a value -/
abbrev tMkV_value (C : Addr) (ta : TA) : TE := tMkVg "value" C ta
theorem mkV_value {pins : List (Addr × Obj)} {s : Shared} {σ : L2.St} {H : Hp} {Q : VK} {v : V} {v' : Value} {rest : List Value} {kw : List (Str × Value)} {k : Nat} (T : Ecl_value X.K X.mg nm qual B Bm newId initId bmB bm0 C fI) (hr : Room k X.A) (I : Inv X pins σ H s) (rv : RelV v v')
    (how : (rest = [v'] ∧ kw = []) ∨ (rest = [] ∧ kw = [(("value" : Str), v')])) (q : ∀ d a, H d = none → H a = none → a ≠ d → Q (.ref a) (upd (upd H d (.xd [(("value" : Str), v)])) a (ExV C d a))) :
    wpAny (model X.prog X.w) X.A (call (.ref C) rest kw) (EP X pins σ Q) X.xe s := by
  have hlim := I.nolimit
  have hdp := hr.dp
  obtain ⟨hp, g, dr, tk, os⟩ := s
  refine wpAny_call (made_value T I.kIn hlim (by omega) how fun h' tk' e d M => ?_)
  obtain ⟨t1, hoe⟩ := M.obj
  obtain ⟨G', g1, g2⟩ := restrict h' fun b => decide (b ≠ e)
  have gk : ∀ b, b ≠ e → G'.get? b = h'.get? b := fun b hb => g1 b (decide_eq_true hb)
  have ge : G'.get? e = none := g2 e (by simp)
  have old : ∀ b o, hp.get? b = some o → G'.get? b = some o := fun b o z => (gk b (Nat.ne_of_lt (Nat.lt_of_lt_of_le (Heap.lt_size z) M.new))).trans (M.keep b o z)
  have J : Inv X pins σ (upd H d (.xd [(("value" : Str), v)])) ⟨G', g, dr, tk', os⟩ := I.laid (t' := tk') old M.dbig ⟨_, M.ns.at (fun o z => (gk d M.dne).trans z), fun f => relO_value rv f⟩
  have nHe : H e = none := I.hok.fresh M.new
  have nHe2 : (upd H d (.xd [(("value" : Str), v)])) e = none := by rw [upd_ne (Ne.symm M.dne)]; exact nHe
  have sub : ∀ b u, G'.get? b = some u → h'.get? b = some u := fun b o z => by
    by_cases hb : b = e
    · rw [hb, ge] at z; cases z
    · exact (gk b hb).symm.trans z
  exact ⟨.ref e, _, J.laidN (t' := tk') sub ge nHe2 (exV_ok hoe), rfl, q d e (I.hok.fresh M.dbig) nHe (Ne.symm M.dne)⟩
theorem pe_mkV_value {a : Expr} {ta : TA} {p pos : Pos} {k : Nat} (T : Ecl_value X.K X.mg nm qual B Bm newId initId bmB bm0 C fI) (hr : Room k X.A) (ha : PA X [a] ta) (hg : Gl X nm) (hdb : (nm == ("__debug__" : Str)) = false := by decide)
    (he : starEach (a :: []) X.env = (false, eval a X.env) :: starEach [] X.env := by rfl) (hpl : (backTo pos (starEach [] X.env)).any (·.1) = false := by rfl) : PE X (.Call (.Name nm p) [a] [] pos) (tMkV_value C ta) := by
  refine ⟨fun pins s σ H Q I h => wpAny_Call_Name_kw (ld_glob I hg T.gC ?_ hdb)⟩
  refine PySem.W.callWith_K (h₀ := X.base) I.ok.mod.kin T.kC (thn (ha.run pos pins s σ H _ I h) ?_) he hpl
  rintro us s1 ⟨vs, H1, I1, r1, v, rfl, q1⟩
  obtain ⟨v', rfl, rv⟩ := vals1 r1
  exact ⟨I1.kIn, mkV_value T hr I1 rv (.inl ⟨rfl, rfl⟩) q1⟩
theorem pe_mkK_value {kws : List Keyword} {tk : TA} {p pos : Pos} {k : Nat} (T : Ecl_value X.K X.mg nm qual B Bm newId initId bmB bm0 C fI) (hr : Room k X.A) (hkw : PK X kws tk) (hg : Gl X nm) (hdb : (nm == ("__debug__" : Str)) = false := by decide)
    (hal : (backToKw pos (keywordEach kws X.env)).all (·.1.isSome) = true := by rfl) (hks : (backToKw pos (keywordEach kws X.env)).filterMap (·.1) = [("value" : Str)] := by rfl)
    (hst : ((backTo pos (starEach [] X.env)).any (·.1) || (backToKw pos (keywordEach kws X.env)).any (·.1.isNone)) = false := by rfl) : PE X (.Call (.Name nm p) [] kws pos) (tMkV_value C tk) := by
  refine ⟨fun pins s σ H Q I h => wpAny_Call_Name_kw (ld_glob I hg T.gC ?_ hdb)⟩
  refine PySem.W.callWith_KW0 (h₀ := X.base) I.ok.mod.kin T.kC hal (thn (hkw.run pos pins s σ H _ I h) ?_) hst
  rintro us s1 ⟨vs, H1, I1, r1, v, rfl, q1⟩
  obtain ⟨v', rfl, rv⟩ := vals1 r1
  refine ⟨I1.kIn, ?_⟩
  rw [hks]
  exact mkV_value T hr I1 rv (.inr ⟨rfl, rfl⟩) q1
end
end Exn
/-! the field index -/
namespace Exn
open PySem PySem.W PySem.Calls PyProof.Rows PySem.HandSPX
/-- what the written part says of such a class: its name, its place C, its __init__ at fI -/
structure Ecl_index (K : Frag) (mg : Str → Option Value) (nm qual : Str) (B Bm newId initId : String) (bmB bm0 : List Value) (C fI : Addr) : Prop where
  fb : ExcBaseFacts Bm newId initId bm0
  ch : Chain bmB Bm
  sf : StoreFacts B bmB "object.__setattr__" "object"
  gC : mg nm = some (.ref C)
  ini : excInitIn K C bmB newId = true
  ovr : excOver K C bmB = true
  hdC : hasDictIn K C = true
  sa : findIn K (.ref C) "__setattr__" = some (some (.builtin "object.__setattr__"))
  ga : findIn K (.ref C) "__getattribute__" = some (some (.builtin "BaseException.__getattribute__"))
  gg : findIn K (.ref C) "__getattr__" = some none
  noN : findIn K (.ref C) "index" = some none
  tk : takerIn K C "index" = some none
  iC : findIn K (.ref C) "__init__" = some (some (.ref fI))
  tC : typeIn K (.ref fI) = some (.type "function")
  kC : keepIn K (.ref C) = true
  exC : subIn K (.ref C) (.type "BaseException") = some true
  tyC : typeIn K (.ref C) = some (.type "type")
  fn : ∃ (oc : Value) (od : Option Addr) (doc pm : Value) (an : Option Addr) (cdv ct : Value) (osl : Array (Option Value)) (p1 p2 q1 q2 q3 q4 : Pos),
    K.lookup fI = some ⟨oc, od, .func (fnOf "__init__" qual (iA "index" p1 p2) (iB "index" q1 q2 q3 q4) (iS "index" []) .none .none doc pm an cdv ct), osl⟩ ∧ codeIn K cdv qual = true
theorem ecl_index {K : Frag} {mg : Str → Option Value} {nm qual : Str} {B Bm newId initId : String} {bmB bm0 : List Value} {C fI : Addr} (fb : ExcBaseFacts Bm newId initId bm0) (ch : Chain bmB Bm) (sf : StoreFacts B bmB "object.__setattr__" "object") (gC : mg nm = some (.ref C))
    (h : ecB K C fI "index" bmB newId = true) (iC : findIn K (.ref C) "__init__" = some (some (.ref fI))) {oc : Value} {od : Option Addr} {doc pm : Value} {an : Option Addr} {cdv ct : Value} {osl : Array (Option Value)} {p1 p2 q1 q2 q3 q4 : Pos}
    (l : K.lookup fI = some ⟨oc, od, .func (fnOf "__init__" qual (iA "index" p1 p2) (iB "index" q1 q2 q3 q4) (iS "index" []) .none .none doc pm an cdv ct), osl⟩) (c : codeIn K cdv qual = true) : Ecl_index K mg nm qual B Bm newId initId bmB bm0 C fI := by
  unfold ecB at h
  simp only [Bool.and_eq_true, decide_eq_true_eq] at h
  obtain ⟨h1, h2, h3, h4, h5, h6, h7, h8, h9, h10, h11, h12, _⟩ := h
  exact ⟨fb, ch, sf, gC, h1, h2, h3, h4, h5, h6, h7, h8, iC, h9, h10, h11, h12, ⟨oc, od, doc, pm, an, cdv, ct, osl, p1, p2, q1, q2, q3, q4, l, c⟩⟩
/-- an error just made: at e, its dict at d, the field in it -/
structure Made_index (h h' : Heap) (e C d : Addr) (v : Value) : Prop where
  keep : ∀ b o, h.get? b = some o → h'.get? b = some o
  new : h.objs.size ≤ e
  obj : ∃ t1 : Addr, h'.get? e = some { cls := .ref C, dict := some d, data := .fields #[.ref t1, .none, .none, .none, .bool false, .none] }
  dbig : h.objs.size ≤ d
  dne : d ≠ e
  ns : h'.Ns1 d (fun y => if y = "index" then some v else none)
section
variable {prog : Program} {w : World} {A : Around} {E : Value → Shared → Prop} {R : Result → Shared → Prop} {s : Shared} {K : Frag} {mg : Str → Option Value} {nm qual : Str} {B Bm newId initId : String} {bmB bm0 : List Value} {C fI : Addr}
theorem init_index (T : Ecl_index K mg nm qual B Bm newId initId bmB bm0 C fI) {x t0 : Addr} {v : Value} {ar : Args} (X : K.In s.heap) (hlim : s.heap.NoLimit) (hx : s.heap.get? x = some (excO C t0)) (hroom : A.depth < recursionLimit)
    (hbind : ∀ doc pm an cdv ct p1 p2 q1 q2 q3 q4 s', BindsTo s' (fnOf "__init__" qual (iA "index" p1 p2) (iB "index" q1 q2 q3 q4) (iS "index" []) .none .none doc pm an cdv ct) ar [("self", .ref x), ("index", v)])
    (hq : ∀ h' tk dx, (∀ b o, b ≠ x → s.heap.get? b = some o → h'.get? b = some o) → h'.get? x = some { cls := .ref C, dict := some dx, data := .fields #[.ref t0, .none, .none, .none, .bool false, .none] } → s.heap.objs.size ≤ dx → dx ≠ x →
      h'.Ns1 dx (fun y => if y = "index" then some v else none) → R (.ok (.ret .none)) { s with heap := h', toks := tk }) :
    codeAny (model prog w) A (.call (.ref fI) ar) R s := by
  obtain ⟨oc, od, doc, pm, an, cdv, ct, osl, p1, p2, q1, q2, q3, q4, ho, hcd⟩ := T.fn
  obtain ⟨cd, hcl, hhd⟩ := any_some T.hdC
  refine Att.call_fn (binds := [("self", .ref x), ("index", v)]) X hlim ho hcd hroom (hbind _ _ _ _ _ _ _ _ _ _ _ _) (by first | rfl | decide | with_unfolding_all rfl) (fun s₁ IC => ?_) rfl rfl rfl
  obtain ⟨h₁, tk₁, rfl⟩ := IC.toInCall.same
  have k := IC.toInCall.keep
  have hn := IC.toInCall.ns
  have X₁ : K.In h₁ := X.keeps k
  show wpAny _ _ (execs _ _) _ _ _
  refine wpAny_execs_cons (plainObj_wpAny_Assign_Attribute ?_)
  refine wpAny_Name (wpAny_loadName_local rfl rfl hn (v := v) (by first | rfl | with_unfolding_all rfl | kernel_rfl) ?_) (by decide)
  refine wpAny_Name (wpAny_loadName_local rfl rfl hn (v := .ref x) (by first | rfl | with_unfolding_all rfl | kernel_rfl) ?_) (by decide)
  refine set_plain X₁ (ox := excO C t0) (od := none) ⟨k _ _ hx, rfl, rfl, trivial⟩ T.sa (osaB T.sf X₁ (k _ _ hx) T.ovr T.tk hcl hhd fun h₃ tk₃ dx k₃ dn dne hx₃ hn₃ => ?_)
  show wpAny _ _ (execs _ _) _ _ _
  exact wpAny_execs_nil (hq h₃ tk₃ dx (fun b o hb e => k₃ b o hb (k b o e)) hx₃ (Nat.le_of_lt (Nat.lt_of_lt_of_le hn.lt dn)) dne hn₃)
theorem made_index (T : Ecl_index K mg nm qual B Bm newId initId bmB bm0 C fI) {v : Value} {rest : List Value} {kw : List (Str × Value)} (X : K.In s.heap) (hlim : s.heap.NoLimit) (hroom : A.depth + 1 < recursionLimit) (how : (rest = [v] ∧ kw = []) ∨ (rest = [] ∧ kw = [(("index" : Str), v)]))
    (hq : ∀ h' tk e d, Made_index s.heap h' e C d v → R (.ok (.ret (.ref e))) { s with heap := h', toks := tk }) :
    codeAny (model prog w) A (.call (.ref C) ⟨rest, kw⟩) R s := by
  obtain ⟨nm', N, q, bs, bm, hd, sn, sub, ab, col, dd, k0, k1, k2, k3, k5, hC, hbm⟩ := excInit_of X T.ini
  obtain ⟨hp, g, dr, tk, os⟩ := s
  have k : ∀ b o, hp.get? b = some o → ((hp.push (kdv_tup rest)).push (excO C hp.objs.size)).get? b = some o := fun b o e => Heap.get?_push_of_some _ (Heap.get?_push_of_some _ e)
  have hget : ((hp.push (kdv_tup rest)).push (excO C hp.objs.size)).get? (hp.objs.size + 1) = some (excO C hp.objs.size) := by heap_get
  have chn : Chain bm Bm := ⟨by rw [hbm]; exact T.ch.cB, by rw [hbm]; exact T.ch.cA, by rw [hbm]; exact T.ch.cN⟩
  have hsz : rest.length ≤ sizeLine := by rcases how with ⟨rfl, _⟩ | ⟨rfl, _⟩ <;> (rw [sizeLine_eq]; simp)
  refine callX T.fb chn hC (looks_findIn X T.iC) (fun self => bind_fn X self T.tC) hsz ?_
  refine init_index (s := ⟨(hp.push (kdv_tup rest)).push (excO C hp.objs.size), g, dr, tk, os⟩) (v := v) T (X.keeps k) (hlim.keeps k) hget (show A.depth + 1 < recursionLimit from hroom) ?_ fun h' tk' dx k' hx dn dne hns => ?_
  · rcases how with ⟨rfl, rfl⟩ | ⟨rfl, rfl⟩
    · exact fun _ _ _ _ _ _ _ _ _ _ _ _ => BindsTo.of_eq (by first | rfl | with_unfolding_all rfl)
    · exact fun _ _ _ _ _ _ _ _ _ _ _ _ => BindsTo.of_eq (by first | rfl | with_unfolding_all rfl)
  have old : ∀ b o, hp.get? b = some o → h'.get? b = some o := fun b o e => k' b o (Nat.ne_of_lt (Nat.lt_succ_of_lt (Heap.lt_size e))) (k b o e)
  have z : hp.objs.size + 1 + 1 ≤ dx := by
    have q := dn
    rw [Heap.size_push, Heap.size_push] at q
    exact q
  exact ⟨rfl, hq h' tk' (hp.objs.size + 1) dx ⟨old, Nat.le_succ _, ⟨_, hx⟩, (show hp.objs.size ≤ dx by omega), dne, hns⟩⟩
end
end Exn
namespace Exn
open PySem PySem.Spec PyProof.Rows L2
theorem relO_index {v : V} {v' : Value} (r : RelV v v') (f : Str) : RelO (List.lookup f [(("index" : Str), v)]) (if f = "index" then some v' else none) := by
  by_cases hw : f = "index"
  · subst hw
    rw [if_pos rfl, show List.lookup ("index" : Str) [(("index" : Str), v)] = some v by simp [List.lookup]]
    exact r
  · have qw : (f == ("index" : Str)) = false := by simpa using hw
    rw [if_neg hw, show List.lookup f [(("index" : Str), v)] = none by simp [List.lookup, qw]]
    trivial
section
variable {X : Cx} {nm qual : Str} {B Bm newId initId : String} {bmB bm0 : List Value} {C fI : Addr}
/-- the making of the error that is raised at once -/
def tMk_index (C : Addr) (ta : TA) : L2.St → Hp → XK → Prop := fun σ H Q => ta σ H fun vs H1 => ∃ v, vs = [v] ∧ ∀ d, H1 d = none → Q (.ref C) (some d) (upd H1 d (.xd [(("index" : Str), v)]))
theorem pmk_index {a : Expr} {ta : TA} {p pos : Pos} {k : Nat} (T : Ecl_index X.K X.mg nm qual B Bm newId initId bmB bm0 C fI) (hr : Room k X.A) (ha : PA X [a] ta) (hg : Gl X nm) (hdb : (nm == ("__debug__" : Str)) = false := by decide)
    (he : starEach (a :: []) X.env = (false, eval a X.env) :: starEach [] X.env := by rfl) (hpl : (backTo pos (starEach [] X.env)).any (·.1) = false := by rfl) :
    PMk X (.Call (.Name nm p) [a] [] pos) (tMk_index C ta) := by
  intro pins s σ H Q I h
  refine wpAny_Call_Name_kw (ld_glob I hg T.gC ?_ hdb)
  refine PySem.W.callWith_K (h₀ := X.base) I.ok.mod.kin T.kC (thn (ha.run pos pins s σ H _ I h) ?_) he hpl
  rintro us s1 ⟨vs, H1, I1, r1, v, rfl, q1⟩
  obtain ⟨v', rfl, rv⟩ := vals1 r1
  refine ⟨I1.kIn, ?_⟩
  have hlim := I1.nolimit
  have hdp := hr.dp
  obtain ⟨hp, g, dr, tk, os⟩ := s1
  refine wpAny_call (made_index T I1.kIn hlim (by omega) (.inl ⟨rfl, rfl⟩) fun h' tk' e d M => ?_)
  show MkP X pins σ Q (.ref e) ⟨h', g, dr, tk', os⟩
  obtain ⟨t1, hoe⟩ := M.obj
  have hns := M.ns
  obtain ⟨G', g1, g2⟩ := restrict h' fun b => decide (b ≠ e)
  have gk : ∀ b, b ≠ e → G'.get? b = h'.get? b := fun b hb => g1 b (decide_eq_true hb)
  have ge : G'.get? e = none := g2 e (by simp)
  have old : ∀ b o, hp.get? b = some o → G'.get? b = some o := fun b o q => (gk b (Nat.ne_of_lt (Nat.lt_of_lt_of_le (Heap.lt_size q) M.new))).trans (M.keep b o q)
  have ob : ObjOk X.prog X.w (upd H1 d (.xd [(("index" : Str), v)])) G' d (.xd [(("index" : Str), v)]) := ⟨_, hns.at (fun o q => (gk d M.dne).trans q), fun f => relO_index rv f⟩
  have J : Inv X pins σ (upd H1 d (.xd [(("index" : Str), v)])) ⟨G', g, dr, tk', os⟩ := I1.laid (t' := tk') old M.dbig ob
  refine ⟨e, _, _, ⟨G', g, dr, tk', os⟩, _, .ref C, some d, rfl, J, fun b o q => ?_, ge, hoe, ⟨rfl, rfl⟩, rfl, rfl, ?_, rfl, I1.bare, raises_own T.exC T.tyC, q1 d (I1.hok.fresh M.dbig)⟩
  · by_cases hb : b = e
    · have q' : G'.get? b = some o := q
      rw [hb, ge] at q'
      cases q'
    · exact (gk b hb).symm.trans q
  · rw [upd_ne (Ne.symm M.dne)]
    exact I1.hok.fresh M.new
/-- the error as a value -/
abbrev tMkV_index (C : Addr) (ta : TA) : TE := tMkVg "index" C ta
theorem mkV_index {pins : List (Addr × Obj)} {s : Shared} {σ : L2.St} {H : Hp} {Q : VK} {v : V} {v' : Value} {rest : List Value} {kw : List (Str × Value)} {k : Nat} (T : Ecl_index X.K X.mg nm qual B Bm newId initId bmB bm0 C fI) (hr : Room k X.A) (I : Inv X pins σ H s) (rv : RelV v v')
    (how : (rest = [v'] ∧ kw = []) ∨ (rest = [] ∧ kw = [(("index" : Str), v')])) (q : ∀ d a, H d = none → H a = none → a ≠ d → Q (.ref a) (upd (upd H d (.xd [(("index" : Str), v)])) a (ExV C d a))) :
    wpAny (model X.prog X.w) X.A (call (.ref C) rest kw) (EP X pins σ Q) X.xe s := by
  have hlim := I.nolimit
  have hdp := hr.dp
  obtain ⟨hp, g, dr, tk, os⟩ := s
  refine wpAny_call (made_index T I.kIn hlim (by omega) how fun h' tk' e d M => ?_)
  obtain ⟨t1, hoe⟩ := M.obj
  obtain ⟨G', g1, g2⟩ := restrict h' fun b => decide (b ≠ e)
  have gk : ∀ b, b ≠ e → G'.get? b = h'.get? b := fun b hb => g1 b (decide_eq_true hb)
  have ge : G'.get? e = none := g2 e (by simp)
  have old : ∀ b o, hp.get? b = some o → G'.get? b = some o := fun b o z => (gk b (Nat.ne_of_lt (Nat.lt_of_lt_of_le (Heap.lt_size z) M.new))).trans (M.keep b o z)
  have J : Inv X pins σ (upd H d (.xd [(("index" : Str), v)])) ⟨G', g, dr, tk', os⟩ := I.laid (t' := tk') old M.dbig ⟨_, M.ns.at (fun o z => (gk d M.dne).trans z), fun f => relO_index rv f⟩
  have nHe : H e = none := I.hok.fresh M.new
  have nHe2 : (upd H d (.xd [(("index" : Str), v)])) e = none := by rw [upd_ne (Ne.symm M.dne)]; exact nHe
  have sub : ∀ b u, G'.get? b = some u → h'.get? b = some u := fun b o z => by
    by_cases hb : b = e
    · rw [hb, ge] at z; cases z
    · exact (gk b hb).symm.trans z
  exact ⟨.ref e, _, J.laidN (t' := tk') sub ge nHe2 (exV_ok hoe), rfl, q d e (I.hok.fresh M.dbig) nHe (Ne.symm M.dne)⟩
theorem pe_mkV_index {a : Expr} {ta : TA} {p pos : Pos} {k : Nat} (T : Ecl_index X.K X.mg nm qual B Bm newId initId bmB bm0 C fI) (hr : Room k X.A) (ha : PA X [a] ta) (hg : Gl X nm) (hdb : (nm == ("__debug__" : Str)) = false := by decide)
    (he : starEach (a :: []) X.env = (false, eval a X.env) :: starEach [] X.env := by rfl) (hpl : (backTo pos (starEach [] X.env)).any (·.1) = false := by rfl) : PE X (.Call (.Name nm p) [a] [] pos) (tMkV_index C ta) := by
  refine ⟨fun pins s σ H Q I h => wpAny_Call_Name_kw (ld_glob I hg T.gC ?_ hdb)⟩
  refine PySem.W.callWith_K (h₀ := X.base) I.ok.mod.kin T.kC (thn (ha.run pos pins s σ H _ I h) ?_) he hpl
  rintro us s1 ⟨vs, H1, I1, r1, v, rfl, q1⟩
  obtain ⟨v', rfl, rv⟩ := vals1 r1
  exact ⟨I1.kIn, mkV_index T hr I1 rv (.inl ⟨rfl, rfl⟩) q1⟩
theorem pe_mkK_index {kws : List Keyword} {tk : TA} {p pos : Pos} {k : Nat} (T : Ecl_index X.K X.mg nm qual B Bm newId initId bmB bm0 C fI) (hr : Room k X.A) (hkw : PK X kws tk) (hg : Gl X nm) (hdb : (nm == ("__debug__" : Str)) = false := by decide)
    (hal : (backToKw pos (keywordEach kws X.env)).all (·.1.isSome) = true := by rfl) (hks : (backToKw pos (keywordEach kws X.env)).filterMap (·.1) = [("index" : Str)] := by rfl)
    (hst : ((backTo pos (starEach [] X.env)).any (·.1) || (backToKw pos (keywordEach kws X.env)).any (·.1.isNone)) = false := by rfl) : PE X (.Call (.Name nm p) [] kws pos) (tMkV_index C tk) := by
  refine ⟨fun pins s σ H Q I h => wpAny_Call_Name_kw (ld_glob I hg T.gC ?_ hdb)⟩
  refine PySem.W.callWith_KW0 (h₀ := X.base) I.ok.mod.kin T.kC hal (thn (hkw.run pos pins s σ H _ I h) ?_) hst
  rintro us s1 ⟨vs, H1, I1, r1, v, rfl, q1⟩
  obtain ⟨v', rfl, rv⟩ := vals1 r1
  refine ⟨I1.kIn, ?_⟩
  rw [hks]
  exact mkV_index T hr I1 rv (.inr ⟨rfl, rfl⟩) q1
end
end Exn
/-! the field name -/
namespace Exn
open PySem PySem.W PySem.Calls PyProof.Rows PySem.HandSPX
/-- what the written part says of such a class: its name, its place C, its __init__ at fI -/
structure Ecl_name (K : Frag) (mg : Str → Option Value) (nm qual : Str) (B Bm newId initId : String) (bmB bm0 : List Value) (C fI : Addr) : Prop where
  fb : ExcBaseFacts Bm newId initId bm0
  ch : Chain bmB Bm
  sf : StoreFacts B bmB "object.__setattr__" "object"
  gC : mg nm = some (.ref C)
  ini : excInitIn K C bmB newId = true
  ovr : excOver K C bmB = true
  hdC : hasDictIn K C = true
  sa : findIn K (.ref C) "__setattr__" = some (some (.builtin "object.__setattr__"))
  ga : findIn K (.ref C) "__getattribute__" = some (some (.builtin "BaseException.__getattribute__"))
  gg : findIn K (.ref C) "__getattr__" = some none
  noN : findIn K (.ref C) "name" = some none
  tk : takerIn K C "name" = some none
  iC : findIn K (.ref C) "__init__" = some (some (.ref fI))
  tC : typeIn K (.ref fI) = some (.type "function")
  kC : keepIn K (.ref C) = true
  exC : subIn K (.ref C) (.type "BaseException") = some true
  tyC : typeIn K (.ref C) = some (.type "type")
  fn : ∃ (oc : Value) (od : Option Addr) (doc pm : Value) (an : Option Addr) (cdv ct : Value) (osl : Array (Option Value)) (p1 p2 q1 q2 q3 q4 : Pos),
    K.lookup fI = some ⟨oc, od, .func (fnOf "__init__" qual (iA "name" p1 p2) (iB "name" q1 q2 q3 q4) (iS "name" []) .none .none doc pm an cdv ct), osl⟩ ∧ codeIn K cdv qual = true
theorem ecl_name {K : Frag} {mg : Str → Option Value} {nm qual : Str} {B Bm newId initId : String} {bmB bm0 : List Value} {C fI : Addr} (fb : ExcBaseFacts Bm newId initId bm0) (ch : Chain bmB Bm) (sf : StoreFacts B bmB "object.__setattr__" "object") (gC : mg nm = some (.ref C))
    (h : ecB K C fI "name" bmB newId = true) (iC : findIn K (.ref C) "__init__" = some (some (.ref fI))) {oc : Value} {od : Option Addr} {doc pm : Value} {an : Option Addr} {cdv ct : Value} {osl : Array (Option Value)} {p1 p2 q1 q2 q3 q4 : Pos}
    (l : K.lookup fI = some ⟨oc, od, .func (fnOf "__init__" qual (iA "name" p1 p2) (iB "name" q1 q2 q3 q4) (iS "name" []) .none .none doc pm an cdv ct), osl⟩) (c : codeIn K cdv qual = true) : Ecl_name K mg nm qual B Bm newId initId bmB bm0 C fI := by
  unfold ecB at h
  simp only [Bool.and_eq_true, decide_eq_true_eq] at h
  obtain ⟨h1, h2, h3, h4, h5, h6, h7, h8, h9, h10, h11, h12, _⟩ := h
  exact ⟨fb, ch, sf, gC, h1, h2, h3, h4, h5, h6, h7, h8, iC, h9, h10, h11, h12, ⟨oc, od, doc, pm, an, cdv, ct, osl, p1, p2, q1, q2, q3, q4, l, c⟩⟩
/-- an error just made: at e, its dict at d, the field in it -/
structure Made_name (h h' : Heap) (e C d : Addr) (v : Value) : Prop where
  keep : ∀ b o, h.get? b = some o → h'.get? b = some o
  new : h.objs.size ≤ e
  obj : ∃ t1 : Addr, h'.get? e = some { cls := .ref C, dict := some d, data := .fields #[.ref t1, .none, .none, .none, .bool false, .none] }
  dbig : h.objs.size ≤ d
  dne : d ≠ e
  ns : h'.Ns1 d (fun y => if y = "name" then some v else none)
section
variable {prog : Program} {w : World} {A : Around} {E : Value → Shared → Prop} {R : Result → Shared → Prop} {s : Shared} {K : Frag} {mg : Str → Option Value} {nm qual : Str} {B Bm newId initId : String} {bmB bm0 : List Value} {C fI : Addr}
theorem init_name (T : Ecl_name K mg nm qual B Bm newId initId bmB bm0 C fI) {x t0 : Addr} {v : Value} {ar : Args} (X : K.In s.heap) (hlim : s.heap.NoLimit) (hx : s.heap.get? x = some (excO C t0)) (hroom : A.depth < recursionLimit)
    (hbind : ∀ doc pm an cdv ct p1 p2 q1 q2 q3 q4 s', BindsTo s' (fnOf "__init__" qual (iA "name" p1 p2) (iB "name" q1 q2 q3 q4) (iS "name" []) .none .none doc pm an cdv ct) ar [("self", .ref x), ("name", v)])
    (hq : ∀ h' tk dx, (∀ b o, b ≠ x → s.heap.get? b = some o → h'.get? b = some o) → h'.get? x = some { cls := .ref C, dict := some dx, data := .fields #[.ref t0, .none, .none, .none, .bool false, .none] } → s.heap.objs.size ≤ dx → dx ≠ x →
      h'.Ns1 dx (fun y => if y = "name" then some v else none) → R (.ok (.ret .none)) { s with heap := h', toks := tk }) :
    codeAny (model prog w) A (.call (.ref fI) ar) R s := by
  obtain ⟨oc, od, doc, pm, an, cdv, ct, osl, p1, p2, q1, q2, q3, q4, ho, hcd⟩ := T.fn
  obtain ⟨cd, hcl, hhd⟩ := any_some T.hdC
  refine Att.call_fn (binds := [("self", .ref x), ("name", v)]) X hlim ho hcd hroom (hbind _ _ _ _ _ _ _ _ _ _ _ _) (by first | rfl | decide | with_unfolding_all rfl) (fun s₁ IC => ?_) rfl rfl rfl
  obtain ⟨h₁, tk₁, rfl⟩ := IC.toInCall.same
  have k := IC.toInCall.keep
  have hn := IC.toInCall.ns
  have X₁ : K.In h₁ := X.keeps k
  show wpAny _ _ (execs _ _) _ _ _
  refine wpAny_execs_cons (plainObj_wpAny_Assign_Attribute ?_)
  refine wpAny_Name (wpAny_loadName_local rfl rfl hn (v := v) (by first | rfl | with_unfolding_all rfl | kernel_rfl) ?_) (by decide)
  refine wpAny_Name (wpAny_loadName_local rfl rfl hn (v := .ref x) (by first | rfl | with_unfolding_all rfl | kernel_rfl) ?_) (by decide)
  refine set_plain X₁ (ox := excO C t0) (od := none) ⟨k _ _ hx, rfl, rfl, trivial⟩ T.sa (osaB T.sf X₁ (k _ _ hx) T.ovr T.tk hcl hhd fun h₃ tk₃ dx k₃ dn dne hx₃ hn₃ => ?_)
  show wpAny _ _ (execs _ _) _ _ _
  exact wpAny_execs_nil (hq h₃ tk₃ dx (fun b o hb e => k₃ b o hb (k b o e)) hx₃ (Nat.le_of_lt (Nat.lt_of_lt_of_le hn.lt dn)) dne hn₃)
theorem made_name (T : Ecl_name K mg nm qual B Bm newId initId bmB bm0 C fI) {v : Value} {rest : List Value} {kw : List (Str × Value)} (X : K.In s.heap) (hlim : s.heap.NoLimit) (hroom : A.depth + 1 < recursionLimit) (how : (rest = [v] ∧ kw = []) ∨ (rest = [] ∧ kw = [(("name" : Str), v)]))
    (hq : ∀ h' tk e d, Made_name s.heap h' e C d v → R (.ok (.ret (.ref e))) { s with heap := h', toks := tk }) :
    codeAny (model prog w) A (.call (.ref C) ⟨rest, kw⟩) R s := by
  obtain ⟨nm', N, q, bs, bm, hd, sn, sub, ab, col, dd, k0, k1, k2, k3, k5, hC, hbm⟩ := excInit_of X T.ini
  obtain ⟨hp, g, dr, tk, os⟩ := s
  have k : ∀ b o, hp.get? b = some o → ((hp.push (kdv_tup rest)).push (excO C hp.objs.size)).get? b = some o := fun b o e => Heap.get?_push_of_some _ (Heap.get?_push_of_some _ e)
  have hget : ((hp.push (kdv_tup rest)).push (excO C hp.objs.size)).get? (hp.objs.size + 1) = some (excO C hp.objs.size) := by heap_get
  have chn : Chain bm Bm := ⟨by rw [hbm]; exact T.ch.cB, by rw [hbm]; exact T.ch.cA, by rw [hbm]; exact T.ch.cN⟩
  have hsz : rest.length ≤ sizeLine := by rcases how with ⟨rfl, _⟩ | ⟨rfl, _⟩ <;> (rw [sizeLine_eq]; simp)
  refine callX T.fb chn hC (looks_findIn X T.iC) (fun self => bind_fn X self T.tC) hsz ?_
  refine init_name (s := ⟨(hp.push (kdv_tup rest)).push (excO C hp.objs.size), g, dr, tk, os⟩) (v := v) T (X.keeps k) (hlim.keeps k) hget (show A.depth + 1 < recursionLimit from hroom) ?_ fun h' tk' dx k' hx dn dne hns => ?_
  · rcases how with ⟨rfl, rfl⟩ | ⟨rfl, rfl⟩
    · exact fun _ _ _ _ _ _ _ _ _ _ _ _ => BindsTo.of_eq (by first | rfl | with_unfolding_all rfl)
    · exact fun _ _ _ _ _ _ _ _ _ _ _ _ => BindsTo.of_eq (by first | rfl | with_unfolding_all rfl)
  have old : ∀ b o, hp.get? b = some o → h'.get? b = some o := fun b o e => k' b o (Nat.ne_of_lt (Nat.lt_succ_of_lt (Heap.lt_size e))) (k b o e)
  have z : hp.objs.size + 1 + 1 ≤ dx := by
    have q := dn
    rw [Heap.size_push, Heap.size_push] at q
    exact q
  exact ⟨rfl, hq h' tk' (hp.objs.size + 1) dx ⟨old, Nat.le_succ _, ⟨_, hx⟩, (show hp.objs.size ≤ dx by omega), dne, hns⟩⟩
end
end Exn
namespace Exn
open PySem PySem.Spec PyProof.Rows L2
theorem relO_name {v : V} {v' : Value} (r : RelV v v') (f : Str) : RelO (List.lookup f [(("name" : Str), v)]) (if f = "name" then some v' else none) := by
  by_cases hw : f = "name"
  · subst hw
    rw [if_pos rfl, show List.lookup ("name" : Str) [(("name" : Str), v)] = some v by simp [List.lookup]]
    exact r
  · have qw : (f == ("name" : Str)) = false := by simpa using hw
    rw [if_neg hw, show List.lookup f [(("name" : Str), v)] = none by simp [List.lookup, qw]]
    trivial
section
variable {X : Cx} {nm qual : Str} {B Bm newId initId : String} {bmB bm0 : List Value} {C fI : Addr}
/-- the making of the error that is raised at once -/
def tMk_name (C : Addr) (ta : TA) : L2.St → Hp → XK → Prop := fun σ H Q => ta σ H fun vs H1 => ∃ v, vs = [v] ∧ ∀ d, H1 d = none → Q (.ref C) (some d) (upd H1 d (.xd [(("name" : Str), v)]))
theorem pmk_name {a : Expr} {ta : TA} {p pos : Pos} {k : Nat} (T : Ecl_name X.K X.mg nm qual B Bm newId initId bmB bm0 C fI) (hr : Room k X.A) (ha : PA X [a] ta) (hg : Gl X nm) (hdb : (nm == ("__debug__" : Str)) = false := by decide)
    (he : starEach (a :: []) X.env = (false, eval a X.env) :: starEach [] X.env := by rfl) (hpl : (backTo pos (starEach [] X.env)).any (·.1) = false := by rfl) :
    PMk X (.Call (.Name nm p) [a] [] pos) (tMk_name C ta) := by
  intro pins s σ H Q I h
  refine wpAny_Call_Name_kw (ld_glob I hg T.gC ?_ hdb)
  refine PySem.W.callWith_K (h₀ := X.base) I.ok.mod.kin T.kC (thn (ha.run pos pins s σ H _ I h) ?_) he hpl
  rintro us s1 ⟨vs, H1, I1, r1, v, rfl, q1⟩
  obtain ⟨v', rfl, rv⟩ := vals1 r1
  refine ⟨I1.kIn, ?_⟩
  have hlim := I1.nolimit
  have hdp := hr.dp
  obtain ⟨hp, g, dr, tk, os⟩ := s1
  refine wpAny_call (made_name T I1.kIn hlim (by omega) (.inl ⟨rfl, rfl⟩) fun h' tk' e d M => ?_)
  show MkP X pins σ Q (.ref e) ⟨h', g, dr, tk', os⟩
  obtain ⟨t1, hoe⟩ := M.obj
  have hns := M.ns
  obtain ⟨G', g1, g2⟩ := restrict h' fun b => decide (b ≠ e)
  have gk : ∀ b, b ≠ e → G'.get? b = h'.get? b := fun b hb => g1 b (decide_eq_true hb)
  have ge : G'.get? e = none := g2 e (by simp)
  have old : ∀ b o, hp.get? b = some o → G'.get? b = some o := fun b o q => (gk b (Nat.ne_of_lt (Nat.lt_of_lt_of_le (Heap.lt_size q) M.new))).trans (M.keep b o q)
  have ob : ObjOk X.prog X.w (upd H1 d (.xd [(("name" : Str), v)])) G' d (.xd [(("name" : Str), v)]) := ⟨_, hns.at (fun o q => (gk d M.dne).trans q), fun f => relO_name rv f⟩
  have J : Inv X pins σ (upd H1 d (.xd [(("name" : Str), v)])) ⟨G', g, dr, tk', os⟩ := I1.laid (t' := tk') old M.dbig ob
  refine ⟨e, _, _, ⟨G', g, dr, tk', os⟩, _, .ref C, some d, rfl, J, fun b o q => ?_, ge, hoe, ⟨rfl, rfl⟩, rfl, rfl, ?_, rfl, I1.bare, raises_own T.exC T.tyC, q1 d (I1.hok.fresh M.dbig)⟩
  · by_cases hb : b = e
    · have q' : G'.get? b = some o := q
      rw [hb, ge] at q'
      cases q'
    · exact (gk b hb).symm.trans q
  · rw [upd_ne (Ne.symm M.dne)]
    exact I1.hok.fresh M.new
/-- the error as a value -/
abbrev tMkV_name (C : Addr) (ta : TA) : TE := tMkVg "name" C ta
theorem mkV_name {pins : List (Addr × Obj)} {s : Shared} {σ : L2.St} {H : Hp} {Q : VK} {v : V} {v' : Value} {rest : List Value} {kw : List (Str × Value)} {k : Nat} (T : Ecl_name X.K X.mg nm qual B Bm newId initId bmB bm0 C fI) (hr : Room k X.A) (I : Inv X pins σ H s) (rv : RelV v v')
    (how : (rest = [v'] ∧ kw = []) ∨ (rest = [] ∧ kw = [(("name" : Str), v')])) (q : ∀ d a, H d = none → H a = none → a ≠ d → Q (.ref a) (upd (upd H d (.xd [(("name" : Str), v)])) a (ExV C d a))) :
    wpAny (model X.prog X.w) X.A (call (.ref C) rest kw) (EP X pins σ Q) X.xe s := by
  have hlim := I.nolimit
  have hdp := hr.dp
  obtain ⟨hp, g, dr, tk, os⟩ := s
  refine wpAny_call (made_name T I.kIn hlim (by omega) how fun h' tk' e d M => ?_)
  obtain ⟨t1, hoe⟩ := M.obj
  obtain ⟨G', g1, g2⟩ := restrict h' fun b => decide (b ≠ e)
  have gk : ∀ b, b ≠ e → G'.get? b = h'.get? b := fun b hb => g1 b (decide_eq_true hb)
  have ge : G'.get? e = none := g2 e (by simp)
  have old : ∀ b o, hp.get? b = some o → G'.get? b = some o := fun b o z => (gk b (Nat.ne_of_lt (Nat.lt_of_lt_of_le (Heap.lt_size z) M.new))).trans (M.keep b o z)
  have J : Inv X pins σ (upd H d (.xd [(("name" : Str), v)])) ⟨G', g, dr, tk', os⟩ := I.laid (t' := tk') old M.dbig ⟨_, M.ns.at (fun o z => (gk d M.dne).trans z), fun f => relO_name rv f⟩
  have nHe : H e = none := I.hok.fresh M.new
  have nHe2 : (upd H d (.xd [(("name" : Str), v)])) e = none := by rw [upd_ne (Ne.symm M.dne)]; exact nHe
  have sub : ∀ b u, G'.get? b = some u → h'.get? b = some u := fun b o z => by
    by_cases hb : b = e
    · rw [hb, ge] at z; cases z
    · exact (gk b hb).symm.trans z
  exact ⟨.ref e, _, J.laidN (t' := tk') sub ge nHe2 (exV_ok hoe), rfl, q d e (I.hok.fresh M.dbig) nHe (Ne.symm M.dne)⟩
theorem pe_mkV_name {a : Expr} {ta : TA} {p pos : Pos} {k : Nat} (T : Ecl_name X.K X.mg nm qual B Bm newId initId bmB bm0 C fI) (hr : Room k X.A) (ha : PA X [a] ta) (hg : Gl X nm) (hdb : (nm == ("__debug__" : Str)) = false := by decide)
    (he : starEach (a :: []) X.env = (false, eval a X.env) :: starEach [] X.env := by rfl) (hpl : (backTo pos (starEach [] X.env)).any (·.1) = false := by rfl) : PE X (.Call (.Name nm p) [a] [] pos) (tMkV_name C ta) := by
  refine ⟨fun pins s σ H Q I h => wpAny_Call_Name_kw (ld_glob I hg T.gC ?_ hdb)⟩
  refine PySem.W.callWith_K (h₀ := X.base) I.ok.mod.kin T.kC (thn (ha.run pos pins s σ H _ I h) ?_) he hpl
  rintro us s1 ⟨vs, H1, I1, r1, v, rfl, q1⟩
  obtain ⟨v', rfl, rv⟩ := vals1 r1
  exact ⟨I1.kIn, mkV_name T hr I1 rv (.inl ⟨rfl, rfl⟩) q1⟩
theorem pe_mkK_name {kws : List Keyword} {tk : TA} {p pos : Pos} {k : Nat} (T : Ecl_name X.K X.mg nm qual B Bm newId initId bmB bm0 C fI) (hr : Room k X.A) (hkw : PK X kws tk) (hg : Gl X nm) (hdb : (nm == ("__debug__" : Str)) = false := by decide)
    (hal : (backToKw pos (keywordEach kws X.env)).all (·.1.isSome) = true := by rfl) (hks : (backToKw pos (keywordEach kws X.env)).filterMap (·.1) = [("name" : Str)] := by rfl)
    (hst : ((backTo pos (starEach [] X.env)).any (·.1) || (backToKw pos (keywordEach kws X.env)).any (·.1.isNone)) = false := by rfl) : PE X (.Call (.Name nm p) [] kws pos) (tMkV_name C tk) := by
  refine ⟨fun pins s σ H Q I h => wpAny_Call_Name_kw (ld_glob I hg T.gC ?_ hdb)⟩
  refine PySem.W.callWith_KW0 (h₀ := X.base) I.ok.mod.kin T.kC hal (thn (hkw.run pos pins s σ H _ I h) ?_) hst
  rintro us s1 ⟨vs, H1, I1, r1, v, rfl, q1⟩
  obtain ⟨v', rfl, rv⟩ := vals1 r1
  refine ⟨I1.kIn, ?_⟩
  rw [hks]
  exact mkV_name T hr I1 rv (.inr ⟨rfl, rfl⟩) q1
end
end Exn
/-! the field item -/
namespace Exn
open PySem PySem.W PySem.Calls PyProof.Rows PySem.HandSPX
/-- what the written part says of such a class: its name, its place C, its __init__ at fI -/
structure Ecl_item (K : Frag) (mg : Str → Option Value) (nm qual : Str) (B Bm newId initId : String) (bmB bm0 : List Value) (C fI : Addr) : Prop where
  fb : ExcBaseFacts Bm newId initId bm0
  ch : Chain bmB Bm
  sf : StoreFacts B bmB "object.__setattr__" "object"
  gC : mg nm = some (.ref C)
  ini : excInitIn K C bmB newId = true
  ovr : excOver K C bmB = true
  hdC : hasDictIn K C = true
  sa : findIn K (.ref C) "__setattr__" = some (some (.builtin "object.__setattr__"))
  ga : findIn K (.ref C) "__getattribute__" = some (some (.builtin "BaseException.__getattribute__"))
  gg : findIn K (.ref C) "__getattr__" = some none
  noN : findIn K (.ref C) "item" = some none
  tk : takerIn K C "item" = some none
  iC : findIn K (.ref C) "__init__" = some (some (.ref fI))
  tC : typeIn K (.ref fI) = some (.type "function")
  kC : keepIn K (.ref C) = true
  exC : subIn K (.ref C) (.type "BaseException") = some true
  tyC : typeIn K (.ref C) = some (.type "type")
  fn : ∃ (oc : Value) (od : Option Addr) (doc pm : Value) (an : Option Addr) (cdv ct : Value) (osl : Array (Option Value)) (p1 p2 q1 q2 q3 q4 : Pos),
    K.lookup fI = some ⟨oc, od, .func (fnOf "__init__" qual (iA "item" p1 p2) (iB "item" q1 q2 q3 q4) (iS "item" []) .none .none doc pm an cdv ct), osl⟩ ∧ codeIn K cdv qual = true
theorem ecl_item {K : Frag} {mg : Str → Option Value} {nm qual : Str} {B Bm newId initId : String} {bmB bm0 : List Value} {C fI : Addr} (fb : ExcBaseFacts Bm newId initId bm0) (ch : Chain bmB Bm) (sf : StoreFacts B bmB "object.__setattr__" "object") (gC : mg nm = some (.ref C))
    (h : ecB K C fI "item" bmB newId = true) (iC : findIn K (.ref C) "__init__" = some (some (.ref fI))) {oc : Value} {od : Option Addr} {doc pm : Value} {an : Option Addr} {cdv ct : Value} {osl : Array (Option Value)} {p1 p2 q1 q2 q3 q4 : Pos}
    (l : K.lookup fI = some ⟨oc, od, .func (fnOf "__init__" qual (iA "item" p1 p2) (iB "item" q1 q2 q3 q4) (iS "item" []) .none .none doc pm an cdv ct), osl⟩) (c : codeIn K cdv qual = true) : Ecl_item K mg nm qual B Bm newId initId bmB bm0 C fI := by
  unfold ecB at h
  simp only [Bool.and_eq_true, decide_eq_true_eq] at h
  obtain ⟨h1, h2, h3, h4, h5, h6, h7, h8, h9, h10, h11, h12, _⟩ := h
  exact ⟨fb, ch, sf, gC, h1, h2, h3, h4, h5, h6, h7, h8, iC, h9, h10, h11, h12, ⟨oc, od, doc, pm, an, cdv, ct, osl, p1, p2, q1, q2, q3, q4, l, c⟩⟩
/-- an error just made: at e, its dict at d, the field in it -/
structure Made_item (h h' : Heap) (e C d : Addr) (v : Value) : Prop where
  keep : ∀ b o, h.get? b = some o → h'.get? b = some o
  new : h.objs.size ≤ e
  obj : ∃ t1 : Addr, h'.get? e = some { cls := .ref C, dict := some d, data := .fields #[.ref t1, .none, .none, .none, .bool false, .none] }
  dbig : h.objs.size ≤ d
  dne : d ≠ e
  ns : h'.Ns1 d (fun y => if y = "item" then some v else none)
section
variable {prog : Program} {w : World} {A : Around} {E : Value → Shared → Prop} {R : Result → Shared → Prop} {s : Shared} {K : Frag} {mg : Str → Option Value} {nm qual : Str} {B Bm newId initId : String} {bmB bm0 : List Value} {C fI : Addr}
theorem init_item (T : Ecl_item K mg nm qual B Bm newId initId bmB bm0 C fI) {x t0 : Addr} {v : Value} {ar : Args} (X : K.In s.heap) (hlim : s.heap.NoLimit) (hx : s.heap.get? x = some (excO C t0)) (hroom : A.depth < recursionLimit)
    (hbind : ∀ doc pm an cdv ct p1 p2 q1 q2 q3 q4 s', BindsTo s' (fnOf "__init__" qual (iA "item" p1 p2) (iB "item" q1 q2 q3 q4) (iS "item" []) .none .none doc pm an cdv ct) ar [("self", .ref x), ("item", v)])
    (hq : ∀ h' tk dx, (∀ b o, b ≠ x → s.heap.get? b = some o → h'.get? b = some o) → h'.get? x = some { cls := .ref C, dict := some dx, data := .fields #[.ref t0, .none, .none, .none, .bool false, .none] } → s.heap.objs.size ≤ dx → dx ≠ x →
      h'.Ns1 dx (fun y => if y = "item" then some v else none) → R (.ok (.ret .none)) { s with heap := h', toks := tk }) :
    codeAny (model prog w) A (.call (.ref fI) ar) R s := by
  obtain ⟨oc, od, doc, pm, an, cdv, ct, osl, p1, p2, q1, q2, q3, q4, ho, hcd⟩ := T.fn
  obtain ⟨cd, hcl, hhd⟩ := any_some T.hdC
  refine Att.call_fn (binds := [("self", .ref x), ("item", v)]) X hlim ho hcd hroom (hbind _ _ _ _ _ _ _ _ _ _ _ _) (by first | rfl | decide | with_unfolding_all rfl) (fun s₁ IC => ?_) rfl rfl rfl
  obtain ⟨h₁, tk₁, rfl⟩ := IC.toInCall.same
  have k := IC.toInCall.keep
  have hn := IC.toInCall.ns
  have X₁ : K.In h₁ := X.keeps k
  show wpAny _ _ (execs _ _) _ _ _
  refine wpAny_execs_cons (plainObj_wpAny_Assign_Attribute ?_)
  refine wpAny_Name (wpAny_loadName_local rfl rfl hn (v := v) (by first | rfl | with_unfolding_all rfl | kernel_rfl) ?_) (by decide)
  refine wpAny_Name (wpAny_loadName_local rfl rfl hn (v := .ref x) (by first | rfl | with_unfolding_all rfl | kernel_rfl) ?_) (by decide)
  refine set_plain X₁ (ox := excO C t0) (od := none) ⟨k _ _ hx, rfl, rfl, trivial⟩ T.sa (osaB T.sf X₁ (k _ _ hx) T.ovr T.tk hcl hhd fun h₃ tk₃ dx k₃ dn dne hx₃ hn₃ => ?_)
  show wpAny _ _ (execs _ _) _ _ _
  exact wpAny_execs_nil (hq h₃ tk₃ dx (fun b o hb e => k₃ b o hb (k b o e)) hx₃ (Nat.le_of_lt (Nat.lt_of_lt_of_le hn.lt dn)) dne hn₃)
theorem made_item (T : Ecl_item K mg nm qual B Bm newId initId bmB bm0 C fI) {v : Value} {rest : List Value} {kw : List (Str × Value)} (X : K.In s.heap) (hlim : s.heap.NoLimit) (hroom : A.depth + 1 < recursionLimit) (how : (rest = [v] ∧ kw = []) ∨ (rest = [] ∧ kw = [(("item" : Str), v)]))
    (hq : ∀ h' tk e d, Made_item s.heap h' e C d v → R (.ok (.ret (.ref e))) { s with heap := h', toks := tk }) :
    codeAny (model prog w) A (.call (.ref C) ⟨rest, kw⟩) R s := by
  obtain ⟨nm', N, q, bs, bm, hd, sn, sub, ab, col, dd, k0, k1, k2, k3, k5, hC, hbm⟩ := excInit_of X T.ini
  obtain ⟨hp, g, dr, tk, os⟩ := s
  have k : ∀ b o, hp.get? b = some o → ((hp.push (kdv_tup rest)).push (excO C hp.objs.size)).get? b = some o := fun b o e => Heap.get?_push_of_some _ (Heap.get?_push_of_some _ e)
  have hget : ((hp.push (kdv_tup rest)).push (excO C hp.objs.size)).get? (hp.objs.size + 1) = some (excO C hp.objs.size) := by heap_get
  have chn : Chain bm Bm := ⟨by rw [hbm]; exact T.ch.cB, by rw [hbm]; exact T.ch.cA, by rw [hbm]; exact T.ch.cN⟩
  have hsz : rest.length ≤ sizeLine := by rcases how with ⟨rfl, _⟩ | ⟨rfl, _⟩ <;> (rw [sizeLine_eq]; simp)
  refine callX T.fb chn hC (looks_findIn X T.iC) (fun self => bind_fn X self T.tC) hsz ?_
  refine init_item (s := ⟨(hp.push (kdv_tup rest)).push (excO C hp.objs.size), g, dr, tk, os⟩) (v := v) T (X.keeps k) (hlim.keeps k) hget (show A.depth + 1 < recursionLimit from hroom) ?_ fun h' tk' dx k' hx dn dne hns => ?_
  · rcases how with ⟨rfl, rfl⟩ | ⟨rfl, rfl⟩
    · exact fun _ _ _ _ _ _ _ _ _ _ _ _ => BindsTo.of_eq (by first | rfl | with_unfolding_all rfl)
    · exact fun _ _ _ _ _ _ _ _ _ _ _ _ => BindsTo.of_eq (by first | rfl | with_unfolding_all rfl)
  have old : ∀ b o, hp.get? b = some o → h'.get? b = some o := fun b o e => k' b o (Nat.ne_of_lt (Nat.lt_succ_of_lt (Heap.lt_size e))) (k b o e)
  have z : hp.objs.size + 1 + 1 ≤ dx := by
    have q := dn
    rw [Heap.size_push, Heap.size_push] at q
    exact q
  exact ⟨rfl, hq h' tk' (hp.objs.size + 1) dx ⟨old, Nat.le_succ _, ⟨_, hx⟩, (show hp.objs.size ≤ dx by omega), dne, hns⟩⟩
end
end Exn
namespace Exn
open PySem PySem.Spec PyProof.Rows L2
theorem relO_item {v : V} {v' : Value} (r : RelV v v') (f : Str) : RelO (List.lookup f [(("item" : Str), v)]) (if f = "item" then some v' else none) := by
  by_cases hw : f = "item"
  · subst hw
    rw [if_pos rfl, show List.lookup ("item" : Str) [(("item" : Str), v)] = some v by simp [List.lookup]]
    exact r
  · have qw : (f == ("item" : Str)) = false := by simpa using hw
    rw [if_neg hw, show List.lookup f [(("item" : Str), v)] = none by simp [List.lookup, qw]]
    trivial
section
variable {X : Cx} {nm qual : Str} {B Bm newId initId : String} {bmB bm0 : List Value} {C fI : Addr}
/-- the making of the error that is raised at once -/
def tMk_item (C : Addr) (ta : TA) : L2.St → Hp → XK → Prop := fun σ H Q => ta σ H fun vs H1 => ∃ v, vs = [v] ∧ ∀ d, H1 d = none → Q (.ref C) (some d) (upd H1 d (.xd [(("item" : Str), v)]))
theorem pmk_item {a : Expr} {ta : TA} {p pos : Pos} {k : Nat} (T : Ecl_item X.K X.mg nm qual B Bm newId initId bmB bm0 C fI) (hr : Room k X.A) (ha : PA X [a] ta) (hg : Gl X nm) (hdb : (nm == ("__debug__" : Str)) = false := by decide)
    (he : starEach (a :: []) X.env = (false, eval a X.env) :: starEach [] X.env := by rfl) (hpl : (backTo pos (starEach [] X.env)).any (·.1) = false := by rfl) :
    PMk X (.Call (.Name nm p) [a] [] pos) (tMk_item C ta) := by
  intro pins s σ H Q I h
  refine wpAny_Call_Name_kw (ld_glob I hg T.gC ?_ hdb)
  refine PySem.W.callWith_K (h₀ := X.base) I.ok.mod.kin T.kC (thn (ha.run pos pins s σ H _ I h) ?_) he hpl
  rintro us s1 ⟨vs, H1, I1, r1, v, rfl, q1⟩
  obtain ⟨v', rfl, rv⟩ := vals1 r1
  refine ⟨I1.kIn, ?_⟩
  have hlim := I1.nolimit
  have hdp := hr.dp
  obtain ⟨hp, g, dr, tk, os⟩ := s1
  refine wpAny_call (made_item T I1.kIn hlim (by omega) (.inl ⟨rfl, rfl⟩) fun h' tk' e d M => ?_)
  show MkP X pins σ Q (.ref e) ⟨h', g, dr, tk', os⟩
  obtain ⟨t1, hoe⟩ := M.obj
  have hns := M.ns
  obtain ⟨G', g1, g2⟩ := restrict h' fun b => decide (b ≠ e)
  have gk : ∀ b, b ≠ e → G'.get? b = h'.get? b := fun b hb => g1 b (decide_eq_true hb)
  have ge : G'.get? e = none := g2 e (by simp)
  have old : ∀ b o, hp.get? b = some o → G'.get? b = some o := fun b o q => (gk b (Nat.ne_of_lt (Nat.lt_of_lt_of_le (Heap.lt_size q) M.new))).trans (M.keep b o q)
  have ob : ObjOk X.prog X.w (upd H1 d (.xd [(("item" : Str), v)])) G' d (.xd [(("item" : Str), v)]) := ⟨_, hns.at (fun o q => (gk d M.dne).trans q), fun f => relO_item rv f⟩
  have J : Inv X pins σ (upd H1 d (.xd [(("item" : Str), v)])) ⟨G', g, dr, tk', os⟩ := I1.laid (t' := tk') old M.dbig ob
  refine ⟨e, _, _, ⟨G', g, dr, tk', os⟩, _, .ref C, some d, rfl, J, fun b o q => ?_, ge, hoe, ⟨rfl, rfl⟩, rfl, rfl, ?_, rfl, I1.bare, raises_own T.exC T.tyC, q1 d (I1.hok.fresh M.dbig)⟩
  · by_cases hb : b = e
    · have q' : G'.get? b = some o := q
      rw [hb, ge] at q'
      cases q'
    · exact (gk b hb).symm.trans q
  · rw [upd_ne (Ne.symm M.dne)]
    exact I1.hok.fresh M.new
/-- the error as a value -/
abbrev tMkV_item (C : Addr) (ta : TA) : TE := tMkVg "item" C ta
theorem mkV_item {pins : List (Addr × Obj)} {s : Shared} {σ : L2.St} {H : Hp} {Q : VK} {v : V} {v' : Value} {rest : List Value} {kw : List (Str × Value)} {k : Nat} (T : Ecl_item X.K X.mg nm qual B Bm newId initId bmB bm0 C fI) (hr : Room k X.A) (I : Inv X pins σ H s) (rv : RelV v v')
    (how : (rest = [v'] ∧ kw = []) ∨ (rest = [] ∧ kw = [(("item" : Str), v')])) (q : ∀ d a, H d = none → H a = none → a ≠ d → Q (.ref a) (upd (upd H d (.xd [(("item" : Str), v)])) a (ExV C d a))) :
    wpAny (model X.prog X.w) X.A (call (.ref C) rest kw) (EP X pins σ Q) X.xe s := by
  have hlim := I.nolimit
  have hdp := hr.dp
  obtain ⟨hp, g, dr, tk, os⟩ := s
  refine wpAny_call (made_item T I.kIn hlim (by omega) how fun h' tk' e d M => ?_)
  obtain ⟨t1, hoe⟩ := M.obj
  obtain ⟨G', g1, g2⟩ := restrict h' fun b => decide (b ≠ e)
  have gk : ∀ b, b ≠ e → G'.get? b = h'.get? b := fun b hb => g1 b (decide_eq_true hb)
  have ge : G'.get? e = none := g2 e (by simp)
  have old : ∀ b o, hp.get? b = some o → G'.get? b = some o := fun b o z => (gk b (Nat.ne_of_lt (Nat.lt_of_lt_of_le (Heap.lt_size z) M.new))).trans (M.keep b o z)
  have J : Inv X pins σ (upd H d (.xd [(("item" : Str), v)])) ⟨G', g, dr, tk', os⟩ := I.laid (t' := tk') old M.dbig ⟨_, M.ns.at (fun o z => (gk d M.dne).trans z), fun f => relO_item rv f⟩
  have nHe : H e = none := I.hok.fresh M.new
  have nHe2 : (upd H d (.xd [(("item" : Str), v)])) e = none := by rw [upd_ne (Ne.symm M.dne)]; exact nHe
  have sub : ∀ b u, G'.get? b = some u → h'.get? b = some u := fun b o z => by
    by_cases hb : b = e
    · rw [hb, ge] at z; cases z
    · exact (gk b hb).symm.trans z
  exact ⟨.ref e, _, J.laidN (t' := tk') sub ge nHe2 (exV_ok hoe), rfl, q d e (I.hok.fresh M.dbig) nHe (Ne.symm M.dne)⟩
theorem pe_mkV_item {a : Expr} {ta : TA} {p pos : Pos} {k : Nat} (T : Ecl_item X.K X.mg nm qual B Bm newId initId bmB bm0 C fI) (hr : Room k X.A) (ha : PA X [a] ta) (hg : Gl X nm) (hdb : (nm == ("__debug__" : Str)) = false := by decide)
    (he : starEach (a :: []) X.env = (false, eval a X.env) :: starEach [] X.env := by rfl) (hpl : (backTo pos (starEach [] X.env)).any (·.1) = false := by rfl) : PE X (.Call (.Name nm p) [a] [] pos) (tMkV_item C ta) := by
  refine ⟨fun pins s σ H Q I h => wpAny_Call_Name_kw (ld_glob I hg T.gC ?_ hdb)⟩
  refine PySem.W.callWith_K (h₀ := X.base) I.ok.mod.kin T.kC (thn (ha.run pos pins s σ H _ I h) ?_) he hpl
  rintro us s1 ⟨vs, H1, I1, r1, v, rfl, q1⟩
  obtain ⟨v', rfl, rv⟩ := vals1 r1
  exact ⟨I1.kIn, mkV_item T hr I1 rv (.inl ⟨rfl, rfl⟩) q1⟩
theorem pe_mkK_item {kws : List Keyword} {tk : TA} {p pos : Pos} {k : Nat} (T : Ecl_item X.K X.mg nm qual B Bm newId initId bmB bm0 C fI) (hr : Room k X.A) (hkw : PK X kws tk) (hg : Gl X nm) (hdb : (nm == ("__debug__" : Str)) = false := by decide)
    (hal : (backToKw pos (keywordEach kws X.env)).all (·.1.isSome) = true := by rfl) (hks : (backToKw pos (keywordEach kws X.env)).filterMap (·.1) = [("item" : Str)] := by rfl)
    (hst : ((backTo pos (starEach [] X.env)).any (·.1) || (backToKw pos (keywordEach kws X.env)).any (·.1.isNone)) = false := by rfl) : PE X (.Call (.Name nm p) [] kws pos) (tMkV_item C tk) := by
  refine ⟨fun pins s σ H Q I h => wpAny_Call_Name_kw (ld_glob I hg T.gC ?_ hdb)⟩
  refine PySem.W.callWith_KW0 (h₀ := X.base) I.ok.mod.kin T.kC hal (thn (hkw.run pos pins s σ H _ I h) ?_) hst
  rintro us s1 ⟨vs, H1, I1, r1, v, rfl, q1⟩
  obtain ⟨v', rfl, rv⟩ := vals1 r1
  refine ⟨I1.kIn, ?_⟩
  rw [hks]
  exact mkV_item T hr I1 rv (.inr ⟨rfl, rfl⟩) q1
end
end Exn
/-! the field limit -/
namespace Exn
open PySem PySem.W PySem.Calls PyProof.Rows PySem.HandSPX
/-- what the written part says of such a class: its name, its place C, its __init__ at fI -/
structure Ecl_limit (K : Frag) (mg : Str → Option Value) (nm qual : Str) (B Bm newId initId : String) (bmB bm0 : List Value) (C fI : Addr) : Prop where
  fb : ExcBaseFacts Bm newId initId bm0
  ch : Chain bmB Bm
  sf : StoreFacts B bmB "object.__setattr__" "object"
  gC : mg nm = some (.ref C)
  ini : excInitIn K C bmB newId = true
  ovr : excOver K C bmB = true
  hdC : hasDictIn K C = true
  sa : findIn K (.ref C) "__setattr__" = some (some (.builtin "object.__setattr__"))
  ga : findIn K (.ref C) "__getattribute__" = some (some (.builtin "BaseException.__getattribute__"))
  gg : findIn K (.ref C) "__getattr__" = some none
  noN : findIn K (.ref C) "limit" = some none
  tk : takerIn K C "limit" = some none
  iC : findIn K (.ref C) "__init__" = some (some (.ref fI))
  tC : typeIn K (.ref fI) = some (.type "function")
  kC : keepIn K (.ref C) = true
  exC : subIn K (.ref C) (.type "BaseException") = some true
  tyC : typeIn K (.ref C) = some (.type "type")
  fn : ∃ (oc : Value) (od : Option Addr) (doc pm : Value) (an : Option Addr) (cdv ct : Value) (osl : Array (Option Value)) (p1 p2 q1 q2 q3 q4 : Pos),
    K.lookup fI = some ⟨oc, od, .func (fnOf "__init__" qual (iA "limit" p1 p2) (iB "limit" q1 q2 q3 q4) (iS "limit" []) .none .none doc pm an cdv ct), osl⟩ ∧ codeIn K cdv qual = true
theorem ecl_limit {K : Frag} {mg : Str → Option Value} {nm qual : Str} {B Bm newId initId : String} {bmB bm0 : List Value} {C fI : Addr} (fb : ExcBaseFacts Bm newId initId bm0) (ch : Chain bmB Bm) (sf : StoreFacts B bmB "object.__setattr__" "object") (gC : mg nm = some (.ref C))
    (h : ecB K C fI "limit" bmB newId = true) (iC : findIn K (.ref C) "__init__" = some (some (.ref fI))) {oc : Value} {od : Option Addr} {doc pm : Value} {an : Option Addr} {cdv ct : Value} {osl : Array (Option Value)} {p1 p2 q1 q2 q3 q4 : Pos}
    (l : K.lookup fI = some ⟨oc, od, .func (fnOf "__init__" qual (iA "limit" p1 p2) (iB "limit" q1 q2 q3 q4) (iS "limit" []) .none .none doc pm an cdv ct), osl⟩) (c : codeIn K cdv qual = true) : Ecl_limit K mg nm qual B Bm newId initId bmB bm0 C fI := by
  unfold ecB at h
  simp only [Bool.and_eq_true, decide_eq_true_eq] at h
  obtain ⟨h1, h2, h3, h4, h5, h6, h7, h8, h9, h10, h11, h12, _⟩ := h
  exact ⟨fb, ch, sf, gC, h1, h2, h3, h4, h5, h6, h7, h8, iC, h9, h10, h11, h12, ⟨oc, od, doc, pm, an, cdv, ct, osl, p1, p2, q1, q2, q3, q4, l, c⟩⟩
/-- an error just made: at e, its dict at d, the field in it -/
structure Made_limit (h h' : Heap) (e C d : Addr) (v : Value) : Prop where
  keep : ∀ b o, h.get? b = some o → h'.get? b = some o
  new : h.objs.size ≤ e
  obj : ∃ t1 : Addr, h'.get? e = some { cls := .ref C, dict := some d, data := .fields #[.ref t1, .none, .none, .none, .bool false, .none] }
  dbig : h.objs.size ≤ d
  dne : d ≠ e
  ns : h'.Ns1 d (fun y => if y = "limit" then some v else none)
section
variable {prog : Program} {w : World} {A : Around} {E : Value → Shared → Prop} {R : Result → Shared → Prop} {s : Shared} {K : Frag} {mg : Str → Option Value} {nm qual : Str} {B Bm newId initId : String} {bmB bm0 : List Value} {C fI : Addr}
theorem init_limit (T : Ecl_limit K mg nm qual B Bm newId initId bmB bm0 C fI) {x t0 : Addr} {v : Value} {ar : Args} (X : K.In s.heap) (hlim : s.heap.NoLimit) (hx : s.heap.get? x = some (excO C t0)) (hroom : A.depth < recursionLimit)
    (hbind : ∀ doc pm an cdv ct p1 p2 q1 q2 q3 q4 s', BindsTo s' (fnOf "__init__" qual (iA "limit" p1 p2) (iB "limit" q1 q2 q3 q4) (iS "limit" []) .none .none doc pm an cdv ct) ar [("self", .ref x), ("limit", v)])
    (hq : ∀ h' tk dx, (∀ b o, b ≠ x → s.heap.get? b = some o → h'.get? b = some o) → h'.get? x = some { cls := .ref C, dict := some dx, data := .fields #[.ref t0, .none, .none, .none, .bool false, .none] } → s.heap.objs.size ≤ dx → dx ≠ x →
      h'.Ns1 dx (fun y => if y = "limit" then some v else none) → R (.ok (.ret .none)) { s with heap := h', toks := tk }) :
    codeAny (model prog w) A (.call (.ref fI) ar) R s := by
  obtain ⟨oc, od, doc, pm, an, cdv, ct, osl, p1, p2, q1, q2, q3, q4, ho, hcd⟩ := T.fn
  obtain ⟨cd, hcl, hhd⟩ := any_some T.hdC
  refine Att.call_fn (binds := [("self", .ref x), ("limit", v)]) X hlim ho hcd hroom (hbind _ _ _ _ _ _ _ _ _ _ _ _) (by first | rfl | decide | with_unfolding_all rfl) (fun s₁ IC => ?_) rfl rfl rfl
  obtain ⟨h₁, tk₁, rfl⟩ := IC.toInCall.same
  have k := IC.toInCall.keep
  have hn := IC.toInCall.ns
  have X₁ : K.In h₁ := X.keeps k
  show wpAny _ _ (execs _ _) _ _ _
  refine wpAny_execs_cons (plainObj_wpAny_Assign_Attribute ?_)
  refine wpAny_Name (wpAny_loadName_local rfl rfl hn (v := v) (by first | rfl | with_unfolding_all rfl | kernel_rfl) ?_) (by decide)
  refine wpAny_Name (wpAny_loadName_local rfl rfl hn (v := .ref x) (by first | rfl | with_unfolding_all rfl | kernel_rfl) ?_) (by decide)
  refine set_plain X₁ (ox := excO C t0) (od := none) ⟨k _ _ hx, rfl, rfl, trivial⟩ T.sa (osaB T.sf X₁ (k _ _ hx) T.ovr T.tk hcl hhd fun h₃ tk₃ dx k₃ dn dne hx₃ hn₃ => ?_)
  show wpAny _ _ (execs _ _) _ _ _
  exact wpAny_execs_nil (hq h₃ tk₃ dx (fun b o hb e => k₃ b o hb (k b o e)) hx₃ (Nat.le_of_lt (Nat.lt_of_lt_of_le hn.lt dn)) dne hn₃)
theorem made_limit (T : Ecl_limit K mg nm qual B Bm newId initId bmB bm0 C fI) {v : Value} {rest : List Value} {kw : List (Str × Value)} (X : K.In s.heap) (hlim : s.heap.NoLimit) (hroom : A.depth + 1 < recursionLimit) (how : (rest = [v] ∧ kw = []) ∨ (rest = [] ∧ kw = [(("limit" : Str), v)]))
    (hq : ∀ h' tk e d, Made_limit s.heap h' e C d v → R (.ok (.ret (.ref e))) { s with heap := h', toks := tk }) :
    codeAny (model prog w) A (.call (.ref C) ⟨rest, kw⟩) R s := by
  obtain ⟨nm', N, q, bs, bm, hd, sn, sub, ab, col, dd, k0, k1, k2, k3, k5, hC, hbm⟩ := excInit_of X T.ini
  obtain ⟨hp, g, dr, tk, os⟩ := s
  have k : ∀ b o, hp.get? b = some o → ((hp.push (kdv_tup rest)).push (excO C hp.objs.size)).get? b = some o := fun b o e => Heap.get?_push_of_some _ (Heap.get?_push_of_some _ e)
  have hget : ((hp.push (kdv_tup rest)).push (excO C hp.objs.size)).get? (hp.objs.size + 1) = some (excO C hp.objs.size) := by heap_get
  have chn : Chain bm Bm := ⟨by rw [hbm]; exact T.ch.cB, by rw [hbm]; exact T.ch.cA, by rw [hbm]; exact T.ch.cN⟩
  have hsz : rest.length ≤ sizeLine := by rcases how with ⟨rfl, _⟩ | ⟨rfl, _⟩ <;> (rw [sizeLine_eq]; simp)
  refine callX T.fb chn hC (looks_findIn X T.iC) (fun self => bind_fn X self T.tC) hsz ?_
  refine init_limit (s := ⟨(hp.push (kdv_tup rest)).push (excO C hp.objs.size), g, dr, tk, os⟩) (v := v) T (X.keeps k) (hlim.keeps k) hget (show A.depth + 1 < recursionLimit from hroom) ?_ fun h' tk' dx k' hx dn dne hns => ?_
  · rcases how with ⟨rfl, rfl⟩ | ⟨rfl, rfl⟩
    · exact fun _ _ _ _ _ _ _ _ _ _ _ _ => BindsTo.of_eq (by first | rfl | with_unfolding_all rfl)
    · exact fun _ _ _ _ _ _ _ _ _ _ _ _ => BindsTo.of_eq (by first | rfl | with_unfolding_all rfl)
  have old : ∀ b o, hp.get? b = some o → h'.get? b = some o := fun b o e => k' b o (Nat.ne_of_lt (Nat.lt_succ_of_lt (Heap.lt_size e))) (k b o e)
  have z : hp.objs.size + 1 + 1 ≤ dx := by
    have q := dn
    rw [Heap.size_push, Heap.size_push] at q
    exact q
  exact ⟨rfl, hq h' tk' (hp.objs.size + 1) dx ⟨old, Nat.le_succ _, ⟨_, hx⟩, (show hp.objs.size ≤ dx by omega), dne, hns⟩⟩
end
end Exn
namespace Exn
open PySem PySem.Spec PyProof.Rows L2
theorem relO_limit {v : V} {v' : Value} (r : RelV v v') (f : Str) : RelO (List.lookup f [(("limit" : Str), v)]) (if f = "limit" then some v' else none) := by
  by_cases hw : f = "limit"
  · subst hw
    rw [if_pos rfl, show List.lookup ("limit" : Str) [(("limit" : Str), v)] = some v by simp [List.lookup]]
    exact r
  · have qw : (f == ("limit" : Str)) = false := by simpa using hw
    rw [if_neg hw, show List.lookup f [(("limit" : Str), v)] = none by simp [List.lookup, qw]]
    trivial
section
variable {X : Cx} {nm qual : Str} {B Bm newId initId : String} {bmB bm0 : List Value} {C fI : Addr}
/-- the making of the error that is raised at once -/
def tMk_limit (C : Addr) (ta : TA) : L2.St → Hp → XK → Prop := fun σ H Q => ta σ H fun vs H1 => ∃ v, vs = [v] ∧ ∀ d, H1 d = none → Q (.ref C) (some d) (upd H1 d (.xd [(("limit" : Str), v)]))
theorem pmk_limit {a : Expr} {ta : TA} {p pos : Pos} {k : Nat} (T : Ecl_limit X.K X.mg nm qual B Bm newId initId bmB bm0 C fI) (hr : Room k X.A) (ha : PA X [a] ta) (hg : Gl X nm) (hdb : (nm == ("__debug__" : Str)) = false := by decide)
    (he : starEach (a :: []) X.env = (false, eval a X.env) :: starEach [] X.env := by rfl) (hpl : (backTo pos (starEach [] X.env)).any (·.1) = false := by rfl) :
    PMk X (.Call (.Name nm p) [a] [] pos) (tMk_limit C ta) := by
  intro pins s σ H Q I h
  refine wpAny_Call_Name_kw (ld_glob I hg T.gC ?_ hdb)
  refine PySem.W.callWith_K (h₀ := X.base) I.ok.mod.kin T.kC (thn (ha.run pos pins s σ H _ I h) ?_) he hpl
  rintro us s1 ⟨vs, H1, I1, r1, v, rfl, q1⟩
  obtain ⟨v', rfl, rv⟩ := vals1 r1
  refine ⟨I1.kIn, ?_⟩
  have hlim := I1.nolimit
  have hdp := hr.dp
  obtain ⟨hp, g, dr, tk, os⟩ := s1
  refine wpAny_call (made_limit T I1.kIn hlim (by omega) (.inl ⟨rfl, rfl⟩) fun h' tk' e d M => ?_)
  show MkP X pins σ Q (.ref e) ⟨h', g, dr, tk', os⟩
  obtain ⟨t1, hoe⟩ := M.obj
  have hns := M.ns
  obtain ⟨G', g1, g2⟩ := restrict h' fun b => decide (b ≠ e)
  have gk : ∀ b, b ≠ e → G'.get? b = h'.get? b := fun b hb => g1 b (decide_eq_true hb)
  have ge : G'.get? e = none := g2 e (by simp)
  have old : ∀ b o, hp.get? b = some o → G'.get? b = some o := fun b o q => (gk b (Nat.ne_of_lt (Nat.lt_of_lt_of_le (Heap.lt_size q) M.new))).trans (M.keep b o q)
  have ob : ObjOk X.prog X.w (upd H1 d (.xd [(("limit" : Str), v)])) G' d (.xd [(("limit" : Str), v)]) := ⟨_, hns.at (fun o q => (gk d M.dne).trans q), fun f => relO_limit rv f⟩
  have J : Inv X pins σ (upd H1 d (.xd [(("limit" : Str), v)])) ⟨G', g, dr, tk', os⟩ := I1.laid (t' := tk') old M.dbig ob
  refine ⟨e, _, _, ⟨G', g, dr, tk', os⟩, _, .ref C, some d, rfl, J, fun b o q => ?_, ge, hoe, ⟨rfl, rfl⟩, rfl, rfl, ?_, rfl, I1.bare, raises_own T.exC T.tyC, q1 d (I1.hok.fresh M.dbig)⟩
  · by_cases hb : b = e
    · have q' : G'.get? b = some o := q
      rw [hb, ge] at q'
      cases q'
    · exact (gk b hb).symm.trans q
  · rw [upd_ne (Ne.symm M.dne)]
    exact I1.hok.fresh M.new
/-- the error as a value -/
abbrev tMkV_limit (C : Addr) (ta : TA) : TE := tMkVg "limit" C ta
theorem mkV_limit {pins : List (Addr × Obj)} {s : Shared} {σ : L2.St} {H : Hp} {Q : VK} {v : V} {v' : Value} {rest : List Value} {kw : List (Str × Value)} {k : Nat} (T : Ecl_limit X.K X.mg nm qual B Bm newId initId bmB bm0 C fI) (hr : Room k X.A) (I : Inv X pins σ H s) (rv : RelV v v')
    (how : (rest = [v'] ∧ kw = []) ∨ (rest = [] ∧ kw = [(("limit" : Str), v')])) (q : ∀ d a, H d = none → H a = none → a ≠ d → Q (.ref a) (upd (upd H d (.xd [(("limit" : Str), v)])) a (ExV C d a))) :
    wpAny (model X.prog X.w) X.A (call (.ref C) rest kw) (EP X pins σ Q) X.xe s := by
  have hlim := I.nolimit
  have hdp := hr.dp
  obtain ⟨hp, g, dr, tk, os⟩ := s
  refine wpAny_call (made_limit T I.kIn hlim (by omega) how fun h' tk' e d M => ?_)
  obtain ⟨t1, hoe⟩ := M.obj
  obtain ⟨G', g1, g2⟩ := restrict h' fun b => decide (b ≠ e)
  have gk : ∀ b, b ≠ e → G'.get? b = h'.get? b := fun b hb => g1 b (decide_eq_true hb)
  have ge : G'.get? e = none := g2 e (by simp)
  have old : ∀ b o, hp.get? b = some o → G'.get? b = some o := fun b o z => (gk b (Nat.ne_of_lt (Nat.lt_of_lt_of_le (Heap.lt_size z) M.new))).trans (M.keep b o z)
  have J : Inv X pins σ (upd H d (.xd [(("limit" : Str), v)])) ⟨G', g, dr, tk', os⟩ := I.laid (t' := tk') old M.dbig ⟨_, M.ns.at (fun o z => (gk d M.dne).trans z), fun f => relO_limit rv f⟩
  have nHe : H e = none := I.hok.fresh M.new
  have nHe2 : (upd H d (.xd [(("limit" : Str), v)])) e = none := by rw [upd_ne (Ne.symm M.dne)]; exact nHe
  have sub : ∀ b u, G'.get? b = some u → h'.get? b = some u := fun b o z => by
    by_cases hb : b = e
    · rw [hb, ge] at z; cases z
    · exact (gk b hb).symm.trans z
  exact ⟨.ref e, _, J.laidN (t' := tk') sub ge nHe2 (exV_ok hoe), rfl, q d e (I.hok.fresh M.dbig) nHe (Ne.symm M.dne)⟩
theorem pe_mkV_limit {a : Expr} {ta : TA} {p pos : Pos} {k : Nat} (T : Ecl_limit X.K X.mg nm qual B Bm newId initId bmB bm0 C fI) (hr : Room k X.A) (ha : PA X [a] ta) (hg : Gl X nm) (hdb : (nm == ("__debug__" : Str)) = false := by decide)
    (he : starEach (a :: []) X.env = (false, eval a X.env) :: starEach [] X.env := by rfl) (hpl : (backTo pos (starEach [] X.env)).any (·.1) = false := by rfl) : PE X (.Call (.Name nm p) [a] [] pos) (tMkV_limit C ta) := by
  refine ⟨fun pins s σ H Q I h => wpAny_Call_Name_kw (ld_glob I hg T.gC ?_ hdb)⟩
  refine PySem.W.callWith_K (h₀ := X.base) I.ok.mod.kin T.kC (thn (ha.run pos pins s σ H _ I h) ?_) he hpl
  rintro us s1 ⟨vs, H1, I1, r1, v, rfl, q1⟩
  obtain ⟨v', rfl, rv⟩ := vals1 r1
  exact ⟨I1.kIn, mkV_limit T hr I1 rv (.inl ⟨rfl, rfl⟩) q1⟩
theorem pe_mkK_limit {kws : List Keyword} {tk : TA} {p pos : Pos} {k : Nat} (T : Ecl_limit X.K X.mg nm qual B Bm newId initId bmB bm0 C fI) (hr : Room k X.A) (hkw : PK X kws tk) (hg : Gl X nm) (hdb : (nm == ("__debug__" : Str)) = false := by decide)
    (hal : (backToKw pos (keywordEach kws X.env)).all (·.1.isSome) = true := by rfl) (hks : (backToKw pos (keywordEach kws X.env)).filterMap (·.1) = [("limit" : Str)] := by rfl)
    (hst : ((backTo pos (starEach [] X.env)).any (·.1) || (backToKw pos (keywordEach kws X.env)).any (·.1.isNone)) = false := by rfl) : PE X (.Call (.Name nm p) [] kws pos) (tMkV_limit C tk) := by
  refine ⟨fun pins s σ H Q I h => wpAny_Call_Name_kw (ld_glob I hg T.gC ?_ hdb)⟩
  refine PySem.W.callWith_KW0 (h₀ := X.base) I.ok.mod.kin T.kC hal (thn (hkw.run pos pins s σ H _ I h) ?_) hst
  rintro us s1 ⟨vs, H1, I1, r1, v, rfl, q1⟩
  obtain ⟨v', rfl, rv⟩ := vals1 r1
  refine ⟨I1.kIn, ?_⟩
  rw [hks]
  exact mkV_limit T hr I1 rv (.inr ⟨rfl, rfl⟩) q1
end
end Exn
/-! the field count -/
namespace Exn
open PySem PySem.W PySem.Calls PyProof.Rows PySem.HandSPX
/-- what the written part says of such a class: its name, its place C, its __init__ at fI -/
structure Ecl_count (K : Frag) (mg : Str → Option Value) (nm qual : Str) (B Bm newId initId : String) (bmB bm0 : List Value) (C fI : Addr) : Prop where
  fb : ExcBaseFacts Bm newId initId bm0
  ch : Chain bmB Bm
  sf : StoreFacts B bmB "object.__setattr__" "object"
  gC : mg nm = some (.ref C)
  ini : excInitIn K C bmB newId = true
  ovr : excOver K C bmB = true
  hdC : hasDictIn K C = true
  sa : findIn K (.ref C) "__setattr__" = some (some (.builtin "object.__setattr__"))
  ga : findIn K (.ref C) "__getattribute__" = some (some (.builtin "BaseException.__getattribute__"))
  gg : findIn K (.ref C) "__getattr__" = some none
  noN : findIn K (.ref C) "count" = some none
  tk : takerIn K C "count" = some none
  iC : findIn K (.ref C) "__init__" = some (some (.ref fI))
  tC : typeIn K (.ref fI) = some (.type "function")
  kC : keepIn K (.ref C) = true
  exC : subIn K (.ref C) (.type "BaseException") = some true
  tyC : typeIn K (.ref C) = some (.type "type")
  fn : ∃ (oc : Value) (od : Option Addr) (doc pm : Value) (an : Option Addr) (cdv ct : Value) (osl : Array (Option Value)) (p1 p2 q1 q2 q3 q4 : Pos),
    K.lookup fI = some ⟨oc, od, .func (fnOf "__init__" qual (iA "count" p1 p2) (iB "count" q1 q2 q3 q4) (iS "count" []) .none .none doc pm an cdv ct), osl⟩ ∧ codeIn K cdv qual = true
theorem ecl_count {K : Frag} {mg : Str → Option Value} {nm qual : Str} {B Bm newId initId : String} {bmB bm0 : List Value} {C fI : Addr} (fb : ExcBaseFacts Bm newId initId bm0) (ch : Chain bmB Bm) (sf : StoreFacts B bmB "object.__setattr__" "object") (gC : mg nm = some (.ref C))
    (h : ecB K C fI "count" bmB newId = true) (iC : findIn K (.ref C) "__init__" = some (some (.ref fI))) {oc : Value} {od : Option Addr} {doc pm : Value} {an : Option Addr} {cdv ct : Value} {osl : Array (Option Value)} {p1 p2 q1 q2 q3 q4 : Pos}
    (l : K.lookup fI = some ⟨oc, od, .func (fnOf "__init__" qual (iA "count" p1 p2) (iB "count" q1 q2 q3 q4) (iS "count" []) .none .none doc pm an cdv ct), osl⟩) (c : codeIn K cdv qual = true) : Ecl_count K mg nm qual B Bm newId initId bmB bm0 C fI := by
  unfold ecB at h
  simp only [Bool.and_eq_true, decide_eq_true_eq] at h
  obtain ⟨h1, h2, h3, h4, h5, h6, h7, h8, h9, h10, h11, h12, _⟩ := h
  exact ⟨fb, ch, sf, gC, h1, h2, h3, h4, h5, h6, h7, h8, iC, h9, h10, h11, h12, ⟨oc, od, doc, pm, an, cdv, ct, osl, p1, p2, q1, q2, q3, q4, l, c⟩⟩
/-- an error just made: at e, its dict at d, the field in it -/
structure Made_count (h h' : Heap) (e C d : Addr) (v : Value) : Prop where
  keep : ∀ b o, h.get? b = some o → h'.get? b = some o
  new : h.objs.size ≤ e
  obj : ∃ t1 : Addr, h'.get? e = some { cls := .ref C, dict := some d, data := .fields #[.ref t1, .none, .none, .none, .bool false, .none] }
  dbig : h.objs.size ≤ d
  dne : d ≠ e
  ns : h'.Ns1 d (fun y => if y = "count" then some v else none)
section
variable {prog : Program} {w : World} {A : Around} {E : Value → Shared → Prop} {R : Result → Shared → Prop} {s : Shared} {K : Frag} {mg : Str → Option Value} {nm qual : Str} {B Bm newId initId : String} {bmB bm0 : List Value} {C fI : Addr}
theorem init_count (T : Ecl_count K mg nm qual B Bm newId initId bmB bm0 C fI) {x t0 : Addr} {v : Value} {ar : Args} (X : K.In s.heap) (hlim : s.heap.NoLimit) (hx : s.heap.get? x = some (excO C t0)) (hroom : A.depth < recursionLimit)
    (hbind : ∀ doc pm an cdv ct p1 p2 q1 q2 q3 q4 s', BindsTo s' (fnOf "__init__" qual (iA "count" p1 p2) (iB "count" q1 q2 q3 q4) (iS "count" []) .none .none doc pm an cdv ct) ar [("self", .ref x), ("count", v)])
    (hq : ∀ h' tk dx, (∀ b o, b ≠ x → s.heap.get? b = some o → h'.get? b = some o) → h'.get? x = some { cls := .ref C, dict := some dx, data := .fields #[.ref t0, .none, .none, .none, .bool false, .none] } → s.heap.objs.size ≤ dx → dx ≠ x →
      h'.Ns1 dx (fun y => if y = "count" then some v else none) → R (.ok (.ret .none)) { s with heap := h', toks := tk }) :
    codeAny (model prog w) A (.call (.ref fI) ar) R s := by
  obtain ⟨oc, od, doc, pm, an, cdv, ct, osl, p1, p2, q1, q2, q3, q4, ho, hcd⟩ := T.fn
  obtain ⟨cd, hcl, hhd⟩ := any_some T.hdC
  refine Att.call_fn (binds := [("self", .ref x), ("count", v)]) X hlim ho hcd hroom (hbind _ _ _ _ _ _ _ _ _ _ _ _) (by first | rfl | decide | with_unfolding_all rfl) (fun s₁ IC => ?_) rfl rfl rfl
  obtain ⟨h₁, tk₁, rfl⟩ := IC.toInCall.same
  have k := IC.toInCall.keep
  have hn := IC.toInCall.ns
  have X₁ : K.In h₁ := X.keeps k
  show wpAny _ _ (execs _ _) _ _ _
  refine wpAny_execs_cons (plainObj_wpAny_Assign_Attribute ?_)
  refine wpAny_Name (wpAny_loadName_local rfl rfl hn (v := v) (by first | rfl | with_unfolding_all rfl | kernel_rfl) ?_) (by decide)
  refine wpAny_Name (wpAny_loadName_local rfl rfl hn (v := .ref x) (by first | rfl | with_unfolding_all rfl | kernel_rfl) ?_) (by decide)
  refine set_plain X₁ (ox := excO C t0) (od := none) ⟨k _ _ hx, rfl, rfl, trivial⟩ T.sa (osaB T.sf X₁ (k _ _ hx) T.ovr T.tk hcl hhd fun h₃ tk₃ dx k₃ dn dne hx₃ hn₃ => ?_)
  show wpAny _ _ (execs _ _) _ _ _
  exact wpAny_execs_nil (hq h₃ tk₃ dx (fun b o hb e => k₃ b o hb (k b o e)) hx₃ (Nat.le_of_lt (Nat.lt_of_lt_of_le hn.lt dn)) dne hn₃)
theorem made_count (T : Ecl_count K mg nm qual B Bm newId initId bmB bm0 C fI) {v : Value} {rest : List Value} {kw : List (Str × Value)} (X : K.In s.heap) (hlim : s.heap.NoLimit) (hroom : A.depth + 1 < recursionLimit) (how : (rest = [v] ∧ kw = []) ∨ (rest = [] ∧ kw = [(("count" : Str), v)]))
    (hq : ∀ h' tk e d, Made_count s.heap h' e C d v → R (.ok (.ret (.ref e))) { s with heap := h', toks := tk }) :
    codeAny (model prog w) A (.call (.ref C) ⟨rest, kw⟩) R s := by
  obtain ⟨nm', N, q, bs, bm, hd, sn, sub, ab, col, dd, k0, k1, k2, k3, k5, hC, hbm⟩ := excInit_of X T.ini
  obtain ⟨hp, g, dr, tk, os⟩ := s
  have k : ∀ b o, hp.get? b = some o → ((hp.push (kdv_tup rest)).push (excO C hp.objs.size)).get? b = some o := fun b o e => Heap.get?_push_of_some _ (Heap.get?_push_of_some _ e)
  have hget : ((hp.push (kdv_tup rest)).push (excO C hp.objs.size)).get? (hp.objs.size + 1) = some (excO C hp.objs.size) := by heap_get
  have chn : Chain bm Bm := ⟨by rw [hbm]; exact T.ch.cB, by rw [hbm]; exact T.ch.cA, by rw [hbm]; exact T.ch.cN⟩
  have hsz : rest.length ≤ sizeLine := by rcases how with ⟨rfl, _⟩ | ⟨rfl, _⟩ <;> (rw [sizeLine_eq]; simp)
  refine callX T.fb chn hC (looks_findIn X T.iC) (fun self => bind_fn X self T.tC) hsz ?_
  refine init_count (s := ⟨(hp.push (kdv_tup rest)).push (excO C hp.objs.size), g, dr, tk, os⟩) (v := v) T (X.keeps k) (hlim.keeps k) hget (show A.depth + 1 < recursionLimit from hroom) ?_ fun h' tk' dx k' hx dn dne hns => ?_
  · rcases how with ⟨rfl, rfl⟩ | ⟨rfl, rfl⟩
    · exact fun _ _ _ _ _ _ _ _ _ _ _ _ => BindsTo.of_eq (by first | rfl | with_unfolding_all rfl)
    · exact fun _ _ _ _ _ _ _ _ _ _ _ _ => BindsTo.of_eq (by first | rfl | with_unfolding_all rfl)
  have old : ∀ b o, hp.get? b = some o → h'.get? b = some o := fun b o e => k' b o (Nat.ne_of_lt (Nat.lt_succ_of_lt (Heap.lt_size e))) (k b o e)
  have z : hp.objs.size + 1 + 1 ≤ dx := by
    have q := dn
    rw [Heap.size_push, Heap.size_push] at q
    exact q
  exact ⟨rfl, hq h' tk' (hp.objs.size + 1) dx ⟨old, Nat.le_succ _, ⟨_, hx⟩, (show hp.objs.size ≤ dx by omega), dne, hns⟩⟩
end
end Exn
namespace Exn
open PySem PySem.Spec PyProof.Rows L2
theorem relO_count {v : V} {v' : Value} (r : RelV v v') (f : Str) : RelO (List.lookup f [(("count" : Str), v)]) (if f = "count" then some v' else none) := by
  by_cases hw : f = "count"
  · subst hw
    rw [if_pos rfl, show List.lookup ("count" : Str) [(("count" : Str), v)] = some v by simp [List.lookup]]
    exact r
  · have qw : (f == ("count" : Str)) = false := by simpa using hw
    rw [if_neg hw, show List.lookup f [(("count" : Str), v)] = none by simp [List.lookup, qw]]
    trivial
section
variable {X : Cx} {nm qual : Str} {B Bm newId initId : String} {bmB bm0 : List Value} {C fI : Addr}
/-- the making of the error that is raised at once -/
def tMk_count (C : Addr) (ta : TA) : L2.St → Hp → XK → Prop := fun σ H Q => ta σ H fun vs H1 => ∃ v, vs = [v] ∧ ∀ d, H1 d = none → Q (.ref C) (some d) (upd H1 d (.xd [(("count" : Str), v)]))
theorem pmk_count {a : Expr} {ta : TA} {p pos : Pos} {k : Nat} (T : Ecl_count X.K X.mg nm qual B Bm newId initId bmB bm0 C fI) (hr : Room k X.A) (ha : PA X [a] ta) (hg : Gl X nm) (hdb : (nm == ("__debug__" : Str)) = false := by decide)
    (he : starEach (a :: []) X.env = (false, eval a X.env) :: starEach [] X.env := by rfl) (hpl : (backTo pos (starEach [] X.env)).any (·.1) = false := by rfl) :
    PMk X (.Call (.Name nm p) [a] [] pos) (tMk_count C ta) := by
  intro pins s σ H Q I h
  refine wpAny_Call_Name_kw (ld_glob I hg T.gC ?_ hdb)
  refine PySem.W.callWith_K (h₀ := X.base) I.ok.mod.kin T.kC (thn (ha.run pos pins s σ H _ I h) ?_) he hpl
  rintro us s1 ⟨vs, H1, I1, r1, v, rfl, q1⟩
  obtain ⟨v', rfl, rv⟩ := vals1 r1
  refine ⟨I1.kIn, ?_⟩
  have hlim := I1.nolimit
  have hdp := hr.dp
  obtain ⟨hp, g, dr, tk, os⟩ := s1
  refine wpAny_call (made_count T I1.kIn hlim (by omega) (.inl ⟨rfl, rfl⟩) fun h' tk' e d M => ?_)
  show MkP X pins σ Q (.ref e) ⟨h', g, dr, tk', os⟩
  obtain ⟨t1, hoe⟩ := M.obj
  have hns := M.ns
  obtain ⟨G', g1, g2⟩ := restrict h' fun b => decide (b ≠ e)
  have gk : ∀ b, b ≠ e → G'.get? b = h'.get? b := fun b hb => g1 b (decide_eq_true hb)
  have ge : G'.get? e = none := g2 e (by simp)
  have old : ∀ b o, hp.get? b = some o → G'.get? b = some o := fun b o q => (gk b (Nat.ne_of_lt (Nat.lt_of_lt_of_le (Heap.lt_size q) M.new))).trans (M.keep b o q)
  have ob : ObjOk X.prog X.w (upd H1 d (.xd [(("count" : Str), v)])) G' d (.xd [(("count" : Str), v)]) := ⟨_, hns.at (fun o q => (gk d M.dne).trans q), fun f => relO_count rv f⟩
  have J : Inv X pins σ (upd H1 d (.xd [(("count" : Str), v)])) ⟨G', g, dr, tk', os⟩ := I1.laid (t' := tk') old M.dbig ob
  refine ⟨e, _, _, ⟨G', g, dr, tk', os⟩, _, .ref C, some d, rfl, J, fun b o q => ?_, ge, hoe, ⟨rfl, rfl⟩, rfl, rfl, ?_, rfl, I1.bare, raises_own T.exC T.tyC, q1 d (I1.hok.fresh M.dbig)⟩
  · by_cases hb : b = e
    · have q' : G'.get? b = some o := q
      rw [hb, ge] at q'
      cases q'
    · exact (gk b hb).symm.trans q
  · rw [upd_ne (Ne.symm M.dne)]
    exact I1.hok.fresh M.new
/-- the error as a value -/
abbrev tMkV_count (C : Addr) (ta : TA) : TE := tMkVg "count" C ta
theorem mkV_count {pins : List (Addr × Obj)} {s : Shared} {σ : L2.St} {H : Hp} {Q : VK} {v : V} {v' : Value} {rest : List Value} {kw : List (Str × Value)} {k : Nat} (T : Ecl_count X.K X.mg nm qual B Bm newId initId bmB bm0 C fI) (hr : Room k X.A) (I : Inv X pins σ H s) (rv : RelV v v')
    (how : (rest = [v'] ∧ kw = []) ∨ (rest = [] ∧ kw = [(("count" : Str), v')])) (q : ∀ d a, H d = none → H a = none → a ≠ d → Q (.ref a) (upd (upd H d (.xd [(("count" : Str), v)])) a (ExV C d a))) :
    wpAny (model X.prog X.w) X.A (call (.ref C) rest kw) (EP X pins σ Q) X.xe s := by
  have hlim := I.nolimit
  have hdp := hr.dp
  obtain ⟨hp, g, dr, tk, os⟩ := s
  refine wpAny_call (made_count T I.kIn hlim (by omega) how fun h' tk' e d M => ?_)
  obtain ⟨t1, hoe⟩ := M.obj
  obtain ⟨G', g1, g2⟩ := restrict h' fun b => decide (b ≠ e)
  have gk : ∀ b, b ≠ e → G'.get? b = h'.get? b := fun b hb => g1 b (decide_eq_true hb)
  have ge : G'.get? e = none := g2 e (by simp)
  have old : ∀ b o, hp.get? b = some o → G'.get? b = some o := fun b o z => (gk b (Nat.ne_of_lt (Nat.lt_of_lt_of_le (Heap.lt_size z) M.new))).trans (M.keep b o z)
  have J : Inv X pins σ (upd H d (.xd [(("count" : Str), v)])) ⟨G', g, dr, tk', os⟩ := I.laid (t' := tk') old M.dbig ⟨_, M.ns.at (fun o z => (gk d M.dne).trans z), fun f => relO_count rv f⟩
  have nHe : H e = none := I.hok.fresh M.new
  have nHe2 : (upd H d (.xd [(("count" : Str), v)])) e = none := by rw [upd_ne (Ne.symm M.dne)]; exact nHe
  have sub : ∀ b u, G'.get? b = some u → h'.get? b = some u := fun b o z => by
    by_cases hb : b = e
    · rw [hb, ge] at z; cases z
    · exact (gk b hb).symm.trans z
  exact ⟨.ref e, _, J.laidN (t' := tk') sub ge nHe2 (exV_ok hoe), rfl, q d e (I.hok.fresh M.dbig) nHe (Ne.symm M.dne)⟩
theorem pe_mkV_count {a : Expr} {ta : TA} {p pos : Pos} {k : Nat} (T : Ecl_count X.K X.mg nm qual B Bm newId initId bmB bm0 C fI) (hr : Room k X.A) (ha : PA X [a] ta) (hg : Gl X nm) (hdb : (nm == ("__debug__" : Str)) = false := by decide)
    (he : starEach (a :: []) X.env = (false, eval a X.env) :: starEach [] X.env := by rfl) (hpl : (backTo pos (starEach [] X.env)).any (·.1) = false := by rfl) : PE X (.Call (.Name nm p) [a] [] pos) (tMkV_count C ta) := by
  refine ⟨fun pins s σ H Q I h => wpAny_Call_Name_kw (ld_glob I hg T.gC ?_ hdb)⟩
  refine PySem.W.callWith_K (h₀ := X.base) I.ok.mod.kin T.kC (thn (ha.run pos pins s σ H _ I h) ?_) he hpl
  rintro us s1 ⟨vs, H1, I1, r1, v, rfl, q1⟩
  obtain ⟨v', rfl, rv⟩ := vals1 r1
  exact ⟨I1.kIn, mkV_count T hr I1 rv (.inl ⟨rfl, rfl⟩) q1⟩
theorem pe_mkK_count {kws : List Keyword} {tk : TA} {p pos : Pos} {k : Nat} (T : Ecl_count X.K X.mg nm qual B Bm newId initId bmB bm0 C fI) (hr : Room k X.A) (hkw : PK X kws tk) (hg : Gl X nm) (hdb : (nm == ("__debug__" : Str)) = false := by decide)
    (hal : (backToKw pos (keywordEach kws X.env)).all (·.1.isSome) = true := by rfl) (hks : (backToKw pos (keywordEach kws X.env)).filterMap (·.1) = [("count" : Str)] := by rfl)
    (hst : ((backTo pos (starEach [] X.env)).any (·.1) || (backToKw pos (keywordEach kws X.env)).any (·.1.isNone)) = false := by rfl) : PE X (.Call (.Name nm p) [] kws pos) (tMkV_count C tk) := by
  refine ⟨fun pins s σ H Q I h => wpAny_Call_Name_kw (ld_glob I hg T.gC ?_ hdb)⟩
  refine PySem.W.callWith_KW0 (h₀ := X.base) I.ok.mod.kin T.kC hal (thn (hkw.run pos pins s σ H _ I h) ?_) hst
  rintro us s1 ⟨vs, H1, I1, r1, v, rfl, q1⟩
  obtain ⟨v', rfl, rv⟩ := vals1 r1
  refine ⟨I1.kIn, ?_⟩
  rw [hks]
  exact mkV_count T hr I1 rv (.inr ⟨rfl, rfl⟩) q1
end
end Exn

set_option Elab.async false
set_option linter.all false
set_option maxRecDepth 100000
set_option maxHeartbeats 400000
/-! several clauses «except X as n» with one name n -/
namespace L2
open PySem PySem.Spec PyProof.Rows
def Ends.out (D : Ends) (i : Nat) : Ends := { nx := fun τ G => D.nx (τ.set i none) G, rt := D.rt, bk := fun τ G => D.bk (τ.set i none) G, ct := fun τ G => D.ct (τ.set i none) G }
abbrev Clz := List (Value × (Addr → Value → Option Addr → TS))
def wAll (K : PySem.W.Frag) (Wout : WX) (D : Ends) (i : Nat) : Clz → WX
  | [] => Wout
  | (c, ts) :: r => fun cls d τ G => ∃ b, PySem.W.exmOne K cls c = some b ∧ (b = true → ∀ q, G q = none → ts q cls d (D.out i) (τ.set i (some (.ref q))) G) ∧ (b = false → wAll K Wout D i r cls d τ G)
inductive HdAs (X : Cx) (n : Str) : List ExceptHandler → Clz → Prop
  | nil : HdAs X n [] []
  | cons {x : Str} {c : Value} {ts : Addr → Value → Option Addr → TS} {s0 : Stmt} {su : List Stmt} {p1 p2 : Pos} {hds : List ExceptHandler} {l : Clz} (hc : Names X x c)
      (run : ∀ (q : Addr) (oq : Obj) (cls : Value) (d : Option Addr) (pn : List (Addr × Obj)), Zc cls d oq → (∃ vs, oq.data = .fields vs) → PSs (X.suite q ((q, oq) :: pn)) (s0 :: su) (ts q cls d)) (r : HdAs X n hds l) : HdAs X n (.ExceptHandler (some (.Name x p1)) (some n) (s0 :: su) p2 :: hds) ((c, ts) :: l)
section
variable {X : Cx} {body : List Stmt} {hd0 : ExceptHandler} {hds : List ExceptHandler} {l : Clz} {pos : Pos} {tb : WX → TS} {Wout : WX} {i : Nat} {n : Str}
theorem ps_tryAs (hst : X.stack = X.env :: X.outer) (hfr : X.env.frame = some X.env.locals) (hnd : X.N.Nodup) (hin : X.N[i]? = some n) (hkn : X.env.kindOf n = some .local) (out : Takes X Wout)
    (hbd : ∀ (W : WX) (pn : List (Addr × Obj)) (xe : Value → Shared → Prop), Takes (X.tr pn xe) W → PassesOwn (model X.prog X.w) X.A X.env xe → PSs (X.tr pn xe) body (tb W)) (hall : HdAs X n (hd0 :: hds) l) :
    PS X (.Try body (hd0 :: hds) [] [] pos) (fun D τ G => tb (wAll X.K Wout D i l) D τ G) := by
  refine ⟨fun pins s τ G D I h => wpAny_Try_except ?_⟩
  have ok := I.ok
  have frames : X.A.frames = some (X.env :: X.outer) := by rw [ok.frames, hst]
  refine wpAny_mono ((hbd (wAll X.K Wout D i l) (X.pn ++ pins) _ (fun u s' got => ?C) PassesOwn.looking).run [] s τ G D (I.toTry _) h) (fun f s1 hsp => ?_) (fun e s1 he => he)
  case C =>
    obtain ⟨q, B, sI, pins', τ', G', cls, d, rfl, J', nb, up, sky, nq, os, bare, w⟩ := got
    have J : Inv X pins τ' G' sI := J'.ofTry ok
    rw [hst] at sky
    refine Sky.land Zc.steady frames hfr sky fun h3 fl up3 => ?_
    have J3 : Inv X pins τ' G' { s' with heap := h3 } := J.landed nb fl.1 (up.trans up3) os bare
    obtain ⟨oq, vq, eq3, zq, dq⟩ := fl.there
    have apart : q ∉ frs (X.env :: X.outer) := fun hm => by
      obtain ⟨_, o', e', hnf⟩ := fl.2.2.1.mem hm
      rw [eq3] at e'; cases e'; exact hnf _ dq
    have nL : q ≠ X.env.locals := fun z => apart (List.mem_filterMap.mpr ⟨X.env, List.mem_cons_self, by rw [hfr, z]⟩)
    have nF : q ∉ X.fs := fun hm => by obtain ⟨e, he, r⟩ := List.mem_filterMap.mp hm; exact apart (List.mem_filterMap.mpr ⟨e, List.mem_cons_of_mem _ he, r⟩)
    have S3 := J3.suite eq3 dq nq nL nF
    have each : ∀ {hs' : List ExceptHandler} {l' : Clz}, HdAs X n hs' l' → wAll X.K Wout D i l' cls d τ' G' → wpAny (model X.prog X.w) X.A (handleBy (.ref q) X.env hs') (SP X pins D) X.xe { s' with heap := h3 } := by
      intro hs' l' ha
      induction ha with
      | nil =>
        intro w
        obtain ⟨k1, k2, k3, oe, vs, T, oT, tt, e1, e2, e3, e4, e5⟩ := id fl
        refine wpAny_handleBy_nil ?_; unfold PySem.passOn; refine wpAny_bind (wpAny_field e1 e3 e4 ?_)
        rw [if_neg (by simp : ¬ ((Value.ref T == Value.none) = true))]
        have last : wpAny (model X.prog X.w) X.A (setFlight (.ref q) X.env.frame) (fun _ t => wpAny (model X.prog X.w) X.A (throw (.ref q) : Sem Flow) (SP X pins D) X.xe t) X.xe { s' with heap := h3 } := by
          rw [hfr]; refine HandSPX.setFlight_upZ fl fun h4 hh up4 => wpAny_throw (out _ _ ?_)
          exact ⟨q, B, sI, pins, τ', G', cls, d, rfl, J, nb, (up.trans up3).trans up4, .inr (.inr (by rw [hst]; exact hh)), nq, os, bare, w⟩
        first | exact wpAny_bind (wpAny_pure (wpAny_bind last)) | exact wpAny_bind last
      | @cons x c ts s0 su p1 p2 hds2 l2 hc run r ih =>
        intro w
        obtain ⟨b, hm, hyes, hno⟩ := w
        refine wpAny_handleBy_cons (codeAny_handlers_test ?_) (fun z => by cases z)
        have ty : PySem.W.Looks (model X.prog X.w) h3 (typeOf (.ref q)) cls := fun A Q E s k z => wpAny_typeOf_ref (k _ _ eq3) (by rw [zq.1]; exact z)
        have LM := PySem.W.exm_one (M := model X.prog X.w) J3.kIn ty hm
        have name : ∀ {Q : Value → Shared → Prop} {E : Value → Shared → Prop}, Q c { s' with heap := h3 } → wpAny (model X.prog X.w) (X.A.mark (some (.ref q))) (eval (.Name x p1) X.env) Q E { s' with heap := h3 } := fun {Q E} z => by
          rcases hc with ⟨g1, g2, g3 | ⟨g3, g4, g5⟩⟩
          · exact ld_glob (X := X.suite q ((q, oq) :: (X.pn ++ pins))) S3 g1 g3 z g2
          · exact ld_blt (X := X.suite q ((q, oq) :: (X.pn ++ pins))) S3 g1 g3 g4 z g5 g2
        refine name (LM.here ?_)
        cases b with
        | false => exact ih (hno rfl)
        | true =>
          refine codeAny_handlers_suite_as (HandSPX.lands_againZ fl fun h4 fl4 up4 => ?_)
          have J4 : Inv X pins τ' G' { s' with heap := h4 } := J.landed nb fl4.1 ((up.trans up3).trans up4) os bare
          obtain ⟨o4, v4, e4, z4, d4⟩ := fl4.there
          refine store_ok (X := X.suite q ((q, o4) :: (X.pn ++ pins))) (v := .ref q) (J4.suite e4 d4 nq nL nF) hnd hin (.inl hkn) rfl (fun s5 S5 => ?_) (.inr hkn)
          refine wpAny_mono ((run q o4 cls d (X.pn ++ pins) z4 ⟨_, d4⟩).run [] s5 _ G' _ S5 (hyes rfl q nq)) (fun f s6 hsp => ?_) (fun _ _ z => z.elim)
          have fin : ∀ {τ6 : St} {G6 : Hp} {Q : Shared → Prop}, Inv (X.suite q ((q, o4) :: (X.pn ++ pins))) [] τ6 G6 s6 → (∀ s7, Inv X pins (τ6.set i none) G6 s7 → Q s7) → wpAny (model X.prog X.w) X.A (do bindName X.env n .none; unbindBehindTheSuite X.env n p2) (fun _ s7 => Q s7) X.xe s6 :=
            fun {τ6 G6 Q} S6 z => gone_ok (S6.unsuite ok) hnd hin hkn z
          cases f with
          | ret u => obtain ⟨v6, τ6, G6, S6, r6, z6⟩ := hsp; exact fin S6 fun s7 J7 => ⟨_, _, _, J7, r6, z6⟩
          | next => obtain ⟨τ6, G6, S6, z6⟩ := hsp; exact fin S6 fun s7 J7 => ⟨_, _, J7, z6⟩
          | brk => obtain ⟨τ6, G6, S6, z6⟩ := hsp; exact fin S6 fun s7 J7 => ⟨_, _, J7, z6⟩
          | cont => obtain ⟨τ6, G6, S6, z6⟩ := hsp; exact fin S6 fun s7 J7 => ⟨_, _, J7, z6⟩
    exact each hall w
  cases f with
  | ret u => obtain ⟨v, τ6, G6, J6, r6, z6⟩ := hsp; exact ⟨v, τ6, G6, J6.ofTry ok, r6, z6⟩
  | next => obtain ⟨τ6, G6, J6, z6⟩ := hsp; exact wpAny_execs_nil ⟨τ6, G6, J6.ofTry ok, z6⟩
  | brk => obtain ⟨τ6, G6, J6, z6⟩ := hsp; exact ⟨τ6, G6, J6.ofTry ok, z6⟩
  | cont => obtain ⟨τ6, G6, J6, z6⟩ := hsp; exact ⟨τ6, G6, J6.ofTry ok, z6⟩
end
end L2
/-! the error that a suite holds: its fields, its classes -/
namespace Exn
open PySem PySem.Spec PyProof.Rows L2
section
variable {X : Cx} {q : Addr} {oq : Obj} {cls : Value} {d : Option Addr} {pn : List (Addr × Obj)}
theorem got_inst {pins : List (Addr × Obj)} {τ : L2.St} {G : Hp} {s : Shared} {C dd : Addr} {fs : List (Str × V)} (I : Inv (X.suite q ((q, oq) :: pn)) pins τ G s) (hz : Zc cls d oq) (hf : ∃ vs, oq.data = .fields vs) (hc : cls = .ref C) (hd : d = some dd) (ed : G dd = some (.xd fs)) :
    ∃ (od : Obj) (mA : Str → Option Value), PySem.W.InstAt s.heap q oq C (some od) ∧ (∀ n, PySem.W.lookIn n od = some (mA n)) ∧ ∀ f, RelO (fs.lookup f) (mA f) := by
  subst hc; subst hd
  obtain ⟨hq, _⟩ := I.pin (q, oq) (List.mem_append_left _ List.mem_cons_self)
  obtain ⟨vs, hv⟩ := hf
  obtain ⟨mA, hns, hr⟩ := (show ObjOk X.prog X.w G s.heap dd (.xd fs) from I.hok dd _ ed)
  obtain ⟨od, ho, hl⟩ := lookIn_ns hns
  exact ⟨od, mA, ⟨hq, hz.1, by unfold PySem.W.notCls; rw [hv] <;> rfl, by rw [hz.2]; exact ho⟩, hl, hr⟩
def tGot (K : PySem.W.Frag) (f : Str) (q : Addr) (cls : Value) (d : Option Addr) (te : TE) : TE := fun τ G Q => te τ G fun x G1 => x = .ref q ∧ ∃ (C dd : Addr) (fs : List (Str × V)) (v : V), cls = .ref C ∧ d = some dd ∧ G1 dd = some (.xd fs) ∧ fs.lookup f = some v ∧ Xv K C ∧ PySem.W.findIn K (.ref C) f = some none ∧ Q v G1
theorem pe_got {e : Expr} {te : TE} {pos : Pos} {f : Str} (hz : Zc cls d oq) (hf : ∃ vs, oq.data = .fields vs) (he : PE (X.suite q ((q, oq) :: pn)) e te) (hb : attributeBase e f X.env (eval e X.env) = eval e X.env := by rfl) : PE (X.suite q ((q, oq) :: pn)) (.Attribute e f pos) (tGot X.K f q cls d te) := by
  refine ⟨fun pins s τ G Q I h => attr_of hb (thn (he.run pins s τ G _ I h) ?_)⟩
  rintro u s1 ⟨x, G1, I1, rx, rfl, C, dd, fs, v, ec, ed, eg, l, T, hno, z⟩
  obtain rfl : u = Value.ref q := rx
  obtain ⟨od, mA, J, hl, hr⟩ := got_inst I1 hz hf ec ed eg
  obtain ⟨u, hu, ru⟩ := RelO.some_of (v := v) (o := mA f) (by rw [← l]; exact hr f)
  exact HandSPX.exc_get I1.kIn J T.ga T.gg T.exC (PySem.W.findObj_own T.hdC hno rfl (by rw [hl, hu])) (handed_of ru) ⟨v, G1, I1.tok _, ru, z⟩
def rIsGot (K : PySem.W.Frag) (q : Addr) (cls : Value) (d : Option Addr) : List V → Hp → VK → Prop := fun xs G Q => ∃ (C dd : Addr) (fs : List (Str × V)) (c : V) (u : Value) (b : Bool), xs = [.ref q, c] ∧ ClsV c u ∧ cls = .ref C ∧ d = some dd ∧ G dd = some (.xd fs) ∧ Xv K C ∧ PySem.W.kitOne K (.ref C) u = some b ∧ Q (.bl b) G
theorem call_isGot (hz : Zc cls d oq) (hf : ∃ vs, oq.data = .fields vs) : CallR (X.suite q ((q, oq) :: pn)) (.builtin "isinstance") (rIsGot X.K q cls d) := by
  intro pins s τ G xs us Q I r h
  obtain ⟨C, dd, fs, c, u, b, rfl, kc, ec, ed, eg, T, e, z⟩ := h
  obtain ⟨u1, u2, rfl, r1, r2⟩ := vals2 r
  obtain rfl : u1 = Value.ref q := r1
  have e2 := kc.eq r2
  subst e2
  obtain ⟨od, mA, J, _, _⟩ := got_inst I hz hf ec ed eg
  obtain ⟨cd, hcd, _⟩ := PySem.W.any_some T.hdC
  exact PySem.W.kia_one (PySem.W.kitx_exc (by rw [hcd]; rfl) T.ga T.gg T.exC T.ha T.hn T.ht T.hm) I.kIn J e (fun z => nomatch z) fun tk => ⟨.bl b, G, I.tok tk, rfl, z⟩
end
end Exn

set_option Elab.async false
set_option linter.all false
set_option maxRecDepth 100000
set_option maxHeartbeats 400000
/-! a for statement in a generator's body -/
namespace L2
open PySem PySem.Spec PyProof.Rows GenW
section
variable {M : Model} {A : Around} {R : GenEnd} {Y : Protocol} {n : Nat} {s₀ : Shared} {c : Code} {fs : List Frame} {s : Shared} {env : Env}
theorem seg_bindw {α β : Type} {m : Sem α} {f : α → Sem β} {K : β → Sem PySem.Fin} {H : Value → Sem PySem.Fin} {gd : Bool → Bool} {lv : List Value → List Value}
    (h : wpAny M (A.over c fs) m (fun a s' => Seg M A R Y n s₀ c ((f a).wrap K H gd lv) fs s') (fun x s' => Seg M A R Y n s₀ c (H x) fs s') s) : Seg M A R Y n s₀ c ((m >>= f).wrap K H gd lv) fs s := by
  rw [Sem.bind_eq_wrap', Sem.wrap_wrap]
  exact seg_wrap (wpAny_mono h (fun a s' h' => h') fun x s' h' => h')
variable {K : Flow → Sem PySem.Fin} {H : Value → Sem PySem.Fin} {gd : Bool → Bool} {lv : List Value → List Value}
theorem seg_For {target iter : Expr} {body orelse : List Stmt} {pos : Pos}
    (h : wpAny M (A.over c fs) (eval iter env) (fun x s1 => wpAny M (A.over c fs) (pyIter x) (fun it s2 => ∀ p, Seg M A R Y n s₀ (.forLoop target it body orelse env) (M.den (.forLoop target it body orelse env))
      (.ret (fun r => ((match r with | .ok f => (.pure f : Sem Flow) | .error e => .raise e).onRaise (cameBack env)).wrap K H gd lv) none (gd false) (lv []) c p [] :: fs) s2)
      (fun x s' => Seg M A R Y n s₀ c (H x) fs s') s1) (fun x s' => Seg M A R Y n s₀ c (H x) fs s') s) (hs : ∀ x, foldedSetIterable iter env x = pure x) :
    Seg M A R Y n s₀ c ((exec (.For target iter body orelse pos) env).wrap K H gd lv) fs s := by
  rw [exec_For]
  refine seg_bindw (wpAny_standAt (seg_bindw (wpAny_mono h (fun x s1 h1 => ?_) fun _ _ h' => h')))
  refine seg_bindw (wpAny_of_eq (hs x) (seg_bindw (wpAny_standAt (seg_bindw (wpAny_holding (wpAny_mono h1 (fun it s2 h2 => ?_) fun _ _ h' => h'))))))
  exact seg_call h2
end
section
variable {prog : Program} {w : World} {A : Around} {R : GenEnd} {Y : Protocol} {n : Nat} {s₀ : Shared} {fs : List Frame} {s : Shared} {env : Env}
/-- an exception that leaves the loop's code -/
abbrev EE (prog : Program) (w : World) (A : Around) (R : GenEnd) (Y : Protocol) (n : Nat) (s₀ : Shared) (c : Code) (env : Env) (fs : List Frame) (x : Value) (s' : Shared) : Prop :=
  Seg (model prog w) A R Y n s₀ c ((do noteFrame x env; theTreesLotGoes x : Sem Unit).wrap (fun _ => .raise x) .raise id id) fs s'
theorem seg_forLoop {target : Expr} {it : Value} {body : List Stmt}
    (h : wpAny (model prog w) (A.over (.forLoop target it body [] env) fs) (pyNext it) (fun r s1 => match r with
      | none => Seg (model prog w) A R Y n s₀ (.forLoop target it body [] env) (.pure (.again (.block [] env))) fs s1
      | some v => wpAny (model prog w) (A.over (.forLoop target it body [] env) fs) (letOwnedTupleGo target it v) (fun _ s2 => wpAny (model prog w) (A.over (.forLoop target it body [] env) fs) (assign target env v) (fun _ s3 =>
          Seg (model prog w) A R Y n s₀ (.forLoop target it body [] env) ((execs body env).wrap (fun f => match f with
            | .next => .pure (.again (.forLoop target it body [] env)) | .cont => .pure (.again (.forLoop target it body [] env)) | .brk => .pure (.done .next) | .ret v => .pure (.done (.ret v)))
            (fun e => (do noteFrame e env; theTreesLotGoes e : Sem Unit).wrap (fun _ => .raise e) .raise id id) id id) fs s3)
          (EE prog w A R Y n s₀ (.forLoop target it body [] env) env fs) s2) (EE prog w A R Y n s₀ (.forLoop target it body [] env) env fs) s1) (EE prog w A R Y n s₀ (.forLoop target it body [] env) env fs) s) :
    Seg (model prog w) A R Y n s₀ (.forLoop target it body [] env) ((model prog w).den (.forLoop target it body [] env)) fs s := by
  show Seg _ A R Y n s₀ _ ((forTurn target it body [] env).onRaise (fun x => do noteFrame x env; theTreesLotGoes x)) fs s
  have ee : ∀ x s', EE prog w A R Y n s₀ (.forLoop target it body [] env) env fs x s' → Seg (model prog w) A R Y n s₀ (.forLoop target it body [] env) ((do noteFrame x env; theTreesLotGoes x : Sem Unit).bind fun _ => (.raise x : Sem PySem.Fin)) fs s' := by
    intro x s' hx
    rw [Sem.bind_eq_wrap]
    exact hx
  rw [Sem.onRaise_eq_wrap]
  unfold forTurn
  refine seg_bindw (wpAny_standAt (seg_bindw (wpAny_onRaise (wpAny_mono h (fun r s1 h1 => ?_) fun x s' hx => wpAny_standAt (ee x s' hx)))))
  cases r with
  | none => exact h1
  | some v =>
    refine seg_bindw (wpAny_mono h1 (fun _ s2 h2 => seg_bindw (wpAny_mono h2 (fun _ s3 h3 => ?_) ee)) ee)
    rw [Sem.bind_eq_wrap', Sem.wrap_wrap]
    rw [Sem.wrap_congr (execs body env) _ _ (K' := fun f => match f with
            | .next => .pure (.again (.forLoop target it body [] env)) | .cont => .pure (.again (.forLoop target it body [] env)) | .brk => .pure (.done .next) | .ret v => .pure (.done (.ret v)))
      (H' := (fun e => (do noteFrame e env; theTreesLotGoes e : Sem Unit).wrap (fun _ => .raise e) .raise id id)) (fun f => by cases f <;> rfl)
      (fun e => by first | exact Sem.bind_eq_wrap _ _ | (show (do noteFrame e env; theTreesLotGoes e : Sem Unit).bind (fun _ => .raise e) = _; rw [Sem.bind_eq_wrap]))]
    exact h3
/-- the loop's end, without an else -/
theorem seg_noElse {c : Code} (h : Seg (model prog w) A R Y n s₀ (.block [] env) (.pure (.done .next)) fs s) : Seg (model prog w) A R Y n s₀ c (.pure (.again (.block [] env))) fs s := by
  refine seg_again rfl ?_
  exact h
end
section
variable {X : Cx} {tg : Expr}
def tGFor (wi : TI) (g : TG) (tb : TGn) : TGn := fun D ys σ H => wi σ H fun J H1 => ∃ W : Nat → Nat → List V → St → Hp → Prop, (∃ m, W 0 m ys σ H1) ∧ ∀ i m ys σ H, W i m ys σ H →
  (J.stop i H ∧ D.nx ys σ H) ∨ (J.go i H ∧ ∃ N : List V → St → Hp → Prop, (∀ ys' σ' H', N ys' σ' H' → ∃ m', m' < m ∧ W (i + 1) m' ys' σ' H') ∧ ∀ x H', J.yld i H x H' → g x σ H' fun σ2 H2 => tb { D with nx := N, ct := N, bk := D.nx } ys σ2 H2)
theorem fp_of {S b : Addr} {o1 o2 : Obj} {ip : List (Addr × Obj)} {H H' : Hp} (f : FpOk X ((S, o1) :: ip) H b) (hn : H' b = none) : FpOk X ((S, o2) :: ip) H' b := by
  refine ⟨hn, f.2.1, f.2.2.1, f.2.2.2.1, f.2.2.2.2.1, fun p hp => ?_⟩
  rcases List.mem_append.mp hp with h | h
  · exact f.2.2.2.2.2 p (List.mem_append_left _ h)
  · rcases List.mem_cons.mp h with h | h
    · rw [h]; exact f.2.2.2.2.2 (S, o1) (List.mem_append_right _ List.mem_cons_self)
    · exact f.2.2.2.2.2 p (List.mem_append_right _ (List.mem_cons_of_mem _ h))
theorem gs_for {iter : Expr} {body : List Stmt} {wi : TI} {g : TG} {tb : TGn} {pos : Pos} (hp : PassesOwn (model X.prog X.w) X.A X.env X.xe) (hc : X.calm = true) (hi : PI X tg iter wi) (hg : PG X tg g) (hb : GSs X body tb)
    (hs : ∀ x, foldedSetIterable iter X.env x = pure x := by intro _; rfl) : GS X (.For tg iter body [] pos) (tGFor wi g tb) := by
  refine ⟨fun A S ip R n ys s₀ c fs K J gd lv s σ H D gc hn k hI ht => ?_⟩
  obtain ⟨acc, cc, r, I⟩ := hI
  refine seg_For ?_ hs
  rw [gc.over]
  refine wpAny_mono (hi.run _ s σ H _ I ht) (fun v s1 h1 => wpAny_mono h1 (fun itv s2 h2 p => ?_) fun x s' hx => k.exc n s₀ x s' hx) fun x s' hx => k.exc n s₀ x s' hx
  obtain ⟨it, fp, tn, Jt, H2, rfl, I2, T, st2, f2, W, ⟨m0, w0⟩, turn⟩ := h2
  have gl := fun (kk : Result → Sem PySem.Fin) => gc_loop (k := kk) (c' := .forLoop tg (.ref it) body [] X.env) (l := lv []) (kp := []) (p := p) gc rfl rfl
  have ee : ∀ (n : Nat) (s₀ : Shared) (x : Value) (s' : Shared), X.xe x s' → EE X.prog X.w A R (GY X S) n s₀ (.forLoop tg (.ref it) body [] X.env) X.env
      (.ret (fun r => ((match r with | .ok f => (.pure f : Sem Flow) | .error e => .raise e).onRaise (cameBack X.env)).wrap K J gd lv) none (gd false) (lv []) c p [] :: fs) x s' := by
    intro n s₀ x s' hx
    refine seg_wrap ?_
    rw [(gl _).over]
    refine wpAny_bind (wpAny_mono (hp x s' hx) (fun _ t hcb => wpAny_theTreesLotGoes ?_) fun y t hcb => ?_)
    · exact seg_leaf (.error x) (seg_cameBack gc k hcb)
    · exact seg_leaf (.error y) (seg_cameBack gc k hcb)
  have loop : ∀ (m n i : Nat) (ys : List V) (s₀ s : Shared) (σ : St) (H : Hp), n + ys.length = sizeLine → W i m ys σ H → GI X S ip ys σ H s → tn i s.heap → (∀ b ∈ fp, H b = none) →
      Seg (model X.prog X.w) A R (GY X S) n s₀ (.forLoop tg (.ref it) body [] X.env) ((model X.prog X.w).den (.forLoop tg (.ref it) body [] X.env))
        (.ret (fun r => ((match r with | .ok f => (.pure f : Sem Flow) | .error e => .raise e).onRaise (cameBack X.env)).wrap K J gd lv) none (gd false) (lv []) c p [] :: fs) s := by
    intro m
    induction m using Nat.strongRecOn with
    | ind m ih =>
      intro n i ys s₀ s σ H hn w hI st fr
      obtain ⟨acc3, c3, r3, I3⟩ := hI
      have stat : ∀ {H' : Hp}, (∀ b ∈ fp, H' b = none) → ∀ b ∈ fp, FpOk X ((S, lstObj acc3 c3) :: ip) H' b := fun hn b hb => fp_of (f2 b hb) (hn b hb)
      refine seg_forLoop ?_
      rw [(gl _).over]
      rcases turn i m ys σ H w with ⟨stop, qn⟩ | ⟨go, N, hN, step⟩
      · refine wpAny_mono (T.done X rfl rfl rfl hc i _ s σ H X.xe I3 (stat fr) st stop) (fun rr t ht => ?_) (ee n s₀)
        obtain ⟨rfl, I4⟩ := ht
        exact seg_noElse (seg_leaf (.ok .next) (k.ok n ys s₀ t .next hn ⟨σ, H, ⟨acc3, c3, r3, I4⟩, qn⟩))
      · refine wpAny_mono (T.item X rfl rfl rfl hc i _ s σ H X.xe I3 (stat fr) st go) (fun rr t ht => ?_) (ee n s₀)
        obtain ⟨u, rfl, h4⟩ := ht
        refine wpAny_mono h4 (fun _ s5 h5 => ?_) (ee n s₀)
        obtain ⟨x, H5, I5, r5, y5, st5, fr5⟩ := h5
        have I5' := I5.pinned (stat fr5) (T.obj _ _ st5)
        refine wpAny_mono (hg.run _ s5 σ H5 x u _ I5' r5 (step x H5 y5)) (fun _ s6 h6 => ?_) (ee n s₀)
        obtain ⟨σ6, H6, I6, q6⟩ := h6
        have gb : GC X S (ip ++ pinsAt fp s5.heap) A (.forLoop tg (.ref it) body [] X.env) (.ret (fun r => ((match r with | .ok f => (.pure f : Sem Flow) | .error e => .raise e).onRaise (cameBack X.env)).wrap K J gd lv) none (gd false) (lv []) c p [] :: fs) id := by
          have g0 := gl (fun r => ((match r with | .ok f => (.pure f : Sem Flow) | .error e => .raise e).onRaise (cameBack X.env)).wrap K J gd lv)
          refine ⟨g0.pn, fun q hq => ?_, g0.apart, g0.over, g0.split, g0.guard, g0.gd⟩
          rcases List.mem_append.mp hq with hq | hq
          · exact g0.ip q hq
          · obtain ⟨hb, _⟩ := of_pinsAt hq
            exact fun z => (stat fr5 q.1 hb).2.2.2.2.2 (S, lstObj acc3 c3) (List.mem_append_right _ List.mem_cons_self) z.symm
        refine hb.run A S (ip ++ pinsAt fp s5.heap) R n ys s₀ _ _ _ _ id id s6 σ6 H6 { D with nx := N, ct := N, bk := D.nx } gb hn ⟨fun n' ys' s₀' s7 f hn' hs7 => ?_, fun n' s₀' x s7 hx => ee n' s₀' x s7 hx⟩ ⟨acc3, c3, r3, I6⟩ q6
        have drop : ∀ {σ7 : St} {H7 : Hp}, GI X S (ip ++ pinsAt fp s5.heap) ys' σ7 H7 s7 → GI X S ip ys' σ7 H7 s7 := fun ⟨acc7, c7, r7, I7⟩ => ⟨acc7, c7, r7, Inv.unpinned (pins := (S, lstObj acc7 c7) :: ip) I7⟩
        have more : ∀ {σ7 : St} {H7 : Hp}, GI X S (ip ++ pinsAt fp s5.heap) ys' σ7 H7 s7 → N ys' σ7 H7 → Seg (model X.prog X.w) A R (GY X S) n' s₀' (.forLoop tg (.ref it) body [] X.env) (.pure (.again (.forLoop tg (.ref it) body [] X.env)))
            (.ret (fun r => ((match r with | .ok f => (.pure f : Sem Flow) | .error e => .raise e).onRaise (cameBack X.env)).wrap K J gd lv) none (gd false) (lv []) c p [] :: fs) s7 := by
          intro σ7 H7 G7 n7
          obtain ⟨m', hm, w7⟩ := hN ys' σ7 H7 n7
          have pin7 : ∀ b o, b ∈ fp → s5.heap.get? b = some o → s7.heap.get? b = some o ∧ H7 b = none := fun b o hb e => by
            obtain ⟨acc7, c7, r7, I7⟩ := G7
            have := I7.pin (b, o) (List.mem_append_right _ (List.mem_cons_of_mem _ (List.mem_append_right _ (mem_pinsAt hb e))))
            exact ⟨this.1, this.2.1⟩
          refine seg_again rfl (ih m' hm n' (i + 1) ys' s₀' s7 σ7 H7 hn' w7 (drop G7) (T.keep _ _ _ st5 fun b hb o e => (pin7 b o hb e).1) fun b hb => ?_)
          obtain ⟨o, e, _⟩ := T.obj _ _ st5 b hb
          exact (pin7 b o hb e).2
        cases f with
        | next => obtain ⟨σ7, H7, G7, n7⟩ := hs7; exact more G7 n7
        | cont => obtain ⟨σ7, H7, G7, n7⟩ := hs7; exact more G7 n7
        | brk => obtain ⟨σ7, H7, G7, q7⟩ := hs7; exact seg_leaf (.ok .next) (k.ok n' ys' s₀' s7 .next hn' ⟨σ7, H7, drop G7, q7⟩)
        | ret v => obtain ⟨v7, σ7, H7, G7, rv7, q7⟩ := hs7; exact seg_leaf (.ok (.ret v)) (k.ok n' ys' s₀' s7 (.ret v) hn' ⟨v7, σ7, H7, drop G7, rv7, q7⟩)
  exact loop m0 n 0 ys s₀ s2 σ H2 hn w0 ⟨acc, cc, r, I2⟩ st2 fun b hb => (f2 b hb).1
end
theorem gfor_it {J : It} {n : Nat} {G : Hp → Prop} {Y : Nat → Hp → V → Hp → Prop} (w : Walk J n G Y) {g : TG} {tb : TGn} {D : GEnds} {ys : List V} {σ : St} {H : Hp} (Pv : Nat → List V → St → Hp → Prop) (h0 : Pv 0 ys σ H) (hG : ∀ i ys σ H, i ≤ n → Pv i ys σ H → G H)
    (hs : ∀ i x ys σ H H', i < n → Pv i ys σ H → Y i H x H' → g x σ H' fun σ2 H2 => tb { D with nx := Pv (i + 1), ct := Pv (i + 1), bk := D.nx } ys σ2 H2) (hd : ∀ ys σ H, Pv n ys σ H → D.nx ys σ H) :
    ∃ W : Nat → Nat → List V → St → Hp → Prop, (∃ m, W 0 m ys σ H) ∧ ∀ i m ys σ H, W i m ys σ H → (J.stop i H ∧ D.nx ys σ H) ∨ (J.go i H ∧ ∃ N : List V → St → Hp → Prop, (∀ ys' σ' H', N ys' σ' H' → ∃ m', m' < m ∧ W (i + 1) m' ys' σ' H') ∧ ∀ x H', J.yld i H x H' → g x σ H' fun σ2 H2 => tb { D with nx := N, ct := N, bk := D.nx } ys σ2 H2) := by
  refine ⟨fun i m ys σ H => m = n - i ∧ i ≤ n ∧ Pv i ys σ H, ⟨n, by simp, Nat.zero_le _, h0⟩, ?_⟩
  rintro i m ys σ H ⟨rfl, hi, p⟩
  rcases Nat.lt_or_ge i n with hlt | hge
  · exact .inr ⟨w.goes i H hlt (hG i ys σ H hi p), Pv (i + 1), fun ys' σ' H' p' => ⟨n - (i + 1), by omega, rfl, hlt, p'⟩, fun x H' y => hs i x ys σ H H' hlt p (w.yields i H x H' hlt (hG i ys σ H hi p) y)⟩
  · obtain rfl : i = n := by omega
    exact .inl ⟨w.stops H (hG i ys σ H hi p), hd ys σ H p⟩
end L2

set_option Elab.async false
set_option linter.all false
set_option maxRecDepth 100000
set_option maxHeartbeats 400000
/-! which values are words -/
namespace Vld
open PySem PySem.Spec PyProof.Rows L2 Own Mth
abbrev cs (z : Str) : List Nat := z.cps.toList
theorem le_line {n : Nat} (h : n ≤ 100000) : n ≤ sizeLine := by rw [sizeLine_eq]; omega
theorem lt_line {n : Nat} (h : n ≤ 100000) : n < sizeLine := by rw [sizeLine_eq]; omega
theorem len_cs (z : Str) : z.length = (cs z).length := by
  show z.cps.size = z.cps.toList.length
  rw [Array.length_toList]
theorem tw_lt {g : Nat → Bool} : ∀ {l : List Nat}, (∃ x ∈ l, g x = false) → (l.takeWhile g).length < l.length
  | [], h => by obtain ⟨x, hx, _⟩ := h; cases hx
  | a :: l, h => by
    cases ha : g a with
    | false => rw [List.takeWhile_cons_of_neg (by rw [ha]; exact Bool.false_ne_true)]; simp
    | true =>
      rw [List.takeWhile_cons_of_pos ha, List.length_cons, List.length_cons]
      obtain ⟨x, hx, hg⟩ := h
      rcases List.mem_cons.mp hx with e | e
      · rw [e, ha] at hg; cases hg
      · have := tw_lt (l := l) ⟨x, e, hg⟩
        omega
theorem tw_at {g : Nat → Bool} : ∀ {l : List Nat} (h : (l.takeWhile g).length < l.length), g (l[(l.takeWhile g).length]'h) = false
  | [], h => by simp at h
  | a :: l, h => by
    cases ha : g a with
    | false => simp only [List.takeWhile_cons_of_neg (show ¬ g a = true by rw [ha]; exact Bool.false_ne_true), List.length_nil, List.getElem_cons_zero]; exact ha
    | true =>
      have e : (a :: l).takeWhile g = a :: l.takeWhile g := List.takeWhile_cons_of_pos ha
      have h' : (l.takeWhile g).length < l.length := by rw [e] at h; simpa using h
      have := tw_at (l := l) h'
      simp only [e, List.length_cons, List.getElem_cons_succ]
      exact this
theorem strip_some {z b : Str} (h : ¬ ∀ c ∈ cs z, c ∈ cs b) : Txt.stripChars z b ≠ (⟨#[]⟩ : Str) := by
  unfold Txt.stripChars
  rw [PySem.W.stripBy_eq]
  unfold PySem.W.stripped
  have hex : ∃ x ∈ cs z, b.cps.contains x = false := by
    rcases Classical.em (∃ x ∈ cs z, b.cps.contains x = false) with q | q
    · exact q
    · exfalso
      refine h fun c hc => ?_
      cases e : b.cps.contains c with
      | true => simpa using e
      | false => exact absurd ⟨c, hc, e⟩ q
  have l1 : ((cs z).takeWhile b.cps.contains).length < (cs z).length := tw_lt hex
  have l2 : (((cs z).drop ((cs z).takeWhile b.cps.contains).length).reverse.takeWhile b.cps.contains).length < (cs z).length - ((cs z).takeWhile b.cps.contains).length := by
    have := tw_lt (g := b.cps.contains) (l := ((cs z).drop ((cs z).takeWhile b.cps.contains).length).reverse) ⟨_, List.mem_reverse.mpr (List.mem_of_getElem? (i := 0) (by rw [List.getElem?_drop, Nat.add_zero]; exact List.getElem?_eq_getElem l1)), tw_at l1⟩
    rwa [List.length_reverse, List.length_drop] at this
  simp only [if_true]
  intro e
  have e2 : (z.cps.extract ((cs z).takeWhile b.cps.contains).length (z.length - (((cs z).drop ((cs z).takeWhile b.cps.contains).length).reverse.takeWhile b.cps.contains).length)).size = 0 := by
    have := congrArg (fun s : Str => s.cps.size) e
    exact this
  rw [Array.size_extract] at e2
  have := len_cs z
  have hz : z.cps.size = (cs z).length := this
  rw [hz] at e2
  rw [this] at e2
  omega
/-- is z a word over the letters b -/
def okS (z b : Str) : Bool := decide (z.length ≤ 400) && (cs z).all fun c => (cs b).contains c
theorem okS_iff {z b : Str} : okS z b = true ↔ z.length ≤ 400 ∧ ∀ c ∈ cs z, c ∈ cs b := by
  unfold okS
  rw [Bool.and_eq_true, decide_eq_true_iff, List.all_eq_true]
  simp
theorem strip_dec (z b : Str) : decide (V.str (Txt.stripChars z b) = V.str "") = (cs z).all fun c => (cs b).contains c := by
  rcases Classical.em (∀ c ∈ cs z, c ∈ cs b) with h | h
  · rw [strip_all h, show ((cs z).all fun c => (cs b).contains c) = true from List.all_eq_true.mpr fun c hc => by simpa using h c hc]
    exact decide_eq_true rfl
  · rw [show ((cs z).all fun c => (cs b).contains c) = false from by
      rw [Bool.eq_false_iff]
      intro e
      exact h fun c hc => by simpa using List.all_eq_true.mp e c hc]
    refine decide_eq_false fun e => strip_some h ?_
    injection e
/-- any value that a caller hands -/
inductive AnyV (K : PySem.W.Frag) (H : Hp) : V → Value → Prop where
  | str (z : Str) (h : z.length ≤ 100000) : AnyV K H (.str z) (.type "str")
  | oth {v : V} {t : Value} (ty : TyX K H v t) (no : PySem.W.kitOne K t (.type "str") = some false) (ns : ∀ z, v ≠ .str z) : AnyV K H v t
def okV (v : V) (b : Str) : Bool := match v with
  | .str z => okS z b
  | _ => false
theorem okV_oth {v : V} {b : Str} (h : ∀ z, v ≠ .str z) : okV v b = false := by
  unfold okV
  split
  · exact absurd rfl (h _)
  · rfl
theorem AnyV.same {K : PySem.W.Frag} {H H' : Hp} {v : V} {t : Value} (h : AnyV K H v t) (hs : ∀ b o, H b = some o → H' b = some o) (st : ∀ {v : V} {t : Value}, TyX K H v t → TyX K H' v t) : AnyV K H' v t := by
  cases h with
  | str z h => exact .str z h
  | oth ty no ns => exact .oth (st ty) no ns
theorem okV_str {v : V} {b : Str} (h : okV v b = true) : ∃ z, v = .str z ∧ z.length ≤ 400 ∧ ∀ c ∈ cs z, c ∈ cs b := by
  unfold okV at h
  split at h
  · exact ⟨_, rfl, okS_iff.mp h⟩
  · cases h
end Vld

set_option Elab.async false
set_option linter.all false
set_option maxRecDepth 100000
set_option maxHeartbeats 400000
/-! calls of defs that show values, of defs with a star -/
namespace Own
open PySem PySem.Spec PyProof.Rows L2
section
variable {X : Cx} {CX : CXT} {k : Nat} {f : Addr} {fd : FuncData} {ps : List Str} {sp : Sp} {E : XK} {x : Str} {p pos : Pos} {e : Expr} {es : List Expr} {t : TA}
theorem pe_callG (F : FnG X.prog X.w X.K X.mg X.base CX k f fd ps sp) (hg0 : X.A.guards = some []) (hr : Room k X.A) (hg : Gl X x) (hm : X.mg x = some (.ref f)) (hk : PySem.W.keepIn X.K (.ref f) = true) (hb : Binds X.K fd ps []) (hx : Passes CX X E) (ha : PA X (e :: es) t)
    (hdb : (x == ("__debug__" : Str)) = false := by decide) (he : starEach (e :: es) X.env = (false, eval e X.env) :: starEach es X.env := by rfl) (hpl : (backTo pos (starEach es X.env)).any (·.1) = false := by rfl) : PE X (.Call (.Name x p) (e :: es) [] pos) (fun σ H Q => t σ H fun vs H1 => sp vs H1 Q E) := by
  refine ⟨fun pins s σ H Q I h => wpAny_Call_Name_kw (ld_glob I hg hm ?_ hdb)⟩
  refine PySem.W.callWith_K (h₀ := X.base) I.ok.mod.kin hk (thn (ha.run pos pins s σ H _ I h) fun us s1 ⟨vs, H1, I1, r, q⟩ => ⟨I1.kIn, ?_⟩) he hpl
  have hl : us.length = ps.length := by rw [← r.length]; exact F.lenG _ _ _ _ q
  refine wpAny_call (codeAny_mono (F.runG X.A X.stack s1 H1 ⟨us, []⟩ us vs Q E hg0 hr I1.env0 (by have := hb s1 us I1.kIn (by rw [List.append_nil]; exact hl); rwa [List.append_nil] at this) r q) fun rr s' hq => ?_)
  match rr, hq with
  | .error er, hq => exact hx pins σ H1 s1 er s' I1 hq
  | .ok (.ret u), hq => exact I1.after hq
  | .ok .next, hq => exact False.elim hq
  | .ok .brk, hq => exact False.elim hq
  | .ok .cont, hq => exact False.elim hq
theorem pe_callFR (F : FnR X.prog X.w X.K X.mg X.base CX k f sp) (hr : Room k X.A) (hg : Gl X x) (hm : X.mg x = some (.ref f)) (hk : PySem.W.keepIn X.K (.ref f) = true) (hx : Passes CX X E) (ha : PA X (e :: es) t)
    (hdb : (x == ("__debug__" : Str)) = false := by decide) (he : starEach (e :: es) X.env = (false, eval e X.env) :: starEach es X.env := by rfl) (hpl : (backTo pos (starEach es X.env)).any (·.1) = false := by rfl) : PE X (.Call (.Name x p) (e :: es) [] pos) (fun σ H Q => t σ H fun vs H1 => sp vs H1 Q E) := by
  refine ⟨fun pins s σ H Q I h => wpAny_Call_Name_kw (ld_glob I hg hm ?_ hdb)⟩
  refine PySem.W.callWith_K (h₀ := X.base) I.ok.mod.kin hk (thn (ha.run pos pins s σ H _ I h) fun us s1 ⟨vs, H1, I1, r, q⟩ => ⟨I1.kIn, ?_⟩) he hpl
  exact wpAny_call (run_fnR F hr hx I1 r q)
end
section
variable {X : Cx}
/-- repr by the room alone -/
theorem call_reprU (hg : X.A.guards = some []) (hun : X.A.units + 200 < cLine) : CallR X (.builtin "repr") (rRepr X.K) := by
  intro pins s σ H xs us Q I rl hh
  obtain ⟨v, d, rfl, hd, hs, hn, hdep, hsz, hq⟩ := hh
  obtain ⟨u, rfl, ru⟩ := vals1 rl
  obtain ⟨as, rd⟩ := Dp.reads I d v u hd ru
  cases hd with
  | non => cases ru; exact PySem.P.repr_of_none ⟨.str _, H, I.tok _, ⟨_, rfl⟩, hq⟩
  | bl b => cases ru; exact PySem.P.repr_of_bool ⟨.str _, H, I.tok _, ⟨_, rfl⟩, hq⟩
  | int i => obtain ⟨t, rfl⟩ := ru; exact PySem.P.repr_of_int (of_decide_eq_true hs) ⟨.str _, H, I.tok _, ⟨_, rfl⟩, hq⟩
  | str x => obtain ⟨t, rfl⟩ := ru; exact PySem.P.repr_of_str ⟨.str _, H, I.tok _, ⟨_, rfl⟩, hq⟩ hsz
  | lst h1 h2 => cases ru; exact repr_of_reads' rd hs (PyData.noDict_hsm hn) hg (by omega) (fun _ _ e => e) (fun h' u tk hk => ⟨.str _, H, I.kept hk, ⟨_, rfl⟩, hq⟩) hsz
  | tup h1 h2 => cases ru; exact repr_of_reads' rd hs (PyData.noDict_hsm hn) hg (by omega) (fun _ _ e => e) (fun h' u tk hk => ⟨.str _, H, I.kept hk, ⟨_, rfl⟩, hq⟩) hsz
def rReprR (K : PySem.W.Frag) : List V → Hp → VK → Prop := fun xs H Q => rRepr K xs H Q ∨ ∃ p, xs = [.ref p] ∧ H p = some (.dK []) ∧ Q (.str "{}") H
theorem kv_nil {vs : List (Key × Value)} (h : KV ([] : List (Key × V)) vs) : vs = [] := by cases h; rfl
theorem pairs_nil {P : Program} {w : World} {es : List DictEntry} (h : Pairs (mixKind P w) es []) : es = [] := by cases h; rfl
theorem call_reprRU (hg : X.A.guards = some []) (hun : X.A.units + 200 < cLine) : CallR X (.builtin "repr") (rReprR X.K) := by
  intro pins s σ H xs us Q I rl hh
  rcases hh with hh | ⟨p, rfl, hp, hq⟩
  · exact call_reprU hg hun pins s σ H xs us Q I rl hh
  · obtain ⟨u, rfl, ru⟩ := vals1 rl
    cases ru
    obtain ⟨_, hne, vs, kv, o, es, ep, ho, hex, hd, _, hps, _⟩ := (show ObjOk X.prog X.w H s.heap p (.dK []) from I.hok p _ hp)
    have e1 := kv_nil kv
    subst e1
    have e2 := pairs_nil hps
    have rd : Reads s.heap (.ref p) (.dict []) (p :: [] ++ []) := .dict ho hex.1 hd (by rw [e2]; exact .nil) (by rw [e2]; exact .nil)
    have hdp : (PyData.dict []).depth ≤ 5 := by decide +kernel
    refine repr_of_reads' rd (by decide +kernel) (fun _ hm => ?_) hg (by omega) (fun _ _ e => e) (fun h' u tk hk => ⟨.str _, H, I.kept hk, ⟨_, rfl⟩, hq⟩) (Vld.le_line (by decide +kernel))
    have : sysModules = p := by simpa using hm
    rw [this] at hne
    simp at hne
theorem call_reprR {k : Nat} (hg : X.A.guards = some []) (hr : Room k X.A) : CallR X (.builtin "repr") (rReprR X.K) := call_reprRU hg (by have := hr.un; omega)
end
theorem op_mulS {X : Cx} : OpR X (binaryOp .Mult) (fun x y H Q => ∃ z k, x = .str z ∧ y = .int k ∧ MulOk z k ∧ Q (.str (Txt.mul z k)) H) := by
  intro pins s σ H x y v u Q I rx ry h
  obtain ⟨z, k, rfl, rfl, hok, q⟩ := h
  obtain ⟨t, rfl⟩ := rx
  obtain ⟨t', rfl⟩ := ry
  exact SB.mul hok fun t' tk => ⟨.str (Txt.mul z k), H, I.tok _, ⟨_, rfl⟩, q⟩
end Own

set_option Elab.async false
set_option linter.all false
set_option maxRecDepth 100000
set_option maxHeartbeats 4000000
namespace E1
open PySem PySem.Spec PyProof.Rows L2 Own Exn
def topS (i : Nat) : Stmt := PySem.Challenge.pw_leakyqueue_k01_words_and_programs_valida.main.body.getD i (.Pass ⟨0, 0, 0, 0⟩)
abbrev s_is_string_of : Stmt := topS 8
abbrev N_is_string_of : List Str := ["value", "letters", "longest"]
theorem sc_is_string_of : FnScope N_is_string_of ["value", "letters", "longest"] (defScope s_is_string_of) := ⟨rfl, rfl, rfl, by decide +kernel, rfl, by decide +kernel, by decide +kernel⟩
abbrev s_is_word : Stmt := topS 9
abbrev N_is_word : List Str := ["value"]
theorem sc_is_word : FnScope N_is_word ["value"] (defScope s_is_word) := ⟨rfl, rfl, rfl, by decide +kernel, rfl, by decide +kernel, by decide +kernel⟩
abbrev s_require_word : Stmt := topS 10
abbrev N_require_word : List Str := ["value"]
theorem sc_require_word : FnScope N_require_word ["value"] (defScope s_require_word) := ⟨rfl, rfl, rfl, by decide +kernel, rfl, by decide +kernel, by decide +kernel⟩
abbrev s_earliest_positions : Stmt := topS 11
abbrev N_earliest_positions : List Str := ["part", "word", "positions", "start", "item", "position"]
theorem sc_earliest_positions : FnScope N_earliest_positions ["part", "word"] (defScope s_earliest_positions) := ⟨rfl, rfl, rfl, by decide +kernel, rfl, by decide +kernel, by decide +kernel⟩
abbrev s_embeds : Stmt := topS 12
abbrev N_embeds : List Str := ["part", "word"]
theorem sc_embeds : FnScope N_embeds ["part", "word"] (defScope s_embeds) := ⟨rfl, rfl, rfl, by decide +kernel, rfl, by decide +kernel, by decide +kernel⟩
abbrev s_is_subsequence : Stmt := topS 13
abbrev N_is_subsequence : List Str := ["part", "word"]
theorem sc_is_subsequence : FnScope N_is_subsequence ["part", "word"] (defScope s_is_subsequence) := ⟨rfl, rfl, rfl, by decide +kernel, rfl, by decide +kernel, by decide +kernel⟩
abbrev s_embedding : Stmt := topS 14
abbrev N_embedding : List Str := ["part", "word", "positions"]
theorem sc_embedding : FnScope N_embedding ["part", "word"] (defScope s_embedding) := ⟨rfl, rfl, rfl, by decide +kernel, rfl, by decide +kernel, by decide +kernel⟩
abbrev s_prefix_length : Stmt := topS 15
abbrev N_prefix_length : List Str := ["part", "word"]
theorem sc_prefix_length : FnScope N_prefix_length ["part", "word"] (defScope s_prefix_length) := ⟨rfl, rfl, rfl, by decide +kernel, rfl, by decide +kernel, by decide +kernel⟩
abbrev s_is_program : Stmt := topS 18
abbrev N_is_program : List Str := ["value"]
theorem sc_is_program : FnScope N_is_program ["value"] (defScope s_is_program) := ⟨rfl, rfl, rfl, by decide +kernel, rfl, by decide +kernel, by decide +kernel⟩
abbrev s_require_program : Stmt := topS 19
abbrev N_require_program : List Str := ["value"]
theorem sc_require_program : FnScope N_require_program ["value"] (defScope s_require_program) := ⟨rfl, rfl, rfl, by decide +kernel, rfl, by decide +kernel, by decide +kernel⟩
abbrev s_take_items : Stmt := topS 20
abbrev N_take_items : List Str := ["program", "step"]
theorem sc_take_items : FnScope N_take_items ["program"] (defScope s_take_items) := ⟨rfl, rfl, rfl, by decide +kernel, rfl, by decide +kernel, by decide +kernel⟩
abbrev s_put_items : Stmt := topS 21
abbrev N_put_items : List Str := ["program", "step"]
theorem sc_put_items : FnScope N_put_items ["program"] (defScope s_put_items) := ⟨rfl, rfl, rfl, by decide +kernel, rfl, by decide +kernel, by decide +kernel⟩
abbrev s_counts_before_takes : Stmt := topS 22
abbrev N_counts_before_takes : List Str := ["program", "counts", "done", "step"]
theorem sc_counts_before_takes : FnScope N_counts_before_takes ["program"] (defScope s_counts_before_takes) := ⟨rfl, rfl, rfl, by decide +kernel, rfl, by decide +kernel, by decide +kernel⟩
abbrev s_takes : Stmt := topS 23
abbrev N_takes : List Str := ["program"]
theorem sc_takes : FnScope N_takes ["program"] (defScope s_takes) := ⟨rfl, rfl, rfl, by decide +kernel, rfl, by decide +kernel, by decide +kernel⟩
abbrev s_puts : Stmt := topS 24
abbrev N_puts : List Str := ["program"]
theorem sc_puts : FnScope N_puts ["program"] (defScope s_puts) := ⟨rfl, rfl, rfl, by decide +kernel, rfl, by decide +kernel, by decide +kernel⟩
abbrev s_put_counts : Stmt := topS 25
abbrev N_put_counts : List Str := ["program"]
theorem sc_put_counts : FnScope N_put_counts ["program"] (defScope s_put_counts) := ⟨rfl, rfl, rfl, by decide +kernel, rfl, by decide +kernel, by decide +kernel⟩
abbrev s_steps : Stmt := topS 26
abbrev N_steps : List Str := ["program", "step", "word"]
theorem sc_steps : GScope N_steps ["program"] (defScope s_steps) := ⟨rfl, rfl, rfl, by decide +kernel, rfl, by decide +kernel, by decide +kernel⟩
abbrev s_join : Stmt := topS 27
abbrev N_join : List Str := ["programs", "program", "joined"]
theorem sc_join : FnScope N_join ["programs"] (defScope s_join) := ⟨rfl, rfl, rfl, by decide +kernel, rfl, by decide +kernel, by decide +kernel⟩
abbrev s_Lpool : Stmt := topS 29
abbrev N_Lpool : List Str := ["_law_script", "_law_k", "_law_cell", "_law_number", "_law_mixed"]
theorem sc_Lpool : FnScope N_Lpool ["_law_script", "_law_k"] (defScope s_Lpool) := ⟨rfl, rfl, rfl, by decide +kernel, rfl, by decide +kernel, by decide +kernel⟩
abbrev s_Ltake : Stmt := topS 30
abbrev N_Ltake : List Str := ["_law_pool_here", "_law_many", "_law_digit"]
theorem sc_Ltake : FnScope N_Ltake ["_law_pool_here", "_law_many"] (defScope s_Ltake) := ⟨rfl, rfl, rfl, by decide +kernel, rfl, by decide +kernel, by decide +kernel⟩
abbrev s_Lprogram : Stmt := topS 31
abbrev N_Lprogram : List Str := ["_law_pool_here", "_law_most", "_law_letters", "_law_moves", "_law_turn"]
theorem sc_Lprogram : FnScope N_Lprogram ["_law_pool_here", "_law_most", "_law_letters"] (defScope s_Lprogram) := ⟨rfl, rfl, rfl, by decide +kernel, rfl, by decide +kernel, by decide +kernel⟩
abbrev s_Lis : Stmt := topS 32
abbrev N_Lis : List Str := ["_law_value", "_law_letters", "_law_one"]
theorem sc_Lis : FnScope N_Lis ["_law_value", "_law_letters"] (defScope s_Lis) := ⟨rfl, rfl, rfl, by decide +kernel, rfl, by decide +kernel, by decide +kernel⟩
abbrev s_Lcalled : Stmt := topS 33
abbrev N_Lcalled : List Str := ["_law_way", "_law_value"]
theorem sc_Lcalled : FnScope N_Lcalled ["_law_way", "_law_value"] (defScope s_Lcalled) := ⟨rfl, rfl, rfl, by decide +kernel, rfl, by decide +kernel, by decide +kernel⟩
abbrev s_Lsaid : Stmt := topS 34
abbrev N_Lsaid : List Str := ["_law_way", "_law_value", "e"]
theorem sc_Lsaid : FnScope N_Lsaid ["_law_way", "_law_value"] (defScope s_Lsaid) := ⟨rfl, rfl, rfl, by decide +kernel, rfl, by decide +kernel, by decide +kernel⟩
abbrev s_Lright : Stmt := topS 35
abbrev N_Lright : List Str := ["_law_value", "_law_words", "_law_is_right", "_law_way", "_law_kind", "_law_is_valid"]
theorem sc_Lright : FnScope N_Lright ["_law_value"] (defScope s_Lright) := ⟨rfl, rfl, rfl, by decide +kernel, rfl, by decide +kernel, by decide +kernel⟩
abbrev s_law : Stmt := topS 36
abbrev N_law : List Str := ["_law_script", "_law_some", "_law_k", "_law_pool_here", "_law_value", "_law_spot", "_law_sign", "_law_bent"]
theorem sc_law : FnScope N_law ["_law_script"] (defScope s_law) := ⟨rfl, rfl, rfl, by decide +kernel, rfl, by decide +kernel, by decide +kernel⟩
structure Ad where
  f_is_string_of : Addr
  d_is_string_of : FuncData
  f_is_word : Addr
  d_is_word : FuncData
  f_require_word : Addr
  d_require_word : FuncData
  f_earliest_positions : Addr
  d_earliest_positions : FuncData
  f_embeds : Addr
  d_embeds : FuncData
  f_is_subsequence : Addr
  d_is_subsequence : FuncData
  f_embedding : Addr
  d_embedding : FuncData
  f_prefix_length : Addr
  d_prefix_length : FuncData
  f_is_program : Addr
  d_is_program : FuncData
  f_require_program : Addr
  d_require_program : FuncData
  f_take_items : Addr
  d_take_items : FuncData
  f_put_items : Addr
  d_put_items : FuncData
  f_counts_before_takes : Addr
  d_counts_before_takes : FuncData
  f_takes : Addr
  d_takes : FuncData
  f_puts : Addr
  d_puts : FuncData
  f_put_counts : Addr
  d_put_counts : FuncData
  f_steps : Addr
  d_steps : FuncData
  f_join : Addr
  d_join : FuncData
  f_Lpool : Addr
  d_Lpool : FuncData
  f_Ltake : Addr
  d_Ltake : FuncData
  f_Lprogram : Addr
  d_Lprogram : FuncData
  f_Lis : Addr
  d_Lis : FuncData
  f_Lcalled : Addr
  d_Lcalled : FuncData
  f_Lsaid : Addr
  d_Lsaid : FuncData
  f_Lright : Addr
  d_Lright : FuncData
  f_law : Addr
  d_law : FuncData
  t_ITEMS : Tok
  t_MAX_LENGTH : Tok
  t_STEPS : Tok
  C_LeakError : Addr
  C_InvalidWord : Addr
  I_InvalidWord : Addr
  C_InvalidProgram : Addr
  I_InvalidProgram : Addr
  C_LimitExceeded : Addr
  I_LimitExceeded : Addr
structure Txt (K : PySem.W.Frag) (mg : Str → Option Value) (a : Ad) : Prop where
  F_is_string_of : FunD K "is_string_of" "is_string_of" (defArgs s_is_string_of) (defBody s_is_string_of) (defScope s_is_string_of) [.int 400] [] a.f_is_string_of a.d_is_string_of
  b_is_string_of : ∃ ds, Vals [.int 400] ds ∧ Binds K a.d_is_string_of ["value", "letters", "longest"] ds
  g_is_string_of : mg "is_string_of" = some (.ref a.f_is_string_of)
  F_is_word : Fun K "is_word" "is_word" s_is_word a.f_is_word a.d_is_word
  b_is_word : Binds K a.d_is_word ["value"] []
  g_is_word : mg "is_word" = some (.ref a.f_is_word)
  F_require_word : Fun K "require_word" "require_word" s_require_word a.f_require_word a.d_require_word
  b_require_word : Binds K a.d_require_word ["value"] []
  g_require_word : mg "require_word" = some (.ref a.f_require_word)
  F_earliest_positions : Fun K "earliest_positions" "earliest_positions" s_earliest_positions a.f_earliest_positions a.d_earliest_positions
  b_earliest_positions : Binds K a.d_earliest_positions ["part", "word"] []
  g_earliest_positions : mg "earliest_positions" = some (.ref a.f_earliest_positions)
  F_embeds : Fun K "embeds" "embeds" s_embeds a.f_embeds a.d_embeds
  b_embeds : Binds K a.d_embeds ["part", "word"] []
  g_embeds : mg "embeds" = some (.ref a.f_embeds)
  F_is_subsequence : Fun K "is_subsequence" "is_subsequence" s_is_subsequence a.f_is_subsequence a.d_is_subsequence
  b_is_subsequence : Binds K a.d_is_subsequence ["part", "word"] []
  g_is_subsequence : mg "is_subsequence" = some (.ref a.f_is_subsequence)
  F_embedding : Fun K "embedding" "embedding" s_embedding a.f_embedding a.d_embedding
  b_embedding : Binds K a.d_embedding ["part", "word"] []
  g_embedding : mg "embedding" = some (.ref a.f_embedding)
  F_prefix_length : Fun K "prefix_length" "prefix_length" s_prefix_length a.f_prefix_length a.d_prefix_length
  b_prefix_length : Binds K a.d_prefix_length ["part", "word"] []
  g_prefix_length : mg "prefix_length" = some (.ref a.f_prefix_length)
  F_is_program : Fun K "is_program" "is_program" s_is_program a.f_is_program a.d_is_program
  b_is_program : Binds K a.d_is_program ["value"] []
  g_is_program : mg "is_program" = some (.ref a.f_is_program)
  F_require_program : Fun K "require_program" "require_program" s_require_program a.f_require_program a.d_require_program
  b_require_program : Binds K a.d_require_program ["value"] []
  g_require_program : mg "require_program" = some (.ref a.f_require_program)
  F_take_items : Fun K "take_items" "take_items" s_take_items a.f_take_items a.d_take_items
  b_take_items : Binds K a.d_take_items ["program"] []
  g_take_items : mg "take_items" = some (.ref a.f_take_items)
  F_put_items : Fun K "put_items" "put_items" s_put_items a.f_put_items a.d_put_items
  b_put_items : Binds K a.d_put_items ["program"] []
  g_put_items : mg "put_items" = some (.ref a.f_put_items)
  F_counts_before_takes : Fun K "counts_before_takes" "counts_before_takes" s_counts_before_takes a.f_counts_before_takes a.d_counts_before_takes
  b_counts_before_takes : Binds K a.d_counts_before_takes ["program"] []
  g_counts_before_takes : mg "counts_before_takes" = some (.ref a.f_counts_before_takes)
  F_takes : Fun K "takes" "takes" s_takes a.f_takes a.d_takes
  b_takes : Binds K a.d_takes ["program"] []
  g_takes : mg "takes" = some (.ref a.f_takes)
  F_puts : Fun K "puts" "puts" s_puts a.f_puts a.d_puts
  b_puts : Binds K a.d_puts ["program"] []
  g_puts : mg "puts" = some (.ref a.f_puts)
  F_put_counts : Fun K "put_counts" "put_counts" s_put_counts a.f_put_counts a.d_put_counts
  b_put_counts : Binds K a.d_put_counts ["program"] []
  g_put_counts : mg "put_counts" = some (.ref a.f_put_counts)
  F_steps : Fun K "steps" "steps" s_steps a.f_steps a.d_steps
  b_steps : Binds K a.d_steps ["program"] []
  g_steps : mg "steps" = some (.ref a.f_steps)
  F_join : Fun K "join" "join" s_join a.f_join a.d_join
  g_join : mg "join" = some (.ref a.f_join)
  F_Lpool : Fun K "_law_pool" "_law_pool" s_Lpool a.f_Lpool a.d_Lpool
  b_Lpool : Binds K a.d_Lpool ["_law_script", "_law_k"] []
  g_Lpool : mg "_law_pool" = some (.ref a.f_Lpool)
  F_Ltake : Fun K "_law_take" "_law_take" s_Ltake a.f_Ltake a.d_Ltake
  b_Ltake : Binds K a.d_Ltake ["_law_pool_here", "_law_many"] []
  g_Ltake : mg "_law_take" = some (.ref a.f_Ltake)
  F_Lprogram : Fun K "_law_program" "_law_program" s_Lprogram a.f_Lprogram a.d_Lprogram
  b_Lprogram : Binds K a.d_Lprogram ["_law_pool_here", "_law_most", "_law_letters"] []
  g_Lprogram : mg "_law_program" = some (.ref a.f_Lprogram)
  F_Lis : Fun K "_law_is" "_law_is" s_Lis a.f_Lis a.d_Lis
  b_Lis : Binds K a.d_Lis ["_law_value", "_law_letters"] []
  g_Lis : mg "_law_is" = some (.ref a.f_Lis)
  F_Lcalled : Fun K "_law_called" "_law_called" s_Lcalled a.f_Lcalled a.d_Lcalled
  b_Lcalled : Binds K a.d_Lcalled ["_law_way", "_law_value"] []
  g_Lcalled : mg "_law_called" = some (.ref a.f_Lcalled)
  F_Lsaid : Fun K "_law_said" "_law_said" s_Lsaid a.f_Lsaid a.d_Lsaid
  b_Lsaid : Binds K a.d_Lsaid ["_law_way", "_law_value"] []
  g_Lsaid : mg "_law_said" = some (.ref a.f_Lsaid)
  F_Lright : Fun K "_law_right" "_law_right" s_Lright a.f_Lright a.d_Lright
  b_Lright : Binds K a.d_Lright ["_law_value"] []
  g_Lright : mg "_law_right" = some (.ref a.f_Lright)
  F_law : Fun K "law" "law" s_law a.f_law a.d_law
  b_law : Binds K a.d_law ["_law_script"] []
  g_law : mg "law" = some (.ref a.f_law)
  c_ITEMS : mg "ITEMS" = some (.str "abcdefgh" a.t_ITEMS)
  c_MAX_LENGTH : mg "MAX_LENGTH" = some (.int 400 a.t_MAX_LENGTH)
  c_STEPS : mg "STEPS" = some (.str "abcdefghABCDEFGH" a.t_STEPS)
  z_isinstance : mg "isinstance" = none
  z_str : mg "str" = none
  z_len : mg "len" = none
  z_max : mg "max" = none
  z_int : mg "int" = none
  z_range : mg "range" = none
  z_list : mg "list" = none
  z_repr : mg "repr" = none
  z_min : mg "min" = none
  g_LeakError : mg "LeakError" = some (.ref a.C_LeakError)
  e_InvalidWord : Ecl_value K mg "InvalidWord" "InvalidWord.__init__" "ValueError" "ValueError" "ValueError.__new__" "ValueError.__init__" [.type "ValueError", .type "Exception", .type "BaseException", .type "object"] [.type "ValueError", .type "Exception", .type "BaseException", .type "object"] a.C_InvalidWord a.I_InvalidWord
  h_InvalidWord : ecB K a.C_InvalidWord a.I_InvalidWord "value" [.type "ValueError", .type "Exception", .type "BaseException", .type "object"] "ValueError.__new__" = true
  e_InvalidProgram : Ecl_value K mg "InvalidProgram" "InvalidProgram.__init__" "ValueError" "ValueError" "ValueError.__new__" "ValueError.__init__" [.type "ValueError", .type "Exception", .type "BaseException", .type "object"] [.type "ValueError", .type "Exception", .type "BaseException", .type "object"] a.C_InvalidProgram a.I_InvalidProgram
  h_InvalidProgram : ecB K a.C_InvalidProgram a.I_InvalidProgram "value" [.type "ValueError", .type "Exception", .type "BaseException", .type "object"] "ValueError.__new__" = true
  e_LimitExceeded : Ecl_limit K mg "LimitExceeded" "LimitExceeded.__init__" "OverflowError" "OverflowError" "OverflowError.__new__" "OverflowError.__init__" [.type "OverflowError", .type "ArithmeticError", .type "Exception", .type "BaseException", .type "object"] [.type "OverflowError", .type "ArithmeticError", .type "Exception", .type "BaseException", .type "object"] a.C_LimitExceeded a.I_LimitExceeded
  h_LimitExceeded : ecB K a.C_LimitExceeded a.I_LimitExceeded "limit" [.type "OverflowError", .type "ArithmeticError", .type "Exception", .type "BaseException", .type "object"] "OverflowError.__new__" = true
theorem txt_mk {K : PySem.W.Frag} {h : Heap} {mg : Str → Option Value} {f1 f2 f3 f4 f5 f6 f7 f8 f9 f10 f11 f12 f13 f14 f15 f16 f17 f18 f19 f20 f21 f22 f23 f24 f25 f26 : Addr} {od1 an1 od2 an2 od3 an3 od4 an4 od5 an5 od6 an6 od7 an7 od8 an8 od9 an9 od10 an10 od11 an11 od12 an12 od13 an13 od14 an14 od15 an15 od16 an16 od17 an17 od18 an18 od19 an19 od20 an20 od21 an21 od22 an22 od23 an23 od24 an24 od25 an25 od26 an26 : Option Addr} {sl1 sl2 sl3 sl4 sl5 sl6 sl7 sl8 sl9 sl10 sl11 sl12 sl13 sl14 sl15 sl16 sl17 sl18 sl19 sl20 sl21 sl22 sl23 sl24 sl25 sl26 : Array (Option Value)}
    {oc1 kV1 dc1 pm1 cd1 ct1 oc2 kV2 dc2 pm2 cd2 ct2 oc3 kV3 dc3 pm3 cd3 ct3 oc4 kV4 dc4 pm4 cd4 ct4 oc5 kV5 dc5 pm5 cd5 ct5 oc6 kV6 dc6 pm6 cd6 ct6 oc7 kV7 dc7 pm7 cd7 ct7 oc8 kV8 dc8 pm8 cd8 ct8 oc9 kV9 dc9 pm9 cd9 ct9 oc10 kV10 dc10 pm10 cd10 ct10 oc11 kV11 dc11 pm11 cd11 ct11 oc12 kV12 dc12 pm12 cd12 ct12 oc13 kV13 dc13 pm13 cd13 ct13 oc14 kV14 dc14 pm14 cd14 ct14 oc15 kV15 dc15 pm15 cd15 ct15 oc16 kV16 dc16 pm16 cd16 ct16 oc17 kV17 dc17 pm17 cd17 ct17 oc18 kV18 dc18 pm18 cd18 ct18 oc19 kV19 dc19 pm19 cd19 ct19 oc20 kV20 dc20 pm20 cd20 ct20 oc21 kV21 dc21 pm21 cd21 ct21 oc22 kV22 dc22 pm22 cd22 ct22 oc23 kV23 dc23 pm23 cd23 ct23 oc24 kV24 dc24 pm24 cd24 ct24 oc25 kV25 dc25 pm25 cd25 ct25 oc26 kV26 dc26 pm26 cd26 ct26 : Value}
    {t_ITEMS t_MAX_LENGTH t_STEPS : Tok}
    (X : K.In h) (G : h.Ns mainGlobals mg)
    {td1 : Addr} {to1 : Value} {tp1 : Option Addr} {tn1 : Nat} {ts1 : Array (Option Value)} {tk1_0 : Tok}
    (t1 : K.lookup td1 = some ⟨to1, tp1, .seq #[.int 400 tk1_0] tn1, ts1⟩)
    (a1 : PySem.W.nsIn K mainGlobals "is_string_of" = some (some (.ref f1))) (l1 : K.lookup f1 = some ⟨oc1, od1, .func (PySem.W.fnOf "is_string_of" "is_string_of" (defArgs s_is_string_of) (defBody s_is_string_of) (defScope s_is_string_of) (.ref td1) kV1 dc1 pm1 an1 cd1 ct1), sl1⟩)
    (c1 : PySem.W.codeIn K cd1 "is_string_of" = true) (k1 : PySem.W.keepIn K (.ref f1) = true)
    (a2 : PySem.W.nsIn K mainGlobals "is_word" = some (some (.ref f2))) (l2 : K.lookup f2 = some ⟨oc2, od2, .func (PySem.W.fnOf "is_word" "is_word" (defArgs s_is_word) (defBody s_is_word) (defScope s_is_word) .none kV2 dc2 pm2 an2 cd2 ct2), sl2⟩)
    (c2 : PySem.W.codeIn K cd2 "is_word" = true) (k2 : PySem.W.keepIn K (.ref f2) = true)
    (a3 : PySem.W.nsIn K mainGlobals "require_word" = some (some (.ref f3))) (l3 : K.lookup f3 = some ⟨oc3, od3, .func (PySem.W.fnOf "require_word" "require_word" (defArgs s_require_word) (defBody s_require_word) (defScope s_require_word) .none kV3 dc3 pm3 an3 cd3 ct3), sl3⟩)
    (c3 : PySem.W.codeIn K cd3 "require_word" = true) (k3 : PySem.W.keepIn K (.ref f3) = true)
    (a4 : PySem.W.nsIn K mainGlobals "earliest_positions" = some (some (.ref f4))) (l4 : K.lookup f4 = some ⟨oc4, od4, .func (PySem.W.fnOf "earliest_positions" "earliest_positions" (defArgs s_earliest_positions) (defBody s_earliest_positions) (defScope s_earliest_positions) .none kV4 dc4 pm4 an4 cd4 ct4), sl4⟩)
    (c4 : PySem.W.codeIn K cd4 "earliest_positions" = true) (k4 : PySem.W.keepIn K (.ref f4) = true)
    (a5 : PySem.W.nsIn K mainGlobals "embeds" = some (some (.ref f5))) (l5 : K.lookup f5 = some ⟨oc5, od5, .func (PySem.W.fnOf "embeds" "embeds" (defArgs s_embeds) (defBody s_embeds) (defScope s_embeds) .none kV5 dc5 pm5 an5 cd5 ct5), sl5⟩)
    (c5 : PySem.W.codeIn K cd5 "embeds" = true) (k5 : PySem.W.keepIn K (.ref f5) = true)
    (a6 : PySem.W.nsIn K mainGlobals "is_subsequence" = some (some (.ref f6))) (l6 : K.lookup f6 = some ⟨oc6, od6, .func (PySem.W.fnOf "is_subsequence" "is_subsequence" (defArgs s_is_subsequence) (defBody s_is_subsequence) (defScope s_is_subsequence) .none kV6 dc6 pm6 an6 cd6 ct6), sl6⟩)
    (c6 : PySem.W.codeIn K cd6 "is_subsequence" = true) (k6 : PySem.W.keepIn K (.ref f6) = true)
    (a7 : PySem.W.nsIn K mainGlobals "embedding" = some (some (.ref f7))) (l7 : K.lookup f7 = some ⟨oc7, od7, .func (PySem.W.fnOf "embedding" "embedding" (defArgs s_embedding) (defBody s_embedding) (defScope s_embedding) .none kV7 dc7 pm7 an7 cd7 ct7), sl7⟩)
    (c7 : PySem.W.codeIn K cd7 "embedding" = true) (k7 : PySem.W.keepIn K (.ref f7) = true)
    (a8 : PySem.W.nsIn K mainGlobals "prefix_length" = some (some (.ref f8))) (l8 : K.lookup f8 = some ⟨oc8, od8, .func (PySem.W.fnOf "prefix_length" "prefix_length" (defArgs s_prefix_length) (defBody s_prefix_length) (defScope s_prefix_length) .none kV8 dc8 pm8 an8 cd8 ct8), sl8⟩)
    (c8 : PySem.W.codeIn K cd8 "prefix_length" = true) (k8 : PySem.W.keepIn K (.ref f8) = true)
    (a9 : PySem.W.nsIn K mainGlobals "is_program" = some (some (.ref f9))) (l9 : K.lookup f9 = some ⟨oc9, od9, .func (PySem.W.fnOf "is_program" "is_program" (defArgs s_is_program) (defBody s_is_program) (defScope s_is_program) .none kV9 dc9 pm9 an9 cd9 ct9), sl9⟩)
    (c9 : PySem.W.codeIn K cd9 "is_program" = true) (k9 : PySem.W.keepIn K (.ref f9) = true)
    (a10 : PySem.W.nsIn K mainGlobals "require_program" = some (some (.ref f10))) (l10 : K.lookup f10 = some ⟨oc10, od10, .func (PySem.W.fnOf "require_program" "require_program" (defArgs s_require_program) (defBody s_require_program) (defScope s_require_program) .none kV10 dc10 pm10 an10 cd10 ct10), sl10⟩)
    (c10 : PySem.W.codeIn K cd10 "require_program" = true) (k10 : PySem.W.keepIn K (.ref f10) = true)
    (a11 : PySem.W.nsIn K mainGlobals "take_items" = some (some (.ref f11))) (l11 : K.lookup f11 = some ⟨oc11, od11, .func (PySem.W.fnOf "take_items" "take_items" (defArgs s_take_items) (defBody s_take_items) (defScope s_take_items) .none kV11 dc11 pm11 an11 cd11 ct11), sl11⟩)
    (c11 : PySem.W.codeIn K cd11 "take_items" = true) (k11 : PySem.W.keepIn K (.ref f11) = true)
    (a12 : PySem.W.nsIn K mainGlobals "put_items" = some (some (.ref f12))) (l12 : K.lookup f12 = some ⟨oc12, od12, .func (PySem.W.fnOf "put_items" "put_items" (defArgs s_put_items) (defBody s_put_items) (defScope s_put_items) .none kV12 dc12 pm12 an12 cd12 ct12), sl12⟩)
    (c12 : PySem.W.codeIn K cd12 "put_items" = true) (k12 : PySem.W.keepIn K (.ref f12) = true)
    (a13 : PySem.W.nsIn K mainGlobals "counts_before_takes" = some (some (.ref f13))) (l13 : K.lookup f13 = some ⟨oc13, od13, .func (PySem.W.fnOf "counts_before_takes" "counts_before_takes" (defArgs s_counts_before_takes) (defBody s_counts_before_takes) (defScope s_counts_before_takes) .none kV13 dc13 pm13 an13 cd13 ct13), sl13⟩)
    (c13 : PySem.W.codeIn K cd13 "counts_before_takes" = true) (k13 : PySem.W.keepIn K (.ref f13) = true)
    (a14 : PySem.W.nsIn K mainGlobals "takes" = some (some (.ref f14))) (l14 : K.lookup f14 = some ⟨oc14, od14, .func (PySem.W.fnOf "takes" "takes" (defArgs s_takes) (defBody s_takes) (defScope s_takes) .none kV14 dc14 pm14 an14 cd14 ct14), sl14⟩)
    (c14 : PySem.W.codeIn K cd14 "takes" = true) (k14 : PySem.W.keepIn K (.ref f14) = true)
    (a15 : PySem.W.nsIn K mainGlobals "puts" = some (some (.ref f15))) (l15 : K.lookup f15 = some ⟨oc15, od15, .func (PySem.W.fnOf "puts" "puts" (defArgs s_puts) (defBody s_puts) (defScope s_puts) .none kV15 dc15 pm15 an15 cd15 ct15), sl15⟩)
    (c15 : PySem.W.codeIn K cd15 "puts" = true) (k15 : PySem.W.keepIn K (.ref f15) = true)
    (a16 : PySem.W.nsIn K mainGlobals "put_counts" = some (some (.ref f16))) (l16 : K.lookup f16 = some ⟨oc16, od16, .func (PySem.W.fnOf "put_counts" "put_counts" (defArgs s_put_counts) (defBody s_put_counts) (defScope s_put_counts) .none kV16 dc16 pm16 an16 cd16 ct16), sl16⟩)
    (c16 : PySem.W.codeIn K cd16 "put_counts" = true) (k16 : PySem.W.keepIn K (.ref f16) = true)
    (a17 : PySem.W.nsIn K mainGlobals "steps" = some (some (.ref f17))) (l17 : K.lookup f17 = some ⟨oc17, od17, .func (PySem.W.fnOf "steps" "steps" (defArgs s_steps) (defBody s_steps) (defScope s_steps) .none kV17 dc17 pm17 an17 cd17 ct17), sl17⟩)
    (c17 : PySem.W.codeIn K cd17 "steps" = true) (k17 : PySem.W.keepIn K (.ref f17) = true)
    (a18 : PySem.W.nsIn K mainGlobals "join" = some (some (.ref f18))) (l18 : K.lookup f18 = some ⟨oc18, od18, .func (PySem.W.fnOf "join" "join" (defArgs s_join) (defBody s_join) (defScope s_join) .none kV18 dc18 pm18 an18 cd18 ct18), sl18⟩)
    (c18 : PySem.W.codeIn K cd18 "join" = true) (k18 : PySem.W.keepIn K (.ref f18) = true)
    (a19 : PySem.W.nsIn K mainGlobals "_law_pool" = some (some (.ref f19))) (l19 : K.lookup f19 = some ⟨oc19, od19, .func (PySem.W.fnOf "_law_pool" "_law_pool" (defArgs s_Lpool) (defBody s_Lpool) (defScope s_Lpool) .none kV19 dc19 pm19 an19 cd19 ct19), sl19⟩)
    (c19 : PySem.W.codeIn K cd19 "_law_pool" = true) (k19 : PySem.W.keepIn K (.ref f19) = true)
    (a20 : PySem.W.nsIn K mainGlobals "_law_take" = some (some (.ref f20))) (l20 : K.lookup f20 = some ⟨oc20, od20, .func (PySem.W.fnOf "_law_take" "_law_take" (defArgs s_Ltake) (defBody s_Ltake) (defScope s_Ltake) .none kV20 dc20 pm20 an20 cd20 ct20), sl20⟩)
    (c20 : PySem.W.codeIn K cd20 "_law_take" = true) (k20 : PySem.W.keepIn K (.ref f20) = true)
    (a21 : PySem.W.nsIn K mainGlobals "_law_program" = some (some (.ref f21))) (l21 : K.lookup f21 = some ⟨oc21, od21, .func (PySem.W.fnOf "_law_program" "_law_program" (defArgs s_Lprogram) (defBody s_Lprogram) (defScope s_Lprogram) .none kV21 dc21 pm21 an21 cd21 ct21), sl21⟩)
    (c21 : PySem.W.codeIn K cd21 "_law_program" = true) (k21 : PySem.W.keepIn K (.ref f21) = true)
    (a22 : PySem.W.nsIn K mainGlobals "_law_is" = some (some (.ref f22))) (l22 : K.lookup f22 = some ⟨oc22, od22, .func (PySem.W.fnOf "_law_is" "_law_is" (defArgs s_Lis) (defBody s_Lis) (defScope s_Lis) .none kV22 dc22 pm22 an22 cd22 ct22), sl22⟩)
    (c22 : PySem.W.codeIn K cd22 "_law_is" = true) (k22 : PySem.W.keepIn K (.ref f22) = true)
    (a23 : PySem.W.nsIn K mainGlobals "_law_called" = some (some (.ref f23))) (l23 : K.lookup f23 = some ⟨oc23, od23, .func (PySem.W.fnOf "_law_called" "_law_called" (defArgs s_Lcalled) (defBody s_Lcalled) (defScope s_Lcalled) .none kV23 dc23 pm23 an23 cd23 ct23), sl23⟩)
    (c23 : PySem.W.codeIn K cd23 "_law_called" = true) (k23 : PySem.W.keepIn K (.ref f23) = true)
    (a24 : PySem.W.nsIn K mainGlobals "_law_said" = some (some (.ref f24))) (l24 : K.lookup f24 = some ⟨oc24, od24, .func (PySem.W.fnOf "_law_said" "_law_said" (defArgs s_Lsaid) (defBody s_Lsaid) (defScope s_Lsaid) .none kV24 dc24 pm24 an24 cd24 ct24), sl24⟩)
    (c24 : PySem.W.codeIn K cd24 "_law_said" = true) (k24 : PySem.W.keepIn K (.ref f24) = true)
    (a25 : PySem.W.nsIn K mainGlobals "_law_right" = some (some (.ref f25))) (l25 : K.lookup f25 = some ⟨oc25, od25, .func (PySem.W.fnOf "_law_right" "_law_right" (defArgs s_Lright) (defBody s_Lright) (defScope s_Lright) .none kV25 dc25 pm25 an25 cd25 ct25), sl25⟩)
    (c25 : PySem.W.codeIn K cd25 "_law_right" = true) (k25 : PySem.W.keepIn K (.ref f25) = true)
    (a26 : PySem.W.nsIn K mainGlobals "law" = some (some (.ref f26))) (l26 : K.lookup f26 = some ⟨oc26, od26, .func (PySem.W.fnOf "law" "law" (defArgs s_law) (defBody s_law) (defScope s_law) .none kV26 dc26 pm26 an26 cd26 ct26), sl26⟩)
    (c26 : PySem.W.codeIn K cd26 "law" = true) (k26 : PySem.W.keepIn K (.ref f26) = true)
    (v_ITEMS : PySem.W.nsIn K mainGlobals "ITEMS" = some (some (.str "abcdefgh" t_ITEMS)))
    (v_MAX_LENGTH : PySem.W.nsIn K mainGlobals "MAX_LENGTH" = some (some (.int 400 t_MAX_LENGTH)))
    (v_STEPS : PySem.W.nsIn K mainGlobals "STEPS" = some (some (.str "abcdefghABCDEFGH" t_STEPS)))
    (z_isinstance : PySem.W.nsIn K mainGlobals "isinstance" = some none)
    (z_str : PySem.W.nsIn K mainGlobals "str" = some none)
    (z_len : PySem.W.nsIn K mainGlobals "len" = some none)
    (z_max : PySem.W.nsIn K mainGlobals "max" = some none)
    (z_int : PySem.W.nsIn K mainGlobals "int" = some none)
    (z_range : PySem.W.nsIn K mainGlobals "range" = some none)
    (z_list : PySem.W.nsIn K mainGlobals "list" = some none)
    (z_repr : PySem.W.nsIn K mainGlobals "repr" = some none)
    (z_min : PySem.W.nsIn K mainGlobals "min" = some none)
    {C_LeakError : Addr} (n_LeakError : PySem.W.nsIn K mainGlobals "LeakError" = some (some (.ref C_LeakError)))
    {C_InvalidWord I_InvalidWord : Addr} {x1InvalidWord : Value} {x2InvalidWord : Option Addr} {x3InvalidWord x4InvalidWord : Value} {x5InvalidWord : Option Addr} {x6InvalidWord x7InvalidWord : Value} {x8InvalidWord : Array (Option Value)} {p1InvalidWord p2InvalidWord q1InvalidWord q2InvalidWord q3InvalidWord q4InvalidWord : Pos}
    (n_InvalidWord : PySem.W.nsIn K mainGlobals "InvalidWord" = some (some (.ref C_InvalidWord))) (i_InvalidWord : PySem.W.findIn K (.ref C_InvalidWord) "__init__" = some (some (.ref I_InvalidWord)))
    (m_InvalidWord : K.lookup I_InvalidWord = some ⟨x1InvalidWord, x2InvalidWord, .func (PySem.W.fnOf "__init__" "InvalidWord.__init__" (iA "value" p1InvalidWord p2InvalidWord) (iB "value" q1InvalidWord q2InvalidWord q3InvalidWord q4InvalidWord) (iS "value" []) .none .none x3InvalidWord x4InvalidWord x5InvalidWord x6InvalidWord x7InvalidWord), x8InvalidWord⟩) (d_InvalidWord : PySem.W.codeIn K x6InvalidWord "InvalidWord.__init__" = true)
    (h_InvalidWord : ecB K C_InvalidWord I_InvalidWord "value" [.type "ValueError", .type "Exception", .type "BaseException", .type "object"] "ValueError.__new__" = true)
    {C_InvalidProgram I_InvalidProgram : Addr} {x1InvalidProgram : Value} {x2InvalidProgram : Option Addr} {x3InvalidProgram x4InvalidProgram : Value} {x5InvalidProgram : Option Addr} {x6InvalidProgram x7InvalidProgram : Value} {x8InvalidProgram : Array (Option Value)} {p1InvalidProgram p2InvalidProgram q1InvalidProgram q2InvalidProgram q3InvalidProgram q4InvalidProgram : Pos}
    (n_InvalidProgram : PySem.W.nsIn K mainGlobals "InvalidProgram" = some (some (.ref C_InvalidProgram))) (i_InvalidProgram : PySem.W.findIn K (.ref C_InvalidProgram) "__init__" = some (some (.ref I_InvalidProgram)))
    (m_InvalidProgram : K.lookup I_InvalidProgram = some ⟨x1InvalidProgram, x2InvalidProgram, .func (PySem.W.fnOf "__init__" "InvalidProgram.__init__" (iA "value" p1InvalidProgram p2InvalidProgram) (iB "value" q1InvalidProgram q2InvalidProgram q3InvalidProgram q4InvalidProgram) (iS "value" []) .none .none x3InvalidProgram x4InvalidProgram x5InvalidProgram x6InvalidProgram x7InvalidProgram), x8InvalidProgram⟩) (d_InvalidProgram : PySem.W.codeIn K x6InvalidProgram "InvalidProgram.__init__" = true)
    (h_InvalidProgram : ecB K C_InvalidProgram I_InvalidProgram "value" [.type "ValueError", .type "Exception", .type "BaseException", .type "object"] "ValueError.__new__" = true)
    {C_LimitExceeded I_LimitExceeded : Addr} {x1LimitExceeded : Value} {x2LimitExceeded : Option Addr} {x3LimitExceeded x4LimitExceeded : Value} {x5LimitExceeded : Option Addr} {x6LimitExceeded x7LimitExceeded : Value} {x8LimitExceeded : Array (Option Value)} {p1LimitExceeded p2LimitExceeded q1LimitExceeded q2LimitExceeded q3LimitExceeded q4LimitExceeded : Pos}
    (n_LimitExceeded : PySem.W.nsIn K mainGlobals "LimitExceeded" = some (some (.ref C_LimitExceeded))) (i_LimitExceeded : PySem.W.findIn K (.ref C_LimitExceeded) "__init__" = some (some (.ref I_LimitExceeded)))
    (m_LimitExceeded : K.lookup I_LimitExceeded = some ⟨x1LimitExceeded, x2LimitExceeded, .func (PySem.W.fnOf "__init__" "LimitExceeded.__init__" (iA "limit" p1LimitExceeded p2LimitExceeded) (iB "limit" q1LimitExceeded q2LimitExceeded q3LimitExceeded q4LimitExceeded) (iS "limit" []) .none .none x3LimitExceeded x4LimitExceeded x5LimitExceeded x6LimitExceeded x7LimitExceeded), x8LimitExceeded⟩) (d_LimitExceeded : PySem.W.codeIn K x6LimitExceeded "LimitExceeded.__init__" = true)
    (h_LimitExceeded : ecB K C_LimitExceeded I_LimitExceeded "limit" [.type "OverflowError", .type "ArithmeticError", .type "Exception", .type "BaseException", .type "object"] "OverflowError.__new__" = true)
    : Txt K mg ⟨f1, (PySem.W.fnOf "is_string_of" "is_string_of" (defArgs s_is_string_of) (defBody s_is_string_of) (defScope s_is_string_of) (.ref td1) kV1 dc1 pm1 an1 cd1 ct1), f2, (PySem.W.fnOf "is_word" "is_word" (defArgs s_is_word) (defBody s_is_word) (defScope s_is_word) .none kV2 dc2 pm2 an2 cd2 ct2), f3, (PySem.W.fnOf "require_word" "require_word" (defArgs s_require_word) (defBody s_require_word) (defScope s_require_word) .none kV3 dc3 pm3 an3 cd3 ct3), f4, (PySem.W.fnOf "earliest_positions" "earliest_positions" (defArgs s_earliest_positions) (defBody s_earliest_positions) (defScope s_earliest_positions) .none kV4 dc4 pm4 an4 cd4 ct4), f5, (PySem.W.fnOf "embeds" "embeds" (defArgs s_embeds) (defBody s_embeds) (defScope s_embeds) .none kV5 dc5 pm5 an5 cd5 ct5), f6, (PySem.W.fnOf "is_subsequence" "is_subsequence" (defArgs s_is_subsequence) (defBody s_is_subsequence) (defScope s_is_subsequence) .none kV6 dc6 pm6 an6 cd6 ct6), f7, (PySem.W.fnOf "embedding" "embedding" (defArgs s_embedding) (defBody s_embedding) (defScope s_embedding) .none kV7 dc7 pm7 an7 cd7 ct7), f8, (PySem.W.fnOf "prefix_length" "prefix_length" (defArgs s_prefix_length) (defBody s_prefix_length) (defScope s_prefix_length) .none kV8 dc8 pm8 an8 cd8 ct8), f9, (PySem.W.fnOf "is_program" "is_program" (defArgs s_is_program) (defBody s_is_program) (defScope s_is_program) .none kV9 dc9 pm9 an9 cd9 ct9), f10, (PySem.W.fnOf "require_program" "require_program" (defArgs s_require_program) (defBody s_require_program) (defScope s_require_program) .none kV10 dc10 pm10 an10 cd10 ct10), f11, (PySem.W.fnOf "take_items" "take_items" (defArgs s_take_items) (defBody s_take_items) (defScope s_take_items) .none kV11 dc11 pm11 an11 cd11 ct11), f12, (PySem.W.fnOf "put_items" "put_items" (defArgs s_put_items) (defBody s_put_items) (defScope s_put_items) .none kV12 dc12 pm12 an12 cd12 ct12), f13, (PySem.W.fnOf "counts_before_takes" "counts_before_takes" (defArgs s_counts_before_takes) (defBody s_counts_before_takes) (defScope s_counts_before_takes) .none kV13 dc13 pm13 an13 cd13 ct13), f14, (PySem.W.fnOf "takes" "takes" (defArgs s_takes) (defBody s_takes) (defScope s_takes) .none kV14 dc14 pm14 an14 cd14 ct14), f15, (PySem.W.fnOf "puts" "puts" (defArgs s_puts) (defBody s_puts) (defScope s_puts) .none kV15 dc15 pm15 an15 cd15 ct15), f16, (PySem.W.fnOf "put_counts" "put_counts" (defArgs s_put_counts) (defBody s_put_counts) (defScope s_put_counts) .none kV16 dc16 pm16 an16 cd16 ct16), f17, (PySem.W.fnOf "steps" "steps" (defArgs s_steps) (defBody s_steps) (defScope s_steps) .none kV17 dc17 pm17 an17 cd17 ct17), f18, (PySem.W.fnOf "join" "join" (defArgs s_join) (defBody s_join) (defScope s_join) .none kV18 dc18 pm18 an18 cd18 ct18), f19, (PySem.W.fnOf "_law_pool" "_law_pool" (defArgs s_Lpool) (defBody s_Lpool) (defScope s_Lpool) .none kV19 dc19 pm19 an19 cd19 ct19), f20, (PySem.W.fnOf "_law_take" "_law_take" (defArgs s_Ltake) (defBody s_Ltake) (defScope s_Ltake) .none kV20 dc20 pm20 an20 cd20 ct20), f21, (PySem.W.fnOf "_law_program" "_law_program" (defArgs s_Lprogram) (defBody s_Lprogram) (defScope s_Lprogram) .none kV21 dc21 pm21 an21 cd21 ct21), f22, (PySem.W.fnOf "_law_is" "_law_is" (defArgs s_Lis) (defBody s_Lis) (defScope s_Lis) .none kV22 dc22 pm22 an22 cd22 ct22), f23, (PySem.W.fnOf "_law_called" "_law_called" (defArgs s_Lcalled) (defBody s_Lcalled) (defScope s_Lcalled) .none kV23 dc23 pm23 an23 cd23 ct23), f24, (PySem.W.fnOf "_law_said" "_law_said" (defArgs s_Lsaid) (defBody s_Lsaid) (defScope s_Lsaid) .none kV24 dc24 pm24 an24 cd24 ct24), f25, (PySem.W.fnOf "_law_right" "_law_right" (defArgs s_Lright) (defBody s_Lright) (defScope s_Lright) .none kV25 dc25 pm25 an25 cd25 ct25), f26, (PySem.W.fnOf "law" "law" (defArgs s_law) (defBody s_law) (defScope s_law) .none kV26 dc26 pm26 an26 cd26 ct26), t_ITEMS, t_MAX_LENGTH, t_STEPS, C_LeakError, C_InvalidWord, I_InvalidWord, C_InvalidProgram, I_InvalidProgram, C_LimitExceeded, I_LimitExceeded⟩ := by
  have F1 : FunD K "is_string_of" "is_string_of" (defArgs s_is_string_of) (defBody s_is_string_of) (defScope s_is_string_of) [.int 400] [] f1 (PySem.W.fnOf "is_string_of" "is_string_of" (defArgs s_is_string_of) (defBody s_is_string_of) (defScope s_is_string_of) (.ref td1) kV1 dc1 pm1 an1 cd1 ct1) := ⟨⟨_, _, _, _, _, _, _, _, _, _, rfl, l1, c1, Or.inr ⟨(fun h => nomatch h), _, _, [.int 400 tk1_0], _, rfl, t1, rfl, (.cons ⟨_, rfl⟩ .nil)⟩, Or.inl rfl⟩, k1⟩
  have b1 := F1.binds1 (ps := ["value", "letters", "longest"]) 2 0 (fun h => nomatch h) rfl fun _ _ _ _ _ _ _ us its hl hi => match us, its, hl, hi with | [_, _], [_], _, _ => ⟨_, rfl, rfl⟩
  have F2 := fun_mk (st := s_is_word) l2 c2 k2
  have b2 := F2.binds (ps := ["value"]) fun _ _ _ _ _ _ us hl => match us, hl with | [_], _ => rfl
  have F3 := fun_mk (st := s_require_word) l3 c3 k3
  have b3 := F3.binds (ps := ["value"]) fun _ _ _ _ _ _ us hl => match us, hl with | [_], _ => rfl
  have F4 := fun_mk (st := s_earliest_positions) l4 c4 k4
  have b4 := F4.binds (ps := ["part", "word"]) fun _ _ _ _ _ _ us hl => match us, hl with | [_, _], _ => rfl
  have F5 := fun_mk (st := s_embeds) l5 c5 k5
  have b5 := F5.binds (ps := ["part", "word"]) fun _ _ _ _ _ _ us hl => match us, hl with | [_, _], _ => rfl
  have F6 := fun_mk (st := s_is_subsequence) l6 c6 k6
  have b6 := F6.binds (ps := ["part", "word"]) fun _ _ _ _ _ _ us hl => match us, hl with | [_, _], _ => rfl
  have F7 := fun_mk (st := s_embedding) l7 c7 k7
  have b7 := F7.binds (ps := ["part", "word"]) fun _ _ _ _ _ _ us hl => match us, hl with | [_, _], _ => rfl
  have F8 := fun_mk (st := s_prefix_length) l8 c8 k8
  have b8 := F8.binds (ps := ["part", "word"]) fun _ _ _ _ _ _ us hl => match us, hl with | [_, _], _ => rfl
  have F9 := fun_mk (st := s_is_program) l9 c9 k9
  have b9 := F9.binds (ps := ["value"]) fun _ _ _ _ _ _ us hl => match us, hl with | [_], _ => rfl
  have F10 := fun_mk (st := s_require_program) l10 c10 k10
  have b10 := F10.binds (ps := ["value"]) fun _ _ _ _ _ _ us hl => match us, hl with | [_], _ => rfl
  have F11 := fun_mk (st := s_take_items) l11 c11 k11
  have b11 := F11.binds (ps := ["program"]) fun _ _ _ _ _ _ us hl => match us, hl with | [_], _ => rfl
  have F12 := fun_mk (st := s_put_items) l12 c12 k12
  have b12 := F12.binds (ps := ["program"]) fun _ _ _ _ _ _ us hl => match us, hl with | [_], _ => rfl
  have F13 := fun_mk (st := s_counts_before_takes) l13 c13 k13
  have b13 := F13.binds (ps := ["program"]) fun _ _ _ _ _ _ us hl => match us, hl with | [_], _ => rfl
  have F14 := fun_mk (st := s_takes) l14 c14 k14
  have b14 := F14.binds (ps := ["program"]) fun _ _ _ _ _ _ us hl => match us, hl with | [_], _ => rfl
  have F15 := fun_mk (st := s_puts) l15 c15 k15
  have b15 := F15.binds (ps := ["program"]) fun _ _ _ _ _ _ us hl => match us, hl with | [_], _ => rfl
  have F16 := fun_mk (st := s_put_counts) l16 c16 k16
  have b16 := F16.binds (ps := ["program"]) fun _ _ _ _ _ _ us hl => match us, hl with | [_], _ => rfl
  have F17 := fun_mk (st := s_steps) l17 c17 k17
  have b17 := F17.binds (ps := ["program"]) fun _ _ _ _ _ _ us hl => match us, hl with | [_], _ => rfl
  have F18 := fun_mk (st := s_join) l18 c18 k18
  have F19 := fun_mk (st := s_Lpool) l19 c19 k19
  have b19 := F19.binds (ps := ["_law_script", "_law_k"]) fun _ _ _ _ _ _ us hl => match us, hl with | [_, _], _ => rfl
  have F20 := fun_mk (st := s_Ltake) l20 c20 k20
  have b20 := F20.binds (ps := ["_law_pool_here", "_law_many"]) fun _ _ _ _ _ _ us hl => match us, hl with | [_, _], _ => rfl
  have F21 := fun_mk (st := s_Lprogram) l21 c21 k21
  have b21 := F21.binds (ps := ["_law_pool_here", "_law_most", "_law_letters"]) fun _ _ _ _ _ _ us hl => match us, hl with | [_, _, _], _ => rfl
  have F22 := fun_mk (st := s_Lis) l22 c22 k22
  have b22 := F22.binds (ps := ["_law_value", "_law_letters"]) fun _ _ _ _ _ _ us hl => match us, hl with | [_, _], _ => rfl
  have F23 := fun_mk (st := s_Lcalled) l23 c23 k23
  have b23 := F23.binds (ps := ["_law_way", "_law_value"]) fun _ _ _ _ _ _ us hl => match us, hl with | [_, _], _ => rfl
  have F24 := fun_mk (st := s_Lsaid) l24 c24 k24
  have b24 := F24.binds (ps := ["_law_way", "_law_value"]) fun _ _ _ _ _ _ us hl => match us, hl with | [_, _], _ => rfl
  have F25 := fun_mk (st := s_Lright) l25 c25 k25
  have b25 := F25.binds (ps := ["_law_value"]) fun _ _ _ _ _ _ us hl => match us, hl with | [_], _ => rfl
  have F26 := fun_mk (st := s_law) l26 c26 k26
  have b26 := F26.binds (ps := ["_law_script"]) fun _ _ _ _ _ _ us hl => match us, hl with | [_], _ => rfl
  exact ⟨F1, b1, PySem.W.mg_of X G a1, F2, b2, PySem.W.mg_of X G a2, F3, b3, PySem.W.mg_of X G a3, F4, b4, PySem.W.mg_of X G a4, F5, b5, PySem.W.mg_of X G a5, F6, b6, PySem.W.mg_of X G a6, F7, b7, PySem.W.mg_of X G a7, F8, b8, PySem.W.mg_of X G a8, F9, b9, PySem.W.mg_of X G a9, F10, b10, PySem.W.mg_of X G a10, F11, b11, PySem.W.mg_of X G a11, F12, b12, PySem.W.mg_of X G a12, F13, b13, PySem.W.mg_of X G a13, F14, b14, PySem.W.mg_of X G a14, F15, b15, PySem.W.mg_of X G a15, F16, b16, PySem.W.mg_of X G a16, F17, b17, PySem.W.mg_of X G a17, F18, PySem.W.mg_of X G a18, F19, b19, PySem.W.mg_of X G a19, F20, b20, PySem.W.mg_of X G a20, F21, b21, PySem.W.mg_of X G a21, F22, b22, PySem.W.mg_of X G a22, F23, b23, PySem.W.mg_of X G a23, F24, b24, PySem.W.mg_of X G a24, F25, b25, PySem.W.mg_of X G a25, F26, b26, PySem.W.mg_of X G a26, PySem.W.mg_of X G v_ITEMS, PySem.W.mg_of X G v_MAX_LENGTH, PySem.W.mg_of X G v_STEPS, PySem.W.mg_none_of X G z_isinstance, PySem.W.mg_none_of X G z_str, PySem.W.mg_none_of X G z_len, PySem.W.mg_none_of X G z_max, PySem.W.mg_none_of X G z_int, PySem.W.mg_none_of X G z_range, PySem.W.mg_none_of X G z_list, PySem.W.mg_none_of X G z_repr, PySem.W.mg_none_of X G z_min, PySem.W.mg_of X G n_LeakError, ecl_value PySem.F.excBase_ValueError ⟨by decide +kernel, by decide +kernel, by decide +kernel⟩ PySem.F.store_ValueError (PySem.W.mg_of X G n_InvalidWord) h_InvalidWord i_InvalidWord m_InvalidWord d_InvalidWord, h_InvalidWord, ecl_value PySem.F.excBase_ValueError ⟨by decide +kernel, by decide +kernel, by decide +kernel⟩ PySem.F.store_ValueError (PySem.W.mg_of X G n_InvalidProgram) h_InvalidProgram i_InvalidProgram m_InvalidProgram d_InvalidProgram, h_InvalidProgram, ecl_limit PySem.F.excBase_OverflowError ⟨by decide +kernel, by decide +kernel, by decide +kernel⟩ PySem.F.store_OverflowError (PySem.W.mg_of X G n_LimitExceeded) h_LimitExceeded i_LimitExceeded m_LimitExceeded d_LimitExceeded, h_LimitExceeded⟩
end E1

set_option Elab.async false
set_option linter.all false
set_option maxRecDepth 100000
set_option maxHeartbeats 400000
namespace E1
open PySem PySem.Spec PyProof.Rows L2 Own Exn Mth Vld
section
variable {P : Program} {w : World} {K : PySem.W.Frag} {mg : Str → Option Value} {base : Heap} {a : Ad}
def sp_is_string_of (K : PySem.W.Frag) : Sp := fun vs H Q _ => ∃ (v : V) (t : Value) (b : Str), vs = [v, .str b, .int 400] ∧ AnyV K H v t ∧ Q (.bl (okV v b)) H
theorem ok_is_string_of (T : Txt K mg a) : FnOk P w K mg base CX0 1 a.f_is_string_of a.d_is_string_of ["value", "letters", "longest"] (sp_is_string_of K) := by
  refine T.F_is_string_of.ok sc_is_string_of (fun vs H Q E h => ?_) (fun cdv A outer s H vs Q E hr h => ?_)
  · obtain ⟨v, t, b, rfl, _⟩ := h
    rfl
  · obtain ⟨v, t, b, rfl, hv, q⟩ := h
    refine ⟨_, (pss_one (ps_ret (pe_and (pe_callB call_isi (by rfl) T.z_isinstance (by decide +kernel) (pa_cons (pv 0) (pa_cons (pe_bltn (v := .ty "str") (by rfl) T.z_str (by decide +kernel) rfl) pa_nil))) (pe_and (pe_cmpR op_le (pe_callB call_len_str (by rfl) T.z_len (by decide +kernel) (pa_cons (pv 0) pa_nil)) (pv 2) (nomark _)) (pe_one (pe_cmpR op_eq (pe_bm PySem.F.plainAttrs_str PySem.F.slot_str_strip PySem.F.type_str_strip mt_stripChars (pv 0) (pa_cons (pv 1) pa_nil)) pe_str (nomark _))))))), ?_⟩
    cases hv with
    | oth ty no ns =>
      refine ⟨v, rfl, v, .ty "str", t, .type "str", false, rfl, .ty "str", ty, no, false, rfl, iteF ?_⟩
      rw [okV_oth ns] at q
      exact q
    | str z h =>
      refine ⟨.str z, rfl, .str z, .ty "str", .type "str", .type "str", true, rfl, .ty "str", .base (.str z), kit_ty (by decide +kernel), true, rfl, iteT ?_⟩
      refine ⟨.str z, rfl, z, rfl, le_line (by omega), .int 400, rfl, _, _, rfl, rfl, _, rfl, ?_⟩
      by_cases hz : z.length ≤ 400
      · rw [decide_eq_true (show (z.length : Int) ≤ 400 by omega)]
        refine iteT ⟨.str z, rfl, rfl, .str b, rfl, z, b, rfl, rfl, le_line (by omega), rfl, ?_⟩
        rw [strip_dec]
        have : okV (.str z) b = ((cs z).all fun c => (cs b).contains c) := by show okS z b = _; unfold okS; rw [decide_eq_true hz, Bool.true_and]
        rw [← this]
        exact q
      · rw [decide_eq_false (show ¬ (z.length : Int) ≤ 400 by omega)]
        have : okV (.str z) b = false := by show okS z b = _; unfold okS; rw [decide_eq_false hz, Bool.false_and]
        rw [this] at q
        exact iteF q
def sp_is (b : Str) (K : PySem.W.Frag) : Sp := fun vs H Q _ => ∃ (v : V) (t : Value), vs = [v] ∧ AnyV K H v t ∧ Q (.bl (okV v b)) H
theorem ok_is_word (T : Txt K mg a) : FnOk P w K mg base CX0 2 a.f_is_word a.d_is_word ["value"] (sp_is "abcdefgh" K) := by
  have G_is_string_of := ok_is_string_of (P := P) (w := w) (base := base) T
  refine T.F_is_word.ok sc_is_word (fun vs H Q E h => ?_) (fun cdv A outer s H vs Q E hr h => ?_)
  · obtain ⟨v, t, rfl, _⟩ := h
    rfl
  · obtain ⟨v, t, rfl, hv, q⟩ := h
    refine ⟨_, (pss_one (ps_ret (pe_call G_is_string_of (hr.mono (by decide)) (by rfl) T.g_is_string_of T.F_is_string_of.kp T.b_is_string_of.choose_spec.2 T.b_is_string_of.choose_spec.1 pass0 (pa_cons (pv 0) (pa_cons (pe_glob (v := .str "abcdefgh") (by rfl) T.c_ITEMS ⟨_, rfl⟩) pa_nil))))), ?_⟩
    exact ⟨v, rfl, v, t, "abcdefgh", rfl, hv, q⟩
theorem ok_is_program (T : Txt K mg a) : FnOk P w K mg base CX0 2 a.f_is_program a.d_is_program ["value"] (sp_is "abcdefghABCDEFGH" K) := by
  have G_is_string_of := ok_is_string_of (P := P) (w := w) (base := base) T
  refine T.F_is_program.ok sc_is_program (fun vs H Q E h => ?_) (fun cdv A outer s H vs Q E hr h => ?_)
  · obtain ⟨v, t, rfl, _⟩ := h
    rfl
  · obtain ⟨v, t, rfl, hv, q⟩ := h
    refine ⟨_, (pss_one (ps_ret (pe_call G_is_string_of (hr.mono (by decide)) (by rfl) T.g_is_string_of T.F_is_string_of.kp T.b_is_string_of.choose_spec.2 T.b_is_string_of.choose_spec.1 pass0 (pa_cons (pv 0) (pa_cons (pe_glob (v := .str "abcdefghABCDEFGH") (by rfl) T.c_STEPS ⟨_, rfl⟩) pa_nil))))), ?_⟩
    exact ⟨v, rfl, v, t, "abcdefghABCDEFGH", rfl, hv, q⟩
/-- a word, or its error with the very value -/
def sp_req (C : Addr) (b : Str) (K : PySem.W.Frag) : Sp := fun vs H Q E => ∃ (v : V) (t : Value), vs = [v] ∧ AnyV K H v t ∧ (okV v b = true → Q .non H) ∧ (okV v b = false → ∀ d, H d = none → E (.ref C) (some d) (upd H d (.xd [(("value" : Str), v)])))
theorem ok_require_word (T : Txt K mg a) : FnOk P w K mg base (L2.CX P w) 3 a.f_require_word a.d_require_word ["value"] (sp_req a.C_InvalidWord "abcdefgh" K) := by
  have G_is_word := ok_is_word (P := P) (w := w) (base := base) T
  refine T.F_require_word.okX sc_require_word (fun vs H Q E h => ?_) (fun cdv A outer s H vs Q E hr h => ?_)
  · obtain ⟨v, t, rfl, _⟩ := h
    rfl
  · obtain ⟨v, t, rfl, hv, q1, q2⟩ := h
    refine ⟨_, (pss_one (ps_if (pt_not (pt_val (pe_call G_is_word (hr.mono (by decide)) (by rfl) T.g_is_word T.F_is_word.kp T.b_is_word .nil pass0 (pa_cons (pv 0) pa_nil))))
        (pss_one (ps_raise rfl (takes_of rfl rfl rfl rfl) (pmk_value T.e_InvalidWord hr (pa_cons (pv 0) pa_nil) (by rfl))))
        pss_nil)), ?_⟩
    cases e : okV v "abcdefgh" with
    | true => exact ⟨v, rfl, v, t, rfl, hv, true, by rw [e], iteF (q1 e)⟩
    | false => exact ⟨v, rfl, v, t, rfl, hv, false, by rw [e], iteT ⟨v, rfl, v, rfl, fun d hd => q2 e d hd⟩⟩
theorem ok_require_program (T : Txt K mg a) : FnOk P w K mg base (L2.CX P w) 3 a.f_require_program a.d_require_program ["value"] (sp_req a.C_InvalidProgram "abcdefghABCDEFGH" K) := by
  have G_is_program := ok_is_program (P := P) (w := w) (base := base) T
  refine T.F_require_program.okX sc_require_program (fun vs H Q E h => ?_) (fun cdv A outer s H vs Q E hr h => ?_)
  · obtain ⟨v, t, rfl, _⟩ := h
    rfl
  · obtain ⟨v, t, rfl, hv, q1, q2⟩ := h
    refine ⟨_, (pss_one (ps_if (pt_not (pt_val (pe_call G_is_program (hr.mono (by decide)) (by rfl) T.g_is_program T.F_is_program.kp T.b_is_program .nil pass0 (pa_cons (pv 0) pa_nil))))
        (pss_one (ps_raise rfl (takes_of rfl rfl rfl rfl) (pmk_value T.e_InvalidProgram hr (pa_cons (pv 0) pa_nil) (by rfl))))
        pss_nil)), ?_⟩
    cases e : okV v "abcdefghABCDEFGH" with
    | true => exact ⟨v, rfl, v, t, rfl, hv, true, by rw [e], iteF (q1 e)⟩
    | false => exact ⟨v, rfl, v, t, rfl, hv, false, by rw [e], iteT ⟨v, rfl, v, rfl, fun d hd => q2 e d hd⟩⟩
end
end E1

set_option Elab.async false
set_option linter.all false
set_option maxRecDepth 100000
set_option maxHeartbeats 4000000
namespace E1
open PySem PySem.Spec PyProof.Rows L2 Own Exn Mth Vld
theorem same_new {H : Hp} {p : Addr} {o : HO} (h : H p = none) : Same H (upd H p o) := fun b x e => by
  rw [upd_ne (ne_of_none e h)]
  exact e
theorem same_put {H H1 : Hp} {p : Addr} {o : HO} (s : Same H H1) (h : H p = none) : Same H (upd H1 p o) := fun b x e => by
  rw [upd_ne (ne_of_none e h)]
  exact s b x e
abbrev iV (l : List Nat) : List V := l.map fun j => V.int (j : Nat)
theorem iV_snoc (l : List Nat) (k : Nat) : iV (l ++ [k]) = iV l ++ [V.int (k : Nat)] := List.map_append
theorem iV_len (l : List Nat) : (iV l).length = l.length := List.length_map _
theorem getD_cs {z : Str} {v : Nat} (h : v < z.length) : (cs z)[v]? = some (z.cps.getD v 0) := by
  have h' : v < z.cps.size := h
  show z.cps.toList[v]? = _
  rw [Array.getElem?_toList, Array.getElem?_eq_getElem h', Array.getD, dif_pos h']
  rfl
section
variable {P : Program} {w : World} {K : PySem.W.Frag} {mg : Str → Option Value} {base : Heap} {a : Ad}
def sp_earliest_positions : Sp := fun vs H Q _ => ∃ p z : Str, vs = [.str p, .str z] ∧ z.length ≤ 400 ∧ p.length ≤ 400 ∧
  ∀ H' o, Same H H' → H o = none → H' o = some (.lst (iV (emb (cs p) (cs z) 0))) → Q (.ref o) H'
theorem ok_earliest_positions (T : Txt K mg a) : FnOk P w K mg base CX0 1 a.f_earliest_positions a.d_earliest_positions ["part", "word"] sp_earliest_positions := by
  refine T.F_earliest_positions.ok sc_earliest_positions (fun vs H Q E h => ?_) (fun cdv A outer s H vs Q E hr h => ?_)
  · obtain ⟨p, z, rfl, _⟩ := h
    rfl
  · obtain ⟨p, z, rfl, hz, hp, q⟩ := h
    refine ⟨_, (pss_cons (ps_set (i := 2) sc_earliest_positions.nd rfl (Or.inl rfl) (pe_lst pa_nil))
      (pss_cons (ps_set (i := 3) sc_earliest_positions.nd rfl (Or.inl rfl) pe_int)
      (pss_cons (ps_for PassesOwn.never rfl (pi_str (pv 0)) (pg_name (i := 4) sc_earliest_positions.nd rfl (Or.inl rfl))
        (pss_cons (ps_set (i := 5) sc_earliest_positions.nd rfl (Or.inl rfl) (pe_bm PySem.F.plainAttrs_str PySem.F.slot_str_find PySem.F.type_str_find mt_find3 (pv 1) (pa_cons (pv 4) (pa_cons (pv 3) pa_nil))))
        (pss_cons (ps_if (pt_cmpR op_lt (pv 5) pe_int (nomark _))
          (pss_one ps_break)
          pss_nil)
        (pss_cons (ps_expr (pe_bm PySem.F.plainAttrs_list PySem.F.slot_list_append PySem.F.type_list_append mt_append (pv 2) (pa_cons (pv 5) pa_nil)))
        (pss_one (ps_set (i := 3) sc_earliest_positions.nd rfl (Or.inl rfl) (pe_op op_add (pv 5) pe_int)))))))
      (pss_one (ps_ret (pv 2)))))), ?_⟩
    refine ⟨Nat.zero_le _, fun o no => ?_⟩
    refine ⟨.str p, rfl, p, rfl, for_it walk_str (fun i σ H3 => ∃ (acc : List Nat) (st : Nat) (y4 y5 : Option V), σ = [some (.str p), some (.str z), some (.ref o), some (.int (st : Nat)), y4, y5] ∧ Same H H3 ∧ H3 o = some (.lst (iV acc)) ∧ acc.length = i ∧
      acc ++ emb ((cs p).drop i) ((cs z).drop st) st = emb (cs p) (cs z) 0) ?_ (fun _ _ _ _ _ => trivial) ?_ ?_⟩
    · exact ⟨[], 0, none, none, rfl, same_new no, upd_same, rfl, rfl⟩
    · rintro i x σ H3 H4 hi ⟨acc, st, y4, y5, rfl, sm, eo, la, em⟩ ⟨rfl, c, hc, rfl⟩
      have hpc : (cs p).drop i = c :: (cs p).drop (i + 1) := by
        have hl : i < (cs p).length := by rw [← len_cs]; exact hi
        rw [List.drop_eq_getElem_cons hl]
        congr 1
        have : (cs p)[i]? = some c := by
          show p.cps.toList[i]? = some c
          rw [Array.getElem?_toList]
          exact hc
        rw [List.getElem?_eq_getElem hl] at this
        exact Option.some.inj this
      rw [hpc] at em
      have hfi : fromIndex z.length (st : Int) = st := by
        unfold fromIndex
        rw [if_neg (by omega)]
        omega
      refine ⟨.str z, rfl, rfl, .str ⟨#[c]⟩, rfl, .int st, rfl, z, ⟨#[c]⟩, st, rfl, rfl, ?_⟩
      rcases PySem.StrLaws.find3_spec z c (st : Int) with ⟨hf, hn⟩ | ⟨k, hf, h1, h2, h3, h4⟩
      · rw [hf]
        refine ⟨_, rfl, _, _, rfl, rfl, _, rfl, ?_⟩
        refine iteT ?_
        refine ⟨.ref o, rfl, q _ o sm no ?_⟩
        rw [emb_stop fun v hv => by
          rcases Nat.lt_or_ge v z.length with hl | hl
          · rw [getD_cs hl]
            intro e
            exact hn v (by rw [hfi]; exact hv) hl (Option.some.inj e)
          · rw [List.getElem?_eq_none (by rw [← len_cs]; exact hl)]
            exact (fun e => by cases e), List.append_nil] at em
        rw [← em]
        exact eo
      · rw [hf]
        refine ⟨_, rfl, _, _, rfl, rfl, _, rfl, ?_⟩
        rw [decide_eq_false (by omega)]
        refine iteF ?_
        refine ⟨.ref o, rfl, .inl ⟨rfl, _, SqL.of eo⟩, .int k, rfl, o, _, _, rfl, rfl, eo, ?_, ?_⟩
        · rw [List.length_map]
          have : i < p.length := hi
          exact lt_line (by omega)
        · refine ⟨_, rfl, _, _, rfl, rfl, ?_⟩
          refine ⟨acc ++ [k], k + 1, _, _, rfl, same_put sm no, ?_, by rw [List.length_append, la]; rfl, ?_⟩
          · rw [upd_same, iV_snoc]
          · rw [hfi] at h1
            rw [emb_step (k := k) (by rw [getD_cs h2, h3]) h1 fun v hv hvk => by
              rw [getD_cs (by omega)]
              intro e
              exact h4 v (by rw [hfi]; exact hv) hvk (Option.some.inj e)] at em
            rw [List.append_assoc]
            exact em
    · rintro σ H3 ⟨acc, st, y4, y5, rfl, sm, eo, la, em⟩
      refine ⟨.ref o, rfl, q _ o sm no ?_⟩
      rw [List.drop_of_length_le (by rw [← len_cs]; exact Nat.le_refl _), emb_nil, List.append_nil] at em
      rw [← em]
      exact eo
/-- two words, or the error of the first that is none -/
def sp_two (R : V → Prop) (C : Addr) (K : PySem.W.Frag) : Sp := fun vs H Q E => ∃ (v u : V) (t1 t2 : Value), vs = [v, u] ∧ AnyV K H v t1 ∧ AnyV K H u t2 ∧ (okV v "abcdefgh" = true → okV u "abcdefgh" = true → ∀ H' x, R x → Same H H' → Q x H') ∧
  (okV v "abcdefgh" = false → ∀ d, H d = none → E (.ref C) (some d) (upd H d (.xd [(("value" : Str), v)]))) ∧ (okV v "abcdefgh" = true → okV u "abcdefgh" = false → ∀ d, H d = none → E (.ref C) (some d) (upd H d (.xd [(("value" : Str), u)])))
theorem ok_prefix_length (T : Txt K mg a) : FnOk P w K mg base (L2.CX P w) 4 a.f_prefix_length a.d_prefix_length ["part", "word"] (sp_two (fun x => ∃ n : Int, x = .int n) a.C_InvalidWord K) := by
  have G_require_word := ok_require_word (P := P) (w := w) (base := base) T
  have G_earliest_positions := ok_earliest_positions (P := P) (w := w) (base := base) T
  refine T.F_prefix_length.okX sc_prefix_length (fun vs H Q E h => ?_) (fun cdv A outer s H vs Q E hr h => ?_)
  · obtain ⟨v, u, t1, t2, rfl, _⟩ := h
    rfl
  · obtain ⟨v, u, t1, t2, rfl, h1, h2, q, q1, q2⟩ := h
    refine ⟨_, (pss_cons (ps_expr (pe_callS G_require_word (hr.mono (by decide)) (by rfl) T.g_require_word T.F_require_word.kp T.b_require_word (fun σ => passAt (takes_of rfl rfl rfl rfl) σ) (pa_cons (pv 0) pa_nil)))
      (pss_cons (ps_expr (pe_callS G_require_word (hr.mono (by decide)) (by rfl) T.g_require_word T.F_require_word.kp T.b_require_word (fun σ => passAt (takes_of rfl rfl rfl rfl) σ) (pa_cons (pv 1) pa_nil)))
      (pss_one (ps_ret (pe_callB call_len_seq (by rfl) T.z_len (by decide +kernel) (pa_cons (pe_call G_earliest_positions (hr.mono (by decide)) (by rfl) T.g_earliest_positions T.F_earliest_positions.kp T.b_earliest_positions .nil pass0 (pa_cons (pv 0) (pa_cons (pv 1) pa_nil))) pa_nil)))))), ?_⟩
    refine ⟨v, rfl, v, t1, rfl, h1, fun e1 => ⟨u, rfl, u, t2, rfl, h2, fun e2 => ?_, fun e2 d hd => q2 e1 e2 d hd⟩, fun e1 d hd => q1 e1 d hd⟩
    obtain ⟨p, rfl, lp, cp⟩ := okV_str e1
    obtain ⟨z, rfl, lz, cz⟩ := okV_str e2
    refine ⟨.str p, rfl, .str z, rfl, p, z, rfl, lz, lp, fun H' o sm no eo => ?_⟩
    exact ⟨o, _, rfl, .inl (SqL.of eo), q e1 e2 H' _ ⟨_, rfl⟩ sm⟩
def sp_embeds : Sp := fun vs H Q _ => ∃ p z : Str, vs = [.str p, .str z] ∧ z.length ≤ 400 ∧ p.length ≤ 400 ∧ ∀ H' b, Same H H' → Q (.bl b) H'
theorem ok_embeds (T : Txt K mg a) : FnOk P w K mg base CX0 2 a.f_embeds a.d_embeds ["part", "word"] sp_embeds := by
  have G_earliest_positions := ok_earliest_positions (P := P) (w := w) (base := base) T
  refine T.F_embeds.ok sc_embeds (fun vs H Q E h => ?_) (fun cdv A outer s H vs Q E hr h => ?_)
  · obtain ⟨p, z, rfl, _⟩ := h
    rfl
  · obtain ⟨p, z, rfl, hz, hp, q⟩ := h
    refine ⟨_, (pss_one (ps_ret (pe_cmpR op_eq (pe_callB call_len_seq (by rfl) T.z_len (by decide +kernel) (pa_cons (pe_call G_earliest_positions (hr.mono (by decide)) (by rfl) T.g_earliest_positions T.F_earliest_positions.kp T.b_earliest_positions .nil pass0 (pa_cons (pv 0) (pa_cons (pv 1) pa_nil))) pa_nil)) (pe_callB call_len_str (by rfl) T.z_len (by decide +kernel) (pa_cons (pv 0) pa_nil)) (nomark _)))), ?_⟩
    refine ⟨.str p, rfl, .str z, rfl, p, z, rfl, hz, hp, fun H' o sm no eo => ?_⟩
    exact ⟨o, _, rfl, .inl (SqL.of eo), .str p, rfl, p, rfl, le_line (by omega), rfl, q H' _ sm⟩
theorem ok_is_subsequence (T : Txt K mg a) : FnOk P w K mg base (L2.CX P w) 5 a.f_is_subsequence a.d_is_subsequence ["part", "word"] (sp_two (fun _ => True) a.C_InvalidWord K) := by
  have G_require_word := ok_require_word (P := P) (w := w) (base := base) T
  have G_embeds := ok_embeds (P := P) (w := w) (base := base) T
  refine T.F_is_subsequence.okX sc_is_subsequence (fun vs H Q E h => ?_) (fun cdv A outer s H vs Q E hr h => ?_)
  · obtain ⟨v, u, t1, t2, rfl, _⟩ := h
    rfl
  · obtain ⟨v, u, t1, t2, rfl, h1, h2, q, q1, q2⟩ := h
    refine ⟨_, (pss_cons (ps_expr (pe_callS G_require_word (hr.mono (by decide)) (by rfl) T.g_require_word T.F_require_word.kp T.b_require_word (fun σ => passAt (takes_of rfl rfl rfl rfl) σ) (pa_cons (pv 0) pa_nil)))
      (pss_cons (ps_expr (pe_callS G_require_word (hr.mono (by decide)) (by rfl) T.g_require_word T.F_require_word.kp T.b_require_word (fun σ => passAt (takes_of rfl rfl rfl rfl) σ) (pa_cons (pv 1) pa_nil)))
      (pss_one (ps_ret (pe_call G_embeds (hr.mono (by decide)) (by rfl) T.g_embeds T.F_embeds.kp T.b_embeds .nil pass0 (pa_cons (pv 0) (pa_cons (pv 1) pa_nil))))))), ?_⟩
    refine ⟨v, rfl, v, t1, rfl, h1, fun e1 => ⟨u, rfl, u, t2, rfl, h2, fun e2 => ?_, fun e2 d hd => q2 e1 e2 d hd⟩, fun e1 d hd => q1 e1 d hd⟩
    obtain ⟨p, rfl, lp, cp⟩ := okV_str e1
    obtain ⟨z, rfl, lz, cz⟩ := okV_str e2
    exact ⟨.str p, rfl, .str z, rfl, p, z, rfl, lz, lp, fun H' b sm => q e1 e2 H' _ trivial sm⟩
theorem ok_embedding (T : Txt K mg a) : FnOk P w K mg base (L2.CX P w) 4 a.f_embedding a.d_embedding ["part", "word"] (sp_two (fun _ => True) a.C_InvalidWord K) := by
  have G_require_word := ok_require_word (P := P) (w := w) (base := base) T
  have G_earliest_positions := ok_earliest_positions (P := P) (w := w) (base := base) T
  refine T.F_embedding.okX sc_embedding (fun vs H Q E h => ?_) (fun cdv A outer s H vs Q E hr h => ?_)
  · obtain ⟨v, u, t1, t2, rfl, _⟩ := h
    rfl
  · obtain ⟨v, u, t1, t2, rfl, h1, h2, q, q1, q2⟩ := h
    refine ⟨_, (pss_cons (ps_expr (pe_callS G_require_word (hr.mono (by decide)) (by rfl) T.g_require_word T.F_require_word.kp T.b_require_word (fun σ => passAt (takes_of rfl rfl rfl rfl) σ) (pa_cons (pv 0) pa_nil)))
      (pss_cons (ps_expr (pe_callS G_require_word (hr.mono (by decide)) (by rfl) T.g_require_word T.F_require_word.kp T.b_require_word (fun σ => passAt (takes_of rfl rfl rfl rfl) σ) (pa_cons (pv 1) pa_nil)))
      (pss_cons (ps_set (i := 2) sc_embedding.nd rfl (Or.inl rfl) (pe_call G_earliest_positions (hr.mono (by decide)) (by rfl) T.g_earliest_positions T.F_earliest_positions.kp T.b_earliest_positions .nil pass0 (pa_cons (pv 0) (pa_cons (pv 1) pa_nil))))
      (pss_one (ps_ret (pe_ifExp (pt_cmpR op_eq (pe_callB call_len_seq (by rfl) T.z_len (by decide +kernel) (pa_cons (pv 2) pa_nil)) (pe_callB call_len_str (by rfl) T.z_len (by decide +kernel) (pa_cons (pv 0) pa_nil)) (nomark _)) (pv 2) pe_non)))))), ?_⟩
    refine ⟨v, rfl, v, t1, rfl, h1, fun e1 => ⟨u, rfl, u, t2, rfl, h2, fun e2 => ?_, fun e2 d hd => q2 e1 e2 d hd⟩, fun e1 d hd => q1 e1 d hd⟩
    obtain ⟨p, rfl, lp, cp⟩ := okV_str e1
    obtain ⟨z, rfl, lz, cz⟩ := okV_str e2
    refine ⟨.str p, rfl, .str z, rfl, p, z, rfl, lz, lp, fun H' o sm no eo => ?_⟩
    refine ⟨.ref o, rfl, o, _, rfl, .inl (SqL.of eo), .str p, rfl, p, rfl, le_line (by omega), rfl, _, rfl, ?_⟩
    exact ite2 (fun _ => ⟨.ref o, rfl, q e1 e2 H' _ trivial sm⟩) (fun _ => q e1 e2 H' _ trivial sm)
end
end E1

set_option Elab.async false
set_option linter.all false
set_option maxRecDepth 100000
set_option maxHeartbeats 400000
namespace E1
open PySem PySem.Spec PyProof.Rows L2 Own Exn Mth Vld
abbrev sg (c : Nat) : Str := ⟨#[c]⟩
abbrev sV (l : List Nat) : List V := l.map fun c => V.str ⟨#[c]⟩
theorem sV_eq (l : List Nat) : sV l = (l.map sg).map V.str := by rw [List.map_map]; rfl
theorem sV_snoc (l : List Nat) (k : Nat) : sV (l ++ [k]) = sV l ++ [V.str ⟨#[k]⟩] := List.map_append
theorem sV_len (l : List Nat) : (sV l).length = l.length := List.length_map _
theorem join_signs : ∀ l : List Nat, cs (Txt.join "" (l.map sg)) = l := by
  intro l
  have : ∀ l : List Nat, cs (Str.join "" (l.map sg)) = l := by
    intro l
    induction l with
    | nil => rfl
    | cons a l ih =>
      cases l with
      | nil => rfl
      | cons b l =>
        show (sg a ++ "" ++ Str.join "" ((b :: l).map sg)).cps.toList = a :: b :: l
        have e : ∀ x y : Str, (x ++ y).cps.toList = x.cps.toList ++ y.cps.toList := fun x y => Array.toList_append
        rw [e, e]
        show ([a] ++ []) ++ cs (Str.join "" ((b :: l).map sg)) = _
        rw [ih]
        rfl
  show cs (Builtin.Str.glued "" (l.map sg)) = l
  rw [PySem.StrLaws.glued_eq_join]
  exact this l
theorem sum_ones : ∀ l : List Nat, ((l.map sg).map (·.length)).sum = l.length
  | [] => rfl
  | a :: l => by
    rw [List.map_cons, List.map_cons, List.sum_cons, sum_ones l, List.length_cons]
    show 1 + l.length = l.length + 1
    omega
/-! the steps -/
def lowC (c : Nat) : Nat := if c < 97 then c + 32 else c
theorem letters : ∀ c ∈ cs "abcdefghABCDEFGH", Txt.isupper (sg c) = decide (c < 97) ∧ Txt.islower (sg c) = decide (97 ≤ c) ∧ Txt.lower (sg c) = sg (lowC c) := by decide +kernel
def tkS (l : List Nat) : List Nat := (l.filter fun c => decide (c < 97)).map lowC
def puS (l : List Nat) : List Nat := l.filter fun c => decide (97 ≤ c)
def pcS : Nat → List Nat → List Nat
  | _, [] => []
  | n, c :: l => if 97 ≤ c then pcS (n + 1) l else n :: pcS n l
theorem pcS_nil (n : Nat) : pcS n [] = [] := rfl
theorem pcS_cons (n c : Nat) (l : List Nat) : pcS n (c :: l) = if 97 ≤ c then pcS (n + 1) l else n :: pcS n l := rfl
theorem tkS_snoc (l : List Nat) (c : Nat) : tkS (l ++ [c]) = tkS l ++ (if c < 97 then [lowC c] else []) := by
  unfold tkS
  rw [List.filter_append, List.map_append]
  by_cases h : c < 97
  · simp [h]
  · simp [h]
theorem puS_snoc (l : List Nat) (c : Nat) : puS (l ++ [c]) = puS l ++ (if 97 ≤ c then [c] else []) := by
  unfold puS
  rw [List.filter_append]
  by_cases h : 97 ≤ c
  · simp [h]
  · simp [h]
theorem take_snoc {p : Str} {i c : Nat} (hi : i < p.length) (hc : p.cps[i]? = some c) : (cs p).take (i + 1) = (cs p).take i ++ [c] ∧ c ∈ cs p := by
  have h : (cs p)[i]? = some c := by
    show p.cps.toList[i]? = some c
    rw [Array.getElem?_toList]
    exact hc
  exact ⟨by rw [List.take_add_one, h]; rfl, List.mem_of_getElem? h⟩
theorem str_cs {x : Str} {l : List Nat} (h : cs x = l) : x = ⟨l.toArray⟩ := by
  cases x
  subst h
  rfl
section
variable {P : Program} {w : World} {K : PySem.W.Frag} {mg : Str → Option Value} {base : Heap} {a : Ad}
/-- of a program, or its error -/
def sp_one (R : Str → Hp → V → Prop) (C : Addr) (K : PySem.W.Frag) : Sp := fun vs H Q E => ∃ (v : V) (t : Value), vs = [v] ∧ AnyV K H v t ∧ (∀ z, v = .str z → okS z "abcdefghABCDEFGH" = true → ∀ H' x, Same H H' → R z H' x → (∀ o, x = .ref o → H o = none) → Q x H') ∧
  (okV v "abcdefghABCDEFGH" = false → ∀ d, H d = none → E (.ref C) (some d) (upd H d (.xd [(("value" : Str), v)])))
def sp_low (R : Str → Hp → V → Prop) : Sp := fun vs H Q _ => ∃ p : Str, vs = [.str p] ∧ p.length ≤ 400 ∧ (∀ c ∈ cs p, c ∈ cs "abcdefghABCDEFGH") ∧ (∀ H' x, Same H H' → R p H' x → (∀ o, x = .ref o → H o = none) → Q x H')
theorem ok_take_items (T : Txt K mg a) : FnOk P w K mg base CX0 1 a.f_take_items a.d_take_items ["program"] (sp_low (fun z _ x => x = .str ⟨(tkS (cs z)).toArray⟩)) := by
  refine T.F_take_items.ok sc_take_items (fun vs H Q E h => ?_) (fun cdv A outer s H vs Q E hr h => ?_)
  · obtain ⟨p, rfl, _⟩ := h
    rfl
  · obtain ⟨p, rfl, lp, cp, q⟩ := h
    refine ⟨_, (pss_one (ps_ret (pe_join pe_str (pe_lc (own := [("step", 1)]) (g := gName 1) (by rfl) sc_take_items.nd (pi_str (pv 0)) (blkOk_by (own := [("step", 1)]) (N := N_take_items) (sc := defScope s_take_items) (by decide +kernel)) (fun _ _ _ _ _ => pg_name (i := 1) sc_take_items.nd rfl (Or.inl rfl)) (fun _ _ _ _ _ => (pts_one (pt_val (show PE _ _ (tBM0 K "str" _ _) from pe_bm0 PySem.F.plainAttrs_str PySem.F.slot_str_isupper PySem.F.type_str_isupper mt_isupper (pv 1))))) (fun _ _ _ _ _ => (pe_lower (pv 1))))))), ?_⟩
    refine ⟨⟨_, rfl⟩, .str p, rfl, p, rfl, fun D nD => ?_⟩
    refine lc_it walk_str (fun i H3 => Same H H3 ∧ H3 D = some (.lst (sV (tkS ((cs p).take i)))) ∧ (tkS ((cs p).take i)).length ≤ i) ?_ (fun _ _ _ _ => trivial) ?_ ?_
    · exact ⟨same_new nD, upd_same, Nat.le_refl _⟩
    · rintro i x H3 H4 hi ⟨sm, eD, le⟩ ⟨rfl, c, hc, rfl⟩
      obtain ⟨ts, cm⟩ := take_snoc hi hc
      obtain ⟨u1, u2, u3⟩ := letters c (cp c cm)
      have hi' : i < p.length := hi
      refine ⟨rfl, .str (sg c), rfl, rfl, sg c, rfl, rfl, trivial, _, rfl, ?_⟩
      rw [u1, ts, tkS_snoc]
      by_cases hu : c < 97
      · rw [decide_eq_true hu, if_pos hu]
        refine iteT ⟨.str (sg c), rfl, ⟨_, rfl⟩, sg c, rfl, rfl, (by show 1 ≤ 5592405; decide), ?_⟩
        rw [u3]
        refine ⟨_, eD, lt_line (by rw [sV_len]; omega), same_put sm nD, by rw [upd_same, sV_snoc], ?_⟩
        rw [List.length_append]
        show _ + 1 ≤ _
        omega
      · rw [decide_eq_false hu, if_neg hu, List.append_nil]
        exact iteF ⟨sm, eD, by omega⟩
    · rintro H3 ⟨sm, eD, le⟩
      rw [List.take_of_length_le (by rw [← len_cs]; exact Nat.le_refl _)] at eD le
      refine ⟨"", D, (tkS (cs p)).map sg, rfl, rfl, .inl (SqL.of (by rw [eD, sV_eq])), ?_, q H3 _ sm ?_ fun o e => nomatch e⟩
      · rw [sum_ones, List.length_map]
        show _ + _ * 0 ≤ 16777216
        have : (tkS (cs p)).length ≤ p.length := le
        omega
      · exact congrArg V.str (str_cs (join_signs _))
theorem ok_takes (T : Txt K mg a) : FnOk P w K mg base (L2.CX P w) 4 a.f_takes a.d_takes ["program"] (sp_one (fun z _ x => x = .str ⟨(tkS (cs z)).toArray⟩) a.C_InvalidProgram K) := by
  have G_require_program := ok_require_program (P := P) (w := w) (base := base) T
  have G_take_items := ok_take_items (P := P) (w := w) (base := base) T
  refine T.F_takes.okX sc_takes (fun vs H Q E h => ?_) (fun cdv A outer s H vs Q E hr h => ?_)
  · obtain ⟨v, t, rfl, _⟩ := h
    rfl
  · obtain ⟨v, t, rfl, h1, q, q1⟩ := h
    refine ⟨_, (pss_cons (ps_expr (pe_callS G_require_program (hr.mono (by decide)) (by rfl) T.g_require_program T.F_require_program.kp T.b_require_program (fun σ => passAt (takes_of rfl rfl rfl rfl) σ) (pa_cons (pv 0) pa_nil)))
      (pss_one (ps_ret (pe_call G_take_items (hr.mono (by decide)) (by rfl) T.g_take_items T.F_take_items.kp T.b_take_items .nil pass0 (pa_cons (pv 0) pa_nil))))), ?_⟩
    refine ⟨v, rfl, v, t, rfl, h1, fun e1 => ?_, fun e1 d hd => q1 e1 d hd⟩
    obtain ⟨p, rfl, lp, cp⟩ := okV_str e1
    exact ⟨.str p, rfl, p, rfl, lp, cp, q p rfl e1⟩
theorem ok_put_items (T : Txt K mg a) : FnOk P w K mg base CX0 1 a.f_put_items a.d_put_items ["program"] (sp_low (fun z _ x => x = .str ⟨(puS (cs z)).toArray⟩)) := by
  refine T.F_put_items.ok sc_put_items (fun vs H Q E h => ?_) (fun cdv A outer s H vs Q E hr h => ?_)
  · obtain ⟨p, rfl, _⟩ := h
    rfl
  · obtain ⟨p, rfl, lp, cp, q⟩ := h
    refine ⟨_, (pss_one (ps_ret (pe_join pe_str (pe_lc (own := [("step", 1)]) (g := gName 1) (by rfl) sc_put_items.nd (pi_str (pv 0)) (blkOk_by (own := [("step", 1)]) (N := N_put_items) (sc := defScope s_put_items) (by decide +kernel)) (fun _ _ _ _ _ => pg_name (i := 1) sc_put_items.nd rfl (Or.inl rfl)) (fun _ _ _ _ _ => (pts_one (pt_val (show PE _ _ (tBM0 K "str" _ _) from pe_bm0 PySem.F.plainAttrs_str PySem.F.slot_str_islower PySem.F.type_str_islower mt_islower (pv 1))))) (fun _ _ _ _ _ => (pv 1)))))), ?_⟩
    refine ⟨⟨_, rfl⟩, .str p, rfl, p, rfl, fun D nD => ?_⟩
    refine lc_it walk_str (fun i H3 => Same H H3 ∧ H3 D = some (.lst (sV (puS ((cs p).take i)))) ∧ (puS ((cs p).take i)).length ≤ i) ?_ (fun _ _ _ _ => trivial) ?_ ?_
    · exact ⟨same_new nD, upd_same, Nat.le_refl _⟩
    · rintro i x H3 H4 hi ⟨sm, eD, le⟩ ⟨rfl, c, hc, rfl⟩
      obtain ⟨ts, cm⟩ := take_snoc hi hc
      obtain ⟨u1, u2, u3⟩ := letters c (cp c cm)
      have hi' : i < p.length := hi
      refine ⟨rfl, .str (sg c), rfl, rfl, sg c, rfl, rfl, trivial, _, rfl, ?_⟩
      rw [u2, ts, puS_snoc]
      by_cases hu : 97 ≤ c
      · rw [decide_eq_true hu, if_pos hu]
        refine iteT ⟨.str (sg c), rfl, _, eD, lt_line (by rw [sV_len]; omega), same_put sm nD, by rw [upd_same, sV_snoc], ?_⟩
        rw [List.length_append]
        show _ + 1 ≤ _
        omega
      · rw [decide_eq_false hu, if_neg hu, List.append_nil]
        exact iteF ⟨sm, eD, by omega⟩
    · rintro H3 ⟨sm, eD, le⟩
      rw [List.take_of_length_le (by rw [← len_cs]; exact Nat.le_refl _)] at eD le
      refine ⟨"", D, (puS (cs p)).map sg, rfl, rfl, .inl (SqL.of (by rw [eD, sV_eq])), ?_, q H3 _ sm ?_ fun o e => nomatch e⟩
      · rw [sum_ones, List.length_map]
        show _ + _ * 0 ≤ 16777216
        have : (puS (cs p)).length ≤ p.length := le
        omega
      · exact congrArg V.str (str_cs (join_signs _))
theorem ok_puts (T : Txt K mg a) : FnOk P w K mg base (L2.CX P w) 4 a.f_puts a.d_puts ["program"] (sp_one (fun z _ x => x = .str ⟨(puS (cs z)).toArray⟩) a.C_InvalidProgram K) := by
  have G_require_program := ok_require_program (P := P) (w := w) (base := base) T
  have G_put_items := ok_put_items (P := P) (w := w) (base := base) T
  refine T.F_puts.okX sc_puts (fun vs H Q E h => ?_) (fun cdv A outer s H vs Q E hr h => ?_)
  · obtain ⟨v, t, rfl, _⟩ := h
    rfl
  · obtain ⟨v, t, rfl, h1, q, q1⟩ := h
    refine ⟨_, (pss_cons (ps_expr (pe_callS G_require_program (hr.mono (by decide)) (by rfl) T.g_require_program T.F_require_program.kp T.b_require_program (fun σ => passAt (takes_of rfl rfl rfl rfl) σ) (pa_cons (pv 0) pa_nil)))
      (pss_one (ps_ret (pe_call G_put_items (hr.mono (by decide)) (by rfl) T.g_put_items T.F_put_items.kp T.b_put_items .nil pass0 (pa_cons (pv 0) pa_nil))))), ?_⟩
    refine ⟨v, rfl, v, t, rfl, h1, fun e1 => ?_, fun e1 d hd => q1 e1 d hd⟩
    obtain ⟨p, rfl, lp, cp⟩ := okV_str e1
    exact ⟨.str p, rfl, p, rfl, lp, cp, q p rfl e1⟩
theorem ok_counts_before_takes (T : Txt K mg a) : FnOk P w K mg base CX0 1 a.f_counts_before_takes a.d_counts_before_takes ["program"] (sp_low (fun z H x => ∃ o, x = .ref o ∧ H o = some (.lst (iV (pcS 0 (cs z)))))) := by
  refine T.F_counts_before_takes.ok sc_counts_before_takes (fun vs H Q E h => ?_) (fun cdv A outer s H vs Q E hr h => ?_)
  · obtain ⟨p, rfl, _⟩ := h
    rfl
  · obtain ⟨p, rfl, lp, cp, q⟩ := h
    refine ⟨_, (pss_cons (ps_set (i := 1) sc_counts_before_takes.nd rfl (Or.inl rfl) (pe_lst pa_nil))
      (pss_cons (ps_set (i := 2) sc_counts_before_takes.nd rfl (Or.inl rfl) pe_int)
      (pss_cons (ps_for PassesOwn.never rfl (pi_str (pv 0)) (pg_name (i := 3) sc_counts_before_takes.nd rfl (Or.inl rfl))
        (pss_one (ps_if (pt_val (pe_bm0 PySem.F.plainAttrs_str PySem.F.slot_str_islower PySem.F.type_str_islower mt_islower (pv 3)))
          (pss_one (ps_aug (i := 2) sc_counts_before_takes.nd rfl (Or.inl rfl) pe_int ip_add))
          (pss_one (ps_expr (pe_bm PySem.F.plainAttrs_list PySem.F.slot_list_append PySem.F.type_list_append mt_append (pv 1) (pa_cons (pv 2) pa_nil)))))))
      (pss_one (ps_ret (pv 1)))))), ?_⟩
    refine ⟨Nat.zero_le _, fun o no => ?_⟩
    refine ⟨.str p, rfl, p, rfl, for_it walk_str (fun i σ H3 => ∃ (acc : List Nat) (dn : Nat) (y3 : Option V), σ = [some (.str p), some (.ref o), some (.int (dn : Nat)), y3] ∧ Same H H3 ∧ H3 o = some (.lst (iV acc)) ∧ acc.length ≤ i ∧ acc ++ pcS dn ((cs p).drop i) = pcS 0 (cs p)) ?_ (fun _ _ _ _ _ => trivial) ?_ ?_⟩
    · exact ⟨[], 0, none, rfl, same_new no, upd_same, Nat.le_refl _, rfl⟩
    · rintro i x σ H3 H4 hi ⟨acc, dn, y3, rfl, sm, eo, la, em⟩ ⟨rfl, c, hc, rfl⟩
      obtain ⟨ts, cm⟩ := take_snoc hi hc
      obtain ⟨u1, u2, u3⟩ := letters c (cp c cm)
      have hi' : i < p.length := hi
      have hl : i < (cs p).length := by rw [← len_cs]; exact hi
      have hd : (cs p).drop i = c :: (cs p).drop (i + 1) := by
        rw [List.drop_eq_getElem_cons hl]
        congr 1
        have : (cs p)[i]? = some c := by
          show p.cps.toList[i]? = some c
          rw [Array.getElem?_toList]
          exact hc
        rw [List.getElem?_eq_getElem hl] at this
        exact Option.some.inj this
      rw [hd, pcS_cons] at em
      refine ⟨.str (sg c), rfl, rfl, sg c, rfl, rfl, trivial, _, rfl, ?_⟩
      rw [u2]
      by_cases hu : 97 ≤ c
      · rw [decide_eq_true hu]
        rw [if_pos hu] at em
        refine iteT ⟨.int dn, rfl, dn, 1, rfl, rfl, acc, dn + 1, _, rfl, sm, eo, by omega, em⟩
      · rw [decide_eq_false hu]
        rw [if_neg hu] at em
        refine iteF ⟨.ref o, rfl, .inl ⟨rfl, _, SqL.of eo⟩, .int dn, rfl, o, _, _, rfl, rfl, eo, lt_line (by rw [iV_len]; omega), acc ++ [dn], dn, _, rfl, same_put sm no, by rw [upd_same, iV_snoc], by rw [List.length_append]; show _ + 1 ≤ _; omega, ?_⟩
        rw [List.append_assoc]
        exact em
    · rintro σ H3 ⟨acc, dn, y3, rfl, sm, eo, la, em⟩
      rw [List.drop_of_length_le (by rw [← len_cs]; exact Nat.le_refl _)] at em
      rw [pcS_nil, List.append_nil] at em
      rw [em] at eo
      exact ⟨.ref o, rfl, q H3 _ sm ⟨o, rfl, eo⟩ fun o' e => by cases e; exact no⟩
theorem ok_put_counts (T : Txt K mg a) : FnOk P w K mg base (L2.CX P w) 4 a.f_put_counts a.d_put_counts ["program"] (sp_one (fun z H x => ∃ o, x = .ref o ∧ H o = some (.lst (iV (pcS 0 (cs z))))) a.C_InvalidProgram K) := by
  have G_require_program := ok_require_program (P := P) (w := w) (base := base) T
  have G_counts_before_takes := ok_counts_before_takes (P := P) (w := w) (base := base) T
  refine T.F_put_counts.okX sc_put_counts (fun vs H Q E h => ?_) (fun cdv A outer s H vs Q E hr h => ?_)
  · obtain ⟨v, t, rfl, _⟩ := h
    rfl
  · obtain ⟨v, t, rfl, h1, q, q1⟩ := h
    refine ⟨_, (pss_cons (ps_expr (pe_callS G_require_program (hr.mono (by decide)) (by rfl) T.g_require_program T.F_require_program.kp T.b_require_program (fun σ => passAt (takes_of rfl rfl rfl rfl) σ) (pa_cons (pv 0) pa_nil)))
      (pss_one (ps_ret (pe_call G_counts_before_takes (hr.mono (by decide)) (by rfl) T.g_counts_before_takes T.F_counts_before_takes.kp T.b_counts_before_takes .nil pass0 (pa_cons (pv 0) pa_nil))))), ?_⟩
    refine ⟨v, rfl, v, t, rfl, h1, fun e1 => ?_, fun e1 d hd => q1 e1 d hd⟩
    obtain ⟨p, rfl, lp, cp⟩ := okV_str e1
    exact ⟨.str p, rfl, p, rfl, lp, cp, q p rfl e1⟩
end
end E1

set_option Elab.async false
set_option linter.all false
set_option maxRecDepth 100000
set_option maxHeartbeats 400000
namespace E1
open PySem PySem.Spec PyProof.Rows L2 Own Exn Mth Vld StX
section
variable {P : Program} {w : World} {K : PySem.W.Frag} {mg : Str → Option Value} {base : Heap} {a : Ad}
/-! the generator of steps -/
def rowS (H : Hp) (c : Nat) (v : V) : Prop := ∃ o, v = .ref o ∧ H o = some (.tup [.str (if 97 ≤ c then "put" else "take"), .str (sg (lowC c))])
def sp_steps (C : Addr) (K : PySem.W.Frag) : SpG := fun vs H Q E => ∃ (v : V) (t : Value), vs = [v] ∧ AnyV K H v t ∧ (∀ z, v = .str z → okS z "abcdefghABCDEFGH" = true → ∀ H' ys, Same H H' → ys.length = (cs z).length → (∀ (i : Nat) (y : V), ys[i]? = some y → ∃ c, (cs z)[i]? = some c ∧ rowS H' c y) → Q ys H') ∧
  (okV v "abcdefghABCDEFGH" = false → ∀ d, H d = none → E (.ref C) (some d) (upd H d (.xd [(("value" : Str), v)])))
theorem ok_steps (T : Txt K mg a) : GFn P w K mg base 4 a.f_steps a.d_steps ["program"] (sp_steps a.C_InvalidProgram K) := by
  have G_require_program := ok_require_program (P := P) (w := w) (base := base) T
  obtain ⟨oc, od, kV, doc, pm, an, cdv, ct, osl, hfd, lk, hcd⟩ := T.F_steps.ex
  rw [hfd] at lk ⊢
  refine gfn_of lk hcd sc_steps (fun vs H Q E h => ?_) (fun A outer s H vs Q E pn hr h => ?_)
  · obtain ⟨v, t, rfl, _⟩ := h
    rfl
  · obtain ⟨v, t, rfl, h1, q, q1⟩ := h
    refine ⟨_, gss_cons (gs_ps (ps_expr (pe_callS G_require_program (hr.mono (by decide)) (by rfl) T.g_require_program T.F_require_program.kp T.b_require_program (fun σ => passAt takes_gcx σ) (pa_cons (pv 0) pa_nil))))
      (gss_cons (gs_for owns_gcx rfl (pi_str (pv 0)) (pg_name (i := 1) sc_steps.nd rfl (Or.inl rfl))
        (gss_cons (gs_ps (ps_set (i := 2) sc_steps.nd rfl (Or.inl rfl) (pe_ifExp (pt_val (pe_bm0 PySem.F.plainAttrs_str PySem.F.slot_str_islower PySem.F.type_str_islower mt_islower (pv 1))) pe_str pe_str)))
        (gss_cons (gs_yield (pe_tup (pa_cons (pv 2) (pa_cons (pe_lower (pv 1)) pa_nil)))) gss_nil))) gss_nil), ?_⟩
    refine ⟨v, rfl, v, t, rfl, h1, fun e1 => ?_, fun e1 d hd => q1 e1 d hd⟩
    obtain ⟨p, rfl, lp, cp⟩ := okV_str e1
    have q := q p rfl e1
    refine ⟨.str p, rfl, p, rfl, gfor_it walk_str (fun i ys σ H3 => ∃ y1 y2 : Option V, σ = [some (.str p), y1, y2] ∧ Same H H3 ∧ ys.length = i ∧ ∀ (j : Nat) (y : V), ys[j]? = some y → ∃ c, (cs p)[j]? = some c ∧ rowS H3 c y) ?_ (fun _ _ _ _ _ _ => trivial) ?_ ?_⟩
    · exact ⟨none, none, rfl, Same.refl H, rfl, fun j y e => by simp at e⟩
    · rintro i x ys σ H3 H4 hi ⟨y1, y2, rfl, sm, ly, hy⟩ ⟨rfl, c, hc, rfl⟩
      obtain ⟨ts, cm⟩ := take_snoc hi hc
      obtain ⟨u1, u2, u3⟩ := letters c (cp c cm)
      have hi' : i < p.length := hi
      have hci : (cs p)[i]? = some c := by
        show p.cps.toList[i]? = some c
        rw [Array.getElem?_toList]
        exact hc
      refine ⟨.str (sg c), rfl, rfl, sg c, rfl, rfl, trivial, _, rfl, ?_⟩
      rw [u2]
      have fin : ∀ (wd : Str), wd = (if 97 ≤ c then ("put" : Str) else ("take" : Str)) → (tGThen (tGYield (tTup (tCons (tVar 2) (tCons (tM0 (fun x xs H Q => ∃ a, x = V.str a ∧ xs = [] ∧ a.length ≤ 5592405 ∧ Q (V.str (Txt.lower a)) H) (tVar 1)) tNil)))) tG0)
          { nx := fun ys σ H3 => ∃ y1 y2 : Option V, σ = [some (.str p), y1, y2] ∧ Same H H3 ∧ ys.length = i + 1 ∧ ∀ (j : Nat) (y : V), ys[j]? = some y → ∃ c, (cs p)[j]? = some c ∧ rowS H3 c y, rt := fun ys v H' => v = V.non ∧ Q ys H' } ys [some (.str p), some (.str (sg c)), some (.str wd)] H4 := by
        intro wd hwd
        refine ⟨lt_line (by omega), .str wd, rfl, .str (sg c), rfl, ⟨_, rfl⟩, sg c, rfl, rfl, (by show 1 ≤ 5592405; decide), le_line (show 2 ≤ 100000 by decide), fun o no => ?_⟩
        refine ⟨_, _, rfl, sm.trans (same_new no), by rw [List.length_append, ly]; rfl, fun j y e => ?_⟩
        by_cases hj : j < ys.length
        · rw [List.getElem?_append_left hj] at e
          obtain ⟨c', h1, o', h2, h3⟩ := hy j y e
          exact ⟨c', h1, o', h2, (same_new no) _ _ h3⟩
        · rw [List.getElem?_append_right (by omega)] at e
          have hj' : j = i := by
            rcases Nat.lt_or_ge (j - ys.length) 1 with k | k
            · omega
            · rw [List.getElem?_eq_none (by simpa using k)] at e; cases e
          subst hj'
          rw [ly, Nat.sub_self] at e
          cases e
          exact ⟨c, hci, o, rfl, by rw [upd_same, u3, hwd]⟩
      by_cases hu : 97 ≤ c
      · rw [decide_eq_true hu]
        exact iteT (fin "put" (by rw [if_pos hu]))
      · rw [decide_eq_false hu]
        exact iteF (fin "take" (by rw [if_neg hu]))
    · rintro ys σ H3 ⟨y1, y2, rfl, sm, ly, hy⟩
      exact q H3 ys sm (ly.trans (len_cs p)) hy
/-! programs joined -/
theorem all_strs {b : Str} : ∀ xs : List V, (∀ x ∈ xs, okV x b = true) → ∃ zs : List Str, xs = zs.map V.str ∧ ∀ z ∈ zs, okS z b = true
  | [], _ => ⟨[], rfl, fun z hz => by cases hz⟩
  | x :: xs, h => by
    obtain ⟨zs, e, hz⟩ := all_strs xs fun y hy => h y (List.mem_cons_of_mem _ hy)
    have hx := h x (List.mem_cons_self ..)
    obtain ⟨z, rfl, _⟩ := okV_str hx
    refine ⟨z :: zs, by rw [e]; rfl, fun y hy => ?_⟩
    rcases List.mem_cons.mp hy with r | r
    · rw [r]; exact hx
    · exact hz y r
theorem sum_le : ∀ zs : List Str, (∀ z ∈ zs, z.length ≤ 400) → (zs.map (·.length)).sum ≤ 400 * zs.length
  | [], _ => by simp
  | z :: zs, h => by
    have h1 := h z (List.mem_cons_self ..)
    have h2 := sum_le zs fun y hy => h y (List.mem_cons_of_mem _ hy)
    rw [List.map_cons, List.sum_cons, List.length_cons]
    omega
theorem join_len (zs : List Str) : (Txt.join "" zs).length = (zs.map (·.length)).sum := by
  have core : ∀ zs : List Str, (Str.join "" zs).length = (zs.map (·.length)).sum := by
    intro zs
    induction zs with
    | nil => rfl
    | cons z zs ih =>
      cases zs with
      | nil => show z.length = z.length + 0; omega
      | cons y zs =>
        show (z ++ "" ++ Str.join "" (y :: zs)).cps.size = _
        have e : ∀ x y : Str, (x ++ y).cps.size = x.cps.size + y.cps.size := fun x y => Array.size_append
        rw [e, e, List.map_cons, List.sum_cons, ← ih]
        show z.cps.size + 0 + _ = z.cps.size + _
        rfl
  show (Builtin.Str.glued "" zs).length = _
  rw [PySem.StrLaws.glued_eq_join]
  exact core zs
def sp_join (Cp Cl : Addr) (K : PySem.W.Frag) : Sp := fun vs H Q E => ∃ (tp : Addr) (xs : List V), vs = [.ref tp] ∧ H tp = some (.tup xs) ∧ xs.length ≤ 10 ∧ (∀ x ∈ xs, ∃ t, AnyV K H x t) ∧
  (∀ zs : List Str, xs = zs.map V.str → (∀ z ∈ zs, okS z "abcdefghABCDEFGH" = true) → ((Txt.join "" zs).length ≤ 400 → ∀ H', Same H H' → Q (.str (Txt.join "" zs)) H') ∧ (400 < (Txt.join "" zs).length → ∀ H' d, Same H H' → H d = none → H' d = some (.xd [(("limit" : Str), .int 400)]) → E (.ref Cl) (some d) H')) ∧
  (∀ (i : Nat) (x : V), xs[i]? = some x → (∀ j < i, ∀ y, xs[j]? = some y → okV y "abcdefghABCDEFGH" = true) → okV x "abcdefghABCDEFGH" = false → ∀ H' d, Same H H' → H d = none → H' d = some (.xd [(("value" : Str), x)]) → E (.ref Cp) (some d) H')
theorem ok_join (T : Txt K mg a) : FnR P w K mg base (L2.CX P w) 4 a.f_join (fun vs H Q E => ∃ ws rest, vs = ws ++ rest ∧ ws.length = ([] : List Str).length ∧ rest.length ≤ sizeLine ∧ ∀ p, H p = Option.none → sp_join a.C_InvalidProgram a.C_LimitExceeded K (ws ++ [V.ref p]) (upd H p (.tup rest)) Q E) := by
  have G_require_program := ok_require_program (P := P) (w := w) (base := base) T
  obtain ⟨oc, od, kV, doc, pm, an, cdv, ct, osl, hfd, lk, hcd⟩ := T.F_join.ex
  rw [hfd] at lk
  refine fn_star (pv := "programs") (ps := []) lk hcd sc_join cxUp (fun us rest hl => ?_) (fun A outer s H vs Q E hr h => ?_)
  · match us, hl with
    | [], _ =>
      cases rest with
      | nil => rfl
      | cons r rs => rfl
  · obtain ⟨tp, xs, rfl, htp, lx, hx, q, q1⟩ := h
    refine ⟨_, (pss_cons (ps_for (passes_of rfl) rfl (pi_tup (pv 0)) (pg_name (i := 1) sc_join.nd rfl (Or.inl rfl))
        (pss_one (ps_expr (pe_callS G_require_program (hr.mono (by decide)) (by rfl) T.g_require_program T.F_require_program.kp T.b_require_program (fun σ => passAt (takes_of rfl rfl rfl rfl) σ) (pa_cons (pv 1) pa_nil)))))
      (pss_cons (ps_set (i := 2) sc_join.nd rfl (Or.inl rfl) (pe_join pe_str (pv 0)))
      (pss_cons (ps_if (pt_cmpR op_gt (pe_callB call_len_str (by rfl) T.z_len (by decide +kernel) (pa_cons (pv 2) pa_nil)) (pe_glob (v := .int 400) (by rfl) T.c_MAX_LENGTH ⟨_, rfl⟩) (nomark _))
        (pss_one (ps_raise rfl (takes_of rfl rfl rfl rfl) (pmk_limit T.e_LimitExceeded hr (pa_cons (pe_glob (v := .int 400) (by rfl) T.c_MAX_LENGTH ⟨_, rfl⟩) pa_nil) (by rfl))))
        pss_nil)
      (pss_one (ps_ret (pv 2)))))), ?_⟩
    refine ⟨.ref tp, rfl, tp, rfl, ⟨xs, SqT.of htp⟩, for_it (walk_tup (xs := xs)) (fun i σ H3 => ∃ y1 y2 : Option V, σ = [some (.ref tp), y1, y2] ∧ H3 = H ∧ ∀ j < i, ∀ y, xs[j]? = some y → okV y "abcdefghABCDEFGH" = true) ?_ (fun i σ H3 _ hp => ?_) ?_ ?_⟩
    · exact ⟨none, none, rfl, rfl, fun j hj => absurd hj (Nat.not_lt_zero _)⟩
    · obtain ⟨_, _, _, rfl, _⟩ := hp
      exact SqT.of htp
    · rintro i x σ H3 H4 hi ⟨y1, y2, rfl, rfl, hok⟩ ⟨rfl, hxi⟩
      obtain ⟨t, ht⟩ := hx x (List.mem_of_getElem? hxi)
      refine ⟨x, rfl, x, t, rfl, ht, fun e => ⟨_, _, rfl, rfl, fun j hj y hy => ?_⟩, fun e d hd => q1 i x hxi hok e _ d (same_new hd) hd upd_same⟩
      rcases Nat.lt_or_ge j i with h | h
      · exact hok j h y hy
      · obtain rfl : j = i := by omega
        rw [hxi] at hy
        cases hy
        exact e
    · rintro σ H3 ⟨y1, y2, rfl, rfl, hok⟩
      obtain ⟨zs, rfl, hz⟩ := all_strs xs fun x hx => by
        obtain ⟨j, hj⟩ := List.mem_iff_getElem?.mp hx
        exact hok j (by rcases Nat.lt_or_ge j xs.length with h | h; exact h; rw [List.getElem?_eq_none h] at hj; cases hj) x hj
      obtain ⟨qa, qb⟩ := q zs rfl hz
      have hsum : (zs.map (·.length)).sum ≤ 400 * zs.length := sum_le zs fun z hz' => (okS_iff.mp (hz z hz')).1
      have lz : zs.length ≤ 10 := by rw [List.length_map] at lx; exact lx
      refine ⟨⟨_, rfl⟩, .ref tp, rfl, "", tp, zs, rfl, rfl, .inr (SqT.of htp), by show _ + _ * 0 ≤ 16777216; omega, ?_⟩
      refine ⟨.str (Txt.join "" zs), rfl, _, rfl, le_line (by rw [join_len]; omega), _, _, rfl, rfl, _, rfl, ite2 (fun hc => ?_) (fun hc => ?_)⟩
      · have hc' := of_decide_eq_true hc
        exact ⟨.int 400, rfl, fun d hd => qb (by omega) _ d (same_new hd) hd upd_same⟩
      · have hc' : ¬ ((400 : Int) < ((Txt.join "" zs).length : Nat)) := fun h => hc (decide_eq_true h)
        exact ⟨_, rfl, qa (by omega) _ (Same.refl _)⟩
end
end E1

set_option Elab.async false
set_option linter.all false
set_option maxRecDepth 100000
set_option maxHeartbeats 4000000
namespace E1
open PySem PySem.Spec PyProof.Rows L2 Own Exn Mth Vld
def Pool (H : Hp) (p : Addr) : Prop := ∃ n m : Int, H p = some (.lst [.int n, .int m]) ∧ 0 ≤ n ∧ 0 ≤ m ∧ m < 2147483647
section
variable {P : Program} {w : World} {K : PySem.W.Frag} {mg : Str → Option Value} {base : Heap} {a : Ad}
def sp_Lpool (K : PySem.W.Frag) : Sp := fun vs H Q _ => ∃ (s : Addr) (k : Int) (ns : List Int), vs = [.ref s, .int k] ∧ SqL K H s (ns.map V.int) ∧ ns.length ≤ 1000 ∧ 0 ≤ k ∧ k ≤ 1000 ∧
  ∀ H' p, Same H H' → H p = none → Pool H' p → Q (.ref p) H'
theorem cut_int (ns : List Int) (lo hi : Option Int) : ∃ l : List Int, cutV (ns.map V.int) lo hi = l.map V.int := by
  unfold cutV
  exact ⟨_, by rw [← List.map_drop, ← List.map_take]⟩
theorem ok_Lpool (T : Txt K mg a) : FnOk P w K mg base CX0 1 a.f_Lpool a.d_Lpool ["_law_script", "_law_k"] (sp_Lpool K) := by
  refine T.F_Lpool.ok sc_Lpool (fun vs H Q E h => ?_) (fun cdv A outer s H vs Q E hr h => ?_)
  · obtain ⟨s, k, ns, rfl, _⟩ := h
    rfl
  · obtain ⟨sc, k, ns, rfl, hS, hns, hk0, hk1, q⟩ := h
    refine ⟨_, (pss_cons (ps_set (i := 2) sc_Lpool.nd rfl (Or.inl rfl) (pe_ix ix_list (pe_op op_cat (pe_slice sl_list (pv 0) (po_some (pv 1)) (po_some (pe_op op_add (pv 1) pe_int))) (pe_lst (pa_cons pe_int pa_nil))) pe_int (fun _ _ => rfl)))
      (pss_cons (ps_set (i := 3) sc_Lpool.nd rfl (Or.inl rfl) (pe_callB (call_max2 rfl) (by rfl) T.z_max (by decide +kernel) (pa_cons (pv 2) (pa_cons (pe_op op_sub (pe_un un_neg pe_int) (pv 2)) pa_nil))))
      (pss_cons (ps_set (i := 4) sc_Lpool.nd rfl (Or.inl rfl) (pe_op op_mod (pe_op op_mul (pe_op op_add (pe_op op_add (pe_op op_add (pe_op op_mod (pv 3) pe_int) (pe_op op_mul (pe_op op_mul pe_int (pv 1)) (pv 1))) (pe_op op_mul pe_int (pv 1))) pe_int) pe_int) pe_int))
      (pss_one (ps_ret (pe_lst (pa_cons (pe_op op_mul (pv 3) (pe_callTy call_int1 (by rfl) T.z_int (by decide +kernel) (pa_cons (pe_cmpR op_ge (pv 3) (pe_op op_pow pe_int pe_int) (nomark _)) pa_nil))) (pa_cons (pe_op op_mod (pe_op op_mul (pv 4) (pv 4)) pe_int) pa_nil)))))))), ?_⟩
    refine ⟨.ref sc, rfl, .int k, rfl, k, rfl, .int k, rfl, k, 1, rfl, rfl, k + 1, rfl, sc, _, rfl, hS, fun c nc => ?_⟩
    obtain ⟨l, hl⟩ := cut_int ns (some k) (some (k + 1))
    have hlen := cutV_length (ns.map V.int) (some k) (some (k + 1))
    rw [hl] at hlen ⊢
    have s1 : Same H (upd H c (.lst (l.map V.int))) := same_new nc
    refine ⟨le_line (by decide), fun d nd => ?_⟩
    have ndc : d ≠ c := fun e => by rw [e, upd_same] at nd; cases nd
    have s2 := s1.trans (same_new (o := .lst [V.int 0]) nd)
    obtain ⟨x, r, hx⟩ : ∃ x r, l.map V.int ++ [V.int 0] = V.int x :: r := by
      cases l with
      | nil => exact ⟨0, _, rfl⟩
      | cons y l => exact ⟨y, _, rfl⟩
    refine ⟨c, d, l.map V.int, [V.int 0], rfl, rfl, by rw [upd_ne ndc.symm, upd_same], upd_same, ?_, fun e ne => ?_⟩
    · rw [List.length_map] at hlen ⊢
      rw [List.length_map] at hlen
      exact le_line (by rw [List.length_singleton]; omega)
    have s3 := s2.trans (same_new (o := .lst (l.map V.int ++ [V.int 0])) ne)
    refine ⟨e, _, 0, V.int x, rfl, rfl, SqL.of upd_same, atI_nat (j := 0) (by rw [hx]; rfl), ?_⟩
    -- the number
    refine ⟨.int x, rfl, 1, rfl, .int x, rfl, -1, x, rfl, rfl, _, _, rfl, ?_⟩
    obtain ⟨n, hn, hn0⟩ : ∃ n, (if -1 - x > x then -1 - x else x) = n ∧ 0 ≤ n := by
      refine ⟨_, rfl, ?_⟩
      split <;> omega
    rw [hn]
    have e1 : n % 2147483629 < 2147483629 := Int.emod_lt_of_pos _ (by decide)
    have e0 : 0 ≤ n % 2147483629 := Int.emod_nonneg _ (by decide)
    have k2 : 0 ≤ 7919 * k * k ∧ 7919 * k * k ≤ 7919 * 1000 * 1000 := by
      constructor
      · exact Int.mul_nonneg (by omega) hk0
      · exact Int.mul_le_mul (by omega) hk1 hk0 (by decide)
    refine ⟨.int n, rfl, n, 2147483629, rfl, rfl, (show (0 : Int) < 2147483629 by decide), .int k, rfl, 7919, k, rfl, rfl, .inl ⟨by decide, by decide⟩, .int k, rfl, 7919 * k, k, rfl, rfl, .inl ⟨by omega, by omega⟩, _, _, rfl, rfl,
      .int k, rfl, 31, k, rfl, rfl, .inl ⟨by decide, by decide⟩, _, _, rfl, rfl, _, _, rfl, rfl, _, 48271, rfl, rfl, .inr ⟨by decide, by decide⟩, _, 2147483647, rfl, rfl, (show (0 : Int) < 2147483647 by decide), ?_⟩
    obtain ⟨mx, hm, hm0, hm1⟩ : ∃ mx, ((n % 2147483629 + 7919 * k * k + 31 * k + 17) * 48271) % 2147483647 = mx ∧ 0 ≤ mx ∧ mx < 2147483647 :=
      ⟨_, rfl, Int.emod_nonneg _ (by decide), Int.emod_lt_of_pos _ (by decide)⟩
    dsimp only
    rw [hm]
    refine ⟨.int n, rfl, .int n, rfl, 10, 18, rfl, rfl, ⟨by decide, by decide, by decide⟩, _, _, rfl, rfl, .inr ⟨_, rfl, ?_⟩⟩
    have hb : ∀ b : Bool, (0 : Int) ≤ (if b = true then 1 else 0) ∧ (if b = true then (1 : Int) else 0) ≤ 1 := by intro b; cases b <;> decide
    have hb' := hb (decide ((10 : Int) ^ (18 : Int).toNat ≤ n))
    refine ⟨n, _, rfl, rfl, .inr ⟨by omega, by omega⟩, .int mx, rfl, .int mx, rfl, mx, mx, rfl, rfl, .inl ⟨by omega, by omega⟩, _, 2147483629, rfl, rfl, (show (0 : Int) < 2147483629 by decide), le_line (show 2 ≤ 100000 by decide), fun p np => ?_⟩
    have h1 : 0 ≤ mx * mx % 2147483629 := Int.emod_nonneg _ (by decide)
    have h2 : mx * mx % 2147483629 < 2147483629 := Int.emod_lt_of_pos _ (by decide)
    exact q _ p (s3.trans (same_new np)) (s3.free np) ⟨_, _, upd_same, Int.mul_nonneg hn0 hb'.1, h1, by omega⟩
def sp_Ltake : Sp := fun vs H Q _ => ∃ (p : Addr) (k : Int), vs = [.ref p, .int k] ∧ Pool H p ∧ 1 ≤ k ∧ k ≤ 1000000 ∧
  ∀ n m d : Int, 0 ≤ n → 0 ≤ m → m < 2147483647 → 0 ≤ d → d < k → Q (.int d) (upd H p (.lst [.int n, .int m]))
theorem ok_Ltake (T : Txt K mg a) : FnOk P w K mg base CX0 1 a.f_Ltake a.d_Ltake ["_law_pool_here", "_law_many"] sp_Ltake := by
  refine T.F_Ltake.ok sc_Ltake (fun vs H Q E h => ?_) (fun cdv A outer s H vs Q E hr h => ?_)
  · obtain ⟨p, k, rfl, _⟩ := h
    rfl
  · obtain ⟨p, k, rfl, ⟨n, m, hp, hn, hm0, hm1⟩, hk0, hk1, q⟩ := h
    refine ⟨_, (pss_cons (ps_if (pt_cmpR op_gt (pe_ix ix_list (pv 0) pe_int (fun _ _ => rfl)) pe_int (nomark _))
        (pss_cons (ps_set (i := 2) sc_Ltake.nd rfl (Or.inl rfl) (pe_op op_mod (pe_ix ix_list (pv 0) pe_int (fun _ _ => rfl)) (pv 1)))
        (pss_cons (ps_asg (pe_op op_fdiv (pe_ix ix_list (pv 0) pe_int (fun _ _ => rfl)) (pv 1)) (pg_sub (pv 0) pe_int set_list))
        (pss_one (ps_ret (pv 2)))))
        pss_nil)
      (pss_cons (ps_asg (pe_op op_mod (pe_op op_add (pe_op op_mul (pe_ix ix_list (pv 0) pe_int (fun _ _ => rfl)) pe_int) pe_int) pe_int) (pg_sub (pv 0) pe_int set_list))
      (pss_one (ps_ret (pe_op op_mod (pe_op op_fdiv (pe_op op_mod (pe_op op_mul (pe_ix ix_list (pv 0) pe_int (fun _ _ => rfl)) (pe_ix ix_list (pv 0) pe_int (fun _ _ => rfl))) pe_int) pe_int) (pv 1)))))), ?_⟩
    refine ⟨.ref p, rfl, p, _, 0, _, rfl, rfl, SqL.of hp, atI_nat (j := 0) rfl, _, _, rfl, rfl, _, rfl, ite2 (fun e => ?_) (fun e => ?_)⟩
    · refine ⟨.ref p, rfl, p, _, 0, _, rfl, rfl, SqL.of hp, atI_nat (j := 0) rfl, .int k, rfl, n, k, rfl, rfl, by omega, ?_⟩
      refine ⟨.ref p, rfl, p, _, 0, _, rfl, rfl, SqL.of hp, atI_nat (j := 0) rfl, .int k, rfl, n, k, rfl, rfl, ⟨by omega, by omega⟩, ?_⟩
      refine ⟨.ref p, rfl, p, _, 0, 0, rfl, rfl, hp, rfl, ?_⟩
      refine ⟨_, rfl, ?_⟩
      exact q (n / k) m (n % k) (Int.ediv_nonneg hn (by omega)) hm0 hm1 (Int.emod_nonneg _ (by omega)) (Int.emod_lt_of_pos _ (by omega))
    · refine ⟨.ref p, rfl, p, _, 1, _, rfl, rfl, SqL.of hp, atI_nat (j := 1) rfl, m, 48271, rfl, rfl, .inr ⟨by decide, by decide⟩, _, _, rfl, rfl, _, 2147483647, rfl, rfl, (show (0 : Int) < 2147483647 by decide), ?_⟩
      obtain ⟨x, hx, hx0, hx1⟩ : ∃ x, (m * 48271 + 12345) % 2147483647 = x ∧ 0 ≤ x ∧ x < 2147483647 := ⟨_, rfl, Int.emod_nonneg _ (by decide), Int.emod_lt_of_pos _ (by decide)⟩
      dsimp only
      rw [hx]
      refine ⟨.ref p, rfl, p, _, 1, 1, rfl, rfl, hp, rfl, ?_⟩
      have hp2 : (upd H p (.lst ([V.int n, V.int m].set 1 (.int x)))) p = some (.lst [.int n, .int x]) := upd_same
      refine ⟨.ref p, rfl, p, _, 1, _, rfl, rfl, SqL.of hp2, atI_nat (j := 1) rfl, .ref p, rfl, p, _, 1, _, rfl, rfl, SqL.of hp2, atI_nat (j := 1) rfl, x, x, rfl, rfl, .inl ⟨by omega, by omega⟩, _, 2147483629, rfl, rfl, (show (0 : Int) < 2147483629 by decide),
        _, 64, rfl, rfl, ⟨by decide, by decide⟩, .int k, rfl, _, k, rfl, rfl, by omega, ?_⟩
      exact q n x _ hn hx0 hx1 (Int.emod_nonneg _ (by omega)) (Int.emod_lt_of_pos _ (by omega))
end
def But (p : Addr) (H H' : Hp) : Prop := ∀ b o, b ≠ p → H b = some o → H' b = some o
theorem But.trans {p : Addr} {H H1 H2 : Hp} (x : But p H H1) (y : But p H1 H2) : But p H H2 := fun b o n e => y b o n (x b o n e)
theorem But.refl {p : Addr} {H : Hp} : But p H H := fun _ _ _ e => e
theorem But.put {p : Addr} {H H1 : Hp} {o : HO} (x : But p H H1) : But p H (upd H1 p o) := fun b u n e => by rw [upd_ne n]; exact x b u n e
theorem But.new {p q : Addr} {H H1 : Hp} {o : HO} (x : But p H H1) (h : H q = none) : But p H (upd H1 q o) := fun b u n e => by
  rw [upd_ne (ne_of_none e h)]
  exact x b u n e
theorem But.same {p : Addr} {H H1 H2 : Hp} (s : Same H H1) (hp : H p = none) (x : But p H1 H2) : Same H H2 := fun b o e => x b o (ne_of_none e hp) (s b o e)
theorem cut_take {z : Str} (k : Nat) : cs (cutS z none (some (0 + (k : Nat)))) = (cs z).take k := by
  show (((cs z).drop (HT.sIx z.length 0 none)).take (HT.sIx z.length z.length (some (0 + (k : Nat))) - HT.sIx z.length 0 none)).toArray.toList = _
  rw [HT.sIx_none, show ((0 : Int) + (k : Nat)) = ((k : Nat) : Int) by omega, HT.sIx_nat, List.drop_zero, Nat.sub_zero]
  show (cs z).take (min k z.length) = _
  rw [len_cs, ← List.take_take, List.take_length]
theorem dp_signs {K : PySem.W.Frag} {H : Hp} : ∀ l : List Nat, DpAll K H (sV l) (l.map fun c => PyData.str ⟨#[c]⟩)
  | [] => .nil
  | a :: l => .cons (.str _) (dp_signs l)
theorem item16 {d k : Int} (h0 : 0 ≤ d) (h1 : d < 2 * k) (hk : k ≤ 8) : ∃ c, atI (cs (cutS "aAbBcCdDeEfFgGhH" none (some (2 * k)))) d = some c ∧ c ∈ cs "aAbBcCdDeEfFgGhH" := by
  obtain ⟨n, rfl⟩ : ∃ n : Nat, d = n := ⟨d.toNat, by omega⟩
  obtain ⟨j, hj⟩ : ∃ j : Nat, 2 * k = 0 + (j : Nat) := ⟨(2 * k).toNat, by omega⟩
  rw [hj, cut_take]
  have h16 : (cs "aAbBcCdDeEfFgGhH").length = 16 := by decide +kernel
  have hn : n < (cs "aAbBcCdDeEfFgGhH").length := by omega
  refine ⟨(cs "aAbBcCdDeEfFgGhH")[n], atI_nat ?_, List.getElem_mem hn⟩
  rw [List.getElem?_take_of_lt (by omega)]
  exact List.getElem?_eq_getElem hn
theorem cut_len {z : Str} {k : Int} (h : 0 ≤ k) : (cutS z none (some k)).length ≤ z.length := by
  obtain ⟨j, hj⟩ : ∃ j : Nat, k = 0 + (j : Nat) := ⟨k.toNat, by omega⟩
  rw [hj, len_cs, cut_take, List.length_take, len_cs]
  omega
section
variable {P : Program} {w : World} {K : PySem.W.Frag} {mg : Str → Option Value} {base : Heap} {a : Ad}
def sp_Lprogram : Sp := fun vs H Q _ => ∃ (p : Addr) (m k : Int), vs = [.ref p, .int m, .int k] ∧ Pool H p ∧ 0 ≤ m ∧ m ≤ 100 ∧ 1 ≤ k ∧ k ≤ 8 ∧
  ∀ H' z, Pool H' p → But p H H' → z.length ≤ m → (∀ c ∈ cs z, c ∈ cs "aAbBcCdDeEfFgGhH") → Q (.str z) H'
theorem ok_Lprogram (T : Txt K mg a) : FnOk P w K mg base CX0 2 a.f_Lprogram a.d_Lprogram ["_law_pool_here", "_law_most", "_law_letters"] sp_Lprogram := by
  have G_Ltake := ok_Ltake (P := P) (w := w) (base := base) T
  refine T.F_Lprogram.ok sc_Lprogram (fun vs H Q E h => ?_) (fun cdv A outer s H vs Q E hr h => ?_)
  · obtain ⟨p, m, k, rfl, _⟩ := h
    rfl
  · obtain ⟨p, m, k, rfl, hP, hm0, hm1, hk0, hk1, q⟩ := h
    refine ⟨_, (pss_cons (ps_set (i := 3) sc_Lprogram.nd rfl (Or.inr rfl) (pe_slice sl_str pe_str po_none (po_some (pe_op op_mul pe_int (pv 2)))))
      (pss_one (ps_ret (pe_join pe_str (pe_lc (own := [("_law_turn", 4)]) (g := gName 4) (by rfl) sc_Lprogram.nd (pi_range1 (by rfl) T.z_range (pa_cons (pe_call G_Ltake (hr.mono (by decide)) (by rfl) T.g_Ltake T.F_Ltake.kp T.b_Ltake .nil pass0 (pa_cons (pv 0) (pa_cons (pe_op op_add (pv 1) pe_int) pa_nil))) pa_nil)) (blkOk_by (own := [("_law_turn", 4)]) (N := N_Lprogram) (sc := defScope s_Lprogram) (by decide +kernel)) (fun _ _ _ _ _ => pg_name (i := 4) sc_Lprogram.nd rfl (Or.inl rfl)) (fun _ _ _ _ _ => pts_nil) (fun _ _ _ _ _ => (pe_ix ix_str (pv 3) (pe_call G_Ltake (hr.mono (by decide)) (by rfl) T.g_Ltake T.F_Ltake.kp T.b_Ltake .nil pass0 (pa_cons (pv 0) (pa_cons (pe_op op_mul pe_int (pv 2)) pa_nil))) (fun _ _ => rfl)))))))), ?_⟩
    refine ⟨.int k, rfl, 2, k, rfl, rfl, .inl ⟨by decide, by decide⟩, 2 * k, rfl, "aAbBcCdDeEfFgGhH", rfl, le_line (by decide +kernel), ?_⟩
    refine ⟨⟨_, rfl⟩, .ref p, rfl, .int m, rfl, m, 1, rfl, rfl, p, m + 1, rfl, hP, by omega, by omega, fun n1 m1 d h1 h2 h3 h4 h5 => ?_⟩
    refine ⟨d, rfl, by omega, by omega, fun D hD => ?_⟩
    have hDp : D ≠ p := fun e => by rw [e, upd_same] at hD; cases hD
    have hDH : H D = none := by rw [upd_ne hDp] at hD; exact hD
    refine lc_it walk_range (fun i H3 => ∃ acc : List Nat, Pool H3 p ∧ But p H H3 ∧ H3 D = some (.lst (sV acc)) ∧ acc.length = i ∧ ∀ c ∈ acc, c ∈ cs "aAbBcCdDeEfFgGhH") ?_ (fun _ _ _ _ => trivial) ?_ ?_
    · exact ⟨[], ⟨n1, m1, by rw [upd_ne hDp.symm, upd_same], h1, h2, h3⟩, (But.put But.refl).new hDH, upd_same, rfl, fun c hc => by cases hc⟩
    · rintro i x H3 H4 hi ⟨acc, hP3, b3, eD, la, hc⟩ ⟨rfl, rfl⟩
      refine ⟨rfl, _, rfl, .ref p, rfl, .int k, rfl, 2, k, rfl, rfl, .inl ⟨by decide, by decide⟩, p, 2 * k, rfl, hP3, by omega, by omega, fun n2 m2 e g1 g2 g3 g4 g5 => ?_⟩
      obtain ⟨c, hc1, hc2⟩ := item16 g4 g5 hk1
      have h16 : (Str.length "aAbBcCdDeEfFgGhH") = 16 := by decide +kernel
      refine ⟨_, e, c, rfl, rfl, le_line (Nat.le_trans (cut_len (by omega)) (by rw [h16]; decide)), hc1, sV acc, by rw [upd_ne hDp]; exact eD, ?_, acc ++ [c], ⟨n2, m2, by rw [upd_ne hDp.symm, upd_same], g1, g2, g3⟩, b3.put.new hDH, by rw [upd_same, sV_snoc], by rw [List.length_append, la]; rfl, ?_⟩
      · rw [sV_len]
        exact lt_line (by omega)
      · intro y hy
        rcases List.mem_append.mp hy with h | h
        · exact hc y h
        · rw [List.mem_singleton.mp h]; exact hc2
    · rintro H3 ⟨acc, hP3, b3, eD, la, hc⟩
      have lj : cs (Txt.join "" (acc.map sg)) = acc := join_signs acc
      refine ⟨"", D, acc.map sg, rfl, rfl, .inl (SqL.of (by rw [eD, sV_eq])), ?_, q H3 _ hP3 b3 ?_ fun c hcc => ?_⟩
      · rw [sum_ones, List.length_map]
        show _ + _ * 0 ≤ 16777216
        omega
      · rw [len_cs, lj, la]
        omega
      · rw [lj] at hcc
        exact hc c hcc
def sp_Lis (K : PySem.W.Frag) : Sp := fun vs H Q _ => ∃ (v : V) (t : Value) (b : Str), vs = [v, .str b] ∧ b.length ≤ 1000 ∧ AnyV K H v t ∧ (∀ z, v = .str z → ∀ c ∈ cs z, c < 1114112) ∧ ∀ H', Same H H' → Q (.bl (okV v b)) H'
theorem ok_Lis (T : Txt K mg a) : FnOk P w K mg base CX0 1 a.f_Lis a.d_Lis ["_law_value", "_law_letters"] (sp_Lis K) := by
  refine T.F_Lis.ok sc_Lis (fun vs H Q E h => ?_) (fun cdv A outer s H vs Q E hr h => ?_)
  · obtain ⟨v, t, b, rfl, _⟩ := h
    rfl
  · obtain ⟨v, t, b, rfl, hb, hv, hc, q⟩ := h
    refine ⟨_, (pss_one (ps_ret (pe_and (pe_callB call_isi (by rfl) T.z_isinstance (by decide +kernel) (pa_cons (pv 0) (pa_cons (pe_bltn (v := .ty "str") (by rfl) T.z_str (by decide +kernel) rfl) pa_nil))) (pe_and (pe_cmpR op_le (pe_callB call_len_str (by rfl) T.z_len (by decide +kernel) (pa_cons (pv 0) pa_nil)) pe_int (nomark _)) (pe_one (pe_cmpR (op_eqD hr.units) (pe_lc (own := [("_law_one", 2)]) (g := gName 2) (by rfl) sc_Lis.nd (pi_str (pv 0)) (blkOk_by (own := [("_law_one", 2)]) (N := N_Lis) (sc := defScope s_Lis) (by decide +kernel)) (fun _ _ _ _ _ => pg_name (i := 2) sc_Lis.nd rfl (Or.inl rfl)) (fun _ _ _ _ _ => (pts_one (pt_cmpR op_notIn_sign (pv 2) (pv 1) (by rfl)))) (fun _ _ _ _ _ => (pv 2))) (pe_lst pa_nil) (nomark _))))))), ?_⟩
    cases hv with
    | oth ty no ns =>
      refine ⟨v, rfl, v, .ty "str", t, .type "str", false, rfl, .ty "str", ty, no, false, rfl, iteF ?_⟩
      have q := q H (Same.refl H)
      rw [okV_oth ns] at q
      exact q
    | str z h =>
      have hc := hc z rfl
      refine ⟨.str z, rfl, .str z, .ty "str", .type "str", .type "str", true, rfl, .ty "str", .base (.str z), kit_ty (by decide +kernel), true, rfl, iteT ?_⟩
      refine ⟨.str z, rfl, z, rfl, le_line (by omega), _, _, rfl, rfl, _, rfl, ?_⟩
      by_cases hz : z.length ≤ 400
      · rw [decide_eq_true (show (z.length : Int) ≤ 400 by omega)]
        have ek : okV (.str z) b = ((cs z).all fun c => (cs b).contains c) := by show okS z b = _; unfold okS; rw [decide_eq_true hz, Bool.true_and]
        refine iteT ⟨.str z, rfl, z, rfl, fun D nD => ?_⟩
        refine lc_it walk_str (fun i H3 => Same H H3 ∧ H3 D = some (.lst (sV (((cs z).take i).filter fun c => !decide (c ∈ cs b))))) ?_ (fun _ _ _ _ => trivial) ?_ ?_
        · exact ⟨same_new nD, upd_same⟩
        · rintro i x H3 H4 hi ⟨sm, eD⟩ ⟨rfl, c, hcc, rfl⟩
          obtain ⟨ts, cm⟩ := take_snoc hi hcc
          have hi' : i < z.length := hi
          refine ⟨rfl, .str (sg c), rfl, .str b, rfl, c, b, rfl, rfl, _, rfl, ?_⟩
          rw [ts, List.filter_append]
          have lf : (((cs z).take i).filter fun c => !decide (c ∈ cs b)).length ≤ 400 := by
            have := List.length_filter_le (fun c => !decide (c ∈ cs b)) ((cs z).take i)
            rw [List.length_take, ← len_cs] at this
            omega
          by_cases hm : c ∈ cs b
          · rw [decide_eq_true hm]
            refine iteF ⟨sm, ?_⟩
            rw [eD, show List.filter (fun c => !decide (c ∈ cs b)) [c] = [] from List.filter_cons_of_neg (by rw [decide_eq_true hm]; exact Bool.false_ne_true), List.append_nil]
          · rw [decide_eq_false hm]
            refine iteT ⟨.str (sg c), rfl, _, eD, lt_line (by rw [sV_len]; omega), same_put sm nD, ?_⟩
            rw [upd_same, show List.filter (fun c => !decide (c ∈ cs b)) [c] = [c] from List.filter_cons_of_pos (by rw [decide_eq_false hm]; rfl), sV_snoc]
        · rintro H3 ⟨sm, eD⟩
          rw [List.take_of_length_le (by rw [← len_cs]; exact Nat.le_refl _)] at eD
          refine ⟨Nat.zero_le _, fun o no => ?_⟩
          have hsub : ∀ c ∈ (cs z).filter (fun c => !decide (c ∈ cs b)), c < 1114112 := fun c h => hc c (List.mem_filter.mp h).1
          refine ⟨sL ((cs z).filter fun c => !decide (c ∈ cs b)), .list [], .lst (SqL.of ((same_new no) _ _ eD)) (dp_signs _), .lst (SqL.of upd_same) .nil, shaped_sgs hsub, by decide +kernel, ?_⟩
          have fin : PyData.eqv (sL ((cs z).filter fun c => !decide (c ∈ cs b))) (.list []) = ((cs z).all fun c => (cs b).contains c) := by
            cases hf : (cs z).filter fun c => !decide (c ∈ cs b) with
            | nil =>
              rw [show ((cs z).all fun c => (cs b).contains c) = true from List.all_eq_true.mpr fun c h => by
                have := List.filter_eq_nil_iff.mp hf c h
                simpa using this]
              rfl
            | cons y l =>
              have hy : y ∈ (cs z).filter (fun c => !decide (c ∈ cs b)) := by rw [hf]; exact List.mem_cons_self ..
              obtain ⟨h1, h2⟩ := List.mem_filter.mp hy
              rw [show ((cs z).all fun c => (cs b).contains c) = false from by
                rw [Bool.eq_false_iff]
                intro e
                have := List.all_eq_true.mp e y h1
                simp at this h2
                exact h2 this]
              rfl
          rw [fin, ← ek]
          exact q _ (sm.trans (same_new no))
      · rw [decide_eq_false (show ¬ (z.length : Int) ≤ 400 by omega)]
        have : okV (.str z) b = false := by show okS z b = _; unfold okS; rw [decide_eq_false hz, Bool.false_and]
        have q := q H (Same.refl H)
        rw [this] at q
        exact iteF q
end
end E1

set_option Elab.async false
set_option linter.all false
set_option maxRecDepth 100000
set_option maxHeartbeats 400000
namespace E1
open PySem PySem.Spec PyProof.Rows L2 Own Exn Mth Vld StX
/-- the facts of the heads -/
structure Hd (K : PySem.W.Frag) (a : Ad) : Prop where
  nsP : PySem.W.subIn K (.ref a.C_InvalidProgram) (.type "StopIteration") = some false
  hn : PySem.W.specialIn K (.builtin "object.__class__") "__get__" = some (some (.builtin "getset_descriptor.__get__"))
  hk : PySem.W.takesIn K (.builtin "object.__class__") = some true
  lW : PySem.W.kitOne K (.ref a.C_InvalidWord) (.ref a.C_LeakError) = some true
  lP : PySem.W.kitOne K (.ref a.C_InvalidProgram) (.ref a.C_LeakError) = some true
  ww : PySem.W.exmOne K (.ref a.C_InvalidWord) (.ref a.C_InvalidWord) = some true
  pw : PySem.W.exmOne K (.ref a.C_InvalidProgram) (.ref a.C_InvalidWord) = some false
  pp : PySem.W.exmOne K (.ref a.C_InvalidProgram) (.ref a.C_InvalidProgram) = some true
def lets (n : Nat) : Str := if n ≤ 3 then "abcdefgh" else "abcdefghABCDEFGH"
def clsA (a : Ad) (n : Nat) : Addr := if n ≤ 3 then a.C_InvalidWord else a.C_InvalidProgram
section
variable {P : Program} {w : World} {K : PySem.W.Frag} {mg : Str → Option Value} {base : Heap} {a : Ad}
def sp_Lcalled (a : Ad) (K : PySem.W.Frag) : Sp := fun vs H Q E => ∃ (n : Nat) (v : V) (t : Value), vs = [.int (n : Nat), v] ∧ n ≤ 8 ∧ (∀ H', Same H H' → AnyV K H' v t) ∧ (okV v (lets n) = true → ∀ H', Same H H' → Q .non H') ∧
  (okV v (lets n) = false → ∀ H' d, Same H H' → H d = none → H' d = some (.xd [(("value" : Str), v)]) → E (.ref (clsA a n)) (some d) H')
theorem ok_Lcalled (T : Txt K mg a) (hd : Hd K a) : FnOk P w K mg base (L2.CX P w) 9 a.f_Lcalled a.d_Lcalled ["_law_way", "_law_value"] (sp_Lcalled a K) := by
  have G_embedding := ok_embedding (P := P) (w := w) (base := base) T
  have G_is_subsequence := ok_is_subsequence (P := P) (w := w) (base := base) T
  have G_prefix_length := ok_prefix_length (P := P) (w := w) (base := base) T
  have G_takes := ok_takes (P := P) (w := w) (base := base) T
  have G_puts := ok_puts (P := P) (w := w) (base := base) T
  have G_put_counts := ok_put_counts (P := P) (w := w) (base := base) T
  have G_steps := ok_steps (P := P) (w := w) (base := base) T
  have G_join := ok_join (P := P) (w := w) (base := base) T
  refine T.F_Lcalled.okX sc_Lcalled (fun vs H Q E h => ?_) (fun cdv A outer s H vs Q E hr h => ?_)
  · obtain ⟨n, v, t, rfl, _⟩ := h
    rfl
  · obtain ⟨n, v, t, rfl, hn, hv, q, q1⟩ := h
    have PA' : ∀ {X : Cx} {W : WX} {E' : XK}, Takes X W → (∀ cls d σ H, E' cls d H → W cls d σ H) → Passes (L2.CX X.prog X.w) X E' := fun tk hW => passes_call tk hW
    refine ⟨_, (pss_one (ps_if (pt_cmpR op_eq (pv 0) pe_int (nomark _))
        (pss_one (ps_expr (pe_callS G_embedding (hr.mono (by decide)) (by rfl) T.g_embedding T.F_embedding.kp T.b_embedding (fun σ => passAt (takes_of rfl rfl rfl rfl) σ) (pa_cons (pv 1) (pa_cons pe_str pa_nil)))))
        (pss_one (ps_if (pt_cmpR op_eq (pv 0) pe_int (nomark _))
          (pss_one (ps_expr (pe_callS G_embedding (hr.mono (by decide)) (by rfl) T.g_embedding T.F_embedding.kp T.b_embedding (fun σ => passAt (takes_of rfl rfl rfl rfl) σ) (pa_cons pe_str (pa_cons (pv 1) pa_nil)))))
          (pss_one (ps_if (pt_cmpR op_eq (pv 0) pe_int (nomark _))
            (pss_one (ps_expr (pe_callS G_is_subsequence (hr.mono (by decide)) (by rfl) T.g_is_subsequence T.F_is_subsequence.kp T.b_is_subsequence (fun σ => passAt (takes_of rfl rfl rfl rfl) σ) (pa_cons (pv 1) (pa_cons pe_str pa_nil)))))
            (pss_one (ps_if (pt_cmpR op_eq (pv 0) pe_int (nomark _))
              (pss_one (ps_expr (pe_callS G_prefix_length (hr.mono (by decide)) (by rfl) T.g_prefix_length T.F_prefix_length.kp T.b_prefix_length (fun σ => passAt (takes_of rfl rfl rfl rfl) σ) (pa_cons pe_str (pa_cons (pv 1) pa_nil)))))
              (pss_one (ps_if (pt_cmpR op_eq (pv 0) pe_int (nomark _))
                (pss_one (ps_expr (pe_callS G_takes (hr.mono (by decide)) (by rfl) T.g_takes T.F_takes.kp T.b_takes (fun σ => passAt (takes_of rfl rfl rfl rfl) σ) (pa_cons (pv 1) pa_nil))))
                (pss_one (ps_if (pt_cmpR op_eq (pv 0) pe_int (nomark _))
                  (pss_one (ps_expr (pe_callS G_puts (hr.mono (by decide)) (by rfl) T.g_puts T.F_puts.kp T.b_puts (fun σ => passAt (takes_of rfl rfl rfl rfl) σ) (pa_cons (pv 1) pa_nil))))
                  (pss_one (ps_if (pt_cmpR op_eq (pv 0) pe_int (nomark _))
                    (pss_one (ps_expr (pe_callS G_put_counts (hr.mono (by decide)) (by rfl) T.g_put_counts T.F_put_counts.kp T.b_put_counts (fun σ => passAt (takes_of rfl rfl rfl rfl) σ) (pa_cons (pv 1) pa_nil))))
                    (pss_one (ps_if (pt_cmpR op_eq (pv 0) pe_int (nomark _))
                      (pss_one (ps_expr (pe_listG (pgen_call (E := fun cls d H => cls = .ref a.C_InvalidProgram ∧ E cls d H) G_steps (hr.mono (by decide)) (by rfl) T.g_steps T.F_steps.kp T.b_steps .nil (pa_cons (pv 1) pa_nil)) (passes_call (takes_of rfl rfl rfl rfl) fun _ _ _ _ h => h.2) (fun cls d H h => by rw [h.1]; exact hd.nsP) (hr.mono (by decide)) (by rfl) T.z_list (by decide +kernel))))
                      (pss_one (ps_expr (pe_callFR (E := E) G_join (hr.mono (by decide)) (by rfl) T.g_join T.F_join.kp (passes_call (takes_of rfl rfl rfl rfl) fun _ _ _ _ h => h) (pa_cons (pe_slice sl_str pe_str po_none (po_some pe_int)) (pa_cons (pv 1) pa_nil))))))))))))))))))))), ?_⟩
    have hv0 := hv H (Same.refl H)
    clear G_embedding G_is_subsequence G_prefix_length G_takes G_puts G_put_counts G_steps G_join
    match n, hn, q, q1 with
    | 0, _, q, q1 =>
      refine ⟨_, rfl, rfl, true, by decide +kernel, iteT ?_⟩
      exact ⟨v, rfl, v, .str "a", t, _, rfl, hv0, .str "a" (by decide +kernel), fun e _ H' x _ sm => q e H' sm, fun e d hd => q1 e _ d (same_new hd) hd upd_same, fun _ e2 => absurd e2 (by decide +kernel)⟩
    | 1, _, q, q1 =>
      refine ⟨_, rfl, rfl, false, by decide +kernel, iteF ?_⟩
      refine ⟨_, rfl, rfl, true, by decide +kernel, iteT ?_⟩
      exact ⟨v, rfl, .str "a", v, _, t, rfl, .str "a" (by decide +kernel), hv0, fun _ e H' x _ sm => q e H' sm, fun e2 => absurd e2 (by decide +kernel), fun _ e d hd => q1 e _ d (same_new hd) hd upd_same⟩
    | 2, _, q, q1 =>
      refine ⟨_, rfl, rfl, false, by decide +kernel, iteF ?_⟩
      refine ⟨_, rfl, rfl, false, by decide +kernel, iteF ?_⟩
      refine ⟨_, rfl, rfl, true, by decide +kernel, iteT ?_⟩
      exact ⟨v, rfl, v, .str "", t, _, rfl, hv0, .str "" (by decide +kernel), fun e _ H' x _ sm => q e H' sm, fun e d hd => q1 e _ d (same_new hd) hd upd_same, fun _ e2 => absurd e2 (by decide +kernel)⟩
    | 3, _, q, q1 =>
      refine ⟨_, rfl, rfl, false, by decide +kernel, iteF ?_⟩
      refine ⟨_, rfl, rfl, false, by decide +kernel, iteF ?_⟩
      refine ⟨_, rfl, rfl, false, by decide +kernel, iteF ?_⟩
      refine ⟨_, rfl, rfl, true, by decide +kernel, iteT ?_⟩
      exact ⟨v, rfl, .str "", v, _, t, rfl, .str "" (by decide +kernel), hv0, fun _ e H' x _ sm => q e H' sm, fun e2 => absurd e2 (by decide +kernel), fun _ e d hd => q1 e _ d (same_new hd) hd upd_same⟩
    | 4, _, q, q1 =>
      refine ⟨_, rfl, rfl, false, by decide +kernel, iteF ?_⟩
      refine ⟨_, rfl, rfl, false, by decide +kernel, iteF ?_⟩
      refine ⟨_, rfl, rfl, false, by decide +kernel, iteF ?_⟩
      refine ⟨_, rfl, rfl, false, by decide +kernel, iteF ?_⟩
      refine ⟨_, rfl, rfl, true, by decide +kernel, iteT ?_⟩
      exact ⟨v, rfl, v, t, rfl, hv0, fun z ez e H' x sm _ _ => q (by rw [ez]; exact e) H' sm, fun e d hd => q1 e _ d (same_new hd) hd upd_same⟩
    | 5, _, q, q1 =>
      refine ⟨_, rfl, rfl, false, by decide +kernel, iteF ?_⟩
      refine ⟨_, rfl, rfl, false, by decide +kernel, iteF ?_⟩
      refine ⟨_, rfl, rfl, false, by decide +kernel, iteF ?_⟩
      refine ⟨_, rfl, rfl, false, by decide +kernel, iteF ?_⟩
      refine ⟨_, rfl, rfl, false, by decide +kernel, iteF ?_⟩
      refine ⟨_, rfl, rfl, true, by decide +kernel, iteT ?_⟩
      exact ⟨v, rfl, v, t, rfl, hv0, fun z ez e H' x sm _ _ => q (by rw [ez]; exact e) H' sm, fun e d hd => q1 e _ d (same_new hd) hd upd_same⟩
    | 6, _, q, q1 =>
      refine ⟨_, rfl, rfl, false, by decide +kernel, iteF ?_⟩
      refine ⟨_, rfl, rfl, false, by decide +kernel, iteF ?_⟩
      refine ⟨_, rfl, rfl, false, by decide +kernel, iteF ?_⟩
      refine ⟨_, rfl, rfl, false, by decide +kernel, iteF ?_⟩
      refine ⟨_, rfl, rfl, false, by decide +kernel, iteF ?_⟩
      refine ⟨_, rfl, rfl, false, by decide +kernel, iteF ?_⟩
      refine ⟨_, rfl, rfl, true, by decide +kernel, iteT ?_⟩
      exact ⟨v, rfl, v, t, rfl, hv0, fun z ez e H' x sm _ _ => q (by rw [ez]; exact e) H' sm, fun e d hd => q1 e _ d (same_new hd) hd upd_same⟩
    | 7, _, q, q1 =>
      refine ⟨_, rfl, rfl, false, by decide +kernel, iteF ?_⟩
      refine ⟨_, rfl, rfl, false, by decide +kernel, iteF ?_⟩
      refine ⟨_, rfl, rfl, false, by decide +kernel, iteF ?_⟩
      refine ⟨_, rfl, rfl, false, by decide +kernel, iteF ?_⟩
      refine ⟨_, rfl, rfl, false, by decide +kernel, iteF ?_⟩
      refine ⟨_, rfl, rfl, false, by decide +kernel, iteF ?_⟩
      refine ⟨_, rfl, rfl, false, by decide +kernel, iteF ?_⟩
      refine ⟨_, rfl, rfl, true, by decide +kernel, iteT ?_⟩
      exact ⟨v, rfl, v, t, rfl, hv0, fun z ez e H' ys sm _ _ p hp => q (by rw [ez]; exact e) _ (sm.trans (same_new hp)), fun e d hd => ⟨rfl, q1 e _ d (same_new hd) hd upd_same⟩⟩
    | 8, _, q, q1 =>
      refine ⟨_, rfl, rfl, false, by decide +kernel, iteF ?_⟩
      refine ⟨_, rfl, rfl, false, by decide +kernel, iteF ?_⟩
      refine ⟨_, rfl, rfl, false, by decide +kernel, iteF ?_⟩
      refine ⟨_, rfl, rfl, false, by decide +kernel, iteF ?_⟩
      refine ⟨_, rfl, rfl, false, by decide +kernel, iteF ?_⟩
      refine ⟨_, rfl, rfl, false, by decide +kernel, iteF ?_⟩
      refine ⟨_, rfl, rfl, false, by decide +kernel, iteF ?_⟩
      refine ⟨_, rfl, rfl, false, by decide +kernel, iteF ?_⟩
      have c0 : okV (.str (cutS "a" none (some 0))) "abcdefghABCDEFGH" = true := by decide +kernel
      have l0 : (cutS "a" none (some 0)).length = 0 := by decide +kernel
      refine ⟨0, rfl, "a", rfl, le_line (by decide +kernel), v, rfl, [], [.str (cutS "a" none (some 0)), v], rfl, rfl, le_line (show 2 ≤ 100000 by decide), fun p hp => ⟨p, _, rfl, upd_same, (show 2 ≤ 10 by decide), fun x hx => ?_, fun zs ez hz => ?_, fun i x hx _ ex H' d sm hd hH => ?_⟩⟩
      · rcases List.mem_cons.mp hx with rfl | hx
        · exact ⟨_, .str _ (by rw [l0]; decide)⟩
        · rcases List.mem_cons.mp hx with rfl | hx
          · exact ⟨t, hv _ (same_new hp)⟩
          · cases hx
      · match zs, ez with
        | [z0, z1], ez =>
          have e0 : cutS "a" none (some 0) = z0 := by injection ez with h _; injection h
          have e1 : v = .str z1 := by injection ez with _ h; injection h
          have hz1 := hz z1 (List.mem_cons_of_mem _ (List.mem_cons_self ..))
          have hl : (Txt.join "" [z0, z1]).length = 0 + (z1.length + 0) := by rw [join_len, ← e0]; show (cutS "a" none (some 0)).length + (z1.length + 0) = _; rw [l0]
          have := (okS_iff.mp hz1).1
          exact ⟨fun _ H' sm => q (by rw [e1]; exact hz1) H' ((same_new hp).trans sm), fun h => by omega⟩
        | [], ez => cases ez
        | [_], ez => cases ez
        | _ :: _ :: _ :: _, ez => cases ez
      · match i, hx with
        | 0, hx => cases hx; rw [c0] at ex; cases ex
        | 1, hx => cases hx; exact q1 ex H' d ((same_new hp).trans sm) ((same_new (o := .tup [.str (cutS "a" none (some 0)), v]) hp).free hd) hH
        | i + 2, hx => simp at hx
    | n + 9, hn, _, _ => exact absurd hn (by omega)
end
end E1

set_option Elab.async false
set_option linter.all false
set_option maxRecDepth 100000
set_option maxHeartbeats 400000
namespace E1
open PySem PySem.Spec PyProof.Rows L2 Own Exn Mth Vld StX
def saidL (n : Nat) (v : V) (z : Str) : List V := if okV v (lets n) = true then [.str "done"] else [.str (if n ≤ 3 then "word" else "program"), .str z, .bl true]
section
variable {P : Program} {w : World} {K : PySem.W.Frag} {mg : Str → Option Value} {base : Heap} {a : Ad}
theorem lk1 {f : Str} {v : V} : List.lookup f [(f, v)] = some v := by simp [List.lookup]
def sp_Lsaid (K : PySem.W.Frag) : Sp := fun vs H Q _ => ∃ (n : Nat) (v : V) (t : Value) (z : Str), vs = [.int (n : Nat), v] ∧ n ≤ 8 ∧ (∀ H', Same H H' → AnyV K H' v t) ∧ (∀ H', Same H H' → ∀ Q : VK, Q (.str z) H' → rReprR K [v] H' Q) ∧
  ∀ H' l, Same H H' → H l = none → H' l = some (.lst (saidL n v z)) → Q (.ref l) H'
def tSu (K : PySem.W.Frag) (a : Ad) (kd : Str) (q : Addr) (cls : Value) (d : Option Addr) : TS := tRet (tLst (tCons (tC (.str kd)) (tCons (tCB (rReprR K) (tCons (tGot K "value" q cls d (tVar 2)) tNil)) (tCons (tCB (rIsGot K q cls d) (tCons (tVar 2) (tCons (tC (.ref a.C_LeakError)) tNil))) tNil))))
theorem ok_Lsaid (T : Txt K mg a) (hd : Hd K a) : FnG P w K mg base CX0 10 a.f_Lsaid a.d_Lsaid ["_law_way", "_law_value"] (sp_Lsaid K) := by
  have G_Lcalled := ok_Lcalled (P := P) (w := w) (base := base) T hd
  refine Fun_okG T.F_Lsaid sc_Lsaid (fun vs H Q E h => ?_) (fun cdv A outer s H vs Q E hg hr h => ?_)
  · obtain ⟨n, v, t, z, rfl, _⟩ := h
    rfl
  · obtain ⟨n, v, t, z, rfl, hn, hv, hz, q⟩ := h
    have hun := hr.un
    have hu2 : (A.deeper (envOfC "_law_said" (defScope s_Lsaid) s.heap.objs.size a.f_Lsaid cdv)).units + 200 < cLine := by omega
    refine ⟨_, (pss_cons (ps_tryAs (i := 2) (n := "e") (l := [(.ref a.C_InvalidWord, tSu K a "word"), (.ref a.C_InvalidProgram, tSu K a "program")]) (tb := fun W => tDrop (tCallS (sp_Lcalled a K) (fun σ => WE W σ) (tCons (tVar 0) (tCons (tVar 1) tNil)))) (Wout := fun _ _ _ _ => False) rfl rfl sc_Lsaid.nd rfl rfl takes0
        (fun W pn xe tk _ => pss_one (ps_expr (by exact (pe_callS G_Lcalled (hr.mono (by decide)) (by rfl) T.g_Lcalled T.F_Lcalled.kp T.b_Lcalled (fun σ => passAt tk σ) (by exact (pa_cons (pv 0) (pa_cons (pv 1) pa_nil)))))))
        (.cons ⟨rfl, by decide, .inl T.e_InvalidWord.gC⟩ (fun q oq cls d pn hz hf => pss_one (ps_ret (by exact (pe_lst (pa_cons pe_str (pa_cons (pe_callB (call_reprRU hg hu2) (by rfl) T.z_repr (by decide +kernel) (pa_cons (pe_got hz hf (pv 2)) pa_nil)) (pa_cons (pe_callB (call_isGot hz hf) (by rfl) T.z_isinstance (by decide +kernel) (pa_cons (pv 2) (pa_cons (pe_glob (v := .ref a.C_LeakError) (by rfl) T.g_LeakError rfl) pa_nil))) pa_nil)))))))
        (.cons ⟨rfl, by decide, .inl T.e_InvalidProgram.gC⟩ (fun q oq cls d pn hz hf => pss_one (ps_ret (by exact (pe_lst (pa_cons pe_str (pa_cons (pe_callB (call_reprRU hg hu2) (by rfl) T.z_repr (by decide +kernel) (pa_cons (pe_got hz hf (pv 2)) pa_nil)) (pa_cons (pe_callB (call_isGot hz hf) (by rfl) T.z_isinstance (by decide +kernel) (pa_cons (pv 2) (pa_cons (pe_glob (v := .ref a.C_LeakError) (by rfl) T.g_LeakError rfl) pa_nil))) pa_nil))))))) .nil)))
      (pss_one (ps_ret (pe_lst (pa_cons pe_str pa_nil))))), ?_⟩
    obtain ⟨W1, W2⟩ := xv_of T.h_InvalidWord hd.hn hd.hk
    obtain ⟨P1, P2⟩ := xv_of T.h_InvalidProgram hd.hn hd.hk
    refine ⟨.int (n : Nat), rfl, v, rfl, n, v, t, rfl, hn, hv, fun e H' sm => ?_, fun e H' d sm nd hdd => ?_⟩
    · refine ⟨le_line (by decide), fun l nl => q _ l (sm.trans (same_new nl)) (sm.free nl) ?_⟩
      rw [upd_same]
      unfold saidL
      rw [if_pos e]
    · have fin : ∀ (kd : Str) (C : Addr) (q0 : Addr) (σ : L2.St) (D : Ends), kd = (if n ≤ 3 then ("word" : Str) else ("program" : Str)) → Xv K C → PySem.W.findIn K (.ref C) "value" = some none → PySem.W.kitOne K (.ref C) (.ref a.C_LeakError) = some true → D.rt = Q → σ[2]? = some (some (.ref q0)) → tSu K a kd q0 (.ref C) (some d) D σ H' := by
        intro kd C q0 σ D hkd x1 x2 x3 hD h2
        refine ⟨.ref q0, h2, rfl, C, d, _, v, rfl, rfl, hdd, lk1, x1, x2, hz H' sm _ ⟨.ref q0, h2, C, d, _, _, _, true, rfl, .own _, rfl, rfl, hdd, x1, x3, le_line (show 3 ≤ 100000 by decide), fun l nl => ?_⟩⟩
        rw [hD]
        refine q _ l (sm.trans (same_new nl)) (sm.free nl) ?_
        rw [upd_same]
        unfold saidL
        rw [if_neg (by rw [e]; exact Bool.false_ne_true), hkd]
      unfold clsA
      by_cases h3 : n ≤ 3
      · rw [if_pos h3]
        exact ⟨true, hd.ww, fun _ q0 _ => fin "word" a.C_InvalidWord q0 _ _ (by rw [if_pos h3]) W1 W2 hd.lW rfl rfl, fun h => nomatch h⟩
      · rw [if_neg h3]
        exact ⟨false, hd.pw, (fun h => absurd h Bool.false_ne_true), fun _ => ⟨true, hd.pp, fun _ q0 _ => fin "program" a.C_InvalidProgram q0 _ _ (by rw [if_neg h3]) P1 P2 hd.lP rfl rfl, fun h => nomatch h⟩⟩
end
end E1

set_option Elab.async false
set_option linter.all false
set_option maxRecDepth 100000
set_option maxHeartbeats 400000
namespace E1
open PySem PySem.Spec PyProof.Rows L2 Own Exn Mth Vld StX
/-! the values that are tried -/
abbrev abc : List Nat := cs "abcdefghABCDEFGHizI -1\n"
theorem quote2 (x : Str) : reprQuote x = 39 ∨ reprQuote x = 34 := by
  unfold reprQuote
  split
  · exact .inr rfl
  · exact .inl rfl
theorem rc_ok : ∀ q ∈ [39, 34], ∀ c ∈ abc, ∀ d ∈ Builtin.Str.reprChar q c, d < 1114112 := by decide +kernel
theorem fold_ok (q : Nat) (hq : q ∈ [39, 34]) : ∀ (l : List Nat) (acc : Array Nat), (∀ c ∈ l, c ∈ abc) → (∀ d ∈ acc.toList, d < 1114112) → ∀ d ∈ (l.foldl (fun out c => out ++ (Builtin.Str.reprChar q c).toArray) acc).toList, d < 1114112
  | [], acc, _, ha => ha
  | c :: l, acc, hl, ha => by
    rw [List.foldl_cons]
    refine fold_ok q hq l _ (fun x hx => hl x (List.mem_cons_of_mem _ hx)) fun d hd => ?_
    rw [Array.toList_append] at hd
    rcases List.mem_append.mp hd with h | h
    · exact ha d h
    · exact rc_ok q hq c (hl c (List.mem_cons_self ..)) d (by simpa using h)
theorem repr_ok {x : Str} (h : ∀ c ∈ cs x, c ∈ abc) : PyData.strOk (reprText x) = true := by
  have hq : reprQuote x ∈ [39, 34] := by rcases quote2 x with e | e <;> rw [e] <;> simp
  have hq' : reprQuote x < 1114112 := by rcases quote2 x with e | e <;> rw [e] <;> decide
  unfold PyData.strOk reprText
  rw [← Array.foldl_toList, Array.all_push, Bool.and_eq_true]
  refine ⟨?_, decide_eq_true hq'⟩
  rw [← Array.all_toList, List.all_eq_true]
  intro d hd
  have base : ∀ d ∈ (#[reprQuote x] : Array Nat).toList, d < 1114112 := by
    intro d hd
    have : d = reprQuote x := by simpa using hd
    rw [this]
    exact hq'
  exact decide_eq_true (fold_ok _ hq x.cps.toList #[reprQuote x] h base d hd)
theorem abc_lt : ∀ c ∈ abc, c < 1114112 := by decide +kernel
structure Vv (K : PySem.W.Frag) (H : Hp) (v : V) (z : Str) : Prop where
  any : ∃ t, ∀ H', Same H H' → AnyV K H' v t
  cp : ∀ x, v = .str x → ∀ c ∈ cs x, c < 1114112
  rep : ∀ H', Same H H' → ∀ Q : VK, Q (.str z) H' → rReprR K [v] H' Q
  zok : PyData.strOk z = true
theorem Vv.same {K : PySem.W.Frag} {H H' : Hp} {v : V} {z : Str} (h : Vv K H v z) (s : Same H H') : Vv K H' v z := by
  obtain ⟨⟨t, h1⟩, h2, h3, h4⟩ := h
  exact ⟨⟨t, fun H'' s' => h1 H'' (s.trans s')⟩, h2, fun H'' s' => h3 H'' (s.trans s'), h4⟩
theorem vv_str {K : PySem.W.Frag} {H : Hp} {x : Str} (hl : x.length ≤ 1000) (hc : ∀ c ∈ cs x, c ∈ abc) : Vv K H (.str x) (reprText x) := by
  refine ⟨⟨_, fun H' _ => .str x (by omega)⟩, fun y e c h => ?_, fun H' _ Q q => .inl ⟨_, .str x, rfl, .str x, rfl, rfl, (show 0 ≤ 60 by decide), ?_, q⟩, repr_ok hc⟩
  · cases e
    exact abc_lt c (hc c h)
  · have := PySem.StrLaws.reprText_len x fun c h => Nat.lt_of_lt_of_le (abc_lt c (hc c h)) (by decide)
    exact le_line (by show (reprText x).length ≤ 100000; omega)
theorem vv_flat {K : PySem.W.Frag} {H : Hp} {v : V} {t : Value} {d : PyData} (ty : ∀ H', Same H H' → TyX K H' v t) (no : PySem.W.kitOne K t (.type "str") = some false) (ns : ∀ z, v ≠ .str z) (dp : ∀ H', Same H H' → Dp K H' v d) (a1 : d.showable = true) (a2 : d.hasDict = false) (a3 : d.depth ≤ 60) (a4 : d.shown.length ≤ 100000)
    (a5 : PyData.strOk d.shown = true) : Vv K H v d.shown := ⟨⟨t, fun H' s => .oth (ty H' s) no ns⟩, fun x e => absurd e (ns x), fun H' s Q q => .inl ⟨v, d, rfl, dp H' s, a1, a2, a3, le_line a4, q⟩, a5⟩
theorem vv_dict {K : PySem.W.Frag} {H : Hp} {p : Addr} (hp : H p = some (.dK [])) : Vv K H (.ref p) "{}" :=
  ⟨⟨.type "dict", fun H' s => .oth (.base (.dK (s _ _ hp))) (kit_ty (by decide +kernel)) (fun z h => nomatch h)⟩, (fun x e => nomatch e), fun H' s Q q => .inr ⟨p, rfl, s _ _ hp, q⟩, by decide +kernel⟩
theorem vv_lst {K : PySem.W.Frag} {H : Hp} {p : Addr} (hp : H p = some (.lst [.str "a"])) : Vv K H (.ref p) (PyData.shown (.list [.str "a"])) :=
  vv_flat (t := .type "list") (fun H' s => .base (.lst (s _ _ hp))) (kit_ty (by decide +kernel)) (fun z h => nomatch h) (fun H' s => .lst (SqL.of (s _ _ hp)) (.cons (.str _) .nil)) (by decide +kernel) (by decide +kernel) (by decide +kernel) (by decide +kernel) (by decide +kernel)
theorem vv_tup {K : PySem.W.Frag} {H : Hp} {p : Addr} (hp : H p = some (.tup [.str "a"])) : Vv K H (.ref p) (PyData.shown (.tuple [.str "a"])) :=
  vv_flat (t := .type "tuple") (fun H' s => .base (.tup (s _ _ hp))) (kit_ty (by decide +kernel)) (fun z h => nomatch h) (fun H' s => .tup (SqT.of (s _ _ hp)) (.cons (.str _) .nil)) (by decide +kernel) (by decide +kernel) (by decide +kernel) (by decide +kernel) (by decide +kernel)
theorem vv_non {K : PySem.W.Frag} {H : Hp} : Vv K H .non (PyData.shown .none) :=
  vv_flat (t := .type "NoneType") (fun H' s => .base .non) (kit_ty (by decide +kernel)) (fun z h => nomatch h) (fun H' s => .non) (by decide +kernel) (by decide +kernel) (by decide +kernel) (by decide +kernel) (by decide +kernel)
theorem vv_zero {K : PySem.W.Frag} {H : Hp} : Vv K H (.int 0) (PyData.shown (.int 0)) :=
  vv_flat (t := .type "int") (fun H' s => .base (.int 0)) (kit_ty (by decide +kernel)) (fun z h => nomatch h) (fun H' s => .int 0) (by decide +kernel) (by decide +kernel) (by decide +kernel) (by decide +kernel) (by decide +kernel)
theorem vv_true {K : PySem.W.Frag} {H : Hp} : Vv K H (.bl true) (PyData.shown (.bool true)) :=
  vv_flat (t := .type "bool") (fun H' s => .base (.bl true)) (kit_ty (by decide +kernel)) (fun z h => nomatch h) (fun H' s => .bl true) (by decide +kernel) (by decide +kernel) (by decide +kernel) (by decide +kernel) (by decide +kernel)
/-! what is told -/
def saidD (n : Nat) (v : V) (z : Str) : PyData := if okV v (lets n) = true then .list [.str "done"] else .list [.str (if n ≤ 3 then "word" else "program"), .str z, .bool true]
theorem said_dp {K : PySem.W.Frag} {H : Hp} {n : Nat} {v : V} {z : Str} {l : Addr} (h : H l = some (.lst (saidL n v z))) : Dp K H (.ref l) (saidD n v z) := by
  unfold saidL at h
  unfold saidD
  split at h
  · rename_i e; rw [if_pos e]; exact .lst (SqL.of h) (.cons (.str _) .nil)
  · rename_i e; rw [if_neg e]; exact .lst (SqL.of h) (.cons (.str _) (.cons (.str _) (.cons (.bl _) .nil)))
theorem said_sh {n : Nat} {v : V} {z : Str} (hz : PyData.strOk z = true) : SeqAt.shaped (saidD n v z) = true ∧ PyData.eqv (saidD n v z) (saidD n v z) = true := by
  have k1 : PyData.strOk "word" = true := by decide +kernel
  have k2 : PyData.strOk "program" = true := by decide +kernel
  unfold saidD
  split
  · exact ⟨by decide +kernel, by decide +kernel⟩
  · constructor
    · unfold SeqAt.shaped
      split <;> simp [PyData.canLay0, PyData.canLayAll0, PyData.depth, PyData.depthAll, hz, k1, k2]
    · split <;> simp [PyData.eqv, PyData.eqvAll]
end E1

set_option Elab.async false
set_option linter.all false
set_option maxRecDepth 100000
set_option maxHeartbeats 400000
namespace E1
open PySem PySem.Spec PyProof.Rows L2 Own Exn Mth Vld StX
theorem ix2 {x y : V} (m : Nat) : atI [x, y] (if decide ((3 : Int) < (m : Nat)) = true then 1 else 0) = some (if m ≤ 3 then x else y) := by
  by_cases h : m ≤ 3
  · rw [decide_eq_false (by omega), if_neg Bool.false_ne_true, if_pos h]
    exact atI_nat (j := 0) rfl
  · rw [decide_eq_true (by omega), if_pos rfl, if_neg h]
    exact atI_nat (j := 1) rfl
section
variable {P : Program} {w : World} {K : PySem.W.Frag} {mg : Str → Option Value} {base : Heap} {a : Ad}
def sp_Lright (K : PySem.W.Frag) : Sp := fun vs H Q _ => ∃ (v : V) (z : Str), vs = [v] ∧ Vv K H v z ∧ ∀ H', Same H H' → Q (.bl true) H'
theorem ok_Lright (T : Txt K mg a) (hd : Hd K a) : FnG P w K mg base CX0 11 a.f_Lright a.d_Lright ["_law_value"] (sp_Lright K) := by
  have G_Lis := ok_Lis (P := P) (w := w) (base := base) T
  have G_is_word := ok_is_word (P := P) (w := w) (base := base) T
  have G_is_program := ok_is_program (P := P) (w := w) (base := base) T
  have G_Lsaid := ok_Lsaid (P := P) (w := w) (base := base) T hd
  refine Fun_okG T.F_Lright sc_Lright (fun vs H Q E h => ?_) (fun cdv A outer s H vs Q E hg hr h => ?_)
  · obtain ⟨v, z, rfl, _⟩ := h
    rfl
  · obtain ⟨v, z, rfl, hv, q⟩ := h
    obtain ⟨⟨t, any⟩, cp, rep, zok⟩ := hv
    refine ⟨_, (pss_cons (ps_set (i := 1) sc_Lright.nd rfl (Or.inl rfl) (pe_call G_Lis (hr.mono (by decide)) (by rfl) T.g_Lis T.F_Lis.kp T.b_Lis .nil pass0 (pa_cons (pv 0) (pa_cons pe_str pa_nil))))
      (pss_cons (ps_set (i := 2) sc_Lright.nd rfl (Or.inl rfl) (pe_call G_Lis (hr.mono (by decide)) (by rfl) T.g_Lis T.F_Lis.kp T.b_Lis .nil pass0 (pa_cons (pv 0) (pa_cons pe_str pa_nil))))
      (pss_cons (ps_if (PW.pt (pw_or (pt_cmpR op_ne (pe_callB (call_reprR hg hr) (by rfl) T.z_repr (by decide +kernel) (pa_cons (pe_call G_is_word (hr.mono (by decide)) (by rfl) T.g_is_word T.F_is_word.kp T.b_is_word .nil pass0 (pa_cons (pv 0) pa_nil)) pa_nil)) (pe_callB (call_reprR hg hr) (by rfl) T.z_repr (by decide +kernel) (pa_cons (pv 1) pa_nil)) (nomark _)) (pw_or1 (pt_cmpR op_ne (pe_callB (call_reprR hg hr) (by rfl) T.z_repr (by decide +kernel) (pa_cons (pe_call G_is_program (hr.mono (by decide)) (by rfl) T.g_is_program T.F_is_program.kp T.b_is_program .nil pass0 (pa_cons (pv 0) pa_nil)) pa_nil)) (pe_callB (call_reprR hg hr) (by rfl) T.z_repr (by decide +kernel) (pa_cons (pv 2) pa_nil)) (nomark _)))))
        (pss_one (ps_ret pe_bl))
        pss_nil)
      (pss_cons (ps_for PassesOwn.never rfl (pi_range1 (by rfl) T.z_range (pa_cons pe_int pa_nil)) (pg_name (i := 3) sc_Lright.nd rfl (Or.inl rfl))
        (pss_cons (ps_set (i := 4) sc_Lright.nd rfl (Or.inl rfl) (pe_ix ix_list (pe_lst (pa_cons pe_str (pa_cons pe_str pa_nil))) (pe_callTy call_int1 (by rfl) T.z_int (by decide +kernel) (pa_cons (pe_cmpR op_gt (pv 3) pe_int (nomark _)) pa_nil)) (fun _ _ => rfl)))
        (pss_cons (ps_set (i := 5) sc_Lright.nd rfl (Or.inl rfl) (pe_ix ix_list (pe_lst (pa_cons (pv 1) (pa_cons (pv 2) pa_nil))) (pe_callTy call_int1 (by rfl) T.z_int (by decide +kernel) (pa_cons (pe_cmpR op_gt (pv 3) pe_int (nomark _)) pa_nil)) (fun _ _ => rfl)))
        (pss_one (ps_if (pt_cmpR (op_neD hr.units) (pe_callG G_Lsaid hg (hr.mono (by decide)) (by rfl) T.g_Lsaid T.F_Lsaid.kp T.b_Lsaid pass0 (pa_cons (pv 3) (pa_cons (pv 0) pa_nil))) (pe_ix ix_list (pe_lst (pa_cons (pe_lst (pa_cons (pv 4) (pa_cons (pe_callB (call_reprR hg hr) (by rfl) T.z_repr (by decide +kernel) (pa_cons (pv 0) pa_nil)) (pa_cons pe_bl pa_nil)))) (pa_cons (pe_lst (pa_cons pe_str pa_nil)) pa_nil))) (pe_callTy call_int1 (by rfl) T.z_int (by decide +kernel) (pa_cons (pv 5) pa_nil)) (fun _ _ => rfl)) (nomark _))
          (pss_one (ps_ret pe_bl))
          pss_nil)))))
      (pss_one (ps_ret pe_bl)))))), ?_⟩
    have b1 : ∀ (b : Bool) (H' : Hp) (Q : VK), Q (.str (PyData.shown (.bool b))) H' → rReprR K [.bl b] H' Q := fun b H' Q q => .inl ⟨_, .bool b, rfl, .bl b, by cases b <;> decide +kernel, by cases b <;> decide +kernel, by cases b <;> decide +kernel, le_line (by cases b <;> decide +kernel), q⟩
    refine ⟨v, rfl, v, t, "abcdefgh", rfl, by decide +kernel, any H (Same.refl H), cp, fun H1 s1 => ?_⟩
    refine ⟨v, rfl, v, t, "abcdefghABCDEFGH", rfl, by decide +kernel, any H1 s1, cp, fun H2 s2 => ?_⟩
    have z2 := s1.trans s2
    refine ⟨v, rfl, v, t, rfl, any H2 z2, b1 _ _ _ ⟨.bl (okV v "abcdefgh"), rfl, b1 _ _ _ ⟨rfl, _, rfl, iteNS rfl ?_⟩⟩⟩
    refine ⟨v, rfl, v, t, rfl, any H2 z2, b1 _ _ _ ⟨.bl (okV v "abcdefghABCDEFGH"), rfl, b1 _ _ _ ⟨rfl, _, rfl, iteNS rfl ?_⟩⟩⟩
    refine ⟨9, rfl, by decide, by decide, for_it walk_range (fun i σ H3 => ∃ y3 y4 y5 : Option V, σ = [some v, some (.bl (okV v "abcdefgh")), some (.bl (okV v "abcdefghABCDEFGH")), y3, y4, y5] ∧ Same H H3) ?_ (fun _ _ _ _ _ => trivial) ?_ ?_⟩
    · exact ⟨none, none, none, rfl, z2⟩
    · rintro m x σ H3 H3' hm ⟨y3, y4, y5, rfl, sm⟩ ⟨rfl, rfl⟩
      have hm9 : m < 9 := hm
      rw [show (fun i : Nat => V.int (0 + (i : Int))) m = V.int (m : Nat) from congrArg V.int (by omega)]
      have hlet : okV v (lets m) = (if m ≤ 3 then okV v "abcdefgh" else okV v "abcdefghABCDEFGH") := by unfold lets; split <;> rfl
      refine ⟨le_line (by decide), fun l1 n1 => ⟨.int (m : Nat), rfl, (m : Nat), 3, rfl, rfl, .inr ⟨_, rfl, l1, _, _, .str (if m ≤ 3 then ("word" : Str) else ("program" : Str)), rfl, rfl, SqL.of upd_same, ?_, ?_⟩⟩⟩
      · rw [ix2]
        split <;> rfl
      refine ⟨.bl (okV v "abcdefgh"), rfl, .bl (okV v "abcdefghABCDEFGH"), rfl, le_line (show 2 ≤ 100000 by decide), fun l2 n2 => ⟨.int (m : Nat), rfl, (m : Nat), 3, rfl, rfl, .inr ⟨_, rfl, l2, _, _, .bl (okV v (lets m)), rfl, rfl, SqL.of upd_same, ?_, ?_⟩⟩⟩
      · rw [ix2, hlet]
        split <;> rfl
      have w1 := sm.trans ((same_new (o := .lst [.str "word", .str "program"]) n1).trans (same_new (o := .lst [.bl (okV v "abcdefgh"), .bl (okV v "abcdefghABCDEFGH")]) n2))
      refine ⟨.int (m : Nat), rfl, v, rfl, m, v, t, z, rfl, by omega, fun H' s' => any H' (w1.trans s'), fun H' s' => rep H' (w1.trans s'), fun H5 lS s5 nS eS => ?_⟩
      have w5 := w1.trans s5
      refine ⟨.str (if m ≤ 3 then ("word" : Str) else ("program" : Str)), rfl, v, rfl, rep H5 w5 _ ⟨le_line (show 3 ≤ 100000 by decide), fun i1 m1 => ⟨le_line (show 1 ≤ 100000 by decide), fun i2 m2 => ⟨le_line (show 2 ≤ 100000 by decide), fun l3 m3 => ⟨.bl (okV v (lets m)), rfl, .inr ⟨_, rfl, l3, _, _, (if okV v (lets m) = true then .ref i2 else .ref i1), rfl, rfl, SqL.of upd_same, ?_, ?_⟩⟩⟩⟩⟩⟩
      · cases okV v (lets m) with
        | true => exact atI_nat (j := 1) rfl
        | false => exact atI_nat (j := 0) rfl
      have g1 : (upd (upd (upd H5 i1 (.lst [.str (if m ≤ 3 then ("word" : Str) else ("program" : Str)), .str z, .bl true])) i2 (.lst [.str "done"])) l3 (.lst [.ref i1, .ref i2])) i1 = some (.lst [.str (if m ≤ 3 then ("word" : Str) else ("program" : Str)), .str z, .bl true]) := (same_new m3) _ _ ((same_new m2) _ _ upd_same)
      have g2 : (upd (upd (upd H5 i1 (.lst [.str (if m ≤ 3 then ("word" : Str) else ("program" : Str)), .str z, .bl true])) i2 (.lst [.str "done"])) l3 (.lst [.ref i1, .ref i2])) i2 = some (.lst [.str "done"]) := (same_new m3) _ _ upd_same
      have s8 := (same_new (o := .lst [.str (if m ≤ 3 then ("word" : Str) else ("program" : Str)), .str z, .bl true]) m1).trans ((same_new (o := .lst [.str "done"]) m2).trans (same_new (o := .lst [.ref i1, .ref i2]) m3))
      obtain ⟨sh1, sh2⟩ := said_sh (n := m) (v := v) zok
      refine ⟨saidD m v z, saidD m v z, said_dp (s8 _ _ eS), ?_, sh1, sh1, _, rfl, ?_⟩
      · cases e : okV v (lets m) with
        | true => exact said_dp (n := m) (v := v) (z := z) (by unfold saidL; rw [if_pos e]; exact g2)
        | false => exact said_dp (n := m) (v := v) (z := z) (by unfold saidL; rw [if_neg (show ¬ okV v (lets m) = true by rw [e]; exact Bool.false_ne_true)]; exact g1)
      rw [sh2]
      exact iteF ⟨_, _, _, rfl, w5.trans s8⟩
    · rintro σ H3 ⟨y3, y4, y5, rfl, sm⟩
      exact q H3 sm
end
end E1

set_option Elab.async false
set_option linter.all false
set_option maxRecDepth 100000
set_option maxHeartbeats 1000000
namespace E1
open PySem PySem.Spec PyProof.Rows L2 Own Exn Mth Vld StX
theorem cut_mem {z : Str} {lo hi : Option Int} {c : Nat} (h : c ∈ cs (cutS z lo hi)) : c ∈ cs z := by
  have h' : c ∈ ((((cs z).drop (HT.sIx z.length 0 lo)).take (HT.sIx z.length z.length hi - HT.sIx z.length 0 lo)).toArray.toList) := h
  rw [List.toList_toArray] at h'
  exact List.mem_of_mem_drop (List.mem_of_mem_take h')
theorem cut_le (z : Str) (lo hi : Option Int) : (cutS z lo hi).length ≤ z.length := by
  rw [len_cs, len_cs z]
  show (((cs z).drop (HT.sIx z.length 0 lo)).take (HT.sIx z.length z.length hi - HT.sIx z.length 0 lo)).toArray.toList.length ≤ _
  rw [List.toList_toArray, List.length_take, List.length_drop]
  omega
theorem cs_app (x y : Str) : cs (x ++ y) = cs x ++ cs y := Array.toList_append
theorem len_app (x y : Str) : (x ++ y).length = x.length + y.length := Array.size_append
def signs : List Str := ["i", "z", "I", " ", "-", "1", "\n", "", "aA", "h"]
theorem lt_of_get {α : Type} {xs : List α} {n i : Nat} (hl : xs.length = n) (hi : i < n) : ∃ r, xs[i]? = some r := ⟨xs[i]'(by omega), List.getElem?_eq_getElem (by omega)⟩
theorem signs_ok : ∀ x ∈ signs, x.length ≤ 2 ∧ ∀ c ∈ cs x, c ∈ abc := by decide +kernel
theorem let16 : ∀ c ∈ cs "aAbBcCdDeEfFgGhH", c ∈ abc ∧ c ∈ cs "abcdefghABCDEFGH" := by decide +kernel
theorem let128 : ∀ c ∈ cs "abcdefghABCDEFGH", c < 128 ∧ lo1 c ∈ abc := by decide +kernel
theorem low_ok {z : Str} (hl : z.length ≤ 30) (h : ∀ c ∈ cs z, c ∈ cs "abcdefghABCDEFGH") : (Txt.lower z).length ≤ 90 ∧ ∀ c ∈ cs (Txt.lower z), c ∈ abc := by
  have h128 : ∀ c ∈ z.cps.toList, c < 128 := fun c hc => (let128 c (h c hc)).1
  rw [lower_ascii h128]
  refine ⟨?_, fun c hc => ?_⟩
  · show (z.cps.map lo1).size ≤ 90
    rw [Array.size_map]
    have : z.cps.size ≤ 30 := hl
    omega
  · have hc' : c ∈ (z.cps.map lo1).toList := hc
    rw [Array.toList_map] at hc'
    obtain ⟨b, hb, rfl⟩ := List.mem_map.mp hc'
    exact (let128 b (h b hb)).2
theorem mul_ok : (∀ c ∈ cs (Txt.mul "a" 400), c ∈ abc) ∧ (∀ c ∈ cs (Txt.mul "a" 401), c ∈ abc) ∧ (∀ c ∈ cs (Txt.mul "A" 400), c ∈ abc) ∧ (∀ c ∈ cs (Txt.mul "B" 401), c ∈ abc) := by decide +kernel
theorem mul_len : (Txt.mul "a" 400).length ≤ 1000 ∧ (Txt.mul "a" 401).length ≤ 1000 ∧ (Txt.mul "A" 400).length ≤ 1000 ∧ (Txt.mul "B" 401).length ≤ 1000 := by decide +kernel
def sp_law (K : PySem.W.Frag) : Sp := fun vs H Q _ => ∃ (s : Addr) (ns : List Int), vs = [.ref s] ∧ SqL K H s (ns.map V.int) ∧ ns.length ≤ 63 ∧ ∀ H', Q (.bl true) H'
def eleven (l t d : Addr) : List V := [.non, .int 0, .bl true, .ref l, .ref t, .ref d, .str "", .str (Txt.mul "a" 400), .str (Txt.mul "a" 401), .str (Txt.mul "A" 400), .str (Txt.mul "B" 401)]
theorem eleven_vv {K : PySem.W.Frag} {H : Hp} {l t d : Addr} (hl : H l = some (.lst [.str "a"])) (ht : H t = some (.tup [.str "a"])) (hd : H d = some (.dK [])) : ∀ x ∈ eleven l t d, ∃ z, Vv K H x z := by
  intro x hx
  unfold eleven at hx
  simp only [List.mem_cons, List.not_mem_nil, or_false] at hx
  rcases hx with rfl | rfl | rfl | rfl | rfl | rfl | rfl | rfl | rfl | rfl | rfl
  · exact ⟨_, vv_non⟩
  · exact ⟨_, vv_zero⟩
  · exact ⟨_, vv_true⟩
  · exact ⟨_, vv_lst hl⟩
  · exact ⟨_, vv_tup ht⟩
  · exact ⟨_, vv_dict hd⟩
  · exact ⟨_, vv_str (by decide +kernel) (by decide +kernel)⟩
  · exact ⟨_, vv_str mul_len.1 mul_ok.1⟩
  · exact ⟨_, vv_str mul_len.2.1 mul_ok.2.1⟩
  · exact ⟨_, vv_str mul_len.2.2.1 mul_ok.2.2.1⟩
  · exact ⟨_, vv_str mul_len.2.2.2 mul_ok.2.2.2⟩
theorem mulOk1 {z : Str} {k : Int} (h1 : z.length = 1) (h2 : 1 ≤ k) (h3 : k ≤ 1000) : MulOk z k := by
  refine ⟨by rw [decide_eq_false (by omega), decide_eq_false (by omega)]; rfl, fun _ _ => ?_, fun _ _ => ?_⟩
  · rw [h1]
    have : (1 : Int) ≤ (2 ^ 63 - 1) / k := by
      rw [Int.le_ediv_iff_mul_le (by omega)]
      omega
    omega
  · rw [h1, Nat.one_mul]
    unfold Builtin.Str.tooLong
    exact decide_eq_false (by have := le_line (n := k.toNat) (by omega); omega)
section
variable {P : Program} {w : World} {K : PySem.W.Frag} {mg : Str → Option Value} {base : Heap} {a : Ad}
theorem ok_law (T : Txt K mg a) (hdd : Hd K a) : FnG P w K mg base CX0 12 a.f_law a.d_law ["_law_script"] (sp_law K) := by
  have G_Lpool := ok_Lpool (P := P) (w := w) (base := base) T
  have G_Ltake := ok_Ltake (P := P) (w := w) (base := base) T
  have G_Lprogram := ok_Lprogram (P := P) (w := w) (base := base) T
  have G_Lright := ok_Lright (P := P) (w := w) (base := base) T hdd
  refine Fun_okG T.F_law sc_law (fun vs H Q E h => ?_) (fun cdv A outer s H vs Q E hg hr hh => ?_)
  · obtain ⟨s, ns, rfl, _⟩ := h
    rfl
  · obtain ⟨sc, ns, rfl, hS, hns, q⟩ := hh
    refine ⟨_, (pss_cons (ps_set (i := 1) sc_law.nd rfl (Or.inl rfl) (pe_lst (pa_cons pe_non (pa_cons pe_int (pa_cons pe_bl (pa_cons (pe_lst (pa_cons pe_str pa_nil)) (pa_cons (pe_tup (pa_cons pe_str pa_nil)) (pa_cons pe_dnewK (pa_cons pe_str (pa_cons (pe_op op_mulS pe_str pe_int) (pa_cons (pe_op op_mulS pe_str pe_int) (pa_cons (pe_op op_mulS pe_str pe_int) (pa_cons (pe_op op_mulS pe_str pe_int) pa_nil)))))))))))))
      (pss_cons (ps_if (PW.pt (pw_or (pt_cmpR op_ne (pe_glob (v := .str "abcdefgh") (by rfl) T.c_ITEMS ⟨_, rfl⟩) pe_str (nomark _)) (pw_or1 (pt_cmpR (op_neD hr.units) (pe_lc (own := [("_law_value", 4)]) (g := gName 4) (by rfl) sc_law.nd (pi_list (pv 1)) (blkOk_by (own := [("_law_value", 4)]) (N := N_law) (sc := defScope s_law) (by decide +kernel)) (fun _ _ _ _ _ => pg_name (i := 4) sc_law.nd rfl (Or.inl rfl)) (fun _ _ _ _ _ => (pts_one (pt_not (pt_val (pe_callG G_Lright hg (hr.mono (by decide)) (by rfl) T.g_Lright T.F_Lright.kp T.b_Lright pass0 (pa_cons (pv 4) pa_nil)))))) (fun _ _ _ _ _ => (pv 4))) (pe_lst pa_nil) (nomark _)))))
        (pss_one (ps_ret pe_bl))
        pss_nil)
      (pss_cons (ps_for PassesOwn.never rfl (pi_range1 (by rfl) T.z_range (pa_cons (pe_callB (call_max2 rfl) (by rfl) T.z_max (by decide +kernel) (pa_cons pe_int (pa_cons (pe_callB (call_min2 rfl) (by rfl) T.z_min (by decide +kernel) (pa_cons pe_int (pa_cons (pe_callB call_len_seq (by rfl) T.z_len (by decide +kernel) (pa_cons (pv 0) pa_nil)) pa_nil))) pa_nil))) pa_nil)) (pg_name (i := 2) sc_law.nd rfl (Or.inl rfl))
        (pss_cons (ps_set (i := 3) sc_law.nd rfl (Or.inl rfl) (pe_call G_Lpool (hr.mono (by decide)) (by rfl) T.g_Lpool T.F_Lpool.kp T.b_Lpool .nil pass0 (pa_cons (pv 0) (pa_cons (pv 2) pa_nil))))
        (pss_cons (ps_set (i := 4) sc_law.nd rfl (Or.inl rfl) (pe_call G_Lprogram (hr.mono (by decide)) (by rfl) T.g_Lprogram T.F_Lprogram.kp T.b_Lprogram .nil pass0 (pa_cons (pv 3) (pa_cons pe_int (pa_cons pe_int pa_nil)))))
        (pss_cons (ps_if (pt_cmpR op_eq (pe_call G_Ltake (hr.mono (by decide)) (by rfl) T.g_Ltake T.F_Ltake.kp T.b_Ltake .nil pass0 (pa_cons (pv 3) (pa_cons pe_int pa_nil))) pe_int (nomark _))
          (pss_one (ps_set (i := 4) sc_law.nd rfl (Or.inl rfl) (pe_lower (pv 4))))
          pss_nil)
        (pss_cons (ps_set (i := 5) sc_law.nd rfl (Or.inl rfl) (pe_call G_Ltake (hr.mono (by decide)) (by rfl) T.g_Ltake T.F_Ltake.kp T.b_Ltake .nil pass0 (pa_cons (pv 3) (pa_cons (pe_op op_add (pe_callB call_len_str (by rfl) T.z_len (by decide +kernel) (pa_cons (pv 4) pa_nil)) pe_int) pa_nil))))
        (pss_cons (ps_set (i := 6) sc_law.nd rfl (Or.inl rfl) (pe_ix ix_list (pe_lst (pa_cons pe_str (pa_cons pe_str (pa_cons pe_str (pa_cons pe_str (pa_cons pe_str (pa_cons pe_str (pa_cons pe_str (pa_cons pe_str (pa_cons pe_str (pa_cons pe_str pa_nil))))))))))) (pe_call G_Ltake (hr.mono (by decide)) (by rfl) T.g_Ltake T.F_Ltake.kp T.b_Ltake .nil pass0 (pa_cons (pv 3) (pa_cons pe_int pa_nil))) (fun _ _ => rfl)))
        (pss_cons (ps_set (i := 7) sc_law.nd rfl (Or.inl rfl) (pe_op op_add_str (pe_op op_add_str (pe_slice sl_str (pv 4) po_none (po_some (pv 5))) (pv 6)) (pe_slice sl_str (pv 4) (po_some (pe_op op_add (pv 5) (pe_call G_Ltake (hr.mono (by decide)) (by rfl) T.g_Ltake T.F_Ltake.kp T.b_Ltake .nil pass0 (pa_cons (pv 3) (pa_cons pe_int pa_nil))))) po_none)))
        (pss_one (ps_if (PW.pt (pw_or (pt_not (pt_val (pe_callG G_Lright hg (hr.mono (by decide)) (by rfl) T.g_Lright T.F_Lright.kp T.b_Lright pass0 (pa_cons (pv 4) pa_nil)))) (pw_or1 (pt_not (pt_val (pe_callG G_Lright hg (hr.mono (by decide)) (by rfl) T.g_Lright T.F_Lright.kp T.b_Lright pass0 (pa_cons (pv 7) pa_nil)))))))
          (pss_one (ps_ret pe_bl))
          pss_nil)))))))))
      (pss_one (ps_ret pe_bl))))), ?_⟩
    refine ⟨le_line (by decide), fun l nl => ⟨le_line (by decide), fun t nt d nd => ?_⟩⟩
    refine ⟨"a", 400, rfl, rfl, mulOk1 (by decide +kernel) (by decide) (by decide), "a", 401, rfl, rfl, mulOk1 (by decide +kernel) (by decide) (by decide), "A", 400, rfl, rfl, mulOk1 (by decide +kernel) (by decide) (by decide), "B", 401, rfl, rfl, mulOk1 (by decide +kernel) (by decide) (by decide), le_line (show 11 ≤ 100000 by decide), fun S nS => ?_⟩
    have t1 := (same_new (o := .lst [.str "a"]) nl)
    have t2 := t1.trans (same_new (o := .tup [.str "a"]) nt)
    have t3 := t2.trans (same_new (o := .dK []) nd)
    have t4 := t3.trans (same_new (o := .lst (eleven l t d)) nS)
    have hS0 : (upd (upd (upd (upd H l (.lst [.str "a"])) t (.tup [.str "a"])) d (.dK [])) S (.lst (eleven l t d))) S = some (.lst (eleven l t d)) := upd_same
    have all := eleven_vv (K := K) (H := upd (upd (upd (upd H l (.lst [.str "a"])) t (.tup [.str "a"])) d (.dK [])) S (.lst (eleven l t d))) ((same_new nS) _ _ ((same_new nd) _ _ ((same_new nt) _ _ upd_same))) ((same_new nS) _ _ ((same_new nd) _ _ upd_same)) ((same_new nS) _ _ upd_same)
    refine ⟨rfl, false, rfl, iteF ?_⟩
    refine ⟨.ref S, rfl, S, rfl, ⟨_, SqL.of hS0⟩, fun D hD => ?_⟩
    refine lc_it (walk_list (xs := eleven l t d)) (fun i H3 => Same (upd (upd (upd (upd H l (.lst [.str "a"])) t (.tup [.str "a"])) d (.dK [])) S (.lst (eleven l t d))) H3 ∧ H3 D = some (.lst [])) ?_ (fun i H3 _ hp => SqL.of (hp.1 _ _ hS0)) ?_ ?_
    · exact ⟨same_new hD, upd_same⟩
    · rintro i x H3 H4 hi ⟨sm, eD⟩ ⟨rfl, hxi⟩
      obtain ⟨z, hz⟩ := all x (List.mem_of_getElem? hxi)
      exact ⟨rfl, x, rfl, x, z, rfl, hz.same sm, fun H5 s5 => ⟨true, rfl, iteF ⟨sm.trans s5, s5 _ _ eD⟩⟩⟩
    rintro Hc ⟨smc, eDc⟩
    refine ⟨Nat.zero_le _, fun o no => ⟨.list [], .list [], .lst (SqL.of ((same_new no) _ _ eDc)) .nil, .lst (SqL.of upd_same) .nil, by decide +kernel, by decide +kernel, _, rfl, ?_⟩⟩
    rw [show PyData.eqv (.list []) (.list []) = true from by decide +kernel]
    refine iteF ?_
    have smF : Same H (upd Hc o (.lst [])) := (t4.trans smc).trans (same_new no)
    refine ⟨.ref sc, rfl, sc, _, rfl, .inl (smF.seq hS), _, _, rfl, _, _, rfl, _, rfl, ?_, ?_, for_it walk_range (fun i σ H3 => ∃ y2 y3 y4 y5 y6 y7 : Option V, σ = [some (.ref sc), some (.ref S), y2, y3, y4, y5, y6, y7] ∧ Same H H3) ?_ (fun _ _ _ _ _ => trivial) ?_ ?_⟩
    · split <;> omega
    · rw [List.length_map]
      split
      · split <;> omega
      · omega
    · exact ⟨none, none, none, none, none, none, rfl, smF⟩
    · rintro i x σ H3 H3' hi ⟨y2, y3, y4, y5, y6, y7, rfl, sm0⟩ ⟨rfl, rfl⟩
      have hi22 : i < 22 := by
        rw [List.length_map] at hi
        split at hi
        · split at hi <;> omega
        · omega
      refine ⟨.ref sc, rfl, .int (0 + (i : Nat)), rfl, sc, 0 + (i : Nat), ns, rfl, sm0.seq hS, by omega, by omega, by omega, fun H1 p sm1 np hP1 => ?_⟩
      refine ⟨.ref p, rfl, p, 30, 8, rfl, hP1, by decide, by decide, by decide, by decide, fun H2 z hP2 b2 lz cz => ?_⟩
      have cz16 : ∀ c ∈ cs z, c ∈ abc ∧ c ∈ cs "abcdefghABCDEFGH" := fun c h => let16 c (cz c h)
      have f2 : z.length ≤ 90 ∧ ∀ c ∈ cs z, c ∈ abc := ⟨by omega, fun c h => (cz16 c h).1⟩
      have f1 : (Txt.lower z).length ≤ 90 ∧ ∀ c ∈ cs (Txt.lower z), c ∈ abc := low_ok (by omega) fun c h => (cz16 c h).2
      refine ⟨.ref p, rfl, p, 2, rfl, hP2, by decide, by decide, fun n2 m2 e2 h1 h2 h3 h4 h5 => ⟨rfl, _, rfl, ite2 (fun _ => ⟨.str z, rfl, ⟨_, rfl⟩, z, rfl, rfl, by omega, ?A⟩) (fun _ => ?B)⟩⟩
      case' A => (revert f1; generalize Txt.lower z = zz; intro ff)
      case' B => (revert f2; generalize z = zz; intro ff)
      all_goals
        (have hP3 : Pool (upd H2 p (.lst [.int n2, .int m2])) p := ⟨n2, m2, upd_same, h1, h2, h3⟩
         refine ⟨.ref p, rfl, .str zz, rfl, zz, rfl, le_line (by omega), _, _, rfl, rfl, p, zz.length + 1, rfl, hP3, by omega, by omega, fun n3 m3 sp a1 a2 a3 a4 a5 => ?_⟩
         refine ⟨le_line (by decide), fun L nL => ?_⟩
         have Lp : L ≠ p := fun e => by rw [e, upd_same] at nL; cases nL
         have nL1 : H1 L = none := by
           cases e : H1 L with
           | none => rfl
           | some o =>
             have := b2 L o Lp e
             rw [upd_ne Lp, upd_ne Lp, this] at nL
             cases nL
         have hP4 : Pool (upd (upd (upd H2 p (.lst [.int n2, .int m2])) p (.lst [.int n3, .int m3])) L (.lst (signs.map V.str))) p := ⟨n3, m3, by rw [upd_ne Lp.symm, upd_same], a1, a2, a3⟩
         refine ⟨.ref p, rfl, p, 10, rfl, hP4, by decide, by decide, fun n4 m4 e4 c1 c2 c3 c4 c5 => ?_⟩
         obtain ⟨j, rfl⟩ : ∃ j : Nat, e4 = j := ⟨e4.toNat, by omega⟩
         obtain ⟨sgn, hsg⟩ := lt_of_get (xs := signs) (n := 10) rfl (show j < 10 by omega)
         obtain ⟨ls, cc⟩ := signs_ok sgn (List.mem_of_getElem? hsg)
         refine ⟨L, signs.map V.str, j, .str sgn, rfl, rfl, SqL.of (by rw [upd_ne Lp]; exact upd_same), atI_nat (by rw [List.getElem?_map, hsg]; rfl), ?_⟩
         have k1 := cut_le zz none (some sp)
         have hff := ff.1
         have hP5 : Pool (upd (upd (upd (upd H2 p (.lst [.int n2, .int m2])) p (.lst [.int n3, .int m3])) L (.lst (signs.map V.str))) p (.lst [.int n4, .int m4])) p := ⟨n4, m4, upd_same, c1, c2, c3⟩
         refine ⟨.str zz, rfl, .int sp, rfl, sp, rfl, zz, rfl, le_line (by omega), .str sgn, rfl, _, _, rfl, rfl, le_line (by omega), .str zz, rfl, .int sp, rfl, .ref p, rfl, p, 2, rfl, hP5, by decide, by decide, fun n5 m5 e5 d1 d2 d3 d4 d5 => ?_⟩
         have k2 := cut_le zz (some (sp + e5)) none
         have k3 := len_app (cutS zz none (some sp)) sgn
         refine ⟨_, _, rfl, rfl, _, rfl, zz, rfl, le_line (by omega), _, _, rfl, rfl, le_line (by omega), ?_⟩
         have hB1 : ((cutS zz none (some sp) ++ sgn) ++ cutS zz (some (sp + e5)) none).length ≤ 1000 := by rw [len_app]; omega
         have hB2 : ∀ c ∈ cs ((cutS zz none (some sp) ++ sgn) ++ cutS zz (some (sp + e5)) none), c ∈ abc := by
           intro c hc
           rw [cs_app, cs_app] at hc
           rcases List.mem_append.mp hc with hc | hc
           · rcases List.mem_append.mp hc with hc | hc
             · exact ff.2 c (cut_mem hc)
             · exact cc c hc
           · exact ff.2 c (cut_mem hc)
         refine ⟨.str zz, rfl, .str zz, _, rfl, vv_str (by omega) ff.2, fun H6 s6 => ⟨true, rfl, iteF ⟨.str ((cutS zz none (some sp) ++ sgn) ++ cutS zz (some (sp + e5)) none), rfl, .str ((cutS zz none (some sp) ++ sgn) ++ cutS zz (some (sp + e5)) none), _, rfl, vv_str hB1 hB2, fun H7 s7 => ⟨true, rfl, iteF ⟨_, _, _, _, _, _, rfl, ?_⟩⟩⟩⟩⟩
         exact sm0.trans ((But.same sm1 np (((b2.put.put).new nL1).put.put)).trans (s6.trans s7)))
    · rintro σ H3 ⟨y2, y3, y4, y5, y6, y7, rfl, sm0⟩
      exact q _
end
end E1

set_option Elab.async false
set_option linter.all false
set_option maxRecDepth 100000
namespace E1
open PySem PySem.Spec PyProof.Rows L2 Own Exn Mth Vld
theorem all_mk {l : PySem.W.OpenLaw} {w : World} {K : PySem.W.Frag} {mg : Str → Option Value} {fa : Addr} {a : Ad} (T : Txt K mg a) (hfa : mg "law" = some (.ref fa)) (nsP : PySem.W.subIn K (.ref a.C_InvalidProgram) (.type "StopIteration") = some false)
    (hn : PySem.W.specialIn K (.builtin "object.__class__") "__get__" = some (some (.builtin "getset_descriptor.__get__"))) (hk : PySem.W.takesIn K (.builtin "object.__class__") = some true)
    (lW : PySem.W.kitOne K (.ref a.C_InvalidWord) (.ref a.C_LeakError) = some true) (lP : PySem.W.kitOne K (.ref a.C_InvalidProgram) (.ref a.C_LeakError) = some true) (ww : PySem.W.exmOne K (.ref a.C_InvalidWord) (.ref a.C_InvalidWord) = some true)
    (pw : PySem.W.exmOne K (.ref a.C_InvalidProgram) (.ref a.C_InvalidWord) = some false) (pp : PySem.W.exmOne K (.ref a.C_InvalidProgram) (.ref a.C_InvalidProgram) = some true) :
    ∃ fd : FuncData, (∀ (s : Shared) (v : Value), BindsTo s fd ⟨[v], []⟩ [("_law_script", v)]) ∧ ∀ base : Heap, K.In base → base.Ns mainGlobals mg → FnG l.prog w K mg base CX0 12 fa fd ["_law_script"] (sp_law K) := by
  have e := hfa.symm.trans T.g_law
  cases e
  refine ⟨a.d_law, fun s v => ?_, fun base _ _ => ok_law T ⟨nsP, hn, hk, lW, lP, ww, pw, pp⟩⟩
  obtain ⟨oc, od, kV, doc, pm, an, cdv, ct, osl, hfd, lk, hcd⟩ := T.F_law.ex
  rw [hfd]
  exact .of_eq rfl
end E1
open PySem PySem.W PyProof.Rows
set_option maxHeartbeats 0 in
theorem PySem.Challenge.cw_leakyqueue_k01_words_and_programs_valida_holds : PySem.Challenge.rw_leakyqueue_k01_words_and_programs_valida.Holds := by
  w_on; o_law; k_head; (case hw => w_witness2)
  k_fill
  refine Own.walk_G (l := PySem.Challenge.rw_leakyqueue_k01_words_and_programs_valida) (n := 63) (k := 12) (x := "_law_script") (CX := fun _ => L2.CX0) (sp := fun w => E1.sp_law _) rfl (by decide) rfl ⟨rfl, by decide, by decide⟩ (fun w h Y => PySem.W.kIn_of Y) ?F (fun _ _ a ns hl _ hS => ⟨a, ns, rfl, hS, hl, fun _ => rfl⟩) (fun _ _ _ _ _ h => h)
  case F =>
    intro w mg fa h KX G hmg
    refine' E1.all_mk (E1.txt_mk KX G ?t1 ?a1 ?l1 ?c1 ?k1 ?a2 ?l2 ?c2 ?k2 ?a3 ?l3 ?c3 ?k3 ?a4 ?l4 ?c4 ?k4 ?a5 ?l5 ?c5 ?k5 ?a6 ?l6 ?c6 ?k6 ?a7 ?l7 ?c7 ?k7 ?a8 ?l8 ?c8 ?k8 ?a9 ?l9 ?c9 ?k9 ?a10 ?l10 ?c10 ?k10 ?a11 ?l11 ?c11 ?k11 ?a12 ?l12 ?c12 ?k12 ?a13 ?l13 ?c13 ?k13 ?a14 ?l14 ?c14 ?k14 ?a15 ?l15 ?c15 ?k15 ?a16 ?l16 ?c16 ?k16 ?a17 ?l17 ?c17 ?k17 ?a18 ?l18 ?c18 ?k18 ?a19 ?l19 ?c19 ?k19 ?a20 ?l20 ?c20 ?k20 ?a21 ?l21 ?c21 ?k21 ?a22 ?l22 ?c22 ?k22 ?a23 ?l23 ?c23 ?k23 ?a24 ?l24 ?c24 ?k24 ?a25 ?l25 ?c25 ?k25 ?a26 ?l26 ?c26 ?k26 ?v_ITEMS ?v_MAX_LENGTH ?v_STEPS ?z_isinstance ?z_str ?z_len ?z_max ?z_int ?z_range ?z_list ?z_repr ?z_min ?n_LeakError ?n_InvalidWord ?i_InvalidWord ?m_InvalidWord ?d_InvalidWord ?h_InvalidWord ?n_InvalidProgram ?i_InvalidProgram ?m_InvalidProgram ?d_InvalidProgram ?h_InvalidProgram ?n_LimitExceeded ?i_LimitExceeded ?m_LimitExceeded ?d_LimitExceeded ?h_LimitExceeded) hmg ?nsP ?hn ?hk ?lW ?lP ?ww ?pw ?pp
    (case a1 => k_is); (case l1 => k_is); (case c1 => k_is); (case k1 => k_is); (case a2 => k_is); (case l2 => k_is); (case c2 => k_is); (case k2 => k_is); (case a3 => k_is); (case l3 => k_is); (case c3 => k_is); (case k3 => k_is); (case a4 => k_is); (case l4 => k_is); (case c4 => k_is); (case k4 => k_is); (case a5 => k_is); (case l5 => k_is); (case c5 => k_is); (case k5 => k_is); (case a6 => k_is); (case l6 => k_is); (case c6 => k_is); (case k6 => k_is); (case a7 => k_is); (case l7 => k_is); (case c7 => k_is); (case k7 => k_is); (case a8 => k_is); (case l8 => k_is); (case c8 => k_is); (case k8 => k_is); (case a9 => k_is); (case l9 => k_is); (case c9 => k_is); (case k9 => k_is); (case a10 => k_is); (case l10 => k_is); (case c10 => k_is); (case k10 => k_is); (case a11 => k_is); (case l11 => k_is); (case c11 => k_is); (case k11 => k_is); (case a12 => k_is); (case l12 => k_is); (case c12 => k_is); (case k12 => k_is); (case a13 => k_is); (case l13 => k_is); (case c13 => k_is); (case k13 => k_is); (case a14 => k_is); (case l14 => k_is); (case c14 => k_is); (case k14 => k_is); (case a15 => k_is); (case l15 => k_is); (case c15 => k_is); (case k15 => k_is); (case a16 => k_is); (case l16 => k_is); (case c16 => k_is); (case k16 => k_is); (case a17 => k_is); (case l17 => k_is); (case c17 => k_is); (case k17 => k_is); (case a18 => k_is); (case l18 => k_is); (case c18 => k_is); (case k18 => k_is); (case a19 => k_is); (case l19 => k_is); (case c19 => k_is); (case k19 => k_is); (case a20 => k_is); (case l20 => k_is); (case c20 => k_is); (case k20 => k_is); (case a21 => k_is); (case l21 => k_is); (case c21 => k_is); (case k21 => k_is); (case a22 => k_is); (case l22 => k_is); (case c22 => k_is); (case k22 => k_is); (case a23 => k_is); (case l23 => k_is); (case c23 => k_is); (case k23 => k_is); (case a24 => k_is); (case l24 => k_is); (case c24 => k_is); (case k24 => k_is); (case a25 => k_is); (case l25 => k_is); (case c25 => k_is); (case k25 => k_is); (case a26 => k_is); (case l26 => k_is); (case c26 => k_is); (case k26 => k_is); (case v_ITEMS => k_is); (case v_MAX_LENGTH => k_is); (case v_STEPS => k_is); (case z_isinstance => k_is); (case z_str => k_is); (case z_len => k_is); (case z_max => k_is); (case z_int => k_is); (case z_range => k_is); (case z_list => k_is); (case z_repr => k_is); (case z_min => k_is); (case n_LeakError => k_is); (case n_InvalidWord => k_is); (case i_InvalidWord => k_is); (case m_InvalidWord => k_is); (case d_InvalidWord => k_is); (case h_InvalidWord => kernel_rfl); (case n_InvalidProgram => k_is); (case i_InvalidProgram => k_is); (case m_InvalidProgram => k_is); (case d_InvalidProgram => k_is); (case h_InvalidProgram => kernel_rfl); (case n_LimitExceeded => k_is); (case i_LimitExceeded => k_is); (case m_LimitExceeded => k_is); (case d_LimitExceeded => k_is); (case h_LimitExceeded => kernel_rfl); (case t1 => k_is)
    (case nsP => kernel_rfl); (case hn => kernel_rfl); (case hk => kernel_rfl); (case lW => kernel_rfl); (case lP => kernel_rfl); (case ww => kernel_rfl); (case pw => kernel_rfl); (case pp => kernel_rfl)
