import PyProof.Rows.All
import Wide.All
import OpenK.AllK
import Wide.FinOn
import HandS.ForMost
import HandS.IsInst
import HandS.TupAny
import HandS.TupMul
import HandS.Wide
import PyProof.ReprRoads
import KE.GoesEnum
import PyProof.EqKinds
import HandS.FStrTup
import PyProof.FitsInt
import HandS.Walk
import PyProof.NeKinds
import HandS.Set
import HandS.SetBool
import HandS.SetFor
import PyProof.Rows.SortShellAny
import HandS.TupSets
import HandS.Flow
import PyProof.NsCount
import PySem.Challenge.RW_heldapart_k02_names_in_sayings
set_option Elab.async false
set_option linter.all false
set_option maxRecDepth 100000
set_option maxHeartbeats 4000000
/-! Calls that carry the word «no repr is under way», so that repr of data is known. -/
namespace L2.Hx
open PySem PySem.Spec PyProof.Rows

/-- FnOk, for callers around whom no guard stands -/
structure FnG (P : Program) (w : World) (K : PySem.W.Frag) (mg : Str → Option Value) (base : Heap) (CX : CXT) (k : Nat) (f : Addr) (fd : FuncData) (ps : List Str) (sp : Sp) : Prop where
  ln : ∀ vs H Q E, sp vs H Q E → vs.length = ps.length
  go : ∀ (A : Around) (outer : List Env) (s : Shared) (H : Hp) (args : Args) (us : List Value) (vs : List V) (Q : VK) (E : XK), A.guards = some [] → Room k A → Env0 P w K mg base A outer s H →
    BindsTo s fd args (ps.zip us) → Vals vs us → sp vs H Q E → codeAny (model P w) A (.call (.ref f) args) (CR CX outer P w H s Q E) s

section
variable {P : Program} {w : World} {K : PySem.W.Frag} {mg : Str → Option Value} {base : Heap} {CX : CXT} {f : Addr} {fd : FuncData} {ps : List Str} {sp : Sp} {k : Nat}
theorem FnG.ofOk (F : FnOk P w K mg base CX k f fd ps sp) : FnG P w K mg base CX k f fd ps sp :=
  ⟨F.len, fun A outer s H args us vs Q E _ hr e b r h => F.run A outer s H args us vs Q E hr e b r h⟩
theorem FnG.mono {j : Nat} (F : FnG P w K mg base CX j f fd ps sp) (h : j ≤ k) : FnG P w K mg base CX k f fd ps sp :=
  ⟨F.ln, fun A outer s H args us vs Q E hg hr => F.go A outer s H args us vs Q E hg (hr.mono h)⟩
theorem FnG.imp {sp' : Sp} (F : FnG P w K mg base CX k f fd ps sp) (h : ∀ vs H Q E, sp' vs H Q E → sp vs H Q E) : FnG P w K mg base CX k f fd ps sp' :=
  ⟨fun vs H Q E q => F.ln vs H Q E (h _ _ _ _ q), fun A outer s H args us vs Q E hg hr e b r q => F.go A outer s H args us vs Q E hg hr e b r (h _ _ _ _ q)⟩
/-- a def by its body -/
theorem fng_of {name qual : Str} {params : Arguments} {body : List Stmt} {scope : Scope} {dV kV doc pm cdv ct oc : Value} {an od : Option Addr} {osl : Array (Option Value)} {N : List Str}
    (lk : K.lookup f = some ⟨oc, od, .func (PySem.W.fnOf name qual params body scope dV kV doc pm an cdv ct), osl⟩) (hcd : PySem.W.codeIn K cdv qual = true) (S : FnScope N ps scope)
    (hn : ∀ vs H Q E, sp vs H Q E → vs.length = ps.length)
    (hbody : ∀ (A : Around) (outer : List Env) (s : Shared) (H : Hp) (vs : List V) (Q : VK) (E : XK), A.guards = some [] → Room k (A.deeper (envOfC qual scope s.heap.objs.size f cdv)) → sp vs H Q E →
      ∃ t, PSs (cxOf CX P w K mg base N qual scope f cdv A outer s H E) body t ∧ t { nx := fun _ H' => Q .non H', rt := Q } (start N vs) H) :
    FnG P w K mg base CX (k + 1) f (PySem.W.fnOf name qual params body scope dV kV doc pm an cdv ct) ps sp := by
  refine ⟨hn, fun A outer s H args us vs Q E hgd hr en hbd rv hsp => ?_⟩
  have hlen := hn _ _ _ _ hsp
  have kin : K.In s.heap := en.mod.kin.keeps fun b o q => (en.bs b o q).1
  have nol : s.heap.NoLimit := en.mod.nolimit.keeps fun b o q => (en.bs b o q).1
  have kinds : ∀ y ∈ ps.zip us, scope.names.lookup y.1 = some .local ∨ (scope.names.lookup y.1 = some .cell ∧ ((cellsFrom (s.heap.objs.size + 1) scope.names []).lookup y.1).isSome = true) := fun ⟨n, v⟩ hy =>
    (S.par n (List.of_mem_zip hy).1).elim (fun z => .inl z) fun z => .inr ⟨z, PySem.W.cellsFrom_some _ _ _ (.inl z)⟩
  refine codeAny_call_function hr.depth (kin _ _ lk) rfl S.co S.gen rfl (PySem.W.codeRec_of kin hcd) (hbd _ _ _ _ ?_)
  refine wpAny_newFunctionEnv_cells S.kind kinds fun env he s1 x => ?_
  subst he
  refine ⟨nol.keeps x.toInCall.keep, codeAny_func ?_⟩
  obtain ⟨t, ht, hq⟩ := hbody A outer s H vs Q E hgd (hr.deeper _) hsp
  have J0 := inv_start (CX := CX) (P := P) (w := w) (K := K) (mg := mg) (base := base) (E := E) S hr.hd en hlen rv x
  refine wpAny_mono (ht.run [] s1 (start N vs) H _ J0 hq) (fun fl s2 hs => ?_) fun e s2 hs => hs
  cases fl with
  | ret u => obtain ⟨v, σ', H', J, r, q⟩ := hs; exact ⟨v, H', J.os, J.bare, J.base, J.hok, r, q⟩
  | next => obtain ⟨σ', H', J, q⟩ := hs; exact ⟨V.non, H', J.os, J.bare, J.base, J.hok, rfl, q⟩
  | brk => obtain ⟨_, _, _, q⟩ := hs; exact q.elim
  | cont => obtain ⟨_, _, _, q⟩ := hs; exact q.elim
/-- a def of the text that lets nothing out -/
theorem okG {x qual : Str} {st : Stmt} {N : List Str} (F : Fun K x qual st f fd) (S : FnScope N ps (defScope st)) (hn : ∀ vs H Q E, sp vs H Q E → vs.length = ps.length)
    (hbody : ∀ (cdv : Value) (A : Around) (outer : List Env) (s : Shared) (H : Hp) (vs : List V) (Q : VK) (E : XK), (A.deeper (envOfC qual (defScope st) s.heap.objs.size f cdv)).guards = some [] → Room k (A.deeper (envOfC qual (defScope st) s.heap.objs.size f cdv)) → sp vs H Q E →
      ∃ t, PSs (cxOf CX0 P w K mg base N qual (defScope st) f cdv A outer s H E).nox (defBody st) t ∧ t { nx := fun _ H' => Q .non H', rt := Q } (start N vs) H) :
    FnG P w K mg base CX0 (k + 1) f fd ps sp := by
  obtain ⟨oc, od, kV, doc, pm, an, cdv, ct, osl, rfl, lk, hcd⟩ := F.ex
  refine fng_of lk hcd S hn fun A outer s H vs Q E hgd hr hsp => ?_
  obtain ⟨t, h, q⟩ := hbody cdv A outer s H vs Q E hgd hr hsp
  exact ⟨t, h.nox, q⟩
end

section
variable {X : Cx} {CX : CXT} {k : Nat} {f : Addr} {fd : FuncData} {ps ks : List Str} {sp : Sp} {dvs : List V} {ds : List Value} {E : XK} {x : Str} {p pos : Pos} {e : Expr} {es : List Expr} {kws : List Keyword} {t tk : TA}
/-- the callee runs -/
theorem run_g {pins : List (Addr × Obj)} {σ : St} {H : Hp} {s : Shared} {Q : VK} {us : List Value} {vs : List V} (F : FnG X.prog X.w X.K X.mg X.base CX k f fd ps sp) (hgd : X.A.guards = some []) (hr : Room k X.A) (hb : Binds X.K fd ps ds) (hd : Vals dvs ds) (hx : Passes CX X E)
    (I : Inv X pins σ H s) (r : Vals vs us) (h : sp (vs ++ dvs) H Q E) : wpAny (model X.prog X.w) X.A (call (.ref f) us) (EP X pins σ Q) X.xe s := by
  have rd : Vals (vs ++ dvs) (us ++ ds) := r.append hd
  have hlen : (us ++ ds).length = ps.length := rd.length.symm.trans (F.ln _ _ _ _ h)
  refine wpAny_call (codeAny_mono (F.go X.A X.stack s H ⟨us, []⟩ (us ++ ds) (vs ++ dvs) Q E hgd hr I.env0 (hb s us I.kIn hlen) rd h) fun z s2 hq => ?_)
  cases z with
  | error er => exact hx pins σ H s er s2 I hq
  | ok fl =>
    cases fl with
    | ret u => exact I.after hq
    | next => exact hq.elim
    | brk => exact hq.elim
    | cont => exact hq.elim
theorem pe_g (F : FnG X.prog X.w X.K X.mg X.base CX k f fd ps sp) (hgd : X.A.guards = some []) (hr : Room k X.A) (hg : Gl X x) (hm : X.mg x = some (.ref f)) (hk : PySem.W.keepIn X.K (.ref f) = true) (hb : Binds X.K fd ps ds) (hd : Vals dvs ds) (hx : Passes CX X E)
    (ha : PA X (e :: es) t) (hdb : (x == ("__debug__" : Str)) = false := by decide) (he : starEach (e :: es) X.env = (false, eval e X.env) :: starEach es X.env := by rfl) (hpl : (backTo pos (starEach es X.env)).any (·.1) = false := by rfl) :
    PE X (.Call (.Name x p) (e :: es) [] pos) (tCall sp dvs E t) := ⟨fun pins s σ H Q I h =>
  wpAny_Call_Name_kw (ld_glob I hg hm (PySem.W.callWith_K (h₀ := X.base) I.ok.mod.kin hk (thn (ha.run pos pins s σ H _ I h) fun us s1 ⟨vs, H1, I1, r, q⟩ => ⟨I1.kIn, run_g F hgd hr hb hd hx I1 r q⟩) he hpl) hdb)⟩
theorem pe_g0 (F : FnG X.prog X.w X.K X.mg X.base CX k f fd ps sp) (hgd : X.A.guards = some []) (hr : Room k X.A) (hg : Gl X x) (hm : X.mg x = some (.ref f)) (hk : PySem.W.keepIn X.K (.ref f) = true) (hb : Binds X.K fd ps ds) (hd : Vals dvs ds) (hx : Passes CX X E)
    (hdb : (x == ("__debug__" : Str)) = false := by decide) : PE X (.Call (.Name x p) [] [] pos) (tCall sp dvs E tNil) := ⟨fun pins s σ H Q I h =>
  wpAny_Call_Name_kw (ld_glob I hg hm (PySem.W.callWith_K0 I.kIn hk (run_g (us := []) F hgd hr hb hd hx I .nil h)) hdb)⟩
/-- f(k = v, ..) by names alone: hb puts the values in the parameters' order -/
def KwBinds (K : PySem.W.Frag) (fd : FuncData) (ps ks : List Str) (g : {α : Type} → List α → List α) : Prop :=
  ∀ (s : Shared) (ws : List Value), K.In s.heap → ws.length = ps.length → BindsTo s fd ⟨[], ks.zip ws⟩ (ps.zip (g ws))
def tKw (sp : Sp) (g : {α : Type} → List α → List α) (n : Nat) (E : XK) (tk : TA) : TE := fun σ H Q => tk σ H fun zs H2 => zs.length = n ∧ sp (g zs) H2 Q E
theorem pe_kw {g : {α : Type} → List α → List α} (F : FnG X.prog X.w X.K X.mg X.base CX k f fd ps sp) (hgd : X.A.guards = some []) (hr : Room k X.A) (hg : Gl X x) (hm : X.mg x = some (.ref f)) (hk : PySem.W.keepIn X.K (.ref f) = true) (hb : KwBinds X.K fd ps ks g) (hx : Passes CX X E)
    (hkw : PK X kws tk) (hrel : ∀ {zs : List V} {ws : List Value}, Vals zs ws → Vals (g zs) (g ws)) (hall : (backToKw pos (keywordEach kws X.env)).all (·.1.isSome) = true := by rfl) (hks : (backToKw pos (keywordEach kws X.env)).filterMap (·.1) = ks := by rfl) (hdb : (x == ("__debug__" : Str)) = false := by decide)
    (hpl : ((backTo pos (starEach [] X.env)).any (·.1) || (backToKw pos (keywordEach kws X.env)).any (·.1.isNone)) = false := by rfl) :
    PE X (.Call (.Name x p) [] kws pos) (tKw sp g ps.length E tk) := by
  refine ⟨fun pins s σ H Q I h => wpAny_Call_Name_kw (ld_glob I hg hm ?_ hdb)⟩
  refine PySem.W.callWith_KW0 (h₀ := X.base) I.ok.mod.kin hk hall ?_ hpl
  refine thn (hkw.run pos pins s σ H _ I h) fun ws s2 ⟨zs, H2, I2, rz, hz, q2⟩ => ⟨I2.kIn, ?_⟩
  rw [hks]
  have rg := hrel rz
  refine wpAny_call (codeAny_mono (F.go X.A X.stack s2 H2 ⟨[], ks.zip ws⟩ (g ws) (g zs) Q E hgd hr I2.env0 (hb s2 ws I2.kIn (rz.length.symm.trans hz)) rg q2) fun z s3 hq => ?_)
  cases z with
  | error er => exact hx pins σ H2 s2 er s3 I2 hq
  | ok fl =>
    cases fl with
    | ret u => exact I2.after hq
    | next => exact hq.elim
    | brk => exact hq.elim
    | cont => exact hq.elim
end
end L2.Hx

/-! Data of any depth, dicts too, over a part G of the tracked heap; repr of data. -/
namespace L2.Hx
open PySem PySem.Spec PyProof.Rows

def keyD : Key → PyData
  | .inl i => .int i
  | .inr x => .str x
mutual
inductive Da (K : PySem.W.Frag) (G : Hp) : V → PyData → Prop
  | non : Da K G .non .none
  | bl (b : Bool) : Da K G (.bl b) (.bool b)
  | int (i : Int) : Da K G (.int i) (.int i)
  | str (x : Str) : Da K G (.str x) (.str x)
  | lst {a : Addr} {xs : List V} {ds : List PyData} : G a = some (.lst xs) → DaAll K G xs ds → Da K G (.ref a) (.list ds)
  | tup {a : Addr} {xs : List V} {ds : List PyData} : SqT K G a xs → DaAll K G xs ds → Da K G (.ref a) (.tuple ds)
  | dct {a : Addr} {kvs : List (Key × V)} {ds : List PyData} : G a = some (.dK kvs) → DaAll K G (kvs.map (·.2)) ds → Da K G (.ref a) (.dict ((kvs.map fun p => keyD p.1).zip ds))
inductive DaAll (K : PySem.W.Frag) (G : Hp) : List V → List PyData → Prop
  | nil : DaAll K G [] []
  | cons {v : V} {vs : List V} {d : PyData} {ds : List PyData} : Da K G v d → DaAll K G vs ds → DaAll K G (v :: vs) (d :: ds)
end
section
variable {K : PySem.W.Frag} {G G' : Hp}
theorem DaAll.length : ∀ {vs : List V} {ds : List PyData}, DaAll K G vs ds → vs.length = ds.length
  | _, _, .nil => rfl
  | _, _, .cons _ t => by rw [List.length_cons, List.length_cons, DaAll.length t]
theorem sameT {a : Addr} {xs : List V} (e : Same G G') (h : SqT K G a xs) : SqT K G' a xs := by
  rcases h with (q | ⟨o, q⟩) | q
  · exact .inl (.inl (e _ _ q))
  · exact .inl (.inr ⟨o, e _ _ q⟩)
  · exact .inr q
mutual
theorem Da.mono (e : Same G G') : ∀ {v : V} {d : PyData}, Da K G v d → Da K G' v d
  | _, _, .non => .non
  | _, _, .bl b => .bl b
  | _, _, .int i => .int i
  | _, _, .str x => .str x
  | _, _, .lst h t => .lst (e _ _ h) (DaAll.mono e t)
  | _, _, .tup h t => .tup (sameT e h) (DaAll.mono e t)
  | _, _, .dct h t => .dct (e _ _ h) (DaAll.mono e t)
theorem DaAll.mono (e : Same G G') : ∀ {vs : List V} {ds : List PyData}, DaAll K G vs ds → DaAll K G' vs ds
  | _, _, .nil => .nil
  | _, _, .cons h t => .cons (Da.mono e h) (DaAll.mono e t)
end
theorem DaAll.append : ∀ {vs ws : List V} {ds es : List PyData}, DaAll K G vs ds → DaAll K G ws es → DaAll K G (vs ++ ws) (ds ++ es)
  | _, _, _, _, .nil, s => s
  | _, _, _, _, .cons h t, s => .cons h (DaAll.append t s)
theorem DaAll.get : ∀ {vs : List V} {ds : List PyData} {i : Nat} {v : V}, DaAll K G vs ds → vs[i]? = some v → ∃ d, ds[i]? = some d ∧ Da K G v d
  | _, _, 0, _, .cons h t, e => by
    rw [List.getElem?_cons_zero] at e
    cases e
    exact ⟨_, rfl, h⟩
  | _, _, i + 1, v, .cons h t, e => by
    rw [List.getElem?_cons_succ] at e ⊢
    exact DaAll.get t e
theorem DaAll.mem {vs : List V} {ds : List PyData} {v : V} (h : DaAll K G vs ds) (m : v ∈ vs) : ∃ d, d ∈ ds ∧ Da K G v d := by
  obtain ⟨i, e⟩ := List.mem_iff_getElem?.mp m
  obtain ⟨d, e2, q⟩ := h.get e
  exact ⟨d, List.mem_of_getElem? e2, q⟩
theorem DaAll.take : ∀ {vs : List V} {ds : List PyData} (n : Nat), DaAll K G vs ds → DaAll K G (vs.take n) (ds.take n)
  | _, _, 0, _ => .nil
  | _, _, _ + 1, .nil => .nil
  | _, _, n + 1, .cons h t => .cons h (DaAll.take n t)
theorem DaAll.drop : ∀ {vs : List V} {ds : List PyData} (n : Nat), DaAll K G vs ds → DaAll K G (vs.drop n) (ds.drop n)
  | _, _, 0, h => h
  | _, _, _ + 1, .nil => .nil
  | _, _, n + 1, .cons _ t => DaAll.drop n t
theorem DaAll.rep {v : V} {d : PyData} (h : Da K G v d) : ∀ n : Nat, DaAll K G (List.replicate n v) (List.replicate n d)
  | 0 => .nil
  | n + 1 => .cons h (DaAll.rep h n)
theorem DaAll.set {v : V} {d : PyData} (h : Da K G v d) : ∀ {vs : List V} {ds : List PyData} (i : Nat), DaAll K G vs ds → DaAll K G (vs.set i v) (ds.set i d)
  | _, _, _, .nil => .nil
  | _, _, 0, .cons _ t => .cons h t
  | _, _, i + 1, .cons q t => .cons q (DaAll.set h i t)
theorem DaAll.flat {vs : List V} {ds : List PyData} (h : DaAll K G vs ds) : ∀ n : Nat, DaAll K G (List.replicate n vs).flatten (List.replicate n ds).flatten
  | 0 => .nil
  | n + 1 => by
    rw [List.replicate_succ, List.replicate_succ, List.flatten_cons, List.flatten_cons]
    exact h.append (DaAll.flat h n)
end

theorem pairs_keys {P : Program} {w : World} : ∀ {es : List DictEntry} {kvs : List (Key × V)} {vs : List (Key × Value)}, KV kvs vs → Pairs (mixKind P w) es vs →
    Vals (kvs.map fun p => kV p.1) (es.map (·.key)) ∧ Vals (kvs.map (·.2)) (es.map (·.val))
  | _, _, _, .nil, .nil => ⟨.nil, .nil⟩
  | e :: es, (k, v) :: kvs, (k', u) :: vs, .cons ⟨r1, r2⟩ t, .cons h1 h2 h3 => by
    obtain ⟨a, b⟩ := pairs_keys t h3
    refine ⟨.cons ?_ a, .cons ?_ b⟩
    · have r1 : k = k' := r1
      have h1 : keyIs k' e.key = true := h1
      subst r1
      rcases keyIs_shape h1 with ⟨i, tk, rfl, q⟩ | ⟨x, tk, rfl, q⟩
      · exact ⟨tk, q⟩
      · exact ⟨tk, q⟩
    · show RelV v e.val
      rw [h2]
      exact r2
theorem keyD_da {K : PySem.W.Frag} {G : Hp} : ∀ (ks : List Key), DaAll K G (ks.map kV) (ks.map keyD)
  | [] => .nil
  | .inl i :: r => .cons (.int i) (keyD_da r)
  | .inr x :: r => .cons (.str x) (keyD_da r)

section
variable {X : Cx} {pins : List (Addr × Obj)} {σ : St} {H G : Hp} {s : Shared}
theorem zip_fst : ∀ {as bs : List PyData}, as.length = bs.length → (as.zip bs).map (·.1) = as
  | [], _, _ => by simp
  | a :: as, b :: bs, h => by
    rw [List.zip_cons_cons, List.map_cons, zip_fst (by simpa using h)]
theorem zip_snd : ∀ {as bs : List PyData}, as.length = bs.length → (as.zip bs).map (·.2) = bs
  | [], [], _ => rfl
  | [], _ :: _, h => by simp at h
  | a :: as, [], h => by simp at h
  | a :: as, b :: bs, h => by
    rw [List.zip_cons_cons, List.map_cons, zip_snd (by simpa using h)]
/-- what stands at a dict's address -/
theorem dict_at {a : Addr} {kvs : List (Key × V)} (I : Inv X pins σ H s) (h : H a = some (.dK kvs)) : ∃ o es n, s.heap.get? a = some o ∧ o.cls = .type "dict" ∧ o.data = .dict es n ∧ (a == sysModules) = false ∧
    Vals (kvs.map fun p => kV p.1) (es.toList.map (·.key)) ∧ Vals (kvs.map (·.2)) (es.toList.map (·.val)) := by
  obtain ⟨_, hs, vs, r, o, es, ep, h1, h2, h3, _, h5, _⟩ := (show ObjOk X.prog X.w H s.heap a (.dK kvs) from I.hok a _ h)
  obtain ⟨q1, q2⟩ := pairs_keys r h5
  exact ⟨o, es, ep, h1, h2.1, h3, hs, q1, q2⟩
abbrev RkOf (X : Cx) (h : Heap) (u : Value) (d : PyData) : Prop := ∃ as bs, Reads h u d as ∧ ReadAtMost h d.depth bs ∧ ReprK X.prog X.w bs h d.depth u d.shown
abbrev RkAll (X : Cx) (h : Heap) (us : List Value) (ds : List PyData) : Prop := ∃ as bs, ReadsAll h us ds as ∧ ReadAtMost h (PyData.depthAll ds) bs ∧ ReprAllK X.prog X.w bs h (PyData.depthAll ds) us (PyData.shownAll ds)
theorem no_addr {h : Heap} {n : Nat} : ReadAtMost h n [] := fun b q => absurd q List.not_mem_nil
theorem rk_keys : ∀ (ks : List Key) (us : List Value), Vals (ks.map kV) us → PyData.showableAll (ks.map keyD) = true → (∀ t ∈ PyData.shownAll (ks.map keyD), t.length ≤ sizeLine) → RkAll X s.heap us (ks.map keyD)
  | [], _, .nil, _, _ => ⟨_, [], .nil, no_addr, .nil⟩
  | k :: ks, _, .cons r t, hs, hz => by
    rw [List.map_cons, PyData.showableAll, Bool.and_eq_true] at hs
    rw [List.map_cons] at hz ⊢
    unfold PyData.shownAll at hz
    obtain ⟨as, bs, q1, q2, q3⟩ := rk_keys ks _ t hs.2 fun z m => hz z (List.mem_cons_of_mem _ m)
    have h0 := hz _ List.mem_cons_self
    cases k with
    | inl i =>
      obtain ⟨tk, rfl⟩ := r
      exact ⟨_, bs, .cons (.int i tk) q1, q2.mono (Nat.le_max_right _ _), .cons (.of_is (ReprIs.int tk (by simpa [keyD, PyData.showable] using hs.1)) _ _ _) (q3.more_le (fun _ m => m) (Nat.le_max_right _ _))⟩
    | inr x =>
      obtain ⟨tk, rfl⟩ := r
      exact ⟨_, bs, .cons (.str x tk) q1, q2.mono (Nat.le_max_right _ _), .cons (.of_is (ReprIs.str x tk (by simpa only [keyD, PyData.shown] using h0)) _ _ _) (q3.more_le (fun _ m => m) (Nat.le_max_right _ _))⟩
/-- the entries of a dict as repr reads them -/
theorem rk_entries {es : List DictEntry} {kvs : List (Key × V)} {ds : List PyData} (vk : Vals (kvs.map fun p => kV p.1) (es.map (·.key))) (hl : kvs.length = ds.length)
    (hv : PyData.showableAll ds = true → (∀ t ∈ PyData.shownAll ds, t.length ≤ sizeLine) → RkAll X s.heap (es.map (·.val)) ds) (hs : PyData.showableKv ((kvs.map fun p => keyD p.1).zip ds) = true)
    (hz : (dictText (PyData.shownKv ((kvs.map fun p => keyD p.1).zip ds))).length ≤ sizeLine) :
    ∃ as1 as2 bs, ReadsAll s.heap (es.map (·.key)) (((kvs.map fun p => keyD p.1).zip ds).map (·.1)) as1 ∧ ReadsAll s.heap (es.map (·.val)) (((kvs.map fun p => keyD p.1).zip ds).map (·.2)) as2 ∧
      ReadAtMost s.heap (PyData.depthKv ((kvs.map fun p => keyD p.1).zip ds)) bs ∧ ReprEntriesK X.prog X.w bs s.heap (PyData.depthKv ((kvs.map fun p => keyD p.1).zip ds)) es (PyData.shownKv ((kvs.map fun p => keyD p.1).zip ds)) := by
  have hll : (kvs.map fun p => keyD p.1).length = ds.length := by rw [List.length_map]; exact hl
  generalize hkv : (kvs.map fun p => keyD p.1).zip ds = kv at hs hz ⊢
  obtain ⟨s1, s2⟩ := PyData.showableKv_split kv hs
  have e1 : kv.map (·.1) = kvs.map fun p => keyD p.1 := by rw [← hkv]; exact zip_fst hll
  have e2 : kv.map (·.2) = ds := by rw [← hkv]; exact zip_snd hll
  have ek : (kvs.map (·.1)).map kV = kvs.map fun p => kV p.1 := by rw [List.map_map]; rfl
  have ed : (kvs.map (·.1)).map keyD = kvs.map fun p => keyD p.1 := by rw [List.map_map]; rfl
  have z1 : ∀ t ∈ PyData.shownAll (kv.map (·.1)), t.length ≤ sizeLine := fun t ht => let ⟨p, hp, hl⟩ := PyData.shownKv_key_le kv t ht; Nat.le_trans hl (Nat.le_trans (dictText_mem_le hp) hz)
  have z2 : ∀ t ∈ PyData.shownAll (kv.map (·.2)), t.length ≤ sizeLine := fun t ht => let ⟨p, hp, hl⟩ := PyData.shownKv_val_le kv t ht; Nat.le_trans hl (Nat.le_trans (dictText_mem_le hp) hz)
  have m1 := PyData.depthAll_keys_le kv
  have m2 := PyData.depthAll_vals_le kv
  rw [PyData.shownKv_eq]
  rw [e1] at s1 z1 m1 ⊢
  rw [e2] at s2 z2 m2 ⊢
  rw [← ed] at s1 z1 m1 ⊢
  rw [← ek] at vk
  obtain ⟨as1, b1, r1, a1, k1⟩ := rk_keys (X := X) (s := s) _ _ vk s1 z1
  obtain ⟨as2, b2, r2, a2, k2⟩ := hv s2 z2
  exact ⟨as1, as2, b1 ++ b2, r1, r2, (a1.mono m1).append (a2.mono m2), ReprEntriesK.of_two es _ _ (k1.more_le (fun b q => List.mem_append_left _ q) m1) (k2.more_le (fun b q => List.mem_append_right _ q) m2)⟩
mutual
theorem Da.rk (I : Inv X pins σ H s) (sm : Same G H) : ∀ {d : PyData} {v : V} {u : Value}, Da X.K G v d → RelV v u → d.showable = true → d.shown.length ≤ sizeLine → RkOf X s.heap u d
  | _, _, _, .non, r, _, _ => by
    cases r
    exact ⟨_, [], .none, no_addr, by simp only [PyData.shown]; exact .of_is ReprIs.none _ _ _⟩
  | _, _, _, .bl b, r, _, _ => by
    cases r
    exact ⟨_, [], .bool b, no_addr, by simp only [PyData.shown]; exact .of_is (ReprIs.bool b) _ _ _⟩
  | _, _, _, .int i, r, hs, _ => by
    obtain ⟨t, rfl⟩ := r
    exact ⟨_, [], .int i t, no_addr, by simp only [PyData.shown]; exact .of_is (ReprIs.int t (by simpa [PyData.showable] using hs)) _ _ _⟩
  | _, _, _, .str x, r, _, hz => by
    obtain ⟨t, rfl⟩ := r
    exact ⟨_, [], .str x t, no_addr, by simp only [PyData.shown]; exact .of_is (ReprIs.str x t (by simpa only [PyData.shown] using hz)) _ _ _⟩
  | .list ds, .ref a, _, .lst h t, r, hs, hz => by
    cases r
    have hz2 : (listText (PyData.shownAll ds)).length ≤ sizeLine := by simpa only [PyData.shown] using hz
    obtain ⟨_, its, n, rv, e⟩ := (show ObjOk X.prog X.w H s.heap a (.lst _) from I.hok a _ (sm _ _ h))
    obtain ⟨as, bs, q1, q2, q3⟩ := DaAll.rk I sm t rv (by simpa [PyData.showable] using hs) fun z hz' => Nat.le_trans (listText_mem_le hz') hz2
    have rd : Reads s.heap (.ref a) (.list ds) _ := .list e rfl rfl q1
    have hna : a ∉ bs := not_mem_of_deeper rd (by simp only [PyData.depth]; omega) q2
    refine ⟨_, a :: bs, rd, ReadAtMost.cons rd (by simp only [PyData.depth]; omega) q2, ?_⟩
    simp only [PyData.depth, PyData.shown]
    cases its with
    | nil =>
      cases q1
      simp only [PyData.shownAll, listText_nil]
      exact ReprK.listEmpty e rfl rfl
    | cons y l => exact ReprK.list e rfl rfl hna (by simpa using q3.length_eq) fun i z e2 => q3.item i z (by simpa using e2)
  | .tuple ds, .ref a, _, .tup h t, r, hs, hz => by
    cases r
    have hz2 : (tupleText (PyData.shownAll ds)).length ≤ sizeLine := by simpa only [PyData.shown] using hz
    obtain ⟨its, rv, ⟨o, ho, hc, n, hd⟩, _⟩ := I.tuple (sameT sm h)
    obtain ⟨as, bs, q1, q2, q3⟩ := DaAll.rk I sm t rv (by simpa [PyData.showable] using hs) fun z hz' => Nat.le_trans (tupleText_mem_le hz') hz2
    have rd : Reads s.heap (.ref a) (.tuple ds) _ := .tuple ho hc hd q1
    have hna : a ∉ bs := not_mem_of_deeper rd (by simp only [PyData.depth]; omega) q2
    refine ⟨_, a :: bs, rd, ReadAtMost.cons rd (by simp only [PyData.depth]; omega) q2, ?_⟩
    simp only [PyData.depth, PyData.shown]
    exact ReprK.tuple ho hc hd hna q3
  | _, .ref a, _, @Da.dct _ _ _ kvs ds h t, r, hs, hz => by
    cases r
    have hz2 : (dictText (PyData.shownKv ((kvs.map fun p => keyD p.1).zip ds))).length ≤ sizeLine := by simpa only [PyData.shown] using hz
    obtain ⟨o, es, n, ho, hc, hd, hsys, vk, vv⟩ := dict_at I (sm _ _ h)
    obtain ⟨as1, as2, bs, r1, r2, a3, k3⟩ := rk_entries (X := X) (s := s) vk (by rw [← t.length, List.length_map]) (fun s2 z2 => DaAll.rk I sm t vv s2 z2) (by simpa [PyData.showable] using hs) hz2
    have rd : Reads s.heap (.ref a) (.dict ((kvs.map fun p => keyD p.1).zip ds)) _ := .dict ho hc hd r1 r2
    have hna : a ∉ bs := not_mem_of_deeper rd (by simp only [PyData.depth]; omega) a3
    refine ⟨_, a :: bs, rd, ReadAtMost.cons rd (by simp only [PyData.depth]; omega) a3, ?_⟩
    simp only [PyData.depth, PyData.shown]
    exact ReprK.dict ho hc hd hsys hna k3
theorem DaAll.rk (I : Inv X pins σ H s) (sm : Same G H) : ∀ {ds : List PyData} {vs : List V} {us : List Value}, DaAll X.K G vs ds → Vals vs us → PyData.showableAll ds = true → (∀ t ∈ PyData.shownAll ds, t.length ≤ sizeLine) → RkAll X s.heap us ds
  | _, _, _, .nil, .nil, _, _ => ⟨_, [], .nil, no_addr, .nil⟩
  | _, _, _, .cons h t, .cons r rs, hs, hz => by
    rw [PyData.showableAll, Bool.and_eq_true] at hs
    unfold PyData.shownAll at hz
    obtain ⟨as1, b1, q1, a1, k1⟩ := Da.rk I sm h r hs.1 (hz _ List.mem_cons_self)
    obtain ⟨as2, b2, q2, a2, k2⟩ := DaAll.rk I sm t rs hs.2 fun z m => hz z (List.mem_cons_of_mem _ m)
    refine ⟨_, b1 ++ b2, .cons q1 q2, (a1.mono (Nat.le_max_left _ _)).append (a2.mono (Nat.le_max_right _ _)), ?_⟩
    exact .cons ((k1.more fun b q => List.mem_append_left _ q).level_le (Nat.le_max_left _ _)) (k2.more_le (fun b q => List.mem_append_right _ q) (Nat.le_max_right _ _))
end
end

/-! ### repr(x) -/
def rRepr (K : PySem.W.Frag) : List V → Hp → VK → Prop := fun xs H Q => ∃ (v : V) (d : PyData) (G : Hp), xs = [v] ∧ Same G H ∧ Da K G v d ∧ d.showable = true ∧ d.depth ≤ 60 ∧ d.shown.length ≤ sizeLine ∧ Q (.str d.shown) H
section
variable {X : Cx}
theorem call_repr (hgd : X.A.guards = some []) (hu : X.A.units + 64 < cLine) : CallR X (.builtin "repr") (rRepr X.K) := by
  intro pins s σ H xs us Q I r h
  obtain ⟨v, d, G, rfl, sm, hd, hs, hdp, hz, q⟩ := h
  obtain ⟨u, rfl, rv⟩ := vals1 r
  have done : ∀ h' t tk, (∀ b o, s.heap.get? b = some o → h'.get? b = some o) → EP X pins σ Q (.str d.shown t) { s with heap := h', toks := tk } := fun h' t tk k => ⟨.str _, H, I.kept k, ⟨_, rfl⟩, q⟩
  cases hd with
  | non => cases rv; exact P.repr_of_none ⟨.str _, H, I.tok _, ⟨_, rfl⟩, by simpa only [PyData.shown] using q⟩
  | bl b => cases rv; exact P.repr_of_bool ⟨.str _, H, I.tok _, ⟨_, rfl⟩, by simpa only [PyData.shown] using q⟩
  | int i => obtain ⟨t, rfl⟩ := rv; exact P.repr_of_int (by simpa [PyData.showable] using hs) ⟨.str _, H, I.tok _, ⟨_, rfl⟩, by simpa only [PyData.shown] using q⟩
  | str x => obtain ⟨t, rfl⟩ := rv; exact P.repr_of_str ⟨.str _, H, I.tok _, ⟨_, rfl⟩, by simpa only [PyData.shown] using q⟩ (by simpa only [PyData.shown] using hz)
  | @lst a xs ds h t =>
    cases rv
    have hz2 : (listText (PyData.shownAll ds)).length ≤ sizeLine := by simpa only [PyData.shown] using hz
    obtain ⟨_, its, n, rw', e⟩ := (show ObjOk X.prog X.w H s.heap a (.lst _) from I.hok a _ (sm _ _ h))
    obtain ⟨as, bs, q1, q2, q3⟩ := DaAll.rk I sm t rw' (by simpa [PyData.showable] using hs) fun z hz' => Nat.le_trans (listText_mem_le hz') hz2
    have rd : Reads s.heap (.ref a) (.list ds) _ := .list e rfl rfl q1
    have hna : a ∉ bs := not_mem_of_deeper rd (by simp only [PyData.depth]; omega) q2
    simp only [PyData.depth] at hdp
    refine call_repr_slot (T := "list") (idr := "list.__repr__") (by omega) ⟨_, e, rfl⟩ F.slot_list_repr.toG ?_
    cases its with
    | nil =>
      cases q1
      refine call_list_repr_empty ⟨_, e, rfl⟩ e rfl ⟨_, _, rfl, ?_⟩
      have := done s.heap s.toks (s.toks + 1) fun _ _ k => k
      simpa only [PyData.shown, PyData.shownAll, listText_nil] using this
    | cons y l =>
      exact call_list_reprK e rfl rfl hna (by simpa using q3.length_eq) (fun i z e2 => q3.item i z (by simpa using e2)) hgd (fun b _ => Clear.nil b) (by show X.A.units + 1 + _ < _; omega) (fun _ _ k => k)
        (fun h' t tk k => ⟨_, _, rfl, by have := done h' t tk k; simpa only [PyData.shown] using this⟩) hz2
  | @tup a xs ds h t =>
    cases rv
    have hz2 : (tupleText (PyData.shownAll ds)).length ≤ sizeLine := by simpa only [PyData.shown] using hz
    obtain ⟨its, rw', ⟨o, ho, hc, n, hdd⟩, _⟩ := I.tuple (sameT sm h)
    obtain ⟨as, bs, q1, q2, q3⟩ := DaAll.rk I sm t rw' (by simpa [PyData.showable] using hs) fun z hz' => Nat.le_trans (tupleText_mem_le hz') hz2
    have rd : Reads s.heap (.ref a) (.tuple ds) _ := .tuple ho hc hdd q1
    have hna : a ∉ bs := not_mem_of_deeper rd (by simp only [PyData.depth]; omega) q2
    simp only [PyData.depth] at hdp
    exact call_repr_slot (T := "tuple") (idr := "tuple.__repr__") (by omega) ⟨_, ho, hc⟩ F.slot_tuple_repr
      (call_tuple_reprK ho hc hdd hna q3 hgd (fun b _ => Clear.nil b) (by show X.A.units + 1 + _ < _; omega) (fun _ _ k => k) (fun h' t tk k => ⟨_, _, rfl, by have := done h' t tk k; simpa only [PyData.shown] using this⟩) hz2)
  | @dct a kvs ds h t =>
    cases rv
    have hz2 : (dictText (PyData.shownKv ((kvs.map fun p => keyD p.1).zip ds))).length ≤ sizeLine := by simpa only [PyData.shown] using hz
    obtain ⟨o, es, n, ho, hc, hdd, hsys, vk, vv⟩ := dict_at I (sm _ _ h)
    obtain ⟨as1, as2, bs, r1, r2, a3, k3⟩ := rk_entries (X := X) (s := s) vk (by rw [← t.length, List.length_map]) (fun s2 z2 => DaAll.rk I sm t vv s2 z2) (by simpa [PyData.showable] using hs) hz2
    have rd : Reads s.heap (.ref a) (.dict ((kvs.map fun p => keyD p.1).zip ds)) _ := .dict ho hc hdd r1 r2
    have hna : a ∉ bs := not_mem_of_deeper rd (by simp only [PyData.depth]; omega) a3
    simp only [PyData.depth] at hdp
    exact call_repr_slot (T := "dict") (idr := "dict.__repr__") (by omega) ⟨_, ho, hc⟩ F.slot_dict_repr
      (call_dict_reprK ho hc hdd hsys hna k3 hgd (fun b _ => Clear.nil b) (by show X.A.units + 1 + _ < _; omega) (fun _ _ k => k) (fun h' t tk k => ⟨_, _, rfl, by have := done h' t tk k; simpa only [PyData.shown] using this⟩) hz2)
end
end L2.Hx

/-! Own rules: «x in words» for any data x, enumerate of a tuple. -/
namespace L2.Hx
open PySem PySem.Spec PyProof.Rows
open AutoSeq1 (wpAny_loadPart')

section
theorem str_eq_dict (b : Str) (u : Tok) (l : Addr) (es : Array DictEntry) (n : Nat) (dd : Option Addr) (sl : Array (Option Value)) :
    Meets (Builtin.«str.__eq__» ⟨[.str b u, .ref l], []⟩) (fun _ R s => s.heap.get? l = some { cls := .type "dict", dict := dd, data := .dict es n, slots := sl } ∧ R (.ok (.ret .notImplemented)) s) :=
  .of_wp fun prog w A R s h => by
    obtain ⟨hp, g, d, tk, os⟩ := s
    obtain ⟨hl, h⟩ := h
    wp_walk using wpAny_load hl
    exact ⟨_, rfl, h⟩
theorem dict_eq_str (b : Str) (u : Tok) (l : Addr) (es : Array DictEntry) (n : Nat) (dd : Option Addr) (sl : Array (Option Value)) :
    Meets (Builtin.«dict.__eq__» ⟨[.ref l, .str b u], []⟩) (fun _ R s => s.heap.get? l = some { cls := .type "dict", dict := dd, data := .dict es n, slots := sl } ∧ R (.ok (.ret .notImplemented)) s) :=
  .of_wp fun prog w A R s h => by
    obtain ⟨hp, g, d, tk, os⟩ := s
    obtain ⟨hl, h⟩ := h
    have f1 := F.sub_str_dict
    wp_walk using wpAny_load hl
    exact ⟨_, rfl, h⟩
theorem str_is_dict {A : Around} {s : Shared} {l : Addr} {es : Array DictEntry} {n : Nat} {dd : Option Addr} {sl : Array (Option Value)} (b : Str) (u : Tok) (ho : s.heap.get? l = some { cls := .type "dict", dict := dd, data := .dict es n, slots := sl }) (hu : A.units < cLine) :
    SeqAt.EqAt A s (.str b u) (.ref l) false := fun prog w E Q h => by
  unfold eqBool
  refine wpAny_holding ?_
  refine wpAny_ite_split (fun hab => absurd (eq_of_beq hab) nofun) fun _ => ?_
  refine wpAny_bind ?_
  exact SeqAt.rc_eq_decline_or (k := false) (typeIs_str s b u) ⟨_, ho, rfl⟩ (by decide) F.sub_dict_str F.slot_str_eq F.slot_dict_eq_refl
    (fun Q2 hq => call_meets F.slot_str_eq (typeIs_str s b u) F.entry_str_eq (F.args_str_eq_2 _ _) (str_eq_dict b u l es n dd sl) ⟨ho, hq⟩)
    (fun Q2 hq => call_meets F.slot_dict_eq_refl ⟨_, ho, rfl⟩ F.entry_dict_eq (F.args_dict_eq_2 _ _) (dict_eq_str b u l es n dd sl) ⟨ho, hq⟩)
    (fun Q2 hq => wpAny_of_eq (rfl : isSame (.str b u) (.ref l) = pure false) hq) (.inr hu) (wpAny_truthy_bool h)
end
/-- is the word a text among these -/
def inWs (d : PyData) (ws : List Str) : Bool := match d with
  | .str z => decide (z ∈ ws)
  | _ => false
def eqW (d : PyData) (u : Value) : Bool := match d, u with
  | .str z, .str y _ => y == z
  | _, _ => false
section
variable {X : Cx} {pins : List (Addr × Obj)} {σ : St} {H G : Hp} {s : Shared}
theorem any_eqW : ∀ {d : PyData} {ws : List Str} {us : List Value}, Vals (ws.map V.str) us → us.any (eqW d) = inWs d ws
  | d, [], _, .nil => by
    cases d <;> simp [inWs]
  | d, w :: ws, _, .cons r t => by
    obtain ⟨tk, rfl⟩ := r
    rw [List.any_cons, any_eqW (d := d) t]
    cases d <;> simp [eqW, inWs]
    rename_i z
    by_cases h : w = z
    · subst h
      simp
    · simp [h, Ne.symm h]
theorem eq_word (hu : X.A.units + 64 < cLine) (I : Inv X pins σ H s) (sm : Same G H) {v : V} {d : PyData} {x : Value} (hd : Da X.K G v d) (rx : RelV v x) (y : Str) (t : Tok) : SeqAt.EqAt X.A.in1 s (.str y t) x (eqW d (.str y t)) := by
  have hu1 : X.A.in1.units < cLine := by show X.A.units + 1 < _; omega
  cases hd with
  | non => cases rx; exact SeqAt.EqAt.str_none y t
  | bl b => cases rx; exact SeqAt.EqAt.str_bool y t b
  | int i => obtain ⟨tk, rfl⟩ := rx; exact SeqAt.EqAt.str_int y t i tk
  | str z => obtain ⟨tk, rfl⟩ := rx; exact SeqAt.EqAt.str_str y t z tk
  | @lst a xs ds h _ =>
    cases rx
    obtain ⟨_, its, n, _, e⟩ := (show ObjOk X.prog X.w H s.heap a (.lst _) from I.hok a _ (sm _ _ h))
    exact SeqAt.EqAt.str_list y t ⟨_, e, rfl, _, rfl⟩ hu1
  | @tup a xs ds h _ =>
    cases rx
    obtain ⟨its, _, p, _⟩ := I.tuple (sameT sm h)
    exact SeqAt.EqAt.str_tuple y t p hu1
  | @dct a kvs ds h _ =>
    cases rx
    obtain ⟨o, es, n, ho, hc, hdd, _⟩ := dict_at I (sm _ _ h)
    obtain ⟨c, dd, data, sl⟩ := o
    simp only at hc hdd
    subst hc hdd
    exact str_is_dict y t ho hu1
/-- x in ws, x any data, ws a list or tuple of texts -/
def rInW (K : PySem.W.Frag) (neg : Bool) : R2 := fun x y H Q => ∃ (p : Addr) (ws : List Str) (d : PyData) (G : Hp), y = .ref p ∧ (SqL K H p (ws.map V.str) ∨ SqT K H p (ws.map V.str)) ∧ Same G H ∧ Da K G x d ∧ Q (.bl (if neg then !inWs d ws else inWs d ws)) H
theorem in_words (hu : X.A.units + 64 < cLine) (I : Inv X pins σ H s) (sm : Same G H) {v : V} {d : PyData} {x : Value} (hd : Da X.K G v d) (rx : RelV v x) : ∀ {ws : List Str} {us : List Value}, Vals (ws.map V.str) us → ∀ u ∈ us, SeqAt.EqAt X.A.in1 s u x (eqW d u)
  | [], _, .nil => fun u hu => by cases hu
  | y :: ws, u :: us, .cons r t => fun u' hu' => by
    rcases List.mem_cons.mp hu' with rfl | hu'
    · obtain ⟨tk, rfl⟩ := r
      exact eq_word hu I sm hd rx y tk
    · exact in_words hu I sm hd rx t u' hu'
theorem op_inW (hu : X.A.units + 64 < cLine) : OpR X (compareOp .In) (rInW X.K false) := by
  intro pins s σ H x y v u Q I rx ry h
  obtain ⟨p, ws, d, G, rfl, hq, sm, hd, q⟩ := h
  cases ry
  have q : Q (.bl (inWs d ws)) H := q
  rcases hq with hq | hq
  · obtain ⟨its, r, pl, _⟩ := I.list hq
    refine SeqAt.in_listAt (eqW d) pl.isList (fun z hz => in_words hu I sm hd rx r z (by simpa using hz)) ⟨.bl _, H, I, rfl, ?_⟩
    rw [show its.toArray.any (eqW d) = its.any (eqW d) by simp, any_eqW r]
    exact q
  · obtain ⟨its, r, pl, _⟩ := I.tuple hq
    refine SeqAt.in_tupleAt (eqW d) pl (fun z hz => in_words hu I sm hd rx r z (by simpa using hz)) ⟨.bl _, H, I, rfl, ?_⟩
    rw [show its.toArray.any (eqW d) = its.any (eqW d) by simp, any_eqW r]
    exact q
theorem op_notInW (hu : X.A.units + 64 < cLine) : OpR X (compareOp .NotIn) (rInW X.K true) := by
  intro pins s σ H x y v u Q I rx ry h
  obtain ⟨p, ws, d, G, rfl, hq, sm, hd, q⟩ := h
  cases ry
  have q : Q (.bl (!inWs d ws)) H := q
  rcases hq with hq | hq
  · obtain ⟨its, r, pl, _⟩ := I.list hq
    refine SeqAt.notIn_listAt (eqW d) pl.isList (fun z hz => in_words hu I sm hd rx r z (by simpa using hz)) ⟨.bl _, H, I, rfl, ?_⟩
    rw [show its.toArray.any (eqW d) = its.any (eqW d) by simp, any_eqW r]
    exact q
  · obtain ⟨its, r, pl, _⟩ := I.tuple hq
    refine SeqAt.notIn_tupleAt (eqW d) pl (fun z hz => in_words hu I sm hd rx r z (by simpa using hz)) ⟨.bl _, H, I, rfl, ?_⟩
    rw [show its.toArray.any (eqW d) = its.any (eqW d) by simp, any_eqW r]
    exact q
end

/-! ### isinstance of data -/
def tyD : PyData → String
  | .none => "NoneType"
  | .bool _ => "bool"
  | .int _ => "int"
  | .str _ => "str"
  | .list _ => "list"
  | .tuple _ => "tuple"
  | .dict _ => "dict"
def isTup : PyData → Bool
  | .tuple _ => true
  | _ => false
def isStr : PyData → Bool
  | .str _ => true
  | _ => false
def rIsiD (K : PySem.W.Frag) : List V → Hp → VK → Prop := fun xs H Q => ∃ (x : V) (d : PyData) (G : Hp), Same G H ∧ Da K G x d ∧ ((xs = [x, .ty "tuple"] ∧ Q (.bl (isTup d)) H) ∨ (xs = [x, .ty "str"] ∧ Q (.bl (isStr d)) H))
section
variable {X : Cx} {pins : List (Addr × Obj)} {σ : St} {H G : Hp} {s : Shared}
theorem kit_da (I : Inv X pins σ H s) (sm : Same G H) {v : V} {d : PyData} {u : Value} (hd : Da X.K G v d) (rv : RelV v u) : ∃ P : Heap → Prop, PySem.W.KitX X.K u (.type (tyD d)) P ∧ P s.heap ∧ u ≠ .builtin "__main__.__loader__#opaque" := by
  cases hd with
  | non => cases rv; exact ⟨_, PySem.W.kitx_none, True.intro, fun z => nomatch z⟩
  | bl b => cases rv; exact ⟨_, PySem.W.kitx_bool, True.intro, fun z => nomatch z⟩
  | int i => obtain ⟨t, rfl⟩ := rv; exact ⟨_, PySem.W.kitx_int, True.intro, fun z => nomatch z⟩
  | str x => obtain ⟨t, rfl⟩ := rv; exact ⟨_, PySem.W.kitx_str, True.intro, fun z => nomatch z⟩
  | @lst a xs ds h _ =>
    cases rv
    obtain ⟨_, its, n, _, e⟩ := (show ObjOk X.prog X.w H s.heap a (.lst _) from I.hok a _ (sm _ _ h))
    exact ⟨_, PySem.W.kitx_list, ⟨_, e, rfl⟩, fun z => nomatch z⟩
  | @tup a xs ds h _ =>
    cases rv
    obtain ⟨its, _, ⟨o, ho, hc, _⟩, _⟩ := I.tuple (sameT sm h)
    exact ⟨_, PySem.W.kitx_tuple, ⟨o, ho, hc⟩, fun z => nomatch z⟩
  | @dct a kvs ds h _ =>
    cases rv
    obtain ⟨o, es, n, ho, hc, _⟩ := dict_at I (sm _ _ h)
    exact ⟨_, PySem.W.kitx_dict, ⟨o, ho, hc⟩, fun z => nomatch z⟩
theorem kitB_tup : ∀ d : PyData, kitB (tyD d) "tuple" = some (isTup d)
  | .none => by
    show kitB "NoneType" "tuple" = some false
    decide +kernel
  | .bool _ => by
    show kitB "bool" "tuple" = some false
    decide +kernel
  | .int _ => by
    show kitB "int" "tuple" = some false
    decide +kernel
  | .str _ => by
    show kitB "str" "tuple" = some false
    decide +kernel
  | .list _ => by
    show kitB "list" "tuple" = some false
    decide +kernel
  | .tuple _ => by
    show kitB "tuple" "tuple" = some true
    decide +kernel
  | .dict _ => by
    show kitB "dict" "tuple" = some false
    decide +kernel
theorem kitB_str : ∀ d : PyData, kitB (tyD d) "str" = some (isStr d)
  | .none => by
    show kitB "NoneType" "str" = some false
    decide +kernel
  | .bool _ => by
    show kitB "bool" "str" = some false
    decide +kernel
  | .int _ => by
    show kitB "int" "str" = some false
    decide +kernel
  | .str _ => by
    show kitB "str" "str" = some true
    decide +kernel
  | .list _ => by
    show kitB "list" "str" = some false
    decide +kernel
  | .tuple _ => by
    show kitB "tuple" "str" = some false
    decide +kernel
  | .dict _ => by
    show kitB "dict" "str" = some false
    decide +kernel
theorem call_isiD : CallR X (.builtin "isinstance") (rIsiD X.K) := by
  intro pins s σ H xs us Q I r h
  obtain ⟨x, d, G, sm, hd, h⟩ := h
  rcases h with ⟨rfl, q⟩ | ⟨rfl, q⟩
  · obtain ⟨u1, u2, rfl, r1, r2⟩ := vals2 r
    cases r2
    obtain ⟨P, Z, p, hx⟩ := kit_da I sm hd r1
    exact PySem.W.kia_one Z I.kIn p (kit_ty (kitB_tup d)) hx fun tk => ⟨.bl _, H, I.tok tk, rfl, q⟩
  · obtain ⟨u1, u2, rfl, r1, r2⟩ := vals2 r
    cases r2
    obtain ⟨P, Z, p, hx⟩ := kit_da I sm hd r1
    exact PySem.W.kia_one Z I.kIn p (kit_ty (kitB_str d)) hx fun tk => ⟨.bl _, H, I.tok tk, rfl, q⟩
end

/-! ### enumerate(t), t a tuple -/
section
theorem new_enum {v : Value} {o : Obj} {HB : Heap → Prop} (B : Begins v o HB) :
    Meets (Builtin.«enumerate.__new__» ⟨[.type "enumerate", v], []⟩) (fun _ R s => HB s.heap ∧
      R (.ok (.ret (.ref (s.heap.push o).objs.size))) { s with heap := (s.heap.push o).push { cls := .type "enumerate", data := .fields #[.none, .bool false, .ref s.heap.objs.size, rawInt 0, .none, .none] } }) :=
  .of_wp fun prog w A R s h => by
    obtain ⟨hp, g, d, tk, os⟩ := s
    obtain ⟨h1, h⟩ := h
    have hsub := sub_enumerate
    have q1 : ∀ {A' : Around} {E : Value → Shared → Prop} {Q : Value → Shared → Prop}, Q (.ref hp.objs.size) ⟨hp.push o, g, d, tk, os⟩ → wpAny (model prog w) A' (pyIter v) Q E ⟨hp, g, d, tk, os⟩ :=
      fun q => B.iter prog w _ _ ⟨hp, g, d, tk, os⟩ _ h1 q
    wp_walk using q1
    refine wpAny_stack_any fun st => wpAny_pure ?_
    split
    · rename_i c _ _ _ _ _
      cases (c == Value.type "enumerate")
      · wp_walk using q1
        exact ⟨_, rfl, h⟩
      · wp_walk using q1
        exact ⟨_, rfl, h⟩
    · wp_walk using q1
      exact ⟨_, rfl, h⟩
theorem enum_of {prog : Program} {w : World} {A : Around} {E : Value → Shared → Prop} {s : Shared} {v : Value} {o : Obj} {HB : Heap → Prop} {Q : Value → Shared → Prop} (B : Begins v o HB) (h1 : HB s.heap)
    (h : ∀ h', IsEnum h' (s.heap.objs.size + 1) s.heap.objs.size 0 .none → h'.get? s.heap.objs.size = some o → h'.objs.size = s.heap.objs.size + 2 →
      (∀ b u, s.heap.get? b = some u → h'.get? b = some u) → Q (.ref (s.heap.objs.size + 1)) { s with heap := h' }) :
    wpAny (model prog w) A (call (.type "enumerate") [v]) Q E s := by
  refine callType_new F.called_enumerate (by decide) (F.typeCall_enumerate_1 _) (F.newCall_enumerate_1 _) (fun obj => F.args_object_init_2 obj _) F.entry_enumerate_new (new_enum B) ⟨h1, ?_⟩
  have hz : (s.heap.push o).objs.size = s.heap.objs.size + 1 := Heap.size_push ..
  show _ ∧ _
  rw [hz]
  have he := Heap.get?_push_size (s.heap.push o) (o := { cls := .type "enumerate", data := .fields #[.none, .bool false, .ref s.heap.objs.size, rawInt 0, .none, .none] }) rfl
  rw [hz] at he
  refine ⟨⟨_, he, rfl⟩, h _ he (Heap.get?_push_of_some _ (Heap.get?_push_size _ B.free)) (by rw [Heap.size_push, hz]) fun b u q => Heap.get?_push_of_some _ (Heap.get?_push_of_some _ q)⟩
/-- the tuple's items with their places, in new pairs -/
def Iet (K : PySem.W.Frag) (a : Addr) : It :=
  ⟨fun i H => ∃ (xs : List V) (x : V), SqT K H a xs ∧ xs[i]? = some x,
    fun i H v H' => ∃ T x, v = .ref T ∧ H T = none ∧ H' = upd H T (.tup [.int (i : Nat), x]) ∧ ∀ xs, SqT K H a xs → xs[i]? = some x,
    fun i H => ∃ xs : List V, SqT K H a xs ∧ xs.length ≤ i⟩
theorem turn_enumT {P : Program} {w : World} {K : PySem.W.Frag} {elts : List Expr} {kk : Nat} {tpos : Pos} (a e it : Addr) :
    Turn P w K (.Tuple elts kk tpos) (Iet K a) [e, it] e (fun i h => (∃ old, IsEnum h e it ((i : Nat) : Int) old) ∧ h.IsTupleIter it a i ∧ e ≠ it ∧ a ≠ it ∧ a ≠ e) where
  mem := by simp
  obj := fun i h st b hb => by
    obtain ⟨⟨old, he⟩, ⟨o, ho, hc, hd⟩, _⟩ := st
    have e' : b = e ∨ b = it := by simpa using hb
    rcases e' with z | z
    · rw [z]; exact ⟨_, he, fun v q => nomatch q⟩
    · rw [z]; exact ⟨o, ho, fun v q => by rw [hd] at q; cases q⟩
  keep := fun i h h' st k => let ⟨⟨old, he⟩, hi, hne⟩ := st; ⟨⟨old, k e (by simp) _ he⟩, hi.at fun o q => k it (by simp) o q, hne⟩
  item := by
    intro X hP hw hK hc i pins s σ H E I hf st hg
    subst hP hw hK
    obtain ⟨⟨old, he⟩, hit, hne, hai, hae⟩ := st
    obtain ⟨xs, x, hq, hx⟩ := hg
    obtain ⟨its, rv, p, hz⟩ := I.tuple hq
    obtain ⟨u, hu, ru⟩ := rv.get hx
    have hel : e < s.heap.objs.size := Heap.lt_size he
    have hil : it < s.heap.objs.size := by obtain ⟨_, q, _⟩ := hit; exact Heap.lt_size q
    have hlt : i < its.toArray.size := by
      have q := (List.getElem?_eq_some_iff.mp hu).1
      simpa using q
    refine wpAny_pyNext_enum_itemD (Draws.tuple (A := X.A.in1) (I.ok.hd hc) it a hai its.toArray) he ⟨hit, p⟩ hlt hne (fun z => by
      have z : e = it ∨ e = a := by simpa using z
      rcases z with z | z
      · exact hne z
      · exact hae z.symm) fun y h' tk hP ho hst hT hsz hk => ?_
    have ey : y = u := by
      have z : its.toArray[i]? = some y := hP
      rw [List.getElem?_toArray, hu] at z
      cases z
      rfl
    subst ey
    refine ⟨_, rfl, wpAny_letOwnedTupleGo_enum (s := { s with heap := h', toks := tk + 1 }) ho fun h'' he' sb => ?_⟩
    have hT2 : h''.get? s.heap.objs.size = some { cls := .type "tuple", data := .seq #[.int i tk, y] } := (sb.2 _ (Nat.ne_of_gt hel)).trans hT
    have new : ObjOk X.prog X.w (upd H s.heap.objs.size (.tup [.int (i : Nat), x])) h'' s.heap.objs.size (.tup [.int (i : Nat), x]) :=
      ⟨by show 2 ≤ sizeLine; decide, [.int i tk, y], .cons ⟨_, rfl⟩ (.cons ru .nil), ⟨_, hT2, rfl, _, rfl⟩⟩
    have I1 : Inv X pins σ (upd H s.heap.objs.size (.tup [.int (i : Nat), x])) { s with heap := h'', toks := tk + 1 } :=
      I.turnedNew (ch := [e, it]) (fun b ob hb q => (sb.2 b (fun z => hb (by simp [z]))).trans (hk b ob (fun z => hb (by simp [z])) (fun z => hb (by simp [z])) q)) hf (Nat.le_refl _) new
    refine ⟨.ref s.heap.objs.size, _, I1, rfl, ⟨_, x, rfl, I.hok.fresh (Nat.le_refl _), rfl, fun ys hy => by rw [I.tuple_inj hy hq]; exact hx⟩, ⟨⟨y, ?_⟩, hst.1.at fun o q => (sb.2 it (Ne.symm hne)).trans q, hne, hai, hae⟩, fun b hb => ?_⟩
    · have e1 : ((i + 1 : Nat) : Int) = (i : Int) + 1 := by omega
      rw [e1]; exact he'
    · have hb' : b < s.heap.objs.size := by
        have e' : b = e ∨ b = it := by simpa using hb
        rcases e' with z | z
        · rw [z]; exact hel
        · rw [z]; exact hil
      rw [upd_ne (Nat.ne_of_lt hb')]
      exact (hf b hb).1
  done := by
    intro X hP hw hK hc i pins s σ H E I hf st hg
    subst hP hw hK
    obtain ⟨⟨old, he⟩, hit, hne, hai, hae⟩ := st
    obtain ⟨xs, hq, hx⟩ := hg
    obtain ⟨its, rv, p, hz⟩ := I.tuple hq
    obtain ⟨f0, f1, f2, f3, f4, f5⟩ := hf it (by simp)
    have hl := rv.length
    have hh : X.A.in1.handled = none := I.ok.hd hc
    have D := Draws.tuple (prog := X.prog) (w := X.w) (A := X.A.in1) hh it a hai its.toArray
    have hT : s.TypeIs (.ref e) "enumerate" := ⟨_, he, rfl⟩
    have hx' : its.toArray[i]? = none := by simp; omega
    unfold pyNext
    refine wpAny_bind (wpAny_attempt (wpAny_callSpecial?_slot (name := Str.ofString "__next__") hT F.slot_enumerate_next
      (wpAny_call_entry F.slot_enumerate_next hT F.entry_enumerate_next ?_ (F.args_enumerate_next_1 _))))
    show wpAny _ _ (field (.ref e) 2 >>= _) _ _ _
    refine wpAny_bind (wpAny_field he rfl (x := .ref it) rfl ?_)
    refine wpAny_bind (wpAny_nextOf_tuple_end hh hit p hx' fun h' x eb ht => ?_)
    obtain ⟨o, ho, hcl⟩ := ht
    refine wpAny_bind (wpAny_isInstance (T := "StopIteration") (b := true) ⟨o, ho, hcl⟩ isSubtype_stop ?_)
    exact wpAny_pure ⟨rfl, I.turned (t' := s.toks) (fun b o hb q => eb b o hb q) f0 f1 f3 f4 f5⟩
  self := fun A i s Q E st h => let ⟨⟨_, he⟩, _⟩ := st; wpAny_pyIter_enum he h
def iEnumT (K : PySem.W.Frag) (ta : TA) : TI := fun σ H R => ta σ H fun vs H1 => ∃ a xs, vs = [.ref a] ∧ SqT K H1 a xs ∧ R (Iet K a) H1
theorem pi_enumT {X : Cx} {e : Expr} {ta : TA} {p pos tpos : Pos} {elts : List Expr} {kk : Nat} (hg : Gl X "enumerate") (hm : X.mg "enumerate" = none) (ha : PA X [e] ta) (hs : starEach [e] X.env = [(false, eval e X.env)] := by rfl) :
    PI X (.Tuple elts kk tpos) (.Call (.Name "enumerate" p) [e] [] pos) (iEnumT X.K ta) := by
  refine ⟨fun pins s σ H R I h => ?_⟩
  refine Call_ (ld_blt I hg hm boot_enumerate (PyProof.Rows.callWith_type1 (thn (ha.run pos pins s σ H _ I h) fun us s1 ⟨vs, H1, I1, r1, q1⟩ => ?_) hs rfl))
  obtain ⟨a, xs, rfl, hq, q⟩ := q1
  obtain ⟨u, rfl, r⟩ := vals1 r1
  cases r
  obtain ⟨its, rv, p', hz⟩ := I1.tuple hq
  have hlt : a < s1.heap.objs.size := p'.lt
  refine enum_of (begins_tuple a its.toArray) p' fun h' he hit hsz hk => wpAny_pyIter_enum he ?_
  have I2 : Inv X pins σ H1 { s1 with heap := h' } := I1.kept (t' := s1.toks) hk
  refine ⟨s1.heap.objs.size + 1, [s1.heap.objs.size + 1, s1.heap.objs.size], _, _, H1, rfl, I2, turn_enumT a (s1.heap.objs.size + 1) s1.heap.objs.size, ⟨⟨.none, he⟩, ⟨_, hit, rfl, rfl⟩, Nat.succ_ne_self _, Nat.ne_of_lt hlt, Nat.ne_of_lt (Nat.lt_succ_of_lt hlt)⟩, fun b hb => ?_, q⟩
  have e' : b = s1.heap.objs.size + 1 ∨ b = s1.heap.objs.size := by simpa using hb
  have hle : s1.heap.objs.size ≤ b := by
    rcases e' with z | z
    · rw [z]; exact Nat.le_add_right _ _
    · rw [z]; exact Nat.le_refl _
  exact I1.fpOk hle (I1.hok.fresh hle)
/-- for i, x in enumerate(t): the tuple stands, the pair is new -/
theorem for_enumT {K : PySem.W.Frag} {a : Addr} {xs : List V} {g : TG} {tb : TS} {D : Ends} {σ : St} {H : Hp} (Pv : Nat → St → Hp → Prop) (h0 : Pv 0 σ H) (hl : ∀ i σ H, i ≤ xs.length → Pv i σ H → SqT K H a xs)
    (hs : ∀ (i : Nat) (x : V) (T : Addr) (σ : St) (H : Hp), xs[i]? = some x → Pv i σ H → H T = none → g (.ref T) σ (upd H T (.tup [.int (i : Nat), x])) fun σ2 H2 => tb { D with nx := Pv (i + 1), ct := Pv (i + 1), bk := D.nx } σ2 H2)
    (hd : ∀ σ H, Pv xs.length σ H → D.nx σ H) : ∃ W : Nat → Nat → St → Hp → Prop, (∃ m, W 0 m σ H) ∧ ∀ i m σ H, W i m σ H →
      ((Iet K a).stop i H ∧ D.nx σ H) ∨ ((Iet K a).go i H ∧ ∃ N : St → Hp → Prop, (∀ σ2 H2, N σ2 H2 → ∃ m2, m2 < m ∧ W (i + 1) m2 σ2 H2) ∧ ∀ x H2, (Iet K a).yld i H x H2 → g x σ H2 fun σ3 H3 => tb { D with nx := N, ct := N, bk := D.nx } σ3 H3) := by
  refine ⟨fun i m σ H => m = xs.length - i ∧ i ≤ xs.length ∧ Pv i σ H, ⟨xs.length, by simp, Nat.zero_le _, h0⟩, ?_⟩
  rintro i m σ H ⟨rfl, hi, p⟩
  have q := hl i σ H hi p
  rcases Nat.lt_or_ge i xs.length with hlt | hge
  · refine .inr ⟨⟨xs, xs[i], q, by simp [hlt]⟩, Pv (i + 1), fun σ2 H2 p2 => ⟨xs.length - (i + 1), by omega, rfl, hlt, p2⟩, fun x H2 y => ?_⟩
    obtain ⟨T, z, rfl, hT, rfl, y⟩ := y
    exact hs i z T σ H (y xs q) p hT
  · have e : i = xs.length := by omega
    subst e
    exact .inl ⟨⟨xs, q, Nat.le_refl _⟩, hd σ H p⟩
end
end L2.Hx

/-! Defs of the text as promises; the law's deck beside a part G of the heap that never changes. -/
namespace L2.Hx
open PySem PySem.Spec PyProof.Rows

/-- a def of the text, where it stands -/
structure Src (K : PySem.W.Frag) (mg : Str → Option Value) (x : Str) (st : Stmt) (ps : List Str) (f : Addr) (fd : FuncData) : Prop where
  fn : Fun K x x st f fd
  at_ : mg x = some (.ref f)
  bd : Binds K fd ps []
/-- a def with its promise -/
structure Df (P : Program) (w : World) (K : PySem.W.Frag) (mg : Str → Option Value) (base : Heap) (k : Nat) (x : Str) (ps : List Str) (sp : Sp) : Prop where
  ex : ∃ (f : Addr) (fd : FuncData), FnG P w K mg base CX0 k f fd ps sp ∧ mg x = some (.ref f) ∧ PySem.W.keepIn K (.ref f) = true ∧ Binds K fd ps []
section
variable {P : Program} {w : World} {K : PySem.W.Frag} {mg : Str → Option Value} {base : Heap} {k : Nat} {x : Str} {ps : List Str} {sp : Sp}
theorem Df.mk' {st : Stmt} {N : List Str} {f : Addr} {fd : FuncData} (S : Src K mg x st ps f fd) (sc : FnScope N ps (defScope st)) (hn : ∀ vs H Q E, sp vs H Q E → vs.length = ps.length)
    (hbody : ∀ (cdv : Value) (A : Around) (outer : List Env) (s : Shared) (H : Hp) (vs : List V) (Q : VK) (E : XK), (A.deeper (envOfC x (defScope st) s.heap.objs.size f cdv)).guards = some [] → Room k (A.deeper (envOfC x (defScope st) s.heap.objs.size f cdv)) → sp vs H Q E →
      ∃ t, PSs (cxOf CX0 P w K mg base N x (defScope st) f cdv A outer s H E).nox (defBody st) t ∧ t { nx := fun _ H' => Q .non H', rt := Q } (start N vs) H) : Df P w K mg base (k + 1) x ps sp :=
  ⟨f, fd, okG S.fn sc hn hbody, S.at_, S.fn.kp, S.bd⟩
/-- a def with its promise and its text -/
def DfS (P : Program) (w : World) (K : PySem.W.Frag) (mg : Str → Option Value) (base : Heap) (k : Nat) (x : Str) (st : Stmt) (ps : List Str) (sp : Sp) : Prop := ∃ (f : Addr) (fd : FuncData), FnG P w K mg base CX0 k f fd ps sp ∧ Src K mg x st ps f fd
theorem DfS.mk' {st : Stmt} {N : List Str} {f : Addr} {fd : FuncData} (S : Src K mg x st ps f fd) (sc : FnScope N ps (defScope st)) (hn : ∀ vs H Q E, sp vs H Q E → vs.length = ps.length)
    (hbody : ∀ (cdv : Value) (A : Around) (outer : List Env) (s : Shared) (H : Hp) (vs : List V) (Q : VK) (E : XK), (A.deeper (envOfC x (defScope st) s.heap.objs.size f cdv)).guards = some [] → Room k (A.deeper (envOfC x (defScope st) s.heap.objs.size f cdv)) → sp vs H Q E →
      ∃ t, PSs (cxOf CX0 P w K mg base N x (defScope st) f cdv A outer s H E).nox (defBody st) t ∧ t { nx := fun _ H' => Q .non H', rt := Q } (start N vs) H) : DfS P w K mg base (k + 1) x st ps sp := ⟨f, fd, okG S.fn sc hn hbody, S⟩
theorem DfS.df {st : Stmt} (D : DfS P w K mg base k x st ps sp) : Df P w K mg base k x ps sp := let ⟨f, fd, a, S⟩ := D; ⟨f, fd, a, S.at_, S.fn.kp, S.bd⟩
/-- .. by keywords -/
theorem DfS.kw {st : Stmt} {ks : List Str} {g : {α : Type} → List α → List α} (D : DfS P w K mg base k x st ps sp) (h : ∀ (kV doc pm : Value) (an : Option Addr) (cdv ct : Value) (ws : List Value), ws.length = ps.length → bindArgs (PySem.W.fnOf x x (defArgs st) (defBody st) (defScope st) .none kV doc pm an cdv ct) ⟨[], ks.zip ws⟩ = pure (ps.zip (g ws))) :
    ∃ f fd, FnG P w K mg base CX0 k f fd ps sp ∧ mg x = some (.ref f) ∧ PySem.W.keepIn K (.ref f) = true ∧ KwBinds K fd ps ks g := by
  obtain ⟨f, fd, a, S⟩ := D
  refine ⟨f, fd, a, S.at_, S.fn.kp, ?_⟩
  obtain ⟨oc, od, kV, doc, pm, an, cdv, ct, osl, rfl, lk, hcd⟩ := S.fn.ex
  exact fun s ws _ hl => .of_eq (h kV doc pm an cdv ct ws hl)
theorem Df.mono {j : Nat} (F : Df P w K mg base j x ps sp) (h : j ≤ k) : Df P w K mg base k x ps sp := let ⟨f, fd, a, b, c, d⟩ := F.ex; ⟨f, fd, a.mono h, b, c, d⟩
theorem Df.imp {sp' : Sp} (F : Df P w K mg base k x ps sp) (h : ∀ vs H Q E, sp' vs H Q E → sp vs H Q E) : Df P w K mg base k x ps sp' := let ⟨f, fd, a, b, c, d⟩ := F.ex; ⟨f, fd, a.imp h, b, c, d⟩
end
section
variable {X : Cx} {k j : Nat} {x : Str} {ps : List Str} {sp : Sp} {p pos : Pos} {e : Expr} {es : List Expr} {t : TA}
theorem pe_d (F : Df X.prog X.w X.K X.mg X.base k x ps sp) (hgd : X.A.guards = some []) (hr : Room j X.A) (ha : PA X (e :: es) t) (hj : k ≤ j := by first | exact Nat.le_refl _ | decide) (hg : Gl X x := by rfl)
    (hdb : (x == ("__debug__" : Str)) = false := by decide) (he : starEach (e :: es) X.env = (false, eval e X.env) :: starEach es X.env := by rfl) (hpl : (backTo pos (starEach es X.env)).any (·.1) = false := by rfl) :
    PE X (.Call (.Name x p) (e :: es) [] pos) (tCall sp [] E0 t) := by
  obtain ⟨f, fd, a, b, c, d⟩ := F.ex
  exact pe_g a hgd (hr.mono hj) hg b c d .nil pass0 ha hdb he hpl
theorem pe_d0 (F : Df X.prog X.w X.K X.mg X.base k x ps sp) (hgd : X.A.guards = some []) (hr : Room j X.A) (hj : k ≤ j := by first | exact Nat.le_refl _ | decide) (hg : Gl X x := by rfl) (hdb : (x == ("__debug__" : Str)) = false := by decide) :
    PE X (.Call (.Name x p) [] [] pos) (tCall sp [] E0 tNil) := by
  obtain ⟨f, fd, a, b, c, d⟩ := F.ex
  exact pe_g0 a hgd (hr.mono hj) hg b c d .nil pass0 hdb
end

/-! ### the deck -/
abbrev kGreat : Key := .inr "great"
abbrev kMixed : Key := .inr "mixed"
abbrev kTurns : Key := .inr "turns"
def deckD (l : Addr) (m t : Int) : List (Key × V) := [(kGreat, .ref l), (kMixed, .int m), (kTurns, .int t)]
theorem gm_ : ¬ kGreat = kMixed := of_decide_eq_false (by decide +kernel)
theorem gt_ : ¬ kGreat = kTurns := of_decide_eq_false (by decide +kernel)
theorem mt_ : ¬ kMixed = kTurns := of_decide_eq_false (by decide +kernel)
theorem deck_great (l : Addr) (m t : Int) : valV (deckD l m t) kGreat = some (.ref l) := by
  simp [valV, deckD, List.find?_cons]
theorem deck_mixed (l : Addr) (m t : Int) : valV (deckD l m t) kMixed = some (.int m) := by
  have h1 : decide (("great" : Str) = "mixed") = false := by decide +kernel
  simp [valV, deckD, List.find?_cons, h1]
theorem deck_turns (l : Addr) (m t : Int) : valV (deckD l m t) kTurns = some (.int t) := by
  have h1 : decide (("great" : Str) = "turns") = false := by decide +kernel
  have h2 : decide (("mixed" : Str) = "turns") = false := by decide +kernel
  simp [valV, deckD, List.find?_cons, h1, h2]
theorem deck_put_turns (l : Addr) (m t u : Int) : putK (deckD l m t) kTurns (.int u) = deckD l m u := by
  unfold putK deckD
  have h1 : decide (kGreat = kTurns) = false := by decide +kernel
  have h2 : decide (kMixed = kTurns) = false := by decide +kernel
  have h3 : decide (kTurns = kTurns) = true := by decide +kernel
  have n1 : ¬ kGreat = kTurns := of_decide_eq_false h1
  have n2 : ¬ kMixed = kTurns := of_decide_eq_false h2
  simp [List.any_cons, List.map_cons, n1, n2]
theorem deck_put_mixed (l : Addr) (m t u : Int) : putK (deckD l m t) kMixed (.int u) = deckD l u t := by
  unfold putK deckD
  have h1 : decide (kGreat = kMixed) = false := by decide +kernel
  have h2 : decide (kTurns = kMixed) = false := by decide +kernel
  have n1 : ¬ kGreat = kMixed := of_decide_eq_false h1
  have n2 : ¬ kTurns = kMixed := of_decide_eq_false h2
  simp [List.any_cons, List.map_cons, n1, n2]

/-- the deck stands at p with its list at l; G, which tracks neither, is a part of H -/
structure Wd (p l : Addr) (G H : Hp) : Prop where
  same : Same G H
  gp : G p = none
  gl : G l = none
  dk : ∃ m t : Int, 0 ≤ m ∧ m < 4294967291 ∧ H p = some (.dK (deckD l m t))
  ls : ∃ ns : List Int, ns.length ≤ 63 ∧ H l = some (.lst (ns.map V.int))
theorem Wd.ne {p l : Addr} {G H : Hp} (W : Wd p l G H) : p ≠ l := by
  obtain ⟨_, _, _, _, h1⟩ := W.dk
  obtain ⟨_, _, h2⟩ := W.ls
  exact ne_of h1 h2 (by intro q; cases q)
theorem Wd.np {p l : Addr} {G H : Hp} (W : Wd p l G H) {a : Addr} (h : H a = none) : a ≠ p := by
  obtain ⟨_, _, _, _, h1⟩ := W.dk
  intro e
  rw [e, h1] at h
  cases h
theorem Wd.nl {p l : Addr} {G H : Hp} (W : Wd p l G H) {a : Addr} (h : H a = none) : a ≠ l := by
  obtain ⟨_, _, h1⟩ := W.ls
  intro e
  rw [e, h1] at h
  cases h
/-- from one state to a later one: the deck may have been drawn from, G may have grown by new objects -/
structure Ext (p l : Addr) (G H G' H' : Hp) : Prop where
  w : Wd p l G' H'
  sub : Same G G'
  keep : ∀ b o, b ≠ p → b ≠ l → H b = some o → H' b = some o
  new : ∀ b o, H b = some o → G b = none → G' b = none
section
variable {p l : Addr} {G H G1 H1 G2 H2 : Hp}
theorem Ext.refl (W : Wd p l G H) : Ext p l G H G H := ⟨W, Same.refl G, fun _ _ _ _ h => h, fun _ _ _ h => h⟩
theorem Ext.trans (a : Ext p l G H G1 H1) (W : Wd p l G H) (b : Ext p l G1 H1 G2 H2) : Ext p l G H G2 H2 :=
  ⟨b.w, a.sub.trans b.sub, fun c o n1 n2 h => b.keep c o n1 n2 (a.keep c o n1 n2 h), fun c o h g => by
    have g1 := a.new c o h g
    by_cases n1 : c = p
    · subst n1; exact b.w.gp
    · by_cases n2 : c = l
      · subst n2; exact b.w.gl
      · exact b.new c o (a.keep c o n1 n2 h) g1⟩
/-- a new object, kept in G -/
theorem Wd.put (W : Wd p l G H) {a : Addr} {o : HO} (h : H a = none) : Ext p l G H (upd G a o) (upd H a o) := by
  have ga : G a = none := W.same.free h
  have np := W.np h
  have nl := W.nl h
  refine ⟨⟨fun b u q => ?_, by rw [upd_ne np.symm]; exact W.gp, by rw [upd_ne nl.symm]; exact W.gl, ?_, ?_⟩, fun b u q => ?_, fun b u _ _ q => ?_, fun b u q g => ?_⟩
  · by_cases e : b = a
    · subst e; rw [upd_same] at q ⊢; exact q
    · rw [upd_ne e] at q ⊢; exact W.same b u q
  · obtain ⟨m, t, m0, m1, e⟩ := W.dk
    exact ⟨m, t, m0, m1, by rw [upd_ne np.symm]; exact e⟩
  · obtain ⟨ns, z, e⟩ := W.ls
    exact ⟨ns, z, by rw [upd_ne nl.symm]; exact e⟩
  · rw [upd_ne (ne_of_none q ga)]; exact q
  · rw [upd_ne (ne_of_none q h)]; exact q
  · rw [upd_ne (ne_of_none q h)]; exact g
/-- a new object, not kept in G -/
theorem Wd.tmp (W : Wd p l G H) {a : Addr} {o : HO} (h : H a = none) : Ext p l G H G (upd H a o) := by
  have ga : G a = none := W.same.free h
  have np := W.np h
  have nl := W.nl h
  refine ⟨⟨fun b u q => ?_, W.gp, W.gl, ?_, ?_⟩, Same.refl G, fun b u _ _ q => ?_, fun b u q g => g⟩
  · rw [upd_ne (ne_of_none q ga)]; exact W.same b u q
  · obtain ⟨m, t, m0, m1, e⟩ := W.dk
    exact ⟨m, t, m0, m1, by rw [upd_ne np.symm]; exact e⟩
  · obtain ⟨ns, z, e⟩ := W.ls
    exact ⟨ns, z, by rw [upd_ne nl.symm]; exact e⟩
  · rw [upd_ne (ne_of_none q h)]; exact q
/-- an object of one's own, not in G, is changed -/
theorem Wd.own (W : Wd p l G H) {a : Addr} {o : HO} (hp : a ≠ p) (hl : a ≠ l) (hg : G a = none) : Wd p l G (upd H a o) := by
  refine ⟨fun b u q => ?_, W.gp, W.gl, ?_, ?_⟩
  · rw [upd_ne (ne_of_none q hg)]; exact W.same b u q
  · obtain ⟨m, t, m0, m1, e⟩ := W.dk
    exact ⟨m, t, m0, m1, by rw [upd_ne hp.symm]; exact e⟩
  · obtain ⟨ns, z, e⟩ := W.ls
    exact ⟨ns, z, by rw [upd_ne hl.symm]; exact e⟩
/-- an object of one's own is kept from now on -/
theorem Wd.hold (W : Wd p l G H) {a : Addr} {o : HO} (hp : a ≠ p) (hl : a ≠ l) (hg : G a = none) (h : H a = some o) : Wd p l (upd G a o) H ∧ Same G (upd G a o) := by
  refine ⟨⟨fun b u q => ?_, by rw [upd_ne hp.symm]; exact W.gp, by rw [upd_ne hl.symm]; exact W.gl, W.dk, W.ls⟩, fun b u q => ?_⟩
  · by_cases e : b = a
    · subst e; rw [upd_same] at q; rw [← q]; exact h
    · rw [upd_ne e] at q; exact W.same b u q
  · rw [upd_ne (ne_of_none q hg)]; exact q
end
end L2.Hx

/-! How long the text of data can be. -/
namespace L2.Hx
open PySem PySem.Spec PyProof.Rows
mutual
def okB : PyData → Bool
  | .none | .bool _ => true
  | .int i => decide (i.natAbs.log2 < 1920)
  | .str x => x.cps.toList.all fun c => decide (c < 1114112)
  | .list xs | .tuple xs => okAll xs
  | .dict kvs => okKv kvs
def okAll : List PyData → Bool
  | [] => true
  | x :: xs => okB x && okAll xs
def okKv : List (PyData × PyData) → Bool
  | [] => true
  | (k, v) :: r => okB k && okB v && okKv r
end
mutual
/-- no less than the signs of its text -/
def siz : PyData → Nat
  | .none | .bool _ => 5
  | .int _ => 1921
  | .str x => 10 * x.length + 2
  | .list xs | .tuple xs => sizAll xs + 3
  | .dict kvs => sizKv kvs + 2
def sizAll : List PyData → Nat
  | [] => 0
  | x :: xs => siz x + 2 + sizAll xs
def sizKv : List (PyData × PyData) → Nat
  | [] => 0
  | (k, v) :: r => siz k + siz v + 4 + sizKv r
end
theorem okAll_of : ∀ {xs : List PyData}, (∀ x ∈ xs, okB x = true) → okAll xs = true
  | [], _ => rfl
  | x :: xs, h => by
    rw [okAll, h x List.mem_cons_self, okAll_of fun y m => h y (List.mem_cons_of_mem _ m)]
    rfl
theorem sizAll_le {n : Nat} : ∀ {xs : List PyData}, (∀ x ∈ xs, siz x ≤ n) → sizAll xs ≤ (n + 2) * xs.length
  | [], _ => by simp [sizAll]
  | x :: xs, h => by
    have h1 := h x List.mem_cons_self
    have h2 := sizAll_le fun y m => h y (List.mem_cons_of_mem x m)
    rw [sizAll, List.length_cons, Nat.mul_add, Nat.mul_one]
    omega
theorem depthAll_le {n : Nat} : ∀ {xs : List PyData}, (∀ x ∈ xs, x.depth ≤ n) → PyData.depthAll xs ≤ n
  | [], _ => by simp [PyData.depthAll]
  | x :: xs, h => by
    have h1 := h x List.mem_cons_self
    have h2 := depthAll_le fun y m => h y (List.mem_cons_of_mem x m)
    rw [PyData.depthAll]
    omega
theorem textFrom0 (ts : List Str) (acc : Str) : (textFrom 0 acc ts).length ≤ acc.length + piled ts := by
  have h := textFrom_len ts 0 acc
  cases ts with
  | nil => exact Nat.le_add_right _ _
  | cons t r =>
    show (textFrom 1 (acc ++ t) r).length ≤ _
    rw [textFrom_length_pos r 1 (acc ++ t) Nat.one_pos, strLen_append, piled_cons]
    omega
theorem listText_le (ts : List Str) : (listText ts).length ≤ piled ts + 2 := by
  have h := textFrom0 ts "["
  unfold listText
  rw [strLen_append]
  have e1 : (("[" : Str)).length = 1 := rfl
  have e2 : (("]" : Str)).length = 1 := rfl
  omega
theorem dictText_le (ts : List Str) : (dictText ts).length ≤ piled ts + 2 := by
  have e1 : (("{" : Str)).length = 1 := rfl
  have e2 : (("}" : Str)).length = 1 := rfl
  unfold dictText
  rw [strLen_append, strLen_append]
  by_cases h : ts = []
  · subst h
    decide +kernel
  · have := join_length_add ts h
    omega
theorem int_len {i : Int} (h : i.natAbs.log2 < 1920) : (Str.ofString (toString i)).length ≤ 1921 := by
  have e := int_text_length_le (k := 1920) (by decide) h
  rw [PySem.ofString_length]
  omega
mutual
theorem ok_show : ∀ {d : PyData}, okB d = true → d.showable = true ∧ d.shown.length ≤ siz d
  | .none, _ => ⟨rfl, by simp only [PyData.shown, siz]; decide⟩
  | .bool b, _ => ⟨rfl, by simp only [PyData.shown, siz]; cases b <;> decide⟩
  | .int i, h => ⟨by simpa [PyData.showable, okB] using h, by simp only [PyData.shown, siz]; exact int_len (by simpa [okB] using h)⟩
  | .str x, h => ⟨rfl, by
      simp only [PyData.shown, siz]
      rw [okB, List.all_eq_true] at h
      exact StrLaws.reprText_len x fun c m => Nat.lt_trans (of_decide_eq_true (h c m)) (by decide)⟩
  | .list xs, h => by
    obtain ⟨a, b⟩ := ok_showAll (xs := xs) (by simpa [okB] using h)
    refine ⟨by simpa [PyData.showable] using a, ?_⟩
    simp only [PyData.shown, siz]
    exact Nat.le_trans (listText_le _) (by omega)
  | .tuple xs, h => by
    obtain ⟨a, b⟩ := ok_showAll (xs := xs) (by simpa [okB] using h)
    refine ⟨by simpa [PyData.showable] using a, ?_⟩
    simp only [PyData.shown, siz]
    exact Nat.le_trans (fmt_text _) (by omega)
  | .dict kvs, h => by
    obtain ⟨a, b⟩ := ok_showKv (kvs := kvs) (by simpa [okB] using h)
    refine ⟨by simpa [PyData.showable] using a, ?_⟩
    simp only [PyData.shown, siz]
    exact Nat.le_trans (dictText_le _) (by omega)
theorem ok_showAll : ∀ {xs : List PyData}, okAll xs = true → PyData.showableAll xs = true ∧ piled (PyData.shownAll xs) ≤ sizAll xs
  | [], _ => ⟨rfl, by simp [PyData.shownAll, piled_nil]⟩
  | x :: xs, h => by
    rw [okAll, Bool.and_eq_true] at h
    obtain ⟨a, b⟩ := ok_show h.1
    obtain ⟨c, d⟩ := ok_showAll h.2
    refine ⟨by rw [PyData.showableAll, a, c]; rfl, ?_⟩
    rw [PyData.shownAll, piled_cons, sizAll]
    omega
theorem ok_showKv : ∀ {kvs : List (PyData × PyData)}, okKv kvs = true → PyData.showableKv kvs = true ∧ piled (PyData.shownKv kvs) ≤ sizKv kvs
  | [], _ => ⟨rfl, by simp [PyData.shownKv, piled_nil]⟩
  | (k, v) :: r, h => by
    rw [okKv, Bool.and_eq_true, Bool.and_eq_true] at h
    obtain ⟨a, b⟩ := ok_show h.1.1
    obtain ⟨a2, b2⟩ := ok_show h.1.2
    obtain ⟨c, d⟩ := ok_showKv h.2
    refine ⟨by rw [PyData.showableKv, a, a2, c]; rfl, ?_⟩
    rw [PyData.shownKv, piled_cons, sizKv, strLen_append, strLen_append]
    have e1 : ((": " : Str)).length = 2 := rfl
    omega
end
/-- data that repr can tell: at most k deep, of a text of at most n signs -/
structure Okd (k n : Nat) (d : PyData) : Prop where
  ok : okB d = true
  dp : d.depth ≤ k
  sz : siz d ≤ n
theorem Okd.mono {k n k2 n2 : Nat} {d : PyData} (h : Okd k n d) (hk : k ≤ k2 := by decide) (hn : n ≤ n2 := by decide) : Okd k2 n2 d := ⟨h.ok, Nat.le_trans h.dp hk, Nat.le_trans h.sz hn⟩
theorem Okd.tup {k n m N : Nat} {ds : List PyData} (h : ∀ d ∈ ds, Okd k n d) (hl : ds.length ≤ m) (hN : (n + 2) * m + 3 ≤ N := by decide) : Okd (k + 1) N (.tuple ds) := by
  refine ⟨okAll_of fun d hd => (h d hd).ok, ?_, ?_⟩
  · have := depthAll_le fun d hd => (h d hd).dp
    simp only [PyData.depth]
    omega
  · have h1 := sizAll_le fun d hd => (h d hd).sz
    have h2 : (n + 2) * ds.length ≤ (n + 2) * m := Nat.mul_le_mul_left _ hl
    show sizAll ds + 3 ≤ N
    omega
theorem Okd.list {k n m N : Nat} {ds : List PyData} (h : ∀ d ∈ ds, Okd k n d) (hl : ds.length ≤ m) (hN : (n + 2) * m + 3 ≤ N := by decide) : Okd (k + 1) N (.list ds) := by
  have a := Okd.tup h hl hN
  exact ⟨a.ok, a.dp, a.sz⟩
theorem Okd.kids {k n : Nat} {ds : List PyData} (h : Okd (k + 1) n (.tuple ds)) : ∀ d ∈ ds, Okd k n d := by
  have h1 : okAll ds = true := h.ok
  have h2 : PyData.depthAll ds ≤ k := by
    have := h.dp
    simp only [PyData.depth] at this
    omega
  have h3 : sizAll ds ≤ n := by
    have := h.sz
    rw [siz] at this
    omega
  clear h
  induction ds with
  | nil => intro d hd; cases hd
  | cons x xs ih =>
    rw [okAll, Bool.and_eq_true] at h1
    rw [PyData.depthAll] at h2
    rw [sizAll] at h3
    intro d hd
    rcases List.mem_cons.mp hd with rfl | hd
    · exact ⟨h1.1, by omega, by omega⟩
    · exact ih h1.2 (by omega) (by omega) d hd
theorem Okd.shown {k n : Nat} {d : PyData} (h : Okd k n d) (hk : k ≤ 60) (hn : n ≤ sizeLine) : d.showable = true ∧ d.depth ≤ 60 ∧ d.shown.length ≤ sizeLine :=
  let ⟨a, b⟩ := ok_show h.ok
  ⟨a, Nat.le_trans h.dp hk, Nat.le_trans b (Nat.le_trans h.sz hn)⟩
end L2.Hx

/-! What a saying is, twice: as the program looks, and as the law does. -/
namespace L2.Hx
open PySem PySem.Spec PyProof.Rows
def w_WORDS : List Str := ["nil", "result", "fun", "head", "foot", "with", "var", "if", "else", "while", "keep", "new", "free", "any", "cell", "list", "empty", "is", "isnt"]
def w_LOOK_WORDS : List Str := ["is", "isnt"]
def w_PART_WORDS : List Str := ["cell", "list"]
def w_nr : List Str := ["nil", "result"]
def abc : List Nat := ("abcdefghijklmnopqrstuvwxyz" : Str).cps.toList
def letters (z : Str) : Bool := z.cps.toList.all fun c => decide (c ∈ abc)
def lenOk (z : Str) : Bool := decide (1 ≤ (z.length : Int)) && decide ((z.length : Int) ≤ 8)
def nameP (d : PyData) : Bool := match d with
  | .str z => lenOk z && (!decide (z ∈ w_WORDS) && letters z)
  | _ => false
def termP (d : PyData) : Bool := inWs d w_nr || nameP d
def termL (d : PyData) : Bool := match d with
  | .str z => lenOk z && (letters z && (decide (z ∈ w_nr) || !decide (z ∈ w_WORDS)))
  | _ => false
theorem term_eq (d : PyData) : termP d = termL d := by
  cases d with
  | str z =>
    by_cases h : z ∈ w_nr
    · rcases List.mem_cons.mp h with e | h2
      · subst e
        decide +kernel
      · rcases List.mem_cons.mp h2 with e | h3
        · subst e
          decide +kernel
        · cases h3
    · have e1 : decide (z ∈ w_nr) = false := decide_eq_false h
      show (decide (z ∈ w_nr) || (lenOk z && (!decide (z ∈ w_WORDS) && letters z))) = (lenOk z && (letters z && (decide (z ∈ w_nr) || !decide (z ∈ w_WORDS))))
      rw [e1, Bool.false_or, Bool.false_or]
      cases lenOk z <;> cases letters z <;> cases decide (z ∈ w_WORDS) <;> rfl
  | _ => rfl
def rowD (ws : List Str) (d : PyData) : Bool := match d with
  | .tuple [a, b, c] => inWs a ws && (termL b && termL c)
  | _ => false
def rowsD (ws : List Str) (most : Int) (d : PyData) : Bool := match d with
  | .tuple ds => decide ((ds.length : Int) ≤ most) && ds.all (rowD ws)
  | _ => false
def clauseD (d : PyData) : Bool := match d with
  | .tuple [a, b] => rowsD w_LOOK_WORDS 30 a && rowsD w_PART_WORDS 8 b
  | _ => false
/-- from the i-th item on -/
def dueFrom (i : Nat) : List PyData → PyData
  | [] => .none
  | d :: ds => if clauseD d then dueFrom (i + 1) ds else .tuple [.str "clause", .int i]
def dueD (d : PyData) : PyData := match d with
  | .tuple ds => if 1 ≤ ds.length ∧ ds.length ≤ 64 then dueFrom 0 ds else .str "form"
  | _ => .str "form"
theorem dueFrom_ok : ∀ (ds : List PyData) (i : Nat), (∀ d ∈ ds, clauseD d = true) → dueFrom i ds = .none
  | [], _, _ => rfl
  | d :: ds, i, h => by
    rw [dueFrom, if_pos (h d List.mem_cons_self)]
    exact dueFrom_ok ds (i + 1) fun e m => h e (List.mem_cons_of_mem _ m)
theorem dueFrom_okd : ∀ (ds : List PyData) (i : Nat), i + ds.length ≤ 100 → Okd 1 5000 (dueFrom i ds)
  | [], i, _ => ⟨rfl, by simp [dueFrom, PyData.depth], by show 5 ≤ 5000; decide⟩
  | d :: ds, i, h => by
    rw [List.length_cons] at h
    rw [dueFrom]
    split
    · exact dueFrom_okd ds (i + 1) (by omega)
    · have h1 : okB (.int (i : Int)) = true := by
        rw [okB]
        refine decide_eq_true ?_
        have h7 : (i : Int).natAbs < 2 ^ 7 := by omega
        exact Nat.lt_trans (PySem.Flt.log2_lt_of (by decide) h7) (by decide)
      have h2 : okB (.str "clause") = true := by decide +kernel
      refine ⟨by rw [okB, okAll, okAll, okAll, h1, h2]; rfl, by simp [PyData.depth, PyData.depthAll], ?_⟩
      show siz (.str "clause") + 2 + (1921 + 2 + 0) + 3 ≤ 5000
      have : siz (.str "clause") = 62 := by decide +kernel
      omega
theorem due_okd (d : PyData) : Okd 1 5000 (dueD d) := by
  have hf : Okd 1 5000 (.str "form") := ⟨by decide +kernel, by simp [PyData.depth], by decide +kernel⟩
  cases d with
  | tuple ds =>
    show Okd 1 5000 (if 1 ≤ ds.length ∧ ds.length ≤ 64 then dueFrom 0 ds else .str "form")
    split
    · exact dueFrom_okd ds 0 (by omega)
    · exact hf
  | _ => exact hf
/-- the size of an item -/
theorem siz_kid {d : PyData} : ∀ {ds : List PyData}, d ∈ ds → siz d ≤ siz (.tuple ds) := by
  intro ds h
  rw [siz]
  induction ds with
  | nil => cases h
  | cons x xs ih =>
    rw [sizAll]
    rcases List.mem_cons.mp h with rfl | h
    · omega
    · have := ih h
      omega
/-- data that the looks take -/
structure Fit (d : PyData) : Prop where
  ok : okB d = true
  sz : siz d ≤ sizeLine
theorem okAll_mem {d : PyData} : ∀ {ds : List PyData}, okAll ds = true → d ∈ ds → okB d = true
  | x :: xs, h, m => by
    rw [okAll, Bool.and_eq_true] at h
    rcases List.mem_cons.mp m with rfl | m
    · exact h.1
    · exact okAll_mem h.2 m
theorem Fit.kid {d : PyData} {ds : List PyData} (h : Fit (.tuple ds)) (m : d ∈ ds) : Fit d :=
  ⟨okAll_mem (show okAll ds = true from h.ok) m, Nat.le_trans (siz_kid m) h.sz⟩
theorem siz_len : ∀ ds : List PyData, ds.length ≤ siz (.tuple ds) := by
  intro ds
  rw [siz]
  induction ds with
  | nil => simp
  | cons x xs ih =>
    rw [sizAll, List.length_cons]
    omega
theorem siz_str (z : Str) : z.length ≤ siz (.str z) := by
  rw [siz]
  omega
end L2.Hx

/-! Expressions that lay data: what they come to, by its size. -/
namespace L2.Hx
open PySem PySem.Spec PyProof.Rows

/-! ### t != () -/
def rNeNil (K : PySem.W.Frag) : R2 := fun x y H Q => ∃ a b xs, x = .ref a ∧ y = .ref b ∧ SqT K H a xs ∧ SqT K H b [] ∧ Q (.bl (!xs.isEmpty)) H
theorem op_neNil {X : Cx} (hu : X.A.units + 64 < cLine) : OpR X (compareOp .NotEq) (rNeNil X.K) := by
  intro pins s σ H x y v u Q I rx ry h
  obtain ⟨a, b, xs, rfl, rfl, ha, hb, q⟩ := h
  cases rx
  cases ry
  obtain ⟨its, r1, p1, _⟩ := I.tuple ha
  obtain ⟨its2, r2, p2, _⟩ := I.tuple hb
  cases r2
  refine SeqAt.RcNeAt.tuples (e := fun _ => true) p1 p2 (by omega) (fun j h1 h2 => absurd h2 (by simp)) _ _ _ _ ⟨.bl _, H, I, rfl, ?_⟩
  have hl := r1.length
  have e : (!((List.range (min its.toArray.size ([] : List Value).toArray.size)).all (fun _ => true) && its.toArray.size == ([] : List Value).toArray.size)) = !xs.isEmpty := by
    cases xs with
    | nil =>
      cases r1
      rfl
    | cons x xs =>
      cases r1
      rfl
  rw [e]
  exact q

/-- all m of at most these depths and sizes -/
def All (k n m : Nat) (ds : List PyData) : Prop := ds.length = m ∧ ∀ d ∈ ds, Okd k n d
/-- a tuple of at most m such -/
def Tp (k n m : Nat) (d : PyData) : Prop := ∃ ds, d = .tuple ds ∧ ds.length ≤ m ∧ ∀ x ∈ ds, Okd k n x
/-- a list of at most m such, not empty -/
def Ls (k n m : Nat) (d : PyData) : Prop := ∃ ds, d = .list ds ∧ 0 < ds.length ∧ ds.length ≤ m ∧ ∀ x ∈ ds, Okd k n x
theorem Tp.okd {k n m N : Nat} {d : PyData} (h : Tp k n m d) (hN : (n + 2) * m + 3 ≤ N := by decide) : Okd (k + 1) N d := by
  obtain ⟨ds, rfl, hl, h⟩ := h
  exact Okd.tup h hl hN
theorem Ls.okd {k n m N : Nat} {d : PyData} (h : Ls k n m d) (hN : (n + 2) * m + 3 ≤ N := by decide) : Okd (k + 1) N d := by
  obtain ⟨ds, rfl, _, hl, h⟩ := h
  exact Okd.list h hl hN
theorem Tp.mono {k n m k2 n2 m2 : Nat} {d : PyData} (h : Tp k n m d) (hk : k ≤ k2 := by decide) (hn : n ≤ n2 := by decide) (hm : m ≤ m2 := by decide) : Tp k2 n2 m2 d := by
  obtain ⟨ds, rfl, hl, h⟩ := h
  exact ⟨ds, rfl, Nat.le_trans hl hm, fun x m => (h x m).mono hk hn⟩
theorem Okd.tp {k n : Nat} {ds : List PyData} (h : Okd (k + 1) n (.tuple ds)) {m : Nat} (hl : ds.length ≤ m) : Tp k n m (.tuple ds) := ⟨ds, rfl, hl, h.kids⟩

section
variable (K : PySem.W.Frag) (p l : Addr) (σ : St) (G : Hp)
/-- whatever the heap, what comes is such data; the deck may be drawn from -/
def TD (t : TE) (φ : PyData → Prop) : Prop := ∀ (G1 H : Hp) (Q : VK), Wd p l G1 H → Same G G1 → (∀ v d G2 H2, Ext p l G1 H G2 H2 → Da K G2 v d → φ d → Q v H2) → t σ H Q
def TDs (t : TA) (Φ : List PyData → Prop) : Prop := ∀ (G1 H : Hp) (Q : List V → Hp → Prop), Wd p l G1 H → Same G G1 → (∀ vs ds G2 H2, Ext p l G1 H G2 H2 → DaAll K G2 vs ds → Φ ds → Q vs H2) → t σ H Q
end
/-- a slice's end -/
def TPt (σ : St) (t : TO) : Prop := ∀ (H : Hp) (Q : Option Int → Hp → Prop), (∀ o, Q o H) → t σ H Q
section
variable {K : PySem.W.Frag} {p l : Addr} {σ : St} {G : Hp} {t ta tb : TE} {tr : TA} {φ ψ : PyData → Prop} {Φ : List PyData → Prop} {k n m : Nat}
theorem TD.imp (h : TD K p l σ G t φ) (hi : ∀ d, φ d → ψ d) : TD K p l σ G t ψ := fun G1 H Q W s k => h G1 H Q W s fun v d G2 H2 e da f => k v d G2 H2 e da (hi d f)
theorem TD.run {H : Hp} {Q : VK} (h : TD K p l σ G t φ) (W : Wd p l G H) (k : ∀ v d G2 H2, Ext p l G H G2 H2 → Da K G2 v d → φ d → Q v H2) : t σ H Q := h G H Q W (Same.refl G) k
theorem TD.asg {H : Hp} {D : Ends} {i : Nat} (h : TD K p l σ G t φ) (W : Wd p l G H) (k : ∀ v d G2 H2, Ext p l G H G2 H2 → Da K G2 v d → φ d → D.nx (σ.set i (some v)) H2) : tAsg t (gName i) D σ H := h G H _ W (Same.refl G) k
theorem TD.asgG {H : Hp} {D : Ends} {g : TG} (h : TD K p l σ G t φ) (W : Wd p l G H) (k : ∀ v d G2 H2, Ext p l G H G2 H2 → Da K G2 v d → φ d → g v σ H2 D.nx) : tAsg t g D σ H := h G H _ W (Same.refl G) k
theorem TD.ret {H : Hp} {D : Ends} (h : TD K p l σ G t φ) (W : Wd p l G H) (k : ∀ v d G2 H2, Ext p l G H G2 H2 → Da K G2 v d → φ d → D.rt v H2) : tRet t D σ H := h G H _ W (Same.refl G) k
theorem TD.flat {v : V} {d : PyData} (hd : ∀ G, Da K G v d) (hf : φ d) : TD K p l σ G (tC v) φ := fun G1 H Q W _ k => k _ _ _ _ (Ext.refl W) (hd _) hf
theorem td_str {x : Str} (h : okB (.str x) = true := by decide +kernel) (hn : siz (.str x) ≤ n := by decide +kernel) : TD K p l σ G (tC (.str x)) (Okd k n) := .flat (fun _ => .str x) ⟨h, Nat.zero_le _, hn⟩
theorem td_int {i : Int} (h : i.natAbs.log2 < 1920 := by decide) (hn : 1921 ≤ n := by decide) : TD K p l σ G (tC (.int i)) (Okd k n) := .flat (fun _ => .int i) ⟨decide_eq_true h, Nat.zero_le _, hn⟩
theorem td_non (hn : 5 ≤ n := by decide) : TD K p l σ G (tC .non) (Okd k n) := .flat (fun _ => .non) ⟨rfl, Nat.zero_le _, hn⟩
theorem td_bl {b : Bool} (hn : 5 ≤ n := by decide) : TD K p l σ G (tC (.bl b)) (Okd k n) := .flat (fun _ => .bl b) ⟨rfl, Nat.zero_le _, hn⟩
theorem td_var {i : Nat} {v : V} {d : PyData} (hi : σ[i]? = some (some v)) (hd : Da K G v d) (hf : φ d) : TD K p l σ G (tVar i) φ := fun G1 H Q W s k => ⟨v, hi, k _ _ _ _ (Ext.refl W) (hd.mono s) hf⟩
theorem tds_nil : TDs K p l σ G tNil (All k n 0) := fun G1 H Q W _ k => k _ _ _ _ (Ext.refl W) .nil ⟨rfl, fun d h => absurd h List.not_mem_nil⟩
theorem tds_cons (h : TD K p l σ G t (Okd k n)) (hr : TDs K p l σ G tr (All k n m)) : TDs K p l σ G (tCons t tr) (All k n (m + 1)) := fun G1 H Q W s k =>
  h G1 H _ W s fun v d G2 H2 e da f => hr G2 H2 _ e.w (s.trans e.sub) fun vs ds G3 H3 e3 das f3 => k _ _ _ _ (e.trans W e3) (.cons (da.mono e3.sub) das)
    ⟨by rw [List.length_cons, f3.1], fun x mx => by
      rcases List.mem_cons.mp mx with rfl | mx
      · exact f
      · exact f3.2 x mx⟩
/-- for arguments of any kinds -/
theorem tds_consP (h : TD K p l σ G t φ) (hr : TDs K p l σ G tr Φ) : TDs K p l σ G (tCons t tr) (fun ds => ∃ d r, ds = d :: r ∧ φ d ∧ Φ r) := fun G1 H Q W s k =>
  h G1 H _ W s fun v d G2 H2 e da f => hr G2 H2 _ e.w (s.trans e.sub) fun vs ds G3 H3 e3 das f3 => k _ _ _ _ (e.trans W e3) (.cons (da.mono e3.sub) das) ⟨d, ds, rfl, f, f3⟩
theorem tds_nilP : TDs K p l σ G tNil (fun ds => ds = []) := fun G1 H Q W _ k => k _ _ _ _ (Ext.refl W) .nil rfl
theorem td_tupP (h : TDs K p l σ G tr Φ) (hz : ∀ ds, Φ ds → ds.length ≤ sizeLine) : TD K p l σ G (tTup tr) (fun d => ∃ ds, d = .tuple ds ∧ Φ ds) := fun G1 H Q W s k =>
  h G1 H _ W s fun vs ds G2 H2 e da f => ⟨by rw [da.length]; exact hz ds f, fun a ha => k _ _ _ _ (e.trans W (e.w.put ha)) (.tup (SqT.of upd_same) (da.mono (e.w.put (o := .tup vs) ha).sub)) ⟨ds, rfl, f⟩⟩
theorem td_tup (h : TDs K p l σ G tr (All k n m)) (hz : m ≤ sizeLine := by decide) : TD K p l σ G (tTup tr) (Tp k n m) :=
  (td_tupP h fun ds f => by rw [f.1]; exact hz).imp fun d ⟨ds, e, f⟩ => ⟨ds, e, Nat.le_of_eq f.1, f.2⟩
theorem td_lst (h : TDs K p l σ G tr (All k n (m + 1))) (hz : m + 1 ≤ sizeLine := by decide) : TD K p l σ G (tLst tr) (Ls k n (m + 1)) := fun G1 H Q W s k =>
  h G1 H _ W s fun vs ds G2 H2 e da f => ⟨by rw [da.length, f.1]; exact hz, fun a ha => k _ _ _ _ (e.trans W (e.w.put ha)) (.lst upd_same (da.mono (e.w.put (o := .lst vs) ha).sub)) ⟨ds, rfl, by rw [f.1]; omega, Nat.le_of_eq f.1, f.2⟩⟩
theorem td_lst0 (hn : 3 ≤ n := by decide) : TD K p l σ G (tLst tNil) (Okd (k + 1) n) := fun G1 H Q W s k => ⟨Nat.zero_le _, fun a ha => k _ _ _ _ (W.put ha) (.lst upd_same .nil) ⟨rfl, by simp [PyData.depth, PyData.depthAll], hn⟩⟩
theorem td_tup0 : TD K p l σ G (tTup tNil) (Tp k n 0) := fun G1 H Q W s k => ⟨Nat.zero_le _, fun a ha => k _ _ _ _ (W.put ha) (.tup (SqT.of upd_same) .nil) ⟨[], rfl, Nat.le_refl _, fun x h => absurd h List.not_mem_nil⟩⟩
theorem td_dict0 (hn : 2 ≤ n := by decide) : TD K p l σ G tDNewK (Okd (k + 1) n) := fun G1 H Q W s k => fun a ha => k _ _ _ _ (W.put ha) (Da.dct (kvs := []) upd_same .nil) ⟨rfl, by simp [PyData.depth, PyData.depthKv], hn⟩
theorem Da.tpI {G : Hp} {v : V} {d : PyData} (h : Da K G v d) (f : Tp k n m d) : ∃ a xs ds, v = .ref a ∧ d = .tuple ds ∧ SqT K G a xs ∧ DaAll K G xs ds ∧ ds.length ≤ m ∧ ∀ x ∈ ds, Okd k n x := by
  obtain ⟨ds, rfl, h1, h2⟩ := f
  cases h with
  | tup a b => exact ⟨_, _, ds, rfl, rfl, a, b, h1, h2⟩
theorem Da.lsI {G : Hp} {v : V} {d : PyData} (h : Da K G v d) (f : Ls k n m d) : ∃ a xs ds, v = .ref a ∧ d = .list ds ∧ G a = some (.lst xs) ∧ DaAll K G xs ds ∧ 0 < ds.length ∧ ds.length ≤ m ∧ ∀ x ∈ ds, Okd k n x := by
  obtain ⟨ds, rfl, h0, h1, h2⟩ := f
  cases h with
  | lst a b => exact ⟨_, _, ds, rfl, rfl, a, b, h0, h1, h2⟩
/-- t + u, tuples -/
theorem td_catA {m2 : Nat} (ha : TD K p l σ G ta (Tp k n m)) (hb : TD K p l σ G tb (Tp k n m2)) (hz : m + m2 ≤ sizeLine := by decide) : TD K p l σ G (tOp (rCatA K) ta tb) (Tp k n (m + m2)) := fun G1 H Q W s k =>
  ha G1 H _ W s fun v d G2 H2 e da f => hb G2 H2 _ e.w (s.trans e.sub) fun u d2 G3 H3 e3 da3 f3 => by
    obtain ⟨a, xs, ds, rfl, rfl, t1, a1, l1, o1⟩ := da.tpI f
    obtain ⟨b, ys, es, rfl, rfl, t2, a2, l2, o2⟩ := da3.tpI f3
    have E := e.trans W e3
    refine ⟨a, b, xs, ys, rfl, rfl, sameT (e3.sub.trans e3.w.same) t1, sameT e3.w.same t2, by rw [a1.length, a2.length]; omega, fun hx => ?_, fun hx hy => ?_, fun hx hy c hc => ?_⟩
    · exact k _ _ _ _ E da3 ⟨es, rfl, by omega, o2⟩
    · exact k _ _ _ _ E (da.mono e3.sub) ⟨ds, rfl, by omega, o1⟩
    · have e4 := e3.w.put (o := .tup (xs ++ ys)) hc
      refine k _ _ _ _ (E.trans W e4) (.tup (SqT.of upd_same) ((a1.mono (e3.sub.trans e4.sub)).append (a2.mono e4.sub))) ⟨ds ++ es, rfl, by rw [List.length_append]; omega, fun x mx => ?_⟩
      rcases List.mem_append.mp mx with mx | mx
      · exact o1 x mx
      · exact o2 x mx
/-- xs + ys, lists -/
theorem td_cat {m2 : Nat} (ha : TD K p l σ G ta (Ls k n m)) (hb : TD K p l σ G tb (Ls k n m2)) (hz : m + m2 ≤ sizeLine := by decide) : TD K p l σ G (tOp rCat ta tb) (Ls k n (m + m2)) := fun G1 H Q W s k =>
  ha G1 H _ W s fun v d G2 H2 e da f => hb G2 H2 _ e.w (s.trans e.sub) fun u d2 G3 H3 e3 da3 f3 => by
    obtain ⟨a, xs, ds, rfl, rfl, t1, a1, z1, l1, o1⟩ := da.lsI f
    obtain ⟨b, ys, es, rfl, rfl, t2, a2, z2, l2, o2⟩ := da3.lsI f3
    have E := e.trans W e3
    refine ⟨a, b, xs, ys, rfl, rfl, (e3.sub.trans e3.w.same) _ _ t1, e3.w.same _ _ t2, by rw [a1.length, a2.length]; omega, fun c hc => ?_⟩
    have e4 := e3.w.put (o := .lst (xs ++ ys)) hc
    refine k _ _ _ _ (E.trans W e4) (.lst upd_same ((a1.mono (e3.sub.trans e4.sub)).append (a2.mono e4.sub))) ⟨ds ++ es, rfl, by rw [List.length_append]; omega, by rw [List.length_append]; omega, fun x mx => ?_⟩
    rcases List.mem_append.mp mx with mx | mx
    · exact o1 x mx
    · exact o2 x mx
/-- t[lo:hi] -/
theorem td_sl {tl th : TO} (ha : TD K p l σ G ta (Tp k n m)) (hl : TPt σ tl) (hh : TPt σ th) : TD K p l σ G (tSl (rSlA K) ta tl th) (Tp k n m) := fun G1 H Q W s k =>
  ha G1 H _ W s fun v d G2 H2 e da f => hl H2 _ fun lo => hh H2 _ fun hi => by
    obtain ⟨a, xs, ds, rfl, rfl, t1, a1, l1, o1⟩ := da.tpI f
    refine ⟨a, xs, rfl, sameT e.w.same t1, fun _ => k _ _ _ _ e da ⟨ds, rfl, l1, o1⟩, fun _ c hc => ?_⟩
    have e4 := e.w.put (o := .tup (cutV xs lo hi)) hc
    refine k _ _ _ _ (e.trans W e4) (.tup (SqT.of upd_same) ((((a1.drop _).take _).mono e4.sub))) ⟨_, rfl, ?_, fun x mx => o1 x (List.mem_of_mem_drop (List.mem_of_mem_take mx))⟩
    rw [List.length_take, List.length_drop]
    omega
theorem tp_none : TPt σ tNoPart := fun H Q h => h none
theorem tp_int {i : Int} : TPt σ (tPart (tC (.int i))) := fun H Q h => ⟨i, rfl, h _⟩
theorem tp_var {i : Nat} {z : Int} (hi : σ[i]? = some (some (.int z))) : TPt σ (tPart (tVar i)) := fun H Q h => ⟨_, hi, _, rfl, h _⟩
theorem tp_add {i : Nat} {z c : Int} (hi : σ[i]? = some (some (.int z))) : TPt σ (tPart (tOp (rI0 fun i j => .int (i + j)) (tVar i) (tC (.int c)))) := fun H Q h => ⟨_, hi, _, _, rfl, rfl, _, rfl, h _⟩
/-- (x,) * c -/
theorem td_rep {c : Int} {N : Nat} (ha : TD K p l σ G ta (fun d => ∃ x, d = .tuple [x] ∧ Okd k n x)) (h2 : 2 ≤ c := by decide) (h3 : c ≤ 1000 := by decide) (hN : c.toNat ≤ N := by decide) : TD K p l σ G (tOp (rRepT K) ta (tC (.int c))) (Tp k n N) := fun G1 H Q W s k =>
  ha G1 H _ W s fun v d G2 H2 e da f => by
    obtain ⟨x, rfl, o1⟩ := f
    cases da with
    | @tup a xs _ t1 a1 =>
      cases a1 with
      | cons b1 b2 =>
        cases b2
        rename_i y
        refine ⟨a, c, [y], rfl, rfl, sameT e.w.same t1, by simp, h2, h3, by simp, fun q hq => ?_⟩
        have e4 := e.w.put (o := .tup (List.replicate c.toNat [y]).flatten) hq
        refine k _ _ _ _ (e.trans W e4) (.tup (SqT.of upd_same) ((DaAll.flat (.cons b1 .nil) c.toNat).mono e4.sub)) ⟨_, rfl, ?_, fun z mz => ?_⟩
        · rw [PyProof.Rows.lm_len_rep_flat]
          simpa using hN
        · rw [List.mem_flatten] at mz
          obtain ⟨r, hr, mz⟩ := mz
          rw [(List.mem_replicate.mp hr).2] at mz
          rw [List.mem_singleton.mp mz]
          exact o1
/-- list(t), t a tuple -/
theorem td_list_of (ha : TD K p l σ G ta (Tp k n m)) {N : Nat} (hN : (n + 2) * m + 3 ≤ N := by decide) :
    TD K p l σ G (tCB (fun xs H Q => ∃ p ys, xs = [.ref p] ∧ (SqL K H p ys ∨ SqT K H p ys) ∧ ∀ l, H l = none → Q (.ref l) (upd H l (.lst ys))) (tCons ta tNil)) (Okd (k + 1) N) := fun G1 H Q W s k =>
  ha G1 H _ W s fun v d G2 H2 e da f => by
    obtain ⟨a, xs, ds, rfl, rfl, t1, a1, l1, o1⟩ := da.tpI f
    refine ⟨a, xs, rfl, .inr (sameT e.w.same t1), fun q hq => ?_⟩
    have e4 := e.w.put (o := .lst xs) hq
    exact k _ _ _ _ (e.trans W e4) (.lst upd_same (a1.mono e4.sub)) (Okd.list o1 l1 hN)
/-- tuple(xs), xs a list -/
theorem td_tuple_of {N : Nat} (ha : TD K p l σ G ta (fun d => ∃ ds, d = .list ds ∧ ds.length ≤ m ∧ ∀ x ∈ ds, Okd k n x)) :
    TD K p l σ G (tCB (fun xs H Q => ∃ p ys, xs = [.ref p] ∧ ((SqL K H p ys ∧ ∀ l, H l = none → Q (.ref l) (upd H l (.tup ys))) ∨ (SqT K H p ys ∧ Q (.ref p) H))) (tCons ta tNil)) (Tp k n m) := fun G1 H Q W s k =>
  ha G1 H _ W s fun v d G2 H2 e da f => by
    obtain ⟨ds, rfl, l1, o1⟩ := f
    cases da with
    | @lst a xs _ t1 a1 =>
      refine ⟨a, xs, rfl, .inl ⟨SqL.of (e.w.same _ _ t1), fun q hq => ?_⟩⟩
      have e4 := e.w.put (o := .tup xs) hq
      exact k _ _ _ _ (e.trans W e4) (.tup (SqT.of upd_same) (a1.mono e4.sub)) ⟨ds, rfl, l1, o1⟩
end
/-! ### comprehensions over a range -/
section
variable (K : PySem.W.Frag) (p l : Addr) (σ : St) (G : Hp)
/-- a range of N turns, N as told; the deck may be drawn from -/
def TW (wi : TI) (ν : Nat → Prop) : Prop := ∀ (G1 H : Hp) (R : It → Hp → Prop), Wd p l G1 H → Same G G1 → (∀ N G2 H2, ν N → Ext p l G1 H G2 H2 → R (Itr 0 N) H2) → wi σ H R
end
/-- a list whose length and items are as told -/
def LsN (ν : Nat → Prop) (φ : PyData → Prop) (d : PyData) : Prop := ∃ ds, d = .list ds ∧ ν ds.length ∧ ∀ x ∈ ds, φ x
section
variable {K : PySem.W.Frag} {p l : Addr} {σ : St} {G : Hp}
theorem set_none {j : Nat} {v : Option V} (σ : St) : ((σ.set j none).set j v).set j none = σ.set j none := by
  rw [List.set_set, List.set_set]
theorem tw_var {i : Nat} {z : Int} (hi : σ[i]? = some (some (.int z))) (h0 : 0 ≤ z) (h1 : z < 1000000) : TW p l σ G (iRng1 (tCons (tVar i) tNil)) (fun N => (N : Int) = z) := fun G1 H R W s k =>
  ⟨_, hi, z, rfl, by omega, by omega, k _ _ _ (by omega) (Ext.refl W)⟩
theorem tw_int {z : Int} (h0 : 0 ≤ z) (h1 : z < 1000000) : TW p l σ G (iRng1 (tCons (tC (.int z)) tNil)) (fun N => (N : Int) = z) := fun G1 H R W s k =>
  ⟨z, rfl, by omega, by omega, k _ _ _ (by omega) (Ext.refl W)⟩
theorem td_lc {wi : TI} {te : TE} {j M : Nat} {ν : Nat → Prop} {φ : PyData → Prop} (hw : TW p l σ G wi ν) (hM : ∀ N, ν N → N ≤ M) (hM2 : M < sizeLine) (he : ∀ i : Nat, TD K p l ((σ.set j none).set j (some (.int (0 + (i : Int))))) G te φ) :
    TD K p l σ G (tLc wi (gName j) tYes te [j]) (LsN ν φ) := fun G1 H Q W s k =>
  hw G1 H _ W s fun N G2 H2 hN e => fun D hD => by
    have nDp := e.w.np hD
    have nDl := e.w.nl hD
    have E1 := e.w.tmp (o := .lst []) hD
    refine lc_range (lo := 0) (n := N) (fun i H3 => ∃ G3 xs ds, Wd p l G3 H3 ∧ Same G2 G3 ∧ G3 D = none ∧ H3 D = some (.lst xs) ∧ DaAll K G3 xs ds ∧ ds.length = i ∧ (∀ x ∈ ds, φ x) ∧
        (∀ b o, b ≠ p → b ≠ l → b ≠ D → H2 b = some o → H3 b = some o) ∧ (∀ b o, H2 b = some o → G2 b = none → G3 b = none))
      ⟨G2, [], [], E1.w, Same.refl _, e.w.same.free hD, upd_same, .nil, rfl, fun x m => absurd m List.not_mem_nil, fun b o n1 n2 n3 q => by rw [upd_ne n3]; exact q, fun b o _ g => g⟩ ?_ ?_
    · rintro i H3 hi ⟨G3, xs, ds, w3, s3, gD, hD3, da3, l3, f3, k3, n3⟩
      refine ⟨set_none σ, ?_⟩
      show te _ _ _
      refine he i G3 H3 _ w3 ((s.trans e.sub).trans s3) fun v d G4 H4 e4 da4 f4 => ?_
      have hD4 : H4 D = some (.lst xs) := e4.keep _ _ nDp nDl hD3
      have gD4 : G4 D = none := e4.new _ _ hD3 gD
      refine ⟨xs, hD4, by rw [da3.length, l3]; exact Nat.lt_of_lt_of_le hi (Nat.le_trans (hM N hN) (Nat.le_of_lt hM2)), G4, xs ++ [v], ds ++ [d], e4.w.own nDp nDl gD4, s3.trans e4.sub, gD4, upd_same, (da3.mono e4.sub).append (.cons da4 .nil),
        by rw [List.length_append, l3]; rfl, fun x m => ?_, fun b o n1 n2 n4 q => ?_, fun b o q g => ?_⟩
      · rcases List.mem_append.mp m with m | m
        · exact f3 x m
        · rw [List.mem_singleton.mp m]
          exact f4
      · rw [upd_ne n4]
        exact e4.keep _ _ n1 n2 (k3 b o n1 n2 n4 q)
      · have g3 := n3 b o q g
        by_cases b1 : b = p
        · subst b1
          exact e4.w.gp
        · by_cases b2 : b = l
          · subst b2
            exact e4.w.gl
          · exact e4.new b o (k3 b o b1 b2 (ne_of_none q hD) q) g3
    · rintro H3 ⟨G3, xs, ds, w3, s3, gD, hD3, da3, l3, f3, k3, n3⟩
      obtain ⟨w4, s4⟩ := w3.hold nDp nDl gD hD3
      have E2 : Ext p l G2 H2 (upd G3 D (.lst xs)) H3 := ⟨w4, s3.trans s4, fun b o n1 n2 q => k3 b o n1 n2 (ne_of_none q hD) q, fun b o q g => by
        rw [upd_ne (ne_of_none q hD)]
        exact n3 b o q g⟩
      exact k _ _ _ _ (e.trans W E2) (.lst upd_same (da3.mono s4)) ⟨ds, rfl, by rw [l3]; exact hN, f3⟩
/-- tuple(xs), xs a list as told -/
theorem td_tupleN {ta : TE} {ν : Nat → Prop} {φ : PyData → Prop} (ha : TD K p l σ G ta (LsN ν φ)) :
    TD K p l σ G (tCB (fun xs H Q => ∃ p ys, xs = [.ref p] ∧ ((SqL K H p ys ∧ ∀ l, H l = none → Q (.ref l) (upd H l (.tup ys))) ∨ (SqT K H p ys ∧ Q (.ref p) H))) (tCons ta tNil)) (fun d => ∃ ds, d = .tuple ds ∧ ν ds.length ∧ ∀ x ∈ ds, φ x) := fun G1 H Q W s k =>
  ha G1 H _ W s fun v d G2 H2 e da f => by
    obtain ⟨ds, rfl, l1, o1⟩ := f
    cases da with
    | @lst a xs _ t1 a1 =>
      refine ⟨a, xs, rfl, .inl ⟨SqL.of (e.w.same _ _ t1), fun q hq => ?_⟩⟩
      have e4 := e.w.put (o := .tup xs) hq
      exact k _ _ _ _ (e.trans W e4) (.tup (SqT.of upd_same) (a1.mono e4.sub)) ⟨ds, rfl, l1, o1⟩
theorem td_tupO {tr : TA} {k n m k2 N : Nat} (h : TDs K p l σ G tr (All k n m)) (hN : (n + 2) * m + 3 ≤ N := by decide) (hk : k + 1 ≤ k2 := by decide) (hz : m ≤ sizeLine := by decide) : TD K p l σ G (tTup tr) (Okd k2 N) :=
  (td_tup h hz).imp fun d f => (f.okd hN).mono hk (Nat.le_refl _)
theorem td_tup0O {k n : Nat} (hk : 1 ≤ k := by decide) (hn : 3 ≤ n := by decide) : TD K p l σ G (tTup tNil) (Okd k n) := td_tup0.imp fun d (f : Tp 0 0 0 d) => (f.okd (N := 3)).mono hk hn
theorem td_tpO {t : TE} {k n m k2 N : Nat} (h : TD K p l σ G t (Tp k n m)) (hN : (n + 2) * m + 3 ≤ N := by decide) (hk : k + 1 ≤ k2 := by decide) : TD K p l σ G t (Okd k2 N) := h.imp fun d f => (f.okd hN).mono hk (Nat.le_refl _)
end
end L2.Hx

/-! Sets of texts: what one is, a text put in, its texts in order. -/
namespace L2.Hx
open PySem PySem.Spec PyProof.Rows

def zKey (e : Int × Value) : Str := match e.2 with
  | .str x _ => x
  | _ => Str.empty
def ZGood (w : World) (e : Int × Value) : Prop := ∃ x t, e = (hashStr w x, Value.str x t)
/-- the entries and the table of a set whose members are those of S, n in number -/
structure ZTab (w : World) (es : Array (Int × Value)) (t : SetTable) (S : Str → Bool) (n : Nat) : Prop where
  good : ∀ e ∈ es.toList, ZGood w e
  once : (es.toList.map zKey).Nodup
  mem : ∀ x, S x = true ↔ x ∈ es.toList.map zKey
  few : es.size < scanBound
  fits : t.fits es.size = true
  num : es.size = n
  ris : Ris t.place.toList
  led : w.params.followText "set-order" = true ∨ t.led = true
def SetZ (w : World) (h : Heap) (a : Addr) (S : Str → Bool) (n : Nat) : Prop := ∃ o es ep t, h.get? a = some o ∧ o.ExactSet ∧ o.data = .set es ep t ∧ ZTab w es t S n
section
variable {P : Program} {w : World} {es es' : Array (Int × Value)} {t t' : SetTable} {S : Str → Bool} {n : Nat}
theorem ZTab.elems (Z : ZTab w es t S n) : ElemsOf (PySem.strKind P w) es.toList := fun e he => by
  obtain ⟨x, u, rfl⟩ := Z.good e he
  exact ⟨⟨x, strKind_is P w x u, rfl⟩, rfl⟩
theorem ZTab.isKey (Z : ZTab w es t S n) {e : Int × Value} (he : e ∈ es.toList) (x : Str) : (PySem.strKind P w).is x e.2 = true ↔ zKey e = x := by
  obtain ⟨y, u, rfl⟩ := Z.good e he
  refine ⟨fun q => ?_, fun q => ?_⟩
  · have q1 : Value.isStrOf x (Value.str y u) = true := q
    obtain ⟨v, ev⟩ := Value.isStrOf_shape q1
    cases ev
    rfl
  · have q2 : y = x := q
    rw [← q2]
    exact strKind_is P w y u
theorem ZTab.relay (Z : ZTab w es t S n) (m : Nat) : ZTab w (relayAll t es m).1 (relayAll t es m).2.1 S n := by
  have pm := relayAll_perm t es m
  have sz : (relayAll t es m).1.size = es.size := by rw [← Array.length_toList, pm.length_eq, Array.length_toList]
  exact ⟨fun e he => Z.good e (pm.mem_iff.mp he), (pm.map zKey).nodup_iff.mpr Z.once, fun x => (Z.mem x).trans (pm.map zKey).mem_iff.symm, by rw [sz]; exact Z.few, relayAll_fits t es m, by rw [sz]; exact Z.num, relayAll_ris t es m,
    Z.led.imp id fun q => by rw [relayAll_led]; exact q⟩
theorem ZTab.lay (Z : ZTab w es t S n) {x : Str} {u : Tok} (hx : S x = false) (room : n + 1 < scanBound) : ZTab w (layNew t es (hashStr w x) (.str x u)).1 (layNew t es (hashStr w x) (.str x u)).2.1 (fun y => S y || decide (y = x)) (n + 1) := by
  have pm := layNew_perm t es (hashStr w x) (.str x u)
  rw [Array.toList_push] at pm
  have pc := pm.trans (List.perm_append_singleton _ _)
  have pk := pc.map zKey
  have sz : (layNew t es (hashStr w x) (.str x u)).1.size = n + 1 := by rw [← Array.length_toList, pc.length_eq, List.length_cons, Array.length_toList, Z.num]
  have nx : x ∉ es.toList.map zKey := fun q => by
    rw [(Z.mem x).mpr q] at hx
    cases hx
  refine ⟨fun e he => ?_, pk.nodup_iff.mpr (List.nodup_cons.mpr ⟨nx, Z.once⟩), fun y => ?_, by rw [sz]; exact room, layNew_fits t es _ _, sz, layNew_ris t es _ _ Z.ris, Z.led.imp id fun q => by rw [layNew_led]; exact q⟩
  · rcases List.mem_cons.mp (pc.mem_iff.mp he) with q | q
    · exact ⟨x, u, q⟩
    · exact Z.good e q
  · rw [Bool.or_eq_true, decide_eq_true_eq, Z.mem y, pk.mem_iff]
    exact Or.comm.trans List.mem_cons.symm
theorem ZTab.same (Z : ZTab w es t S n) {x : Str} (hx : S x = true) : ZTab w es t (fun y => S y || decide (y = x)) n :=
  ⟨Z.good, Z.once, fun y => by
    rw [Bool.or_eq_true, decide_eq_true_eq]
    exact ⟨fun q => q.elim (Z.mem y).mp fun q => (Z.mem y).mp (by rw [q]; exact hx), fun q => .inl ((Z.mem y).mpr q)⟩, Z.few, Z.fits, Z.num, Z.ris, Z.led⟩
end
section
variable {P : Program} {w : World} {A : Around} {E : Value → Shared → Prop} {s : Shared} {h h' : Heap} {a : Addr} {S : Str → Bool} {n : Nat}
theorem SetZ.keep (R : SetZ w h a S n) (k : ∀ o, h.get? a = some o → h'.get? a = some o) : SetZ w h' a S n := by
  obtain ⟨o, es, ep, t, ho, r⟩ := R
  exact ⟨o, es, ep, t, k o ho, r⟩
theorem SetZ.setOf (R : SetZ w h a S n) : h.SetOf (PySem.strKind P w) a S n := by
  obtain ⟨o, es, ep, t, ho, hx, hd, Z⟩ := R
  refine ⟨o, es, ep, t, ho, hx, hd, Z.elems, fun k => (Z.mem k).trans ?_, Z.few, Z.fits, Z.num⟩
  rw [List.mem_map]
  exact ⟨fun ⟨e, he, q⟩ => ⟨e, he, (Z.isKey he k).mpr q⟩, fun ⟨e, he, q⟩ => ⟨e, he, (Z.isKey he k).mp q⟩⟩
/-- the new entries stored, and laid anew where the table is too full -/
theorem z_stored {α : Type} {g : Bool → Sem Unit} {c : Bool} {x : α} (hg : ∀ (b : Bool) (s1 : Shared) (Q' : Unit → Shared → Prop), Q' () s1 → wpAny (model P w) A (g b) Q' E s1) {o : Obj} {es : Array (Int × Value)} {ep : Nat} {t : SetTable}
    (ho : s.heap.get? a = some o) (hx : o.ExactSet) (hd : o.data = .set es ep t) {es1 : Array (Int × Value)} {t1 : SetTable} (Z : ZTab w es1 t1 S n) {R : α → Shared → Prop}
    (k : ∀ h', Heap.SameBut a s.heap h' → SetZ w h' a S n → R x { s with heap := h' }) :
    wpAny (model P w) A (do
        storeSet a es1 t1
        if c = true then do
            g (relayAll t1 es1 (SetTable.grown es1.size)).2.2
            storeSet a (relayAll t1 es1 (SetTable.grown es1.size)).1 (relayAll t1 es1 (SetTable.grown es1.size)).2.1
            pure x
          else pure x) R E s := by
  refine wpAny_bind (wpAny_storeSet_of ho hd ?_ (fits_of_scanBound Z.few))
  have ho1 := store_at (es' := es1) (t' := t1) ho hd
  have sb1 := Heap.SameBut.update s.heap a (Obj.putSet es1 t1)
  cases c with
  | false => exact wpAny_pure (k _ sb1 ⟨_, es1, _, t1, ho1, hx, rfl, Z⟩)
  | true =>
    have Z2 := Z.relay (SetTable.grown es1.size)
    refine wpAny_bind (hg _ _ _ (wpAny_bind (wpAny_storeSet_of ho1 rfl ?_ (fits_of_scanBound Z2.few))))
    exact wpAny_pure (k _ (sb1.trans (Heap.SameBut.update _ a _)) ⟨_, _, _, _, store_at ho1 rfl, hx, rfl, Z2⟩)
theorem z_add_at {x : Str} {u : Tok} {Q : Bool → Shared → Prop} (R : SetZ w s.heap a S n) (room : n + 1 < scanBound)
    (k : ∀ h', Heap.SameBut a s.heap h' → SetZ w h' a (fun y => S y || decide (y = x)) (if S x = true then n else n + 1) → Q (!S x) { s with heap := h' }) : wpAny (model P w) A (setAddHashed a (.str x u) ((PySem.strKind P w).hash x)) Q E s := by
  obtain ⟨o, es, ep, t, ho, hx, hd, Z⟩ := R
  unfold setAddHashed setAddHashedIn
  refine wpAny_holding (wpAny_bind (wpAny_setState_of ho hd Z.fits ?_))
  dsimp only
  rw [byScan_of (x := Value.str x u) rfl Z.few (Z.elems (P := P))]
  simp only [↓reduceIte]
  unfold setAddByScan
  refine wpAny_bind (wpAny_bind (wpAny_rule (wpAny_bind (wpAny_setScan_of (strKind_is P w x u) ho hd Z.fits (Z.elems (P := P)) ?_))))
  cases hf : List.findIdx? (fun e => (PySem.strKind P w).is x e.2) es.toList with
  | some j =>
    dsimp only
    obtain ⟨hj, pj, _⟩ := List.findIdx?_eq_some_iff_getElem.mp hf
    have hS : S x = true := (Z.mem x).mpr (List.mem_map.mpr ⟨_, List.getElem_mem hj, (Z.isKey (P := P) (List.getElem_mem hj) x).mp pj⟩)
    have q := k s.heap (Heap.SameBut.refl a s.heap) ⟨o, es, ep, t, ho, hx, hd, by rw [if_pos hS]; exact Z.same hS⟩
    rw [hS] at q
    exact wpAny_pure (wpAny_pure q)
  | none =>
    dsimp only
    have hS : S x = false := by
      cases q : S x with
      | false => rfl
      | true =>
        obtain ⟨e, he, ke⟩ := List.mem_map.mp ((Z.mem x).mp q)
        have c := List.findIdx?_eq_none_iff.mp hf e he
        rw [(Z.isKey (P := P) he x).mpr ke] at c
        cases c
    have way : ∀ (b : Bool) (s1 : Shared) (Q' : Unit → Shared → Prop), Q' () s1 → wpAny (model P w) A (match b with | true => rule "set.scan.the-table-gave-way" | false => pure ()) Q' E s1 := fun b s1 Q' q => by
      cases b
      · exact wpAny_pure q
      · exact wpAny_rule q
    have Z1 := Z.lay (u := u) hS room
    have fin : ∀ h', Heap.SameBut a s.heap h' → SetZ w h' a (fun y => S y || decide (y = x)) (n + 1) → Q true { s with heap := h' } := fun h' sb r => by
      have q := k h' sb
      rw [hS] at q
      exact q r
    have e0 : (PySem.strKind P w).hash x = hashStr w x := rfl
    rw [e0]
    generalize layNew t es (hashStr w x) (.str x u) = T at Z1 ⊢
    obtain ⟨es1, t1, dummy, gave⟩ := T
    dsimp only at Z1 ⊢
    refine wpAny_bind (way _ _ _ ?_)
    split
    · refine wpAny_bind ?_
      rw [hashByValue_scannable (x := Value.str x u) 8 rfl]
      refine wpAny_pure ?_
      have Z2 : ZTab w es1 (if plainKind (Value.str x u) = true then t1 else { t1 with plain := false }) (fun y => S y || decide (y = x)) (n + 1) := by
        split
        · exact Z1
        · exact ⟨Z1.good, Z1.once, Z1.mem, Z1.few, SetTable.fits_plain_off Z1.fits, Z1.num, Z1.ris, Z1.led⟩
      refine z_stored ?_ ho hx hd Z2 fun h' sb r => ?_
      · intro b s1 Q' q
        cases b
        · exact wpAny_pure q
        · exact wpAny_rule q
      · dsimp only
        exact wpAny_pure (fin h' sb r)
    · refine wpAny_bind (wpAny_pure ?_)
      simp only [↓reduceIte]
      refine z_stored ?_ ho hx hd Z1 fun h' sb r => ?_
      · intro b s1 Q' q
        cases b
        · exact wpAny_pure q
        · exact wpAny_rule q
      · dsimp only
        exact wpAny_pure (fin h' sb r)
end
end L2.Hx
namespace L2.Hx
open PySem PySem.Spec PyProof.Rows
/-- what a set is when it is made -/
abbrev emptyZ (w : World) : Obj := { cls := .type "set", dict := none, data := .set #[] 0 (.fresh 0 0 (!w.params.followText "set-order")) }
theorem z_none (w : World) : ZTab w #[] (.fresh 0 0 (!w.params.followText "set-order")) (fun _ => false) 0 :=
  ⟨fun e he => absurd he (by simp), by simp, fun x => by simp, by decide, rfl, rfl, List.Pairwise.nil, by
    show _ ∨ (!w.params.followText "set-order") = true
    cases w.params.followText "set-order"
    · exact .inr rfl
    · exact .inl rfl⟩
theorem SetZ.new {w : World} {h : Heap} {a : Addr} (e : h.get? a = some (emptyZ w)) : SetZ w h a (fun _ => false) 0 := ⟨_, _, _, _, e, ⟨rfl, rfl, rfl⟩, rfl, z_none w⟩
theorem SetZ.congr {w : World} {h : Heap} {a : Addr} {S S' : Str → Bool} {n : Nat} (R : SetZ w h a S n) (e : ∀ x, S' x = S x) : SetZ w h a S' n := by
  have q : S' = S := funext e
  rw [q]
  exact R
section
variable {P : Program} {w : World} {A : Around} {E : Value → Shared → Prop} {s : Shared} {a : Addr} {S : Str → Bool} {n : Nat}
/-- set.add of a text -/
theorem z_add {x : Str} {u : Tok} {Q : Value → Shared → Prop} (R : SetZ w s.heap a S n) (room : n + 1 < scanBound)
    (k : ∀ h', Heap.SameBut a s.heap h' → SetZ w h' a (fun y => S y || decide (y = x)) (if S x = true then n else n + 1) → Q .none { s with heap := h', toks := s.toks + 1 }) : wpAny (model P w) A (call (.builtin "set.add") [.ref a, .str x u]) Q E s := by
  have so : s.heap.SetOf (PySem.strKind P w) a S n := R.setOf
  refine wpAny_call_entry F.slot_set_add so.typeIs F.entry_set_add ?_ (F.args_set_add_2 _ _)
  unfold Builtin.«set.add» Builtin.Frozenset.oneOther
  simp only [List.isEmpty_nil, bind_assoc]
  unfold Builtin.Frozenset.addrOf setAdd
  refine wpAny_bind (wpAny_pure ?_)
  try dsimp only
  refine wpAny_bind (wpAny_pure ?_)
  try dsimp only
  refine wpAny_bind (wpAny_holding (wpAny_bind ((PySem.strKind P w).pyHash (strKind_is P w x u) ?_)))
  refine z_add_at (s := { s with toks := s.toks + 1 }) R room fun h' sb r => ?_
  show wpAny _ _ (ret Value.none) _ _ _
  exact wpAny_pure ⟨_, rfl, k h' sb r⟩
/-- sorted(a set of texts) -/
theorem z_sorted {Q : Value → Shared → Prop} (R : SetZ w s.heap a S n) (calm : A.handled = none)
    (k : ∀ s' p (out : Array Value) (c : Nat) (xs : List Str), (∀ b o, s.heap.get? b = some o → s'.heap.get? b = some o) → s'.gens = s.gens → s'.os = s.os → s.heap.objs.size ≤ p →
      s'.heap.get? p = some (seqObj "list" out c) → StrsAre out.toList xs → sortedS xs = true → xs.Nodup → (∀ x, x ∈ xs ↔ S x = true) → xs.length = n → Q (.ref p) s') :
    wpAny (model P w) A (call (.builtin "sorted") [.ref a]) Q E s := by
  obtain ⟨o, es, ep, t, ho, hx, hd, Z⟩ := R
  refine Calls.call_function_entry kind_sorted plain_sorted entry_sorted (args_sorted1 _) ?_
  unfold Builtin.«sorted»
  refine wpAny_bind (m := checkCount "sorted" 1 1 _) (wpAny_pure (wpAny_bind (collect_set (A := A.in1) calm ⟨o, ho, hx.1, hd⟩ Z.fits Z.few Z.ris Z.led fun s1 vs k1 z1 g1 o1 pm => ?_)))
  have lv : vs.length = n := by rw [pm.length_eq, List.length_map, Array.length_toList]; exact Z.num
  have lz : vs.length ≤ sizeLine := by
    rw [lv, ← Z.num]
    exact fits_of_scanBound Z.few
  have each : ∀ v ∈ vs, ∃ x t, v = Value.str x t := fun v hv => by
    obtain ⟨e, he, q⟩ := List.mem_map.mp (pm.mem_iff.mp hv)
    obtain ⟨x, u, ee⟩ := Z.good e he
    exact ⟨x, u, by rw [← q, ee]⟩
  have are : StrsAre vs (vs.map strOf) := strsAre_map vs each
  have pk : (vs.map strOf).Perm (es.toList.map zKey) := by
    have q := pm.map strOf
    rw [List.map_map] at q
    refine q.trans (List.Perm.of_eq (List.map_congr_left fun e he => ?_))
    obtain ⟨x, u, ee⟩ := Z.good e he
    rw [ee]
    rfl
  refine wpAny_bind (wpAny_newList ?_ lz)
  have hoL : (s1.heap.push (seqObj "list" vs.toArray 0)).get? s1.heap.objs.size = some (seqObj "list" vs.toArray 0) := Heap.get?_push_size _ rfl
  refine wpAny_bind (wpAny_holding (wpAny_call_entry slot_list_sort ⟨_, hoL, rfl⟩ entry_list_sort (list_sort_treeKAny strKind_oneLt hoL are.keysOf (fun v1 v2 rest e => keyKind_strs (by rw [← e]; exact are)) lz fun st' hp hs => ⟨_, rfl, ?_⟩) (args_list_sort _)))
  obtain ⟨xs, a1, a2, a3⟩ := sorted_out_str are hp hs
  obtain ⟨c, hc⟩ := sortedHeap_at (vs := vs) (out := (arrOf st').map (·.2)) hoL
  have pn := a2.trans pk
  refine wpAny_pure ⟨_, rfl, k _ s1.heap.objs.size _ c xs (fun b u e => ?_) g1 o1 z1 hc a1 a3 (pn.nodup_iff.mpr Z.once) (fun x => by rw [pn.mem_iff, ← Z.mem x]) ?_⟩
  · have q := k1 b u e
    have lt := Heap.lt_size q
    show (sortedHeap (s1.heap.push (seqObj "list" vs.toArray 0)) s1.heap.objs.size vs _).get? b = some u
    rw [sortedHeap_old (Nat.ne_of_lt lt) (by rw [size_push']; exact Nat.lt_succ_of_lt lt)]
    exact Heap.get?_push_of_some _ q
  · rw [pn.length_eq, List.length_map, Array.length_toList]
    exact Z.num
end
/-- the set as a tracked thing -/
def SetZO (w : World) (a : Addr) (S : Str → Bool) (n : Nat) : HO := .ext fun h => SetZ w h a S n
theorem setZO_ok {w : World} {P : Program} {H : Hp} {h : Heap} {a : Addr} {S : Str → Bool} {n : Nat} (R : SetZ w h a S n) : ObjOk P w H h a (SetZO w a S n) := by
  have ⟨o, _, _, _, ho, _⟩ := R
  exact ⟨R, ⟨o, ho⟩, fun h1 h2 p k => SetZ.keep p k⟩
section
variable {X : Cx} {pins : List (Addr × Obj)} {σ : St} {H : Hp} {s : Shared}
theorem setZO_get {a : Addr} {S : Str → Bool} {n : Nat} (I : Inv X pins σ H s) (ha : H a = some (SetZO X.w a S n)) : SetZ X.w s.heap a S n := (I.hok a _ ha).1
theorem addZ {E : Value → Shared → Prop} {D : Addr} {S : Str → Bool} {n : Nat} {x : Str} {u : Tok} {Q : Value → Shared → Prop} (I : Inv X pins σ H s) (hD : H D = some (SetZO X.w D S n)) (room : n + 1 < scanBound)
    (h : ∀ s', Inv X pins σ (upd H D (SetZO X.w D (fun y => S y || decide (y = x)) (if S x = true then n else n + 1))) s' → Q .none s') : wpAny (model X.prog X.w) X.A (call (.builtin "set.add") [.ref D, .str x u]) Q E s := by
  refine z_add (setZO_get I hD) room fun h' sb new => ?_
  have he : ∃ o, h'.get? D = some o := by
    obtain ⟨o, _, _, _, ho, _⟩ := id new
    exact ⟨o, ho⟩
  exact h _ (I.write (e := D) (t' := s.toks + 1) (by rw [hD]; trivial) (.inl rfl) (fun b o hb ho => (sb.2 b hb).trans ho) he (setZO_ok new))
end
/-- sorted(z), z a set of texts -/
def rSortZ (w : World) : List V → Hp → VK → Prop := fun vs H Q => ∃ (a : Addr) (S : Str → Bool) (n : Nat), vs = [V.ref a] ∧ H a = some (SetZO w a S n) ∧ n ≤ sizeLine ∧
  ∀ (xs : List Str) (p : Addr), sortedS xs = true → xs.Nodup → (∀ x, x ∈ xs ↔ S x = true) → xs.length = n → H p = none → Q (.ref p) (upd H p (.lst (xs.map V.str)))
theorem cr_sortZ {X : Cx} (hc : X.calm = true) : CallR X (.builtin "sorted") (rSortZ X.w) := by
  intro pins s σ H vs us Q I r h
  obtain ⟨a, S, n, rfl, ha, hz, q⟩ := h
  rw [Vals.ref1 r]
  refine z_sorted (setZO_get I ha) (I.ok.hd hc) fun s' p out c xs k g o hp hg are h1 h2 h3 h4 => ?_
  have hn : H p = none := I.hok.fresh hp
  have J : Inv X pins σ (upd H p (.lst (xs.map V.str))) { s with heap := s'.heap, gens := s'.gens, drawn := s'.drawn, toks := s'.toks } :=
    I.call (ch := []) (Un.laid k hp hn) (I.hok.laid k hp ⟨by rw [List.length_map, h4]; exact hz, out.toList, c, vals_of_strs are, hg⟩) (by rw [g]; exact I.bare) (fun _ z => nomatch z)
  have e : s' = { s with heap := s'.heap, gens := s'.gens, drawn := s'.drawn, toks := s'.toks } := by
    cases s'
    cases s
    cases o
    rfl
  rw [e]
  exact ⟨.ref p, _, J, rfl, q xs p h1 h2 h3 h4 hn⟩
end L2.Hx

/-! set(xs) of a list of texts. -/
namespace L2.Hx
open PySem PySem.Spec PyProof.Rows
section
variable {P : Program} {w : World} {A : Around} {E : Value → Shared → Prop}
/-- the texts ahead of i put in -/
def inZ (ws : List Str) (i : Nat) : Str → Bool := fun x => decide (x ∈ ws.take i)
theorem z_update {it : Addr} {fp wr : List Addr} {G : Array GenState → Array GenState → Prop} {n : Nat} {Pv : Nat → Value → Prop} {St : Nat → Shared → Prop} {R : Result → Shared → Prop} (W : WalksS P w A.in1 it fp wr G n Pv St) (D : Addr) (out : D ∉ fp)
    (ws : List Str) (num : n = ws.length) (room : ws.length + 1 < scanBound) (each : ∀ i v, Pv i v → ∃ x u, ws[i]? = some x ∧ v = Value.str x u) :
    ∀ (left i : Nat) (s : Shared), i + left = n → St i s → (∃ c, c ≤ i ∧ SetZ w s.heap D (inZ ws i) c) →
      (∀ s' c, Moved (D :: wr) G s s' → c ≤ n → SetZ w s'.heap D (inZ ws n) c → R (.ok (.ret .none)) s') → codeAny (model P w) A (.builtin "set.update.loop" ⟨[.ref D, .ref it], []⟩) R s := by
  have out2 : D ∉ wr := fun q => out (W.sub _ q)
  have more : ∀ b ∈ wr, b ∈ D :: wr := fun b q => List.mem_cons_of_mem _ q
  intro left
  induction left with
  | zero =>
    intro i s hi st ⟨c, hc, hD⟩ k
    have e : i = n := hi
    rw [e] at st hc hD
    refine codeAny_builtin F.entry_set_update_loop ?_
    rw [Around.under_plainId F.plain_set_update_loop _]
    show wpAny _ A.in1 (pyNext (.ref it) >>= _) _ _ s
    refine wpAny_bind (W.done s _ _ st fun s' mv => ?_)
    show wpAny _ A.in1 (ret Value.none) _ _ s'
    exact wpAny_pure (k s' c (mv.mono more) hc (hD.keep fun o e => mv.heap D o out2 e))
  | succ left ih =>
    intro i s hi st ⟨c, hc, hD⟩ k
    have lt : i < n := by omega
    refine codeAny_builtin F.entry_set_update_loop ?_
    rw [Around.under_plainId F.plain_set_update_loop _]
    show wpAny _ A.in1 (pyNext (.ref it) >>= _) _ _ s
    refine wpAny_bind (W.item i s _ _ lt st fun v s1 pv st1 mv => ?_)
    obtain ⟨x, u, hx, rfl⟩ := each i v pv
    have hD1 : SetZ w s1.heap D (inZ ws i) c := hD.keep fun o e => mv.heap D o out2 e
    show wpAny _ A.in1 (holding [Value.str x u] (setAdd D (.str x u)) >>= _) _ _ s1
    refine wpAny_bind (wpAny_holding ?_)
    unfold setAdd
    refine wpAny_holding (wpAny_bind ((PySem.strKind P w).pyHash (k := x) (strKind_is _ _ _ _) ?_))
    refine z_add_at (s := { s1 with toks := s1.toks + 1 }) hD1 (by omega) fun h2 sb hD2 => ?_
    have hD3 : SetZ w h2 D (inZ ws (i + 1)) (if inZ ws i x = true then c else c + 1) := hD2.congr fun y => by
      show decide (y ∈ ws.take (i + 1)) = (decide (y ∈ ws.take i) || decide (y = x))
      rw [List.take_add_one, hx]
      simp [List.mem_append]
    have hc3 : (if inZ ws i x = true then c else c + 1) ≤ i + 1 := by
      split
      · omega
      · omega
    refine wpAny_pure ⟨plainId_quiet F.plain_set_update_loop _, ih (i + 1) _ (by omega) (W.frame _ s1 _ _ st1 (Nat.le_succ _) fun b hb o e => ?_) ⟨_, hc3, hD3⟩ fun s2 c2 mv2 hc2 hD4 => ?_⟩
    · rw [sb.2 b (fun q : b = D => out (by rw [← q]; exact hb))]
      exact e
    · refine k s2 c2 (Moved.trans W.gtrans ((mv.mono more).then_heap (Nat.le_succ _) fun b o hb e => ?_) mv2) hc2 hD4
      rw [sb.2 b (fun q : b = D => hb (by rw [q]; exact List.mem_cons_self))]
      exact e
variable {s : Shared}
set_option maxHeartbeats 3200000 in
theorem z_call {l : Addr} {its : Array Value} {ws : List Str} {Q : Value → Shared → Prop} (calm : A.handled = none) (hl : s.heap.IsList l its) (are : StrsAre its.toList ws) (room : ws.length + 1 < scanBound)
    (k : ∀ (h2 : Heap) (tk c : Nat), SetZ w h2 s.heap.objs.size (inZ ws ws.length) c → c ≤ ws.length → (∀ b o, s.heap.get? b = some o → h2.get? b = some o) → Q (.ref s.heap.objs.size) { s with heap := h2, toks := tk }) :
    wpAny (model P w) A (call (.type "set") [.ref l]) Q E s := by
  have num : its.size = ws.length := by
    have q := are.length
    rw [Array.length_toList] at q
    exact q
  generalize hD : s.heap.objs.size = D at k
  have fresh : (s.heap.push (emptyZ w)).get? D = some (emptyZ w) := by
    rw [← hD]
    exact Heap.get?_push_size _ rfl
  obtain ⟨c, tl, hmro⟩ := F.called_set.mro
  have m1 := F.called_set.made
  have m2 := F.called_set.sub
  have m3 := F.called_set.notType
  have m4 := F.called_set.canCreate
  have m5 := F.typeCall_set_1 (.ref l)
  refine wpAny_call (codeAny_of_tree ?_)
  show wpAny _ _ (callAny (.type "set") _) _ _ _
  refine wpAny_pure ⟨Code.quiet_builtin _ (by decide +kernel), codeAny_builtin F.entry_type_call ?_⟩
  rw [Around.under_plain (weight_type_call_type "set" [.ref l] []) rfl]
  repeat (any_goals (first | assumption | wp_step))
  refine codeAny_mono (code_set_led1 (.ref l) (E := E) (Q₁ := fun obj s1 => obj = .ref D ∧ s1 = { s with heap := s.heap.push (emptyZ w) }) ⟨by rw [hD], rfl⟩) fun r s1 hr => ?_
  match r, hr with
  | .error e, hr => exact hr
  | .ok (.ret obj), hr =>
    obtain ⟨rfl, rfl⟩ := hr
    have ty : Shared.TypeIs { s with heap := s.heap.push (emptyZ w) } (.ref D) "set" := ⟨_, fresh, rfl⟩
    have n1 := F.called_set.init.lookup
    have n2 := F.called_set.init.bind (.ref D)
    repeat (any_goals (first | assumption | wp_step))
    refine codeAny_mono (codeAny_call_builtin (R := wants (fun r s2 => r = .none ∧ ∃ h2 tk c, s2 = { s with heap := h2, toks := tk } ∧ SetZ w h2 D (inZ ws ws.length) c ∧ c ≤ ws.length ∧
        (∀ b o, s.heap.get? b = some o → h2.get? b = some o)) E) F.called_set.init.plain F.entry_set_init (check_set_init_1 ty ?_)) fun r2 s2 hr2 => ?_
    · obtain ⟨ol, hol, hcl, nl, hdl⟩ := hl
      obtain ⟨ocls, odict, odata, oslots⟩ := ol
      simp only at hcl hdl
      subst hcl; subst hdl
      have lD : l < D := by
        rw [← hD]
        exact Heap.lt_size hol
      have hol1 : (s.heap.push (emptyZ w)).get? l = some { cls := .type "list", dict := odict, data := .seq its nl, slots := oslots } := Heap.get?_push_of_some _ hol
      have isL : (s.heap.push (emptyZ w)).IsList l its := ⟨_, hol1, rfl, nl, rfl⟩
      have sub1 := F.sub_list_set
      have sub2 := F.sub_list_frozenset
      have noD : (Value.type "list" == Value.type "dict") = false := by decide
      unfold Builtin.«set.__init__» noKeywords Builtin.Frozenset.updateFrom
      generalize hPI : pyIter = PI
      wp_walk
      subst hPI
      refine wpAny_pyIter_list isL (wpAny_bind (wpAny_runValue ?_))
      have calm3 : A.in1.in1.in1.handled = none := by simp [calm]
      have sz : (s.heap.push (emptyZ w)).objs.size = D + 1 := by
        rw [Heap.size_push, hD]
      have nI : l ≠ (s.heap.push (emptyZ w)).objs.size := by
        rw [sz]
        exact Nat.ne_of_lt (Nat.lt_succ_of_lt lD)
      have nD : D ∉ [(s.heap.push (emptyZ w)).objs.size, l] := by
        rw [sz]
        simp only [List.mem_cons, List.not_mem_nil, or_false, not_or]
        exact ⟨Nat.ne_of_lt (Nat.lt_succ_self _), Nat.ne_of_gt lD⟩
      have each : ∀ (i : Nat) (v : Value), its[i]? = some v → ∃ x u, ws[i]? = some x ∧ v = Value.str x u := fun i v hv => by
        have q : its.toList[i]? = some v := by
          rw [Array.getElem?_toList]
          exact hv
        have lt : i < ws.length := by
          rw [← num]
          exact (Array.getElem?_eq_some_iff.mp hv).1
        obtain ⟨u, eu⟩ := are.get i ws[i] (List.getElem?_eq_getElem lt)
        rw [eu] at q
        cases q
        exact ⟨ws[i], u, List.getElem?_eq_getElem lt, rfl⟩
      refine z_update ((Walks.list calm3 _ l nI its).toS) D nD ws num room each its.size 0 _ (Nat.zero_add _) ⟨⟨_, Heap.get?_push_size _ rfl, rfl, rfl⟩, (isL.push _)⟩ ⟨0, Nat.le_refl 0, ?_⟩ ?_
      · exact (SetZ.new (Heap.get?_push_of_some _ fresh)).congr fun x => by simp [inZ]
      · intro s' c' mv hc' hD'
        obtain ⟨h2, g2, d2, tk2, os2⟩ := s'
        have eg : g2 = s.gens := mv.gens
        have ed : d2 = s.drawn := mv.drawn
        have eo : os2 = s.os := mv.os
        subst eg; subst ed; subst eo
        show wpAny _ _ _ _ _ _
        refine wpAny_pure ?_
        show wpAny _ _ (ret Value.none) _ _ _
        rw [num] at hc' hD'
        refine wpAny_pure ⟨rfl, h2, tk2, c', rfl, hD', hc', fun b o e => ?_⟩
        have lt : b < D := by
          rw [← hD]
          exact Heap.lt_size e
        refine mv.heap b o ?_ (Heap.get?_push_of_some _ (Heap.get?_push_of_some _ e))
        rw [sz]
        simp only [List.mem_cons, List.not_mem_nil, or_false, not_or]
        exact ⟨Nat.ne_of_lt lt, Nat.ne_of_lt (Nat.lt_succ_of_lt lt)⟩
    · match r2, hr2 with
      | .error e, hr2 => exact hr2
      | .ok (.ret r), hr2 =>
        obtain ⟨rfl, h2, tk, c', rfl, hD', hc', keep⟩ := hr2
        repeat (any_goals (first | assumption | wp_step))
        exact k _ _ _ hD' hc' keep
end
/-- set(xs), xs a list of texts -/
def rSetOfZ (K : PySem.W.Frag) (w : World) : List V → Hp → VK → Prop := fun vs H Q => ∃ (l : Addr) (ws : List Str), vs = [V.ref l] ∧ SqL K H l (ws.map V.str) ∧ ws.length + 1 < scanBound ∧
  ∀ (a : Addr) (S : Str → Bool) (n : Nat), H a = none → (∀ x, S x = true ↔ x ∈ ws) → n ≤ ws.length → Q (.ref a) (upd H a (SetZO w a S n))
theorem cr_setOfZ {X : Cx} (hc : X.calm = true) : CallR X (.type "set") (rSetOfZ X.K X.w) := by
  intro pins s σ H vs us Q I r h
  obtain ⟨l, ws, rfl, hl, room, q⟩ := h
  rw [Vals.ref1 r]
  obtain ⟨its, rv, pl, _⟩ := I.list hl
  refine z_call (I.ok.hd hc) pl.isList rv.strs room fun h2 tk c R hcn keep => ?_
  exact ⟨.ref _, upd H _ (SetZO X.w _ _ c), I.laid (t' := tk) keep (Nat.le_refl _) (setZO_ok R), rfl, q _ _ c (I.hok.fresh (Nat.le_refl _)) (fun x => by simp [inZ]) hcn⟩
end L2.Hx

/-! A set of texts gathered by two fors, one within the other. -/
namespace L2.Hx
open PySem PySem.Spec PyProof.Rows
/-- {elt for t0 in i0 if .. for t1 in i1 if ..} -/
abbrev cz (elt t0 i0 : Expr) (f0 : List Expr) (t1 i1 : Expr) (f1 : List Expr) (scope : Scope) (pos : Pos) : Expr := .SetComp elt [⟨t0, i0, f0, 0⟩, ⟨t1, i1, f1, 0⟩] scope pos
/-- the tests of a for, one behind another -/
abbrev testsOf (fs : List Expr) (env : Env) : Sem Bool := forIn fs true fun c r => if r = true then do let ok ← isTrue c env (eval c env); pure (ForInStep.yield ok) else pure (ForInStep.yield r)
section
variable {prog : Program} {w : World} {A : Around} {R : Result → Shared → Prop} {s : Shared} {elt t0 i0 t1 i1 : Expr} {f0 f1 : List Expr} {scope : Scope} {pos : Pos} {it acc : Value} {env : Env}
theorem cz_turn0 : compTurn (cz elt t0 i0 f0 t1 i1 f1 scope pos) 0 it acc env = (do
      standAt i0.pos
      match ← pyNext it with
      | none => pure (.done .next)
      | some v =>
        letOwnedTupleGo t0 it v
        assign t0 env v
        let mut ok := true
        for c in f0 do
          if ok then ok ← isTrue c env (eval c env)
        if ok then
          let x ← eval i1 env
          standAt i1.pos
          let x ← foldedSetIterable i1 env x
          let _ ← runOwn (.compStart (cz elt t0 i0 f0 t1 i1 f1 scope pos) 1 (← holding [x] (pyIter x)) acc env) env
        again (.compLoop (cz elt t0 i0 f0 t1 i1 f1 scope pos) 0 it acc env)) := by rfl
theorem cz_turn1 : compTurn (cz elt t0 i0 f0 t1 i1 f1 scope pos) 1 it acc env = (do
      standAt i1.pos
      match ← pyNext it with
      | none => pure (.done .next)
      | some v =>
        letOwnedTupleGo t1 it v
        assign t1 env v
        let mut ok := true
        for c in f1 do
          if ok then ok ← isTrue c env (eval c env)
        if ok then
          (do let v ← eval elt env; standAt elt.pos; let _ ← call (.builtin "set.add") [acc, v])
        again (.compLoop (cz elt t0 i0 f0 t1 i1 f1 scope pos) 1 it acc env)) := by rfl
/-- what an error on the way comes to -/
abbrev outZ (prog : Program) (w : World) (A : Around) (env : Env) (R : Result → Shared → Prop) : Value → Shared → Prop := notedBy (model prog w) A env fun e z => R (.error e) z
theorem cz_loop0 (hs : ∀ x, foldedSetIterable i1 env x = pure x) (J : Nat → Shared → Prop)
    (one : ∀ n s, J n s → wpAny (model prog w) A (pyNext it) (fun r s1 => match r with
      | none => R (.ok .next) s1
      | some v => wpAny (model prog w) A (letOwnedTupleGo t0 it v) (fun _ s2 => wpAny (model prog w) A (assign t0 env v) (fun _ s3 => wpAny (model prog w) A (testsOf f0 env) (fun ok s4 =>
            if ok = true then wpAny (model prog w) A (eval i1 env) (fun x s5 => wpAny (model prog w) A (pyIter x) (fun it1 s6 =>
              codeAny (model prog w) A (.compStart (cz elt t0 i0 f0 t1 i1 f1 scope pos) 1 it1 acc env) (fun r z => match r with
                | .ok _ => ∃ m, m < n ∧ J m z
                | .error _ => False) s6) (outZ prog w A env R) s5) (outZ prog w A env R) s4
            else ∃ m, m < n ∧ J m s4) (outZ prog w A env R) s3) (outZ prog w A env R) s2) (outZ prog w A env R) s1) (outZ prog w A env R) s)
    (n : Nat) (h : J n s) : codeAny (model prog w) A (.compLoop (cz elt t0 i0 f0 t1 i1 f1 scope pos) 0 it acc env) R s := by
  refine codeAny_loop rfl J (fun n s hJ => ?_) n h
  show wpAny _ A ((compTurn (cz elt t0 i0 f0 t1 i1 f1 scope pos) 0 it acc env).onRaise (fun x => do noteFrame x env; theTreesLotGoes x)) _ _ s
  refine wpAny_noted ?_
  rw [cz_turn0]
  refine wpAny_bind (wpAny_standAt (wpAny_bind (wpAny_mono (one n s hJ) (fun r s1 z1 => ?_) fun _ _ z => z)))
  cases r with
  | none => exact wpAny_pure z1
  | some v =>
    refine wpAny_bind (wpAny_mono z1 (fun _ s2 z2 => ?_) fun _ _ z => z)
    refine wpAny_bind (wpAny_mono z2 (fun _ s3 z3 => wpAny_bind (wpAny_mono z3 (fun ok s4 z4 => ?_) fun _ _ z => z)) fun _ _ z => z)
    cases ok with
    | false => exact wpAny_pure ⟨rfl, z4⟩
    | true =>
      refine wpAny_bind (wpAny_mono z4 (fun x s5 z5 => ?_) fun _ _ z => z)
      refine wpAny_bind (wpAny_standAt (wpAny_bind (wpAny_of_eq (hs x) (wpAny_bind (wpAny_holding (wpAny_mono z5 (fun it1 s6 z6 => ?_) fun _ _ z => z))))))
      refine wpAny_bind (wpAny_runOwn ?_)
      rw [Around.mark_none]
      refine codeAny_mono z6 fun r z hr => ?_
      cases r with
      | ok f =>
        first
          | exact wpAny_pure ⟨rfl, hr⟩
          | exact wpAny_bind (wpAny_pure (wpAny_pure ⟨rfl, hr⟩))
      | error e => exact hr.elim
theorem cz_loop1 (J : Nat → Shared → Prop)
    (one : ∀ n s, J n s → wpAny (model prog w) A (pyNext it) (fun r s1 => match r with
      | none => R (.ok .next) s1
      | some v => wpAny (model prog w) A (letOwnedTupleGo t1 it v) (fun _ s2 => wpAny (model prog w) A (assign t1 env v) (fun _ s3 => wpAny (model prog w) A (testsOf f1 env) (fun ok s4 =>
            if ok = true then wpAny (model prog w) A (eval elt env) (fun x s5 => wpAny (model prog w) A (call (.builtin "set.add") [acc, x]) (fun _ s6 => ∃ m, m < n ∧ J m s6) (outZ prog w A env R) s5) (outZ prog w A env R) s4
            else ∃ m, m < n ∧ J m s4) (outZ prog w A env R) s3) (outZ prog w A env R) s2) (outZ prog w A env R) s1) (outZ prog w A env R) s)
    (n : Nat) (h : J n s) : codeAny (model prog w) A (.compLoop (cz elt t0 i0 f0 t1 i1 f1 scope pos) 1 it acc env) R s := by
  refine codeAny_loop rfl J (fun n s hJ => ?_) n h
  show wpAny _ A ((compTurn (cz elt t0 i0 f0 t1 i1 f1 scope pos) 1 it acc env).onRaise (fun x => do noteFrame x env; theTreesLotGoes x)) _ _ s
  refine wpAny_noted ?_
  rw [cz_turn1]
  refine wpAny_bind (wpAny_standAt (wpAny_bind (wpAny_mono (one n s hJ) (fun r s1 z1 => ?_) fun _ _ z => z)))
  cases r with
  | none => exact wpAny_pure z1
  | some v =>
    refine wpAny_bind (wpAny_mono z1 (fun _ s2 z2 => ?_) fun _ _ z => z)
    refine wpAny_bind (wpAny_mono z2 (fun _ s3 z3 => wpAny_bind (wpAny_mono z3 (fun ok s4 z4 => ?_) fun _ _ z => z)) fun _ _ z => z)
    cases ok with
    | false => exact wpAny_pure ⟨rfl, z4⟩
    | true => exact wpAny_bind (wpAny_bind (wpAny_mono z4 (fun x s5 z5 => wpAny_bind (wpAny_standAt (wpAny_bind (wpAny_mono z5 (fun _ s6 z6 => wpAny_pure (wpAny_pure ⟨rfl, z6⟩)) fun _ _ z => z)))) fun _ _ z => z))
theorem cz_start1 (h0 : codeAny (model prog w) A (.compLoop (cz elt t0 i0 f0 t1 i1 f1 scope pos) 1 it acc env) R s)
    (h : wpAny (model prog w) A (pyIter it) (fun it2 z => codeAny (model prog w) A (.compLoop (cz elt t0 i0 f0 t1 i1 f1 scope pos) 1 it2 acc env) R z) (outZ prog w A env R) s) :
    codeAny (model prog w) A (.compStart (cz elt t0 i0 f0 t1 i1 f1 scope pos) 1 it acc env) R s := by
  refine codeAny_of_tree ?_
  show wpAny _ _ ((compStart (cz elt t0 i0 f0 t1 i1 f1 scope pos) 1 it acc env).onRaise (fun x => do noteFrame x env; standAt theWindowsPlace)) _ _ s
  refine wpAny_notedAt ?_
  unfold compStart
  show wpAny _ _ (ask >>= _) _ _ s
  refine wpAny_bind (wpAny_askSetting (wpAny_ite ?_))
  split
  · first
      | exact wpAny_bind (wpAny_pure (wpAny_pure (And.intro rfl h0)))
      | exact wpAny_pure (And.intro rfl h0)
  · first
      | exact wpAny_bind (wpAny_rule (wpAny_bind (wpAny_standAt (wpAny_bind (wpAny_mono h (fun it2 z q => wpAny_pure (And.intro rfl q)) fun _ _ x => x)))))
      | (refine wpAny_bind (wpAny_rule ?_); show wpAny _ _ (standAt i1.pos >>= _) _ _ s; exact wpAny_bind (wpAny_standAt (wpAny_bind (wpAny_mono h (fun it2 z q => wpAny_pure (And.intro rfl q)) fun _ _ x => x))))
end
section
variable {X : Cx}
abbrev BlkP (X : Cx) (scope : Scope) (p : Cx → Prop) : Prop := ∀ (s : Shared) (H : Hp) (C : Addr) (cl : List (Str × Addr)) (fp : List Addr), p (X.blk s H scope (compEnvC scope cl C X.env) fp)
/-- its reading: D is the new set; vs are the block's names, vs1 those of the second target -/
def tSz (w : World) (wi : TI) (g : TG) (tt : TT) (wi1 : TI) (g1 : TG) (tt1 : TT) (te : TE) (vs vs1 : List Nat) : TE := fun σ H Q => wi σ H fun J H1 => ∀ D, H1 D = none → ∃ W : Nat → Nat → Hp → Prop, (∃ m, W 0 m (upd H1 D (SetZO w D (fun _ => false) 0))) ∧ ∀ i m H, W i m H →
  (J.stop i H ∧ Q (.ref D) H) ∨ (J.go i H ∧ ∃ Nx : Hp → Prop, (∀ H', Nx H' → ∃ m', m' < m ∧ W (i + 1) m' H') ∧ ∀ x H', J.yld i H x H' → g x (wipe σ vs) H' fun σ2 H2 => wipe σ2 vs = wipe σ vs ∧ tt σ2 H2 fun b H3 =>
    if b = true then wi1 σ2 H3 fun J1 H4 => ∃ W1 : Nat → Nat → Hp → Prop, (∃ m, W1 0 m H4) ∧ ∀ j k H, W1 j k H →
      (J1.stop j H ∧ Nx H) ∨ (J1.go j H ∧ ∃ Nx1 : Hp → Prop, (∀ H', Nx1 H' → ∃ k', k' < k ∧ W1 (j + 1) k' H') ∧ ∀ x H', J1.yld j H x H' → g1 x (wipe σ2 vs1) H' fun σ3 H5 => wipe σ3 vs1 = wipe σ2 vs1 ∧ tt1 σ3 H5 fun b H6 =>
        if b = true then te σ3 H6 fun y H7 => ∃ (z : Str) (S : Str → Bool) (n : Nat), y = .str z ∧ H7 D = some (SetZO w D S n) ∧ n + 1 < scanBound ∧ Nx1 (upd H7 D (SetZO w D (fun q => S q || decide (q = z)) (if S z = true then n else n + 1))) else Nx1 H6)
    else Nx H3)
theorem sz_core {pins : List (Addr × Obj)} {s : Shared} {σ : St} {H : Hp} {Q : VK} {elt t0 i0 t1 i1 : Expr} {f0 f1 : List Expr} {scope : Scope} {own : List (Str × Nat)} {vs1 : List Nat} {pos pos' : Pos} {wi wi1 : TI} {g g1 : TG} {tt tt1 : TT} {te : TE} {use : Option (Value → Sem Unit)} {Qf : Value → Shared → Prop}
    (hc : X.calm = true) (hN : X.N.Nodup) (I : Inv X pins σ H s) (hi : PI X t0 i0 wi) (ok : BlkOk X.N X.env.scope scope own) (hv : ∀ i ∈ vs1, i ∈ own.map (·.2))
    (b0 : BlkP X scope fun Y => PG Y t0 g) (b1 : BlkP X scope fun Y => PTs Y f0 tt) (b2 : BlkP X scope fun Y => PE Y elt te) (hs : ∀ x, foldedSetIterable i0 X.env x = pure x)
    (b3 : BlkP X scope fun Y => PI Y t1 i1 wi1) (b4 : BlkP X scope fun Y => PG Y t1 g1) (b5 : BlkP X scope fun Y => PTs Y f1 tt1) (hs1 : ∀ env x, foldedSetIterable i1 env x = pure x)
    (h : tSz X.w wi g tt wi1 g1 tt1 te (own.map (·.2)) vs1 σ H Q)
    (back : ∀ D C z m H', Inv X pins σ H' z → Q (.ref D) H' → z.heap.Ns C m → FpOk X pins H' C → compPost (model X.prog X.w) X.A X.xe use Qf (.ref D) C (.ok .next) z) :
    wpAny (model X.prog X.w) X.A (comprehension (cz elt t0 i0 f0 t1 i1 f1 scope pos) scope X.env pos' (newSet (.type "set")) false (eval i0 X.env) use) Qf X.xe s := by
  have cells : ∀ y ∈ scope.names, y.2 = .free → ∃ c, X.env.cells.lookup y.1 = some c := fun y hy e => (ok.free y hy e).elim (fun q => I.ok.has _ (.inl q)) fun q => I.ok.has _ (.inr q)
  refine wpAny_comprehension_free (use := use) rfl hs (closure_ok cells) ok.kind (fun y hy e => by rw [ok.uniq y hy, e]) (thn (hi.run pins s σ H _ I h) fun xv s1 hx => thn hx fun itv s2 h2 => ?_)
  obtain ⟨it, fp, tn, J, H2, e, I2, T, st2, f2, q⟩ := h2
  subst e
  refine PpSet.newSet_ok (newEnv_comp ?_)
  generalize eD : s2.heap.objs.size = D
  have freeD : H2 D = none := I2.hok.fresh (Nat.le_of_eq eD)
  obtain ⟨W, ⟨m0, w0⟩, turn⟩ := q D freeD
  generalize e3 : ({ s2 with heap := s2.heap.push (emptyZ X.w) } : Shared) = s3
  have h3 : s3.heap = s2.heap.push (emptyZ X.w) := by rw [← e3]
  have I3 : Inv X pins σ (upd H2 D (SetZO X.w D (fun _ => false) 0)) s3 := by
    rw [← e3]
    refine I2.laid (t' := s2.toks) (fun b o e => Heap.get?_push_of_some _ e) (Nat.le_of_eq eD) (setZO_ok (SetZ.new ?_))
    rw [← eD]
    exact Heap.get?_push_size _ rfl
  have below : ∀ b ∈ fp, b < s2.heap.objs.size := fun b hb => by
    obtain ⟨o, e, _⟩ := T.obj _ _ st2 b hb
    exact Heap.lt_size e
  have f3 : ∀ b ∈ fp, FpOk X pins (upd H2 D (SetZO X.w D (fun _ => false) 0)) b ∧ b < s3.heap.objs.size := fun b hb => by
    have lt := below b hb
    refine ⟨⟨?_, (f2 b hb).2⟩, by rw [h3, Heap.size_push]; exact Nat.lt_succ_of_lt lt⟩
    rw [upd_ne (by rw [← eD]; exact Nat.ne_of_lt lt)]
    exact (f2 b hb).1
  have st3 : tn 0 s3.heap := T.keep _ _ _ st2 fun b _ o e => by
    rw [h3]
    exact Heap.get?_push_of_some _ e
  have I4 := block_start I3 ok hN f3
  generalize upd H2 D (SetZO X.w D (fun _ => false) 0) = H3 at I3 I4 w0 f3
  have p0 := b0 s3 H3 s3.heap.objs.size (cellsFrom (s3.heap.objs.size + 1) scope.names (cloFrom X.env.cells scope.names [])) fp
  have p1 := b1 s3 H3 s3.heap.objs.size (cellsFrom (s3.heap.objs.size + 1) scope.names (cloFrom X.env.cells scope.names [])) fp
  have p2 := b2 s3 H3 s3.heap.objs.size (cellsFrom (s3.heap.objs.size + 1) scope.names (cloFrom X.env.cells scope.names [])) fp
  have p3 := b3 s3 H3 s3.heap.objs.size (cellsFrom (s3.heap.objs.size + 1) scope.names (cloFrom X.env.cells scope.names [])) fp
  have p4 := b4 s3 H3 s3.heap.objs.size (cellsFrom (s3.heap.objs.size + 1) scope.names (cloFrom X.env.cells scope.names [])) fp
  have p5 := b5 s3 H3 s3.heap.objs.size (cellsFrom (s3.heap.objs.size + 1) scope.names (cloFrom X.env.cells scope.names [])) fp
  show codeAny _ _ (.compStart (cz elt t0 i0 f0 t1 i1 f1 scope pos) 0 (.ref it) (.ref D) (compEnvC scope (cellsFrom (s3.heap.objs.size + 1) scope.names (cloFrom X.env.cells scope.names [])) s3.heap.objs.size X.env)) (compPost (model X.prog X.w) X.A X.xe use Qf (.ref D) s3.heap.objs.size) { s3 with heap := pushCells (s3.heap.push { cls := .type "dict", data := .dict #[] }) scope.names }
  have free0 : ∀ b ∈ fp, H3 b = none := fun b hb => (f3 b hb).1.1
  generalize ece : compEnvC scope (cellsFrom (s3.heap.objs.size + 1) scope.names (cloFrom X.env.cells scope.names [])) s3.heap.objs.size X.env = ce at I4 p0 p1 p2 p3 p4 p5 ⊢
  have loc : ce.locals = s3.heap.objs.size := by
    subst ece
    rfl
  generalize e4 : ({ s3 with heap := pushCells (s3.heap.push { cls := .type "dict", data := .dict #[] }) scope.names } : Shared) = s4 at I4 ⊢
  have st4 : tn 0 s4.heap := T.keep _ _ _ st3 fun b _ o e => by
    rw [← e4]
    exact pushCells_keeps _ _ _ _ (Heap.get?_push_of_some _ e)
  have stat : ∀ {σ' : St} {H' : Hp} {z : Shared}, Inv (X.blk s3 H3 scope ce fp) [] σ' H' z → (∀ b ∈ fp, H' b = none) → ∀ b ∈ fp, FpOk (X.blk s3 H3 scope ce fp) [] H' b := fun {σ' H' z} I' hn b hb =>
    ⟨hn b hb, (I'.ok.exf b hb).1, I'.ok.exfs b hb, .inl hb, fun x c e => (I'.ok.exf b hb).2 x c e, fun p hp => absurd (show p ∈ ([] : List (Addr × Obj)) ++ [] from hp) (by simp)⟩
  let Out : Nat → Shared → Prop := fun n z => ∃ i H', Inv (X.blk s3 H3 scope ce fp) [] (wipe σ (own.map (·.2))) H' z ∧ tn i z.heap ∧ (∀ b ∈ fp, H' b = none) ∧ W i n H'
  have loop : codeAny (model X.prog X.w) X.A (.compLoop (cz elt t0 i0 f0 t1 i1 f1 scope pos) 0 (.ref it) (.ref D) ce) (compPost (model X.prog X.w) X.A X.xe use Qf (.ref D) s3.heap.objs.size) s4 := by
    refine cz_loop0 (hs1 ce) Out ?_ m0 ⟨0, H3, I4, st4, free0, w0⟩
    rintro n s5 ⟨i, H5, I5, st5, n5, w5⟩
    rcases turn i n H5 w5 with ⟨stop, qq⟩ | ⟨go, Nx, hNx, step⟩
    · refine thnF (T.done (X.blk s3 H3 scope ce fp) rfl rfl rfl hc i [] s5 _ H5 (fun _ _ => False) I5 (stat I5 n5) st5 stop) fun r s6 ⟨hr, I6⟩ => ?_
      subst hr
      have I7 : Inv X pins σ H5 s6 := I3.call' (ch := fp) I6.os I6.base I6.hok I6.bare fun b hb => ⟨(f3 b hb).1.2.2.2.1, (f3 b hb).1.2.1, (f3 b hb).1.2.2.2.2.1, (f3 b hb).1.2.2.2.2.2⟩
      have nC : H5 s3.heap.objs.size = none := loc ▸ (show H5 ce.locals = none from I6.free)
      obtain ⟨m, hn, _⟩ := I6.loc
      have hn2 : s6.heap.Ns s3.heap.objs.size m := loc ▸ (show s6.heap.Ns ce.locals m from hn)
      exact back D s3.heap.objs.size s6 m H5 I7 qq hn2 (I3.fpOk (Nat.le_refl _) nC)
    · refine thnF (T.item (X.blk s3 H3 scope ce fp) rfl rfl rfl hc i [] s5 _ H5 (fun _ _ => False) I5 (stat I5 n5) st5 go) fun r s6 ⟨u, hr, h6⟩ => ?_
      subst hr
      refine thnF h6 fun _ s7 ⟨x, H7, I7, r7, y7, st7, n7⟩ => ?_
      refine thnF (p0.run _ s7 _ H7 x u _ (I7.pinned (stat I7 n7) (T.obj _ _ st7)) r7 (step x H7 y7)) fun _ s8 ⟨σ8, H8, I8, hw8, q8⟩ => ?_
      refine thnF (p1.run _ s8 σ8 H8 _ I8 q8) fun b s9 ⟨H9, I9, q9⟩ => ?_
      have fin : ∀ {σ9 : St} {z : Shared} {H' : Hp}, Inv (X.blk s3 H3 scope ce fp) ([] ++ pinsAt fp s7.heap) σ9 H' z → (wipe σ (own.map (·.2))).length = σ9.length → (∀ (j : Nat) v, (wipe σ (own.map (·.2)))[j]? = some (some v) → σ9[j]? = some (some v)) → Nx H' → ∃ m, m < n ∧ Out m z := fun {σ9 z H'} I' hl hk nx => by
        obtain ⟨m', hm, w'⟩ := hNx H' nx
        have pin' : ∀ b ∈ fp, ∀ o, s7.heap.get? b = some o → z.heap.get? b = some o ∧ H' b = none := fun b hb o e =>
          ⟨(I'.pin (b, o) (List.mem_append_right _ (List.mem_append_right _ (mem_pinsAt hb e)))).1, (I'.pin (b, o) (List.mem_append_right _ (List.mem_append_right _ (mem_pinsAt hb e)))).2.1⟩
        refine ⟨m', hm, i + 1, H', (I'.unpinned (pins := [])).weak hl hk, T.keep _ _ _ st7 fun b hb o e => (pin' b hb o e).1, fun b hb => ?_, w'⟩
        obtain ⟨o, e, _⟩ := T.obj _ _ st7 b hb
        exact (pin' b hb o e).2
      have len8 : (wipe σ (own.map (·.2))).length = σ8.length := by rw [← hw8, wipe_length]
      have kept8 : ∀ (j : Nat) v, (wipe σ (own.map (·.2)))[j]? = some (some v) → σ8[j]? = some (some v) := fun j v e => by
        rw [← hw8] at e
        exact (wipe_some e).1
      have kept9 : ∀ (j : Nat) v, (wipe σ (own.map (·.2)))[j]? = some (some v) → (wipe σ8 vs1)[j]? = some (some v) := fun j v e => by
        rw [← hw8] at e
        obtain ⟨ea, eb⟩ := wipe_some e
        rw [wipe_out fun z => eb (hv j z)]
        exact ea
      cases b with
      | false =>
        simp only [Bool.false_eq_true, if_false] at q9 ⊢
        exact fin I9 len8 kept8 q9
      | true =>
        simp only [if_true] at q9 ⊢
        refine thnF (p3.run _ s9 σ8 H9 _ I9 q9) fun xv s10 hx => thnF hx fun itv s11 h11 => ?_
        obtain ⟨it1, fp1, tn1, J1, H11, e1, I11, T1, st11, f11, W1, ⟨m1, w1⟩, turn1⟩ := h11
        subst e1
        have stat1 : ∀ {H' : Hp}, (∀ b ∈ fp1, H' b = none) → ∀ b ∈ fp1, FpOk (X.blk s3 H3 scope ce fp) ([] ++ pinsAt fp s7.heap) H' b := fun hn b hb => ⟨hn b hb, (f11 b hb).2⟩
        have loop1 : codeAny (model X.prog X.w) X.A (.compLoop (cz elt t0 i0 f0 t1 i1 f1 scope pos) 1 (.ref it1) (.ref D) ce) (fun r z => match r with
            | .ok _ => ∃ m, m < n ∧ Out m z
            | .error _ => False) s11 := by
          refine cz_loop1 (fun k z => ∃ j H', Inv (X.blk s3 H3 scope ce fp) ([] ++ pinsAt fp s7.heap) (wipe σ8 vs1) H' z ∧ tn1 j z.heap ∧ (∀ b ∈ fp1, H' b = none) ∧ W1 j k H') ?_ m1 ⟨0, H11, I11.weak (wipe_length _ _) (fun j v e => (wipe_some e).1), st11, fun b hb => (f11 b hb).1, w1⟩
          rintro k s12 ⟨j, H12, I12, st12, n12, w12⟩
          rcases turn1 j k H12 w12 with ⟨stop1, nx1⟩ | ⟨go1, Nx1, hNx1, step1⟩
          · refine thnF (T1.done (X.blk s3 H3 scope ce fp) rfl rfl rfl hc j _ s12 (wipe σ8 vs1) H12 (fun _ _ => False) I12 (stat1 n12) st12 stop1) fun r s13 ⟨hr, I13⟩ => ?_
            subst hr
            exact fin I13 (len8.trans (wipe_length σ8 vs1).symm) kept9 nx1
          · refine thnF (T1.item (X.blk s3 H3 scope ce fp) rfl rfl rfl hc j _ s12 (wipe σ8 vs1) H12 (fun _ _ => False) I12 (stat1 n12) st12 go1) fun r s13 ⟨u1, hr, h13⟩ => ?_
            subst hr
            refine thnF h13 fun _ s14 ⟨x1, H14, I14, r14, y14, st14, n14⟩ => ?_
            refine thnF (p4.run _ s14 (wipe σ8 vs1) H14 x1 u1 _ (I14.pinned (stat1 n14) (T1.obj _ _ st14)) r14 (step1 x1 H14 y14)) fun _ s15 ⟨σ15, H15, I15, hw15, q15⟩ => ?_
            refine thnF (p5.run _ s15 σ15 H15 _ I15 q15) fun c s16 ⟨H16, I16, q16⟩ => ?_
            have fin1 : ∀ {z : Shared} {H' : Hp}, Inv (X.blk s3 H3 scope ce fp) (([] ++ pinsAt fp s7.heap) ++ pinsAt fp1 s14.heap) σ15 H' z → Nx1 H' → ∃ m, m < k ∧ ∃ j H', Inv (X.blk s3 H3 scope ce fp) ([] ++ pinsAt fp s7.heap) (wipe σ8 vs1) H' z ∧ tn1 j z.heap ∧ (∀ b ∈ fp1, H' b = none) ∧ W1 j m H' := fun {z H'} I' nx => by
              obtain ⟨m', hm, w'⟩ := hNx1 H' nx
              have pin' : ∀ b ∈ fp1, ∀ o, s14.heap.get? b = some o → z.heap.get? b = some o ∧ H' b = none := fun b hb o e =>
                ⟨(I'.pin (b, o) (List.mem_append_right _ (List.mem_append_right _ (mem_pinsAt hb e)))).1, (I'.pin (b, o) (List.mem_append_right _ (List.mem_append_right _ (mem_pinsAt hb e)))).2.1⟩
              refine ⟨m', hm, j + 1, H', I'.unpinned.weak (by rw [← hw15, wipe_length]) (fun j v e => by rw [← hw15] at e; exact (wipe_some e).1), T1.keep _ _ _ st14 fun b hb o e => (pin' b hb o e).1, fun b hb => ?_, w'⟩
              obtain ⟨o, e, _⟩ := T1.obj _ _ st14 b hb
              exact (pin' b hb o e).2
            cases c with
            | false =>
              simp only [Bool.false_eq_true, if_false] at q16 ⊢
              exact fin1 I16 q16
            | true =>
              simp only [if_true] at q16 ⊢
              refine thnF (p2.run _ s16 σ15 H16 _ I16 q16) fun y s17 ⟨yv, H17, I17, r17, z, S, n0, ey, hD17, room, nx⟩ => ?_
              subst ey
              obtain ⟨tk, rfl⟩ : ∃ tk, y = Value.str z tk := r17
              exact addZ (X := X.blk s3 H3 scope ce fp) I17 hD17 room fun s18 I18 => fin1 I18 nx
        exact cz_start1 loop1 (T1.self X.A 0 _ _ _ st11 loop1)
  exact PpSet.codeAny_compStart_set loop (T.self X.A 0 _ _ _ st4 loop)
theorem pe_sz {elt t0 i0 t1 i1 : Expr} {f0 f1 : List Expr} {scope : Scope} {own : List (Str × Nat)} {vs1 : List Nat} {pos : Pos} {wi wi1 : TI} {g g1 : TG} {tt tt1 : TT} {te : TE} (hc : X.calm = true) (hN : X.N.Nodup) (hi : PI X t0 i0 wi) (ok : BlkOk X.N X.env.scope scope own) (hv : ∀ i ∈ vs1, i ∈ own.map (·.2))
    (b0 : BlkP X scope fun Y => PG Y t0 g) (b1 : BlkP X scope fun Y => PTs Y f0 tt) (b3 : BlkP X scope fun Y => PI Y t1 i1 wi1) (b4 : BlkP X scope fun Y => PG Y t1 g1) (b5 : BlkP X scope fun Y => PTs Y f1 tt1) (b2 : BlkP X scope fun Y => PE Y elt te)
    (hs : ∀ x, foldedSetIterable i0 X.env x = pure x := by intro _; rfl) (hs1 : ∀ env x, foldedSetIterable i1 env x = pure x := by intro _ _; rfl) : PE X (cz elt t0 i0 f0 t1 i1 f1 scope pos) (tSz X.w wi g tt wi1 g1 tt1 te (own.map (·.2)) vs1) := by
  refine ⟨fun pins s σ H Q I h => ?_⟩
  rw [PpSet.eval_SetComp]
  refine sz_core hc hN I hi ok hv b0 b1 b2 hs b3 b4 b5 hs1 h fun D C z m H' I' q hn f => ⟨m, hn, fun h2 sb => ?_⟩
  obtain ⟨y0, y1, y2, y3, y4, y5⟩ := f
  exact ⟨.ref D, H', I'.turned (t' := z.toks) (fun b o hb e => (sb.2 b hb).trans e) y0 y1 y3 y4 y5, rfl, q⟩
end
end L2.Hx

/-! The text of the law of names: its defs by their places. -/
namespace L2.Hx
open PySem PySem.Spec PyProof.Rows
abbrev pw : Program := PySem.Challenge.pw_heldapart_k02_names_in_sayings
def top (i : Nat) : Stmt := pw.main.body.getD i (.Pass ⟨0, 0, 0, 0⟩)
abbrev s_names_in : Stmt := top 1
theorem sc_names_in : FnScope ["saying", "triples", "looks", "parts", "triple", "term"] ["saying"] (defScope s_names_in) := ⟨rfl, rfl, rfl, by decide +kernel, rfl, by decide +kernel, by decide +kernel⟩
abbrev s_l_deck : Stmt := top 3
theorem sc_l_deck : FnScope ["script", "deck", "cell", "whole"] ["script"] (defScope s_l_deck) := ⟨rfl, rfl, rfl, by decide +kernel, rfl, by decide +kernel, by decide +kernel⟩
abbrev s_l_draw : Stmt := top 4
theorem sc_l_draw : FnScope ["deck", "many", "whole", "number"] ["deck", "many"] (defScope s_l_draw) := ⟨rfl, rfl, rfl, by decide +kernel, rfl, by decide +kernel, by decide +kernel⟩
abbrev s_l_pick : Stmt := top 5
theorem sc_l_pick : FnScope ["deck", "items"] ["deck", "items"] (defScope s_l_pick) := ⟨rfl, rfl, rfl, by decide +kernel, rfl, by decide +kernel, by decide +kernel⟩
abbrev s_l_shuffled : Stmt := top 6
theorem sc_l_shuffled : FnScope ["deck", "items", "left", "rest"] ["deck", "items"] (defScope s_l_shuffled) := ⟨rfl, rfl, rfl, by decide +kernel, rfl, by decide +kernel, by decide +kernel⟩
abbrev s_l_look : Stmt := top 7
theorem sc_l_look : FnScope ["deck", "terms"] ["deck", "terms"] (defScope s_l_look) := ⟨rfl, rfl, rfl, by decide +kernel, rfl, by decide +kernel, by decide +kernel⟩
abbrev s_l_part : Stmt := top 8
theorem sc_l_part : FnScope ["deck", "terms"] ["deck", "terms"] (defScope s_l_part) := ⟨rfl, rfl, rfl, by decide +kernel, rfl, by decide +kernel, by decide +kernel⟩
abbrev s_l_clause : Stmt := top 9
theorem sc_l_clause : FnScope ["deck", "terms", "looks", "parts", "first", "turn"] ["deck", "terms", "looks", "parts"] (defScope s_l_clause) := ⟨rfl, rfl, rfl, by decide +kernel, rfl, by decide +kernel, by decide +kernel⟩
abbrev s_l_due : Stmt := top 10
theorem sc_l_due : FnScope ["saying", "seen", "looks", "parts", "word", "one", "other", "name"] ["saying"] (defScope s_l_due) := ⟨rfl, rfl, rfl, by decide +kernel, rfl, by decide +kernel, by decide +kernel⟩
abbrev s_l_is_right : Stmt := top 11
theorem sc_l_is_right : FnScope ["saying", "is_named", "known", "due", "heard", "whole", "clause"] ["saying", "is_named"] (defScope s_l_is_right) := ⟨rfl, rfl, rfl, by decide +kernel, rfl, by decide +kernel, by decide +kernel⟩
abbrev s_law : Stmt := top 12
theorem sc_law : FnScope ["script", "deck", "pool", "turn", "terms", "many", "saying", "spot", "wide"] ["script"] (defScope s_law) := ⟨rfl, rfl, rfl, by decide +kernel, rfl, by decide +kernel, by decide +kernel⟩
structure Txt (K : PySem.W.Frag) (mg : Str → Option Value) : Prop where
  b_abs : mg "abs" = none
  b_int : mg "int" = none
  b_len : mg "len" = none
  b_list : mg "list" = none
  b_range : mg "range" = none
  b_repr : mg "repr" = none
  b_set : mg "set" = none
  b_sorted : mg "sorted" = none
  b_tuple : mg "tuple" = none
  d_names_in : ∃ f fd, Src K mg "names_in" s_names_in ["saying"] f fd
  d_l_deck : ∃ f fd, Src K mg "_law_deck" s_l_deck ["script"] f fd
  d_l_draw : ∃ f fd, Src K mg "_law_draw" s_l_draw ["deck", "many"] f fd
  d_l_pick : ∃ f fd, Src K mg "_law_pick" s_l_pick ["deck", "items"] f fd
  d_l_shuffled : ∃ f fd, Src K mg "_law_shuffled" s_l_shuffled ["deck", "items"] f fd
  d_l_look : ∃ f fd, Src K mg "_law_look" s_l_look ["deck", "terms"] f fd
  d_l_part : ∃ f fd, Src K mg "_law_part" s_l_part ["deck", "terms"] f fd
  d_l_clause : ∃ f fd, Src K mg "_law_clause" s_l_clause ["deck", "terms", "looks", "parts"] f fd
  d_l_due : ∃ f fd, Src K mg "_law_due" s_l_due ["saying"] f fd
  d_l_is_right : ∃ f fd, Src K mg "_law_is_right" s_l_is_right ["saying", "is_named"] f fd
  d_law : ∃ f fd, Src K mg "law" s_law ["script"] f fd
section
variable {X : Cx}
theorem pe_bT {x : Str} {n : String} {pos : Pos} (h : X.mg x = none) (hv : bootBuiltins x = some (.type n)) (hg : Gl X x := by rfl) (hn : x ≠ "__name__" := by decide) (hd : (x == ("__debug__" : Str)) = false := by decide) : PE X (.Name x pos) (tC (.ty n)) := pe_bltn hg h hv rfl hn hd
end
end L2.Hx

/-! The deck: a draw, a pick. -/
namespace L2.Hx
open PySem PySem.Spec PyProof.Rows
theorem dget_great {H : Hp} {p l : Addr} {m t : Int} (h : H p = some (.dK (deckD l m t))) : DGet H p (.str "great") (some (.ref l)) := by
  rw [← deck_great l m t]
  exact DGet.k (k := kGreat) h
theorem dget_mixed {H : Hp} {p l : Addr} {m t : Int} (h : H p = some (.dK (deckD l m t))) : DGet H p (.str "mixed") (some (.int m)) := by
  rw [← deck_mixed l m t]
  exact DGet.k (k := kMixed) h
theorem dget_turns {H : Hp} {p l : Addr} {m t : Int} (h : H p = some (.dK (deckD l m t))) : DGet H p (.str "turns") (some (.int t)) := by
  rw [← deck_turns l m t]
  exact DGet.k (k := kTurns) h
theorem dput_turns {H : Hp} {p l : Addr} {m t u : Int} (h : H p = some (.dK (deckD l m t))) : DPut H p (.str "turns") (.int u) (upd H p (.dK (deckD l m u))) := by
  rw [← deck_put_turns l m t u]
  exact DPut.k (k := kTurns) h (by show 3 < sizeLine; decide)
theorem dput_mixed {H : Hp} {p l : Addr} {m t u : Int} (h : H p = some (.dK (deckD l m t))) : DPut H p (.str "mixed") (.int u) (upd H p (.dK (deckD l u t))) := by
  rw [← deck_put_mixed l m t u]
  exact DPut.k (k := kMixed) h (by show 3 < sizeLine; decide)
theorem dp_ints {K : PySem.W.Frag} {H : Hp} : ∀ ns : List Int, DpAll K H (ns.map V.int) (ns.map PyData.int)
  | [] => .nil
  | n :: ns => .cons (.int n) (dp_ints ns)
theorem shaped_ints (ns : List Int) : SeqAt.shaped (.list (ns.map PyData.int)) = true := by
  have h1 : ∀ ns : List Int, PyData.canLayAll0 (ns.map PyData.int) = true := fun ns => by
    induction ns with
    | nil => rfl
    | cons n ns ih => simpa [PyData.canLayAll0, PyData.canLay0] using ih
  have h2 : ∀ ns : List Int, PyData.depthAll (ns.map PyData.int) ≤ 1 := fun ns => by
    induction ns with
    | nil => simp [PyData.depthAll]
    | cons n ns ih =>
      simp only [List.map_cons, PyData.depthAll, PyData.depth]
      omega
  have a := h1 ns
  have b := h2 ns
  unfold SeqAt.shaped
  rw [Bool.and_eq_true]
  refine ⟨by simpa [PyData.canLay0] using a, decide_eq_true ?_⟩
  simp only [PyData.depth]
  omega
theorem eqv_nil (ns : List Int) : PyData.eqv (.list (ns.map PyData.int)) (.list []) = decide (ns = []) := by
  cases ns <;> simp [PyData.eqv, PyData.eqvAll]
theorem Wd.gset {p l : Addr} {G H : Hp} (W : Wd p l G H) (ns : List Int) (hz : ns.length ≤ 63) : Ext p l G H G (upd H l (.lst (ns.map V.int))) := by
  have ne := W.ne
  refine ⟨⟨fun b u q => ?_, W.gp, W.gl, ?_, ⟨ns, hz, upd_same⟩⟩, Same.refl G, fun b u _ n2 q => by rw [upd_ne n2]; exact q, fun _ _ _ g => g⟩
  · rw [upd_ne (ne_of_none q W.gl)]
    exact W.same b u q
  · obtain ⟨m, t, m0, m1, e⟩ := W.dk
    exact ⟨m, t, m0, m1, by rw [upd_ne ne]; exact e⟩
theorem Wd.dset {p l : Addr} {G H : Hp} (W : Wd p l G H) {m t : Int} (m0 : 0 ≤ m) (m1 : m < 4294967291) : Ext p l G H G (upd H p (.dK (deckD l m t))) := by
  have ne := W.ne
  refine ⟨⟨fun b u q => ?_, W.gp, W.gl, ⟨m, t, m0, m1, upd_same⟩, ?_⟩, Same.refl G, fun b u n1 _ q => by rw [upd_ne n1]; exact q, fun _ _ _ g => g⟩
  · rw [upd_ne (ne_of_none q W.gp)]
    exact W.same b u q
  · obtain ⟨ns, z, e⟩ := W.ls
    exact ⟨ns, z, by rw [upd_ne ne.symm]; exact e⟩

def spDraw : Sp := fun vs H Q _ => ∃ (p l : Addr) (G : Hp) (many : Int), vs = [.ref p, .int many] ∧ 1 ≤ many ∧ many < 1000000 ∧ Wd p l G H ∧ ∀ (r : Int) (H' : Hp), 0 ≤ r → r < many → Ext p l G H G H' → Q (.int r) H'
section
variable {P : Program} {w : World} {K : PySem.W.Frag} {mg : Str → Option Value} {base : Heap}
theorem D_draw (T : Txt K mg) : Df P w K mg base 1 "_law_draw" ["deck", "many"] spDraw := by
  obtain ⟨f, fd, S⟩ := T.d_l_draw
  refine Df.mk' (k := 0) S sc_l_draw (fun vs H Q E h => ?_) (fun cdv A outer s H vs Q E hgd hr h => ?_)
  · obtain ⟨p, l, G, many, rfl, _⟩ := h
    rfl
  · obtain ⟨p, l, G, many, rfl, h1, h2, W, k⟩ := h
    have hu := hu_of hr
    refine ⟨_, (pss_cons (ps_if (pt_cmpR op_lt (pv 1) pe_int (nomark _)) (pss_one (ps_ret pe_int)) pss_nil)
      (pss_cons (ps_if (pt_cmpR (op_neD hr.units) (pe_dget hu (pv 0) pe_str (fun _ _ => rfl)) (pe_lst pa_nil) (nomark _)) (pss_cons (ps_set (i := 2) sc_l_draw.nd rfl (.inl rfl) (pe_bm0 PySem.F.plainAttrs_list PySem.F.slot_list_pop PySem.F.type_list_pop mt_pop (pe_dget hu (pv 0) pe_str (fun _ _ => rfl))))
      (pss_cons (ps_if (pt_cmpR op_ge (pv 2) (pv 1) (nomark _)) (pss_one (ps_expr (pe_bm PySem.F.plainAttrs_list PySem.F.slot_list_append PySem.F.type_list_append mt_append (pe_dget hu (pv 0) pe_str (fun _ _ => rfl)) (pa_cons (pe_op op_fdivN (pv 2) (pv 1)) pa_nil)))) pss_nil)
      (pss_one (ps_ret (pe_op op_mod (pe_callTy call_int1 (by rfl) T.b_int (by decide +kernel) (pa_cons (pv 2) pa_nil)) (pv 1)))))) pss_nil)
      (pss_cons (ps_dput hu (pv 0) pe_str (pe_op op_add (pe_dget hu (pv 0) pe_str (fun _ _ => rfl)) pe_int) rfl)
      (pss_cons (ps_set (i := 3) sc_l_draw.nd rfl (.inl rfl) (pe_op op_mod (pe_callTy call_int1 (by rfl) T.b_int (by decide +kernel) (pa_cons (pe_op op_add (pe_dget hu (pv 0) pe_str (fun _ _ => rfl)) (pe_op op_mul pe_int (pe_dget hu (pv 0) pe_str (fun _ _ => rfl)))) pa_nil)) pe_int))
      (pss_cons (ps_set (i := 3) sc_l_draw.nd rfl (.inl rfl) (pe_op op_mod (pe_callTy call_int1 (by rfl) T.b_int (by decide +kernel) (pa_cons (pe_op op_add (pe_op op_add (pe_op op_mul (pv 3) (pv 3)) (pe_op op_mul pe_int (pe_dget hu (pv 0) pe_str (fun _ _ => rfl)))) pe_int) pa_nil)) pe_int))
      (pss_cons (ps_set (i := 3) sc_l_draw.nd rfl (.inl rfl) (pe_op op_mod (pe_callTy call_int1 (by rfl) T.b_int (by decide +kernel) (pa_cons (pe_op op_add (pe_op op_mul (pv 3) (pv 3)) (pe_op op_mul (pe_dget hu (pv 0) pe_str (fun _ _ => rfl)) pe_int)) pa_nil)) pe_int))
      (pss_one (ps_ret (pe_op op_mod (pe_callTy call_int1 (by rfl) T.b_int (by decide +kernel) (pa_cons (pe_op op_fdiv (pv 3) pe_int) pa_nil)) (pv 1)))))))))), ?_⟩
    refine ⟨_, rfl, _, _, rfl, rfl, _, rfl, ite2 (fun hc => ?_) (fun hc => ?_)⟩
    · exact k 0 H (Int.le_refl _) (by omega) (Ext.refl W)
    have hm : 2 ≤ many := by
      have := of_decide_eq_false (Bool.eq_false_iff.mpr hc)
      omega
    obtain ⟨m, t, m0, m1, hd⟩ := W.dk
    obtain ⟨ns, hz, hl⟩ := W.ls
    refine ⟨_, rfl, p, _, rfl, dget_great hd, Nat.zero_le _, fun q hq => ?_⟩
    have E1 := W.tmp (o := .lst []) hq
    have hq_p := W.np hq
    have hq_l := W.nl hq
    have hd1 : upd H q (.lst []) p = some (.dK (deckD l m t)) := by rw [upd_ne hq_p.symm]; exact hd
    have hl1 : upd H q (.lst []) l = some (.lst (ns.map V.int)) := by rw [upd_ne hq_l.symm]; exact hl
    refine ⟨.list (ns.map PyData.int), .list [], .lst (SqL.of hl1) (dp_ints ns), .lst (SqL.of upd_same) .nil, shaped_ints ns, rfl, _, rfl, ?_⟩
    rw [eqv_nil]
    refine ite2 (fun hc2 => ?_) (fun hc2 => ?_)
    · -- the great ones
      have hne : ns ≠ [] := by simpa using hc2
      obtain ⟨y, hy⟩ : ∃ y, ns[ns.length - 1]? = some y := by
        cases e : ns[ns.length - 1]? with
        | some y => exact ⟨y, rfl⟩
        | none =>
          have := List.getElem?_eq_none_iff.mp e
          have : 0 < ns.length := List.length_pos_iff.mpr hne
          omega
      have hdl : (ns.map V.int).dropLast = ns.dropLast.map V.int := by rw [List.map_dropLast]
      have hzl : ns.dropLast.length = ns.length - 1 := by simp
      have hpos : 0 < ns.length := List.length_pos_iff.mpr hne
      refine ⟨_, rfl, p, _, rfl, dget_great hd1, .inl ⟨rfl, _, SqL.of hl1⟩, l, ns.map V.int, .int y, rfl, rfl, hl1, by rw [List.length_map, List.getElem?_map, hy]; rfl, ?_⟩
      rw [hdl]
      have E2 := E1.trans W (E1.w.gset ns.dropLast (by omega))
      generalize hH2 : upd (upd H q (.lst [])) l (.lst (ns.dropLast.map V.int)) = H2 at E2 ⊢
      have hl2 : H2 l = some (.lst (ns.dropLast.map V.int)) := by rw [← hH2, upd_same]
      have hd2 : H2 p = some (.dK (deckD l m t)) := by rw [← hH2, upd_ne W.ne]; exact hd1
      refine ⟨_, rfl, _, rfl, _, _, rfl, rfl, _, rfl, ite2 (fun hc3 => ?_) (fun hc3 => ?_)⟩
      · refine ⟨_, rfl, p, _, rfl, dget_great hd2, .inl ⟨rfl, _, SqL.of hl2⟩, _, rfl, _, rfl, _, _, rfl, rfl, ⟨by omega, by omega⟩, l, _, _, rfl, rfl, hl2, by rw [List.length_map, hzl]; exact small1000 (by omega), ?_⟩
        have E3 := E2.trans W (E2.w.gset (ns.dropLast ++ [y.fdiv many]) (by rw [List.length_append, hzl, List.length_singleton]; omega))
        rw [show (ns.dropLast.map V.int ++ [V.int (y.fdiv many)]) = (ns.dropLast ++ [y.fdiv many]).map V.int by rw [List.map_append]; rfl]
        refine ⟨_, rfl, .inl ⟨_, rfl, _, rfl, _, _, rfl, rfl, by show (0 : Int) < many; omega, ?_⟩⟩
        exact k _ _ (Int.emod_nonneg _ (by omega)) (Int.emod_lt_of_pos _ (by omega)) E3
      · refine ⟨_, rfl, .inl ⟨_, rfl, _, rfl, _, _, rfl, rfl, by show (0 : Int) < many; omega, ?_⟩⟩
        exact k _ _ (Int.emod_nonneg _ (by omega)) (Int.emod_lt_of_pos _ (by omega)) E2
    · -- the mixed ones
      refine ⟨_, rfl, p, _, rfl, dget_turns hd1, _, _, rfl, rfl, _, rfl, p, _, rfl, dput_turns hd1, ?_⟩
      have E2 := E1.trans W (E1.w.dset (t := t + 1) m0 m1)
      generalize hH2 : upd (upd H q (.lst [])) p (.dK (deckD l m (t + 1))) = H2 at E2 ⊢
      have hd2 : H2 p = some (.dK (deckD l m (t + 1))) := by rw [← hH2, upd_same]
      refine ⟨_, rfl, p, _, rfl, dget_mixed hd2, _, rfl, p, _, rfl, dget_turns hd2, _, _, rfl, rfl, .inl ⟨by decide, by decide⟩, _, _, rfl, rfl, .inl ⟨_, rfl, _, _, rfl, rfl, by show (0 : Int) < 4294967279; decide, ?_⟩⟩
      generalize hn1 : (m + 2654435761 * (t + 1)) % 4294967279 = n1
      have b1 : 0 ≤ n1 ∧ n1 < 4294967279 := by omega
      refine ⟨_, rfl, _, rfl, _, _, rfl, rfl, .inl ⟨by omega, by omega⟩, _, rfl, p, _, rfl, dget_turns hd2, _, _, rfl, rfl, .inl ⟨by decide, by decide⟩, _, _, rfl, rfl, _, _, rfl, rfl, .inl ⟨_, rfl, _, _, rfl, rfl, by show (0 : Int) < 4294967231; decide, ?_⟩⟩
      generalize hn2 : (n1 * n1 + 40503 * (t + 1) + 19) % 4294967231 = n2
      have b2 : 0 ≤ n2 ∧ n2 < 4294967231 := by omega
      refine ⟨_, rfl, _, rfl, _, _, rfl, rfl, .inl ⟨by omega, by omega⟩, _, rfl, p, _, rfl, dget_mixed hd2, _, _, rfl, rfl, .inr ⟨by decide, by decide⟩, _, _, rfl, rfl, .inl ⟨_, rfl, _, _, rfl, rfl, by show (0 : Int) < 4294967197; decide, ?_⟩⟩
      generalize hn3 : (n2 * n2 + m * 7) % 4294967197 = n3
      refine ⟨_, rfl, _, _, rfl, rfl, ⟨by decide, by decide⟩, .inl ⟨_, rfl, _, rfl, _, _, rfl, rfl, by show (0 : Int) < many; omega, ?_⟩⟩
      exact k _ _ (Int.emod_nonneg _ (by omega)) (Int.emod_lt_of_pos _ (by omega)) E2
end
end L2.Hx

/-! What the law's own defs have in common. -/
namespace L2.Hx
open PySem PySem.Spec PyProof.Rows
section
variable {P : Program} {w : World} {K : PySem.W.Frag} {mg : Str → Option Value} {base : Heap} {p l : Addr} {σ : St} {G : Hp}
theorem sameAdd {H : Hp} {a : Addr} {o : HO} (h : H a = none) : Same H (upd H a o) := fun b u q => by
  rw [upd_ne (ne_of_none q h)]
  exact q
theorem sameOut {H0 H : Hp} {a : Addr} {o : HO} (s : Same H0 H) (h : H0 a = none) : Same H0 (upd H a o) := fun b u q => by
  rw [upd_ne (ne_of_none q h)]
  exact s b u q
theorem Da.tupI {K : PySem.W.Frag} {G : Hp} {v : V} {ds : List PyData} (h : Da K G v (.tuple ds)) : ∃ a xs, v = .ref a ∧ SqT K G a xs ∧ DaAll K G xs ds := by
  cases h with
  | tup h t => exact ⟨_, _, rfl, h, t⟩
theorem Da.strI {K : PySem.W.Frag} {G : Hp} {v : V} {z : Str} (h : Da K G v (.str z)) : v = .str z := by
  cases h
  rfl
theorem ite_of {c A B : Prop} {x : Bool} [Decidable c] (e : x = decide c) (h1 : c → A) (h2 : ¬ c → B) : if x = true then A else B := by
  subst e
  exact ite2 (fun h => h1 (of_decide_eq_true h)) fun h => h2 (of_decide_eq_false (Bool.eq_false_iff.mpr h))
theorem iteNot {c : Bool} {A B : Prop} (h1 : c = false → A) (h2 : c = true → B) : if (!c) = true then A else B := by
  cases c
  · exact iteT (h1 rfl)
  · exact iteF (h2 rfl)
theorem iteB {c : Bool} {A B : Prop} (h1 : c = true → A) (h2 : c = false → B) : if c = true then A else B := by
  cases c
  · exact iteF (h2 rfl)
  · exact iteT (h1 rfl)
theorem behindI {N I : Hp → Prop} {A : Prop} (main : (∀ H2, I H2 → N H2) → A) (fin : ∀ H2, I H2 → N H2) : A := main fin
theorem behindP {N I : V → Hp → Prop} {A : Prop} (main : (∀ u H2, I u H2 → N u H2) → A) (fin : ∀ u H2, I u H2 → N u H2) : A := main fin
theorem behind {N : Hp → Prop} {p l : Addr} {G H : Hp} {A : Prop} (main : (∀ H2 G2, Ext p l G H G2 H2 → N H2) → A) (fin : ∀ H2 G2, Ext p l G H G2 H2 → N H2) : A := main fin
theorem ite_dec {c A B : Prop} [Decidable c] (hc : c) (h : A) : if decide c = true then A else B := by
  rw [if_pos (decide_eq_true hc)]
  exact h
theorem if_no {c : Bool} {A B : Prop} (h : c = false) (b : B) : if c = true then A else B := by
  rw [h]
  exact b
theorem Wd.still {p l : Addr} {G H H' : Hp} (W : Wd p l G H) (s : Same H H') : Ext p l G H G H' := by
  refine ⟨⟨W.same.trans s, W.gp, W.gl, ?_, ?_⟩, Same.refl G, fun b o _ _ q => s b o q, fun _ _ _ g => g⟩
  · obtain ⟨m, t, m0, m1, e⟩ := W.dk
    exact ⟨m, t, m0, m1, s _ _ e⟩
  · obtain ⟨ns, z, e⟩ := W.ls
    exact ⟨ns, z, s _ _ e⟩
theorem Okd.fit {k n : Nat} {d : PyData} (h : Okd k n d) (hn : n ≤ sizeLine) : Fit d := ⟨h.ok, Nat.le_trans h.sz hn⟩
theorem pe_kwd {X : Cx} {k j : Nat} {x : Str} {ps ks : List Str} {sp : Sp} {p pos : Pos} {kws : List Keyword} {tk : TA} (F : ∃ f fd, FnG X.prog X.w X.K X.mg X.base CX0 k f fd ps sp ∧ X.mg x = some (.ref f) ∧ PySem.W.keepIn X.K (.ref f) = true ∧ KwBinds X.K fd ps ks (fun us => us)) (hgd : X.A.guards = some []) (hr : Room j X.A) (hkw : PK X kws tk) (hj : k ≤ j := by first | exact Nat.le_refl _ | decide)
    (hg : Gl X x := by rfl) (hall : (backToKw pos (keywordEach kws X.env)).all (·.1.isSome) = true := by rfl) (hks : (backToKw pos (keywordEach kws X.env)).filterMap (·.1) = ks := by rfl) (hdb : (x == ("__debug__" : Str)) = false := by decide)
    (hpl : ((backTo pos (starEach [] X.env)).any (·.1) || (backToKw pos (keywordEach kws X.env)).any (·.1.isNone)) = false := by rfl) :
    PE X (.Call (.Name x p) [] kws pos) (tKw sp (fun us => us) ps.length E0 tk) := by
  obtain ⟨f, fd, a, b, c, d⟩ := F
  exact pe_kw a hgd (hr.mono hj) hg b c d pass0 hkw (fun r => r) hall hks hdb hpl
theorem cut_ints (ns : List Int) (lo hi : Option Int) : ∃ ms : List Int, cutV (ns.map V.int) lo hi = ms.map V.int ∧ ms.length ≤ ns.length := by
  refine ⟨(ns.drop (HT.sIx (ns.map V.int).length 0 lo)).take (HT.sIx (ns.map V.int).length (ns.map V.int).length hi - HT.sIx (ns.map V.int).length 0 lo), ?_, ?_⟩
  · unfold cutV
    rw [List.map_take, List.map_drop]
  · rw [List.length_take, List.length_drop]
    omega
theorem deck_merge (l : Addr) (m t : Int) : mergeK [] (deckD l m t) = deckD l m t := by
  have h1 : decide (("great" : Str) = "mixed") = false := by decide +kernel
  have h2 : decide (("great" : Str) = "turns") = false := by decide +kernel
  have h3 : decide (("mixed" : Str) = "turns") = false := by decide +kernel
  have n1 := of_decide_eq_false h1
  have n2 := of_decide_eq_false h2
  have n3 := of_decide_eq_false h3
  simp [mergeK, deckD, putK, n1, n2, n3]
def spDeck (K : PySem.W.Frag) : Sp := fun vs H Q _ => ∃ (a : Addr) (ns : List Int), vs = [.ref a] ∧ SqL K H a (ns.map V.int) ∧ ns.length ≤ 63 ∧ ∀ p l H', Wd p l H H' → Q (.ref p) H'
theorem D_deck (T : Txt K mg) : Df P w K mg base 1 "_law_deck" ["script"] (spDeck K) := by
  obtain ⟨f, fd, S⟩ := T.d_l_deck
  refine Df.mk' (k := 0) S sc_l_deck (fun vs H Q E h => ?_) (fun cdv A outer s H vs Q E hgd hr h => ?_)
  · obtain ⟨a, ns, rfl, _⟩ := h
    rfl
  · obtain ⟨a, ns, rfl, hS, hz, k⟩ := h
    have hu := hu_of hr
    refine ⟨_, (pss_cons (ps_set (i := 1) sc_l_deck.nd rfl (.inl rfl) (pe_disp (pps_cons pe_str (pe_lst pa_nil) (pps_cons pe_str (pe_op op_add pe_int (pe_callB call_len_seq (by rfl) T.b_len (by decide +kernel) (pa_cons (pe_slice sl_list (pv 0) po_none (po_some pe_int)) pa_nil))) (pps_cons pe_str pe_int pps_nil))) (by rfl) (by rfl) (fun z => by cases z) (by decide)))
      (pss_cons (ps_for PassesOwn.never rfl (pi_list (pe_slice sl_list (pv 0) po_none (po_some pe_int))) (pg_name (i := 2) sc_l_deck.nd rfl (.inl rfl))
      (pss_cons (ps_set (i := 3) sc_l_deck.nd rfl (.inl rfl) (pe_op op_add (pe_op op_mul pe_int (pe_callB call_abs (by rfl) T.b_abs (by decide +kernel) (pa_cons (pv 2) pa_nil))) (pe_callTy call_int1 (by rfl) T.b_int (by decide +kernel) (pa_cons (pe_cmpR op_lt (pv 2) pe_int (nomark _)) pa_nil))))
      (pss_cons (ps_if (pt_cmpR op_ge (pv 3) (pe_op op_pow pe_int pe_int) (nomark _)) (pss_one (ps_expr (pe_bm PySem.F.plainAttrs_list PySem.F.slot_list_append PySem.F.type_list_append mt_append (pe_dget hu (pv 1) pe_str (fun _ _ => rfl)) (pa_cons (pv 3) pa_nil)))) pss_nil)
      (pss_one (ps_dput hu (pv 1) pe_str (pe_op op_mod (pe_callTy call_int1 (by rfl) T.b_int (by decide +kernel) (pa_cons (pe_op op_add (pe_op op_add (pe_op op_mul (pe_dget hu (pv 1) pe_str (fun _ _ => rfl)) pe_int) (pv 3)) pe_int) pa_nil)) pe_int) rfl)))))
      (pss_one (ps_ret (pv 1))))), ?_⟩
    refine fun p hp => ⟨Nat.zero_le _, fun l hl => ?_⟩
    have npl : p ≠ l := fun z => by
      rw [z, upd_same] at hl
      cases hl
    have hl0 : H l = none := by
      rw [upd_ne npl.symm] at hl
      exact hl
    have s0 : Same H (upd (upd H p (.dK [])) l (.lst [])) := (sameAdd hp).trans (sameAdd hl)
    refine ⟨_, rfl, _, rfl, a, _, rfl, s0.seq hS, fun q hq => ?_⟩
    obtain ⟨ms, e1, e2⟩ := cut_ints ns none (some 63)
    rw [e1]
    have nqp : q ≠ p := fun z => by
      rw [z, upd_ne npl, upd_same] at hq
      cases hq
    have nql : q ≠ l := fun z => by
      rw [z, upd_same] at hq
      cases hq
    have hq0 : H q = none := by
      rw [upd_ne nql, upd_ne nqp] at hq
      exact hq
    refine ⟨q, _, rfl, .inl (SqL.of upd_same), _, _, rfl, rfl, by rw [upd_ne nqp.symm, upd_ne npl, upd_same], deckD l (1283 + ((ms.map V.int).length : Int)) 0, rfl, by show 3 ≤ 15; decide, ?_⟩
    rw [deck_merge, List.length_map]
    generalize hH1 : upd (upd (upd (upd H p (.dK [])) l (.lst [])) q (.lst (ms.map V.int))) p (.dK (deckD l (1283 + (ms.length : Int)) 0)) = H1
    have S1 : Same H H1 := by
      rw [← hH1]
      exact sameOut (sameOut (sameOut (sameOut (Same.refl H) hp) hl0) hq0) hp
    have W1 : Wd p l H H1 := ⟨S1, hp, hl0, ⟨1283 + (ms.length : Int), 0, by omega, by omega, by rw [← hH1, upd_same]⟩, ⟨[], by decide, by rw [← hH1, upd_ne npl.symm, upd_ne nql.symm, upd_same]; rfl⟩⟩
    have L1 : H1 l = some (.lst (([] : List Int).map V.int)) := by
      rw [← hH1, upd_ne npl.symm, upd_ne nql.symm, upd_same]
      rfl
    obtain ⟨ms2, e3, e4⟩ := cut_ints ns none (some 63)
    refine ⟨_, rfl, _, rfl, a, _, rfl, S1.seq hS, fun q2 hq2 => ?_⟩
    rw [e3]
    have n2p := W1.np hq2
    have n2l := W1.nl hq2
    have E1 := W1.tmp (o := .lst (ms2.map V.int)) hq2
    refine ⟨q2, rfl, ⟨_, SqL.of upd_same⟩, for_list (K := K) (a := q2) (xs := ms2.map V.int) (fun i σ H2 => ∃ c v, σ = [some (.ref a), some (.ref p), c, v] ∧ Wd p l H H2 ∧ (∃ gs : List Int, gs.length ≤ i ∧ H2 l = some (.lst (gs.map V.int))) ∧ H2 q2 = some (.lst (ms2.map V.int)))
      ⟨none, none, rfl, E1.w, ⟨[], Nat.le_refl _, by rw [upd_ne n2l.symm]; exact L1⟩, upd_same⟩ (fun i σ H2 _ ⟨_, _, _, _, _, h⟩ => SqL.of h) ?_ ?_⟩
    · rintro i x σ H2 hx ⟨c, v, rfl, W2, ⟨gs, g1, g2⟩, h2⟩
      have hi := (List.getElem?_eq_some_iff.mp hx).1
      rw [List.length_map] at hi
      obtain ⟨u, rfl⟩ : ∃ u, x = V.int u := by
        obtain ⟨u, _, e⟩ := List.mem_map.mp (List.mem_of_getElem? hx)
        exact ⟨u, e.symm⟩
      refine ⟨_, rfl, u, rfl, _, _, rfl, rfl, .inl ⟨by decide, by decide⟩, _, rfl, _, _, rfl, rfl, .inr ⟨_, rfl, _, _, rfl, rfl, ?_⟩⟩
      dsimp only
      generalize (2 * (if u < 0 then -u else u) + (if decide (u < 0) = true then 1 else 0) : Int) = wh
      refine' behindI (I := fun H3 => Wd p l H H3 ∧ (∃ gs : List Int, gs.length ≤ i + 1 ∧ H3 l = some (.lst (gs.map V.int))) ∧ H3 q2 = some (.lst (ms2.map V.int))) (fun fin => ?_) ?_
      rotate_left 1
      · refine ⟨_, rfl, _, _, rfl, rfl, ⟨by decide, by decide, by decide⟩, _, _, rfl, rfl, _, rfl, ite2 (fun _ => ?_) (fun _ => ?_)⟩
        · obtain ⟨m, t, m0, m1, hd⟩ := W2.dk
          refine ⟨_, rfl, p, _, rfl, dget_great hd, .inl ⟨rfl, _, SqL.of g2⟩, _, rfl, l, _, _, rfl, rfl, g2, by rw [List.length_map]; exact small1000 (by omega), ?_⟩
          have E3 := W2.gset (gs ++ [wh]) (by rw [List.length_append, List.length_singleton]; omega)
          rw [show gs.map V.int ++ [V.int wh] = (gs ++ [wh]).map V.int by rw [List.map_append]; rfl]
          have I3 : Wd p l H (upd H2 l (.lst ((gs ++ [wh]).map V.int))) ∧ (∃ gs2 : List Int, gs2.length ≤ i + 1 ∧ (upd H2 l (.lst ((gs ++ [wh]).map V.int))) l = some (.lst (gs2.map V.int))) ∧ (upd H2 l (.lst ((gs ++ [wh]).map V.int))) q2 = some (.lst (ms2.map V.int)) :=
            ⟨E3.w, ⟨gs ++ [wh], by rw [List.length_append, List.length_singleton]; omega, upd_same⟩, by rw [upd_ne n2l]; exact h2⟩
          generalize upd H2 l (.lst ((gs ++ [wh]).map V.int)) = H3 at I3 ⊢
          exact fin H3 I3
        · exact fin H2 ⟨W2, ⟨gs, by omega, g2⟩, h2⟩
      · rintro H3 ⟨W3, ⟨g3, z3, l3⟩, h3⟩
        obtain ⟨m, t, m0, m1, hd⟩ := W3.dk
        refine ⟨_, rfl, p, _, rfl, dget_mixed hd, _, _, rfl, rfl, .inr ⟨by decide, by decide⟩, _, rfl, _, _, rfl, rfl, _, _, rfl, rfl, .inl ⟨_, rfl, _, _, rfl, rfl, by show (0 : Int) < 4294967291; decide, _, rfl, p, _, rfl, dput_mixed hd, ?_⟩⟩
        have E4 := W3.dset (m := (m * 75161 + wh + 11) % 4294967291) (t := t) (Int.emod_nonneg _ (by decide)) (Int.emod_lt_of_pos _ (by decide))
        exact ⟨_, _, rfl, E4.w, ⟨g3, z3, by rw [upd_ne npl.symm]; exact l3⟩, by rw [upd_ne n2p]; exact h3⟩
    · rintro σ H2 ⟨c, v, rfl, W2, _, _⟩
      exact ⟨_, rfl, k p l H2 W2⟩
def LsP (ψ : PyData → Prop) (d : PyData) : Prop := ∃ ds, d = .list ds ∧ 0 < ds.length ∧ ds.length < 1000000 ∧ ∀ x ∈ ds, ψ x
def spPick : Sp := fun vs H Q _ => ∃ (p l : Addr) (G : Hp) (a : Addr) (xs : List V), vs = [.ref p, .ref a] ∧ Wd p l G H ∧ H a = some (.lst xs) ∧ a ≠ p ∧ a ≠ l ∧ 0 < xs.length ∧ xs.length < 1000000 ∧ ∀ x H', x ∈ xs → Ext p l G H G H' → Q x H'
def spDrawn (K : PySem.W.Frag) (ψ φ : PyData → Prop) : Sp := fun vs H Q _ => ∃ (p l : Addr) (G : Hp) (v : V) (d : PyData), vs = [.ref p, v] ∧ Wd p l G H ∧ Da K G v d ∧ ψ d ∧ ∀ u e G2 H2, Ext p l G H G2 H2 → Da K G2 u e → φ e → Q u H2
theorem atI_nat2 {xs : List V} {i : Int} (h0 : 0 ≤ i) (h1 : i < xs.length) : ∃ x, atI xs i = some x ∧ x ∈ xs := by
  have hi : i.toNat < xs.length := by omega
  refine ⟨xs[i.toNat], ?_, List.getElem_mem hi⟩
  unfold atI ixN
  rw [if_pos h0, if_pos h1]
  show xs[i.toNat]? = _
  rw [List.getElem?_eq_getElem hi]
theorem D_pick (T : Txt K mg) : Df P w K mg base 2 "_law_pick" ["deck", "items"] spPick := by
  have D_l_draw := D_draw (P := P) (w := w) (base := base) T
  obtain ⟨f, fd, S⟩ := T.d_l_pick
  refine Df.mk' (k := 1) S sc_l_pick (fun vs H Q E h => ?_) (fun cdv A outer s H vs Q E hgd hr h => ?_)
  · obtain ⟨p, l, G, a, xs, rfl, _⟩ := h
    rfl
  · obtain ⟨p, l, G, a, xs, rfl, W, ha, n1, n2, h0, h1, k⟩ := h
    refine ⟨_, (pss_one (ps_ret (pe_ix ix_list (pv 1) (pe_d D_l_draw hgd hr (pa_cons (pv 0) (pa_cons (pe_callB call_len_seq (by rfl) T.b_len (by decide +kernel) (pa_cons (pv 1) pa_nil)) pa_nil))) (fun _ _ => rfl)))), ?_⟩
    refine ⟨_, rfl, _, rfl, _, rfl, a, xs, rfl, .inl (SqL.of ha), p, l, G, _, rfl, by omega, by omega, W, fun r H1 r0 r1 e => ?_⟩
    obtain ⟨x, hx, mx⟩ := atI_nat2 r0 r1
    exact ⟨a, xs, r, x, rfl, rfl, SqL.of (e.keep _ _ n1 n2 ha), hx, k x H1 mx e⟩
theorem td_pick {p l : Addr} {σ : St} {G : Hp} {ta : TE} {ψ : PyData → Prop} {i : Nat} (h : TD K p l σ G ta (LsP ψ)) (hd : σ[i]? = some (some (.ref p))) : TD K p l σ G (tCall spPick [] E0 (tCons (tVar i) (tCons ta tNil))) ψ := fun G1 H Q W s kk =>
  ⟨_, hd, h G1 H _ W s fun v d G2 H2 e da f => by
    obtain ⟨ds, rfl, z0, z1, o⟩ := f
    cases da with
    | @lst a xs _ t1 a1 =>
      have hl := a1.length
      refine ⟨p, l, G2, a, xs, rfl, e.w, e.w.same _ _ t1, fun q => ?_, fun q => ?_, by omega, by omega, fun x H3 mx e3 => ?_⟩
      · rw [q, e.w.gp] at t1
        cases t1
      · rw [q, e.w.gl] at t1
        cases t1
      · obtain ⟨d, md, dd⟩ := a1.mem mx
        exact kk x d G2 H3 (e.trans W e3) dd (o d md)⟩
theorem Ls.lsP {k n m : Nat} {d : PyData} (h : Ls k n m d) (hm : m < 1000000 := by decide) : LsP (Okd k n) d := by
  obtain ⟨ds, rfl, h0, h1, h2⟩ := h
  exact ⟨ds, rfl, h0, Nat.lt_of_le_of_lt h1 hm, h2⟩
theorem td_lstP {p l : Addr} {σ : St} {G : Hp} {tr : TA} {Φ : List PyData → Prop} (h : TDs K p l σ G tr Φ) (hz : ∀ ds, Φ ds → ds.length ≤ sizeLine) : TD K p l σ G (tLst tr) (fun d => ∃ ds, d = .list ds ∧ Φ ds) := fun G1 H Q W s k =>
  h G1 H _ W s fun vs ds G2 H2 e da f => ⟨by rw [da.length]; exact hz ds f, fun a ha => k _ _ _ _ (e.trans W (e.w.put ha)) (.lst upd_same (da.mono (e.w.put (o := .lst vs) ha).sub)) ⟨ds, rfl, f⟩⟩
theorem tw_draw {i : Nat} {c : Int} (hd : σ[i]? = some (some (.ref p))) (h0 : 1 ≤ c) (h1 : c < 1000) : TW p l σ G (iRng1 (tCons (tCall spDraw [] E0 (tCons (tVar i) (tCons (tC (.int c)) tNil))) tNil)) (fun N => (N : Int) < c) := fun G1 H R W s k =>
  ⟨_, hd, p, l, G1, c, rfl, by omega, by omega, W, fun r H1 r0 r1 e => ⟨r, rfl, by omega, by omega, k _ _ _ (by omega) e⟩⟩
theorem words_okd {ws : List Str} (h : (ws.all fun z => okB (.str z) && decide (siz (.str z) ≤ 100)) = true) {z : Str} (hz : z ∈ ws) : Okd 0 100 (.str z) := by
  rw [List.all_eq_true] at h
  have h := h z hz
  rw [Bool.and_eq_true] at h
  exact ⟨h.1, Nat.zero_le _, of_decide_eq_true h.2⟩
theorem td_mono {t : TE} {k n k2 n2 : Nat} (h : TD K p l σ G t (Okd k n)) (hk : k ≤ k2 := by decide) (hn : n ≤ n2 := by decide) : TD K p l σ G t (Okd k2 n2) := h.imp fun d f => f.mono hk hn
theorem td_drawnE {i : Nat} {ta : TE} {ψ φ : PyData → Prop} (hd : σ[i]? = some (some (.ref p))) (h : TD K p l σ G ta ψ) : TD K p l σ G (tCall (spDrawn K ψ φ) [] E0 (tCons (tVar i) (tCons ta tNil))) φ := fun G1 H Q W s kk =>
  ⟨_, hd, h G1 H _ W s fun v d G2 H2 e da f => ⟨p, l, G2, v, d, rfl, e.w, da, f, fun u z G3 H3 e3 dz fz => kk u z G3 H3 (e.trans W e3) dz fz⟩⟩
theorem td_drawn {p l : Addr} {σ : St} {G : Hp} {i j : Nat} {v : V} {d : PyData} {ψ φ : PyData → Prop} (hd : σ[i]? = some (some (.ref p))) (hv : σ[j]? = some (some v)) (da : Da K G v d) (hψ : ψ d) :
    TD K p l σ G (tCall (spDrawn K ψ φ) [] E0 (tCons (tVar i) (tCons (tVar j) tNil))) φ := fun G1 H Q W s kk =>
  ⟨_, hd, _, hv, p, l, G1, v, d, rfl, W, da.mono s, hψ, kk⟩
theorem TD.app {t : TE} {φ : PyData → Prop} (h : TD K p l σ G t φ) {H : Hp} {Q : VK} (W : Wd p l G H) (k : ∀ v d G2 H2, Ext p l G H G2 H2 → Da K G2 v d → φ d → Q v H2) : t σ H Q := h G H Q W (Same.refl G) k
theorem TDs.asgL {H : Hp} {D : Ends} {i : Nat} {tr : TA} {Φ : List PyData → Prop} (h : TDs K p l σ G tr Φ) (W : Wd p l G H) (hz : ∀ ds, Φ ds → ds.length ≤ sizeLine)
    (k : ∀ vs ds G2 H2 r, Ext p l G H G2 H2 → DaAll K G2 vs ds → Φ ds → H2 r = none → D.nx (σ.set i (some (.ref r))) (upd H2 r (.lst vs))) : tAsg (tLst tr) (gName i) D σ H :=
  h G H _ W (Same.refl G) fun vs ds G2 H2 e da f => ⟨by rw [da.length]; exact hz ds f, fun r hr => k vs ds G2 H2 r e da f hr⟩
theorem td_repG {ta : TE} {c : Int} {k n m N : Nat} (ha : TD K p l σ G ta (fun d => ∃ ds, d = .tuple ds ∧ 0 < ds.length ∧ ds.length ≤ m ∧ ∀ x ∈ ds, Okd k n x)) (hm : m ≤ 1000 := by decide) (h2 : 2 ≤ c := by decide) (h3 : c ≤ 1000 := by decide) (hN : c.toNat * m ≤ N := by decide) :
    TD K p l σ G (tOp (rRepT K) ta (tC (.int c))) (Tp k n N) := fun G1 H Q W s kk =>
  ha G1 H _ W s fun v d G2 H2 e da f => by
    obtain ⟨ds, rfl, z0, z1, o1⟩ := f
    obtain ⟨a, xs, rfl, t1, a1⟩ := da.tupI
    have hl := a1.length
    refine ⟨a, c, xs, rfl, rfl, sameT e.w.same t1, fun z => ?_, h2, h3, by omega, fun q hq => ?_⟩
    · rw [z] at hl
      have : ds.length = 0 := hl.symm
      omega
    · have e4 := e.w.put (o := .tup (List.replicate c.toNat xs).flatten) hq
      refine kk _ _ _ _ (e.trans W e4) (.tup (SqT.of upd_same) ((DaAll.flat a1 c.toNat).mono e4.sub)) ⟨_, rfl, ?_, fun z mz => ?_⟩
      · rw [PyProof.Rows.lm_len_rep_flat]
        exact Nat.le_trans (Nat.mul_le_mul_left _ z1) hN
      · rw [List.mem_flatten] at mz
        obtain ⟨r, hr, mz⟩ := mz
        rw [(List.mem_replicate.mp hr).2] at mz
        exact o1 z mz
theorem td_oneE {ta : TE} {k n : Nat} (h : TD K p l σ G ta (Okd k n)) : TD K p l σ G (tTup (tCons ta tNil)) (fun e => ∃ x, e = .tuple [x] ∧ Okd k n x) :=
  (td_tupP (tds_consP h tds_nilP) (by
    rintro ds ⟨d, r, rfl, _, rfl⟩
    show 1 ≤ sizeLine
    decide)).imp (by
    rintro e ⟨ds, rfl, d, r, rfl, h, rfl⟩
    exact ⟨d, rfl, h⟩)
theorem five {x : V} (h : x ∈ [V.int 1, .int 1, .int 2, .int 3, .int 5]) : ∃ m : Int, x = .int m ∧ 1 ≤ m ∧ m ≤ 5 := by
  rcases List.mem_cons.mp h with rfl | h
  · exact ⟨_, rfl, by decide, by decide⟩
  rcases List.mem_cons.mp h with rfl | h
  · exact ⟨_, rfl, by decide, by decide⟩
  rcases List.mem_cons.mp h with rfl | h
  · exact ⟨_, rfl, by decide, by decide⟩
  rcases List.mem_cons.mp h with rfl | h
  · exact ⟨_, rfl, by decide, by decide⟩
  rw [List.mem_singleton.mp h]
  exact ⟨_, rfl, by decide, by decide⟩
theorem da_strs {K : PySem.W.Frag} {G : Hp} : ∀ ws : List Str, DaAll K G (ws.map V.str) (ws.map PyData.str)
  | [] => .nil
  | n :: ns => .cons (.str n) (da_strs ns)
theorem line16 : 16000000 ≤ sizeLine := by decide
end
end L2.Hx

/-! Sayings over a few names; which names stand in one. -/
namespace L2.Hx
open PySem PySem.Spec PyProof.Rows
def w_heads : List Str := ["is", "isnt", "cell", "list"]
def w_pool : List Str := ["x", "y", "z", "result", "nil", "abcdefgh", "b", "aa", "nilx", "cellar", "s"]
def RowZ (d : PyData) : Prop := ∃ a b c, d = .tuple [.str a, .str b, .str c] ∧ a ∈ w_heads ∧ b ∈ w_pool ∧ c ∈ w_pool
def ClauseZ (d : PyData) : Prop := ∃ ls ps, d = .tuple [.tuple ls, .tuple ps] ∧ ls.length ≤ 30 ∧ ps.length ≤ 30 ∧ (∀ x ∈ ls, RowZ x) ∧ ∀ x ∈ ps, RowZ x
def SayZ (d : PyData) : Prop := ∃ cs, d = .tuple cs ∧ cs.length ≤ 64 ∧ ∀ x ∈ cs, ClauseZ x
def rowT : PyData → List Str
  | .tuple [_, .str b, .str c] => [b, c]
  | _ => []
def rowsC : PyData → List PyData
  | .tuple [.tuple ls, .tuple ps] => ls ++ ps
  | _ => []
def rowsS (cs : List PyData) : List PyData := cs.flatMap rowsC
def sayT : PyData → List Str
  | .tuple cs => (rowsS cs).flatMap rowT
  | _ => []
/-- xs are just the names among ts, ascending, each once -/
structure IsN (ts xs : List Str) : Prop where
  up : sortedS xs = true
  once : xs.Nodup
  mem : ∀ x, x ∈ xs ↔ x ∈ ts ∧ x ≠ ("nil" : Str)
theorem ClauseZ.rows {d : PyData} (h : ClauseZ d) : (rowsC d).length ≤ 60 ∧ ∀ x ∈ rowsC d, RowZ x := by
  obtain ⟨ls, ps, rfl, h1, h2, h3, h4⟩ := h
  refine ⟨?_, fun x m => ?_⟩
  · show (ls ++ ps).length ≤ 60
    rw [List.length_append]
    omega
  · rcases List.mem_append.mp (show x ∈ ls ++ ps from m) with m | m
    · exact h3 x m
    · exact h4 x m
/-- a loop over a tuple that stays as it is -/
theorem two_tup {K : PySem.W.Frag} {a : Addr} {xs : List V} {Qd : Hp → Prop} {H0 : Hp} (Pv : Nat → Hp → Prop) (B : V → Hp → (Hp → Prop) → Prop) (h0 : Pv 0 H0) (hl : ∀ i H, Pv i H → SqT K H a xs) (hs : ∀ i x H, xs[i]? = some x → Pv i H → B x H (Pv (i + 1))) (hd : ∀ H, Pv xs.length H → Qd H) :
    ∃ W : Nat → Nat → Hp → Prop, (∃ m, W 0 m H0) ∧ ∀ i m H, W i m H → ((Itt K a).stop i H ∧ Qd H) ∨ ((Itt K a).go i H ∧ ∃ Nx : Hp → Prop, (∀ H', Nx H' → ∃ m', m' < m ∧ W (i + 1) m' H') ∧ ∀ x H', (Itt K a).yld i H x H' → B x H' Nx) := by
  refine ⟨fun i m H => m = xs.length - i ∧ i ≤ xs.length ∧ Pv i H, ⟨xs.length, by simp, Nat.zero_le _, h0⟩, ?_⟩
  rintro i m H ⟨rfl, hi, q⟩
  by_cases lt : i < xs.length
  · refine .inr ⟨⟨xs, xs[i], hl i H q, by simp [lt]⟩, Pv (i + 1), fun H2 q2 => ⟨xs.length - (i + 1), by omega, rfl, lt, q2⟩, fun x H2 y => ?_⟩
    obtain ⟨e, y⟩ := y
    subst e
    exact hs i x _ (y xs (hl i _ q)) q
  · have e : i = xs.length := by omega
    subst e
    exact .inl ⟨⟨xs, hl _ H q, Nat.le_refl _⟩, hd H q⟩
/-- .. over a list -/
theorem two_lst {K : PySem.W.Frag} {a : Addr} {xs : List V} {Qd : Hp → Prop} {H0 : Hp} (Pv : Nat → Hp → Prop) (B : V → Hp → (Hp → Prop) → Prop) (h0 : Pv 0 H0) (hl : ∀ i H, Pv i H → SqL K H a xs) (hs : ∀ i x H, xs[i]? = some x → Pv i H → B x H (Pv (i + 1))) (hd : ∀ H, Pv xs.length H → Qd H) :
    ∃ W : Nat → Nat → Hp → Prop, (∃ m, W 0 m H0) ∧ ∀ i m H, W i m H → ((Itl K a).stop i H ∧ Qd H) ∨ ((Itl K a).go i H ∧ ∃ Nx : Hp → Prop, (∀ H', Nx H' → ∃ m', m' < m ∧ W (i + 1) m' H') ∧ ∀ x H', (Itl K a).yld i H x H' → B x H' Nx) := by
  refine ⟨fun i m H => m = xs.length - i ∧ i ≤ xs.length ∧ Pv i H, ⟨xs.length, by simp, Nat.zero_le _, h0⟩, ?_⟩
  rintro i m H ⟨rfl, hi, q⟩
  by_cases lt : i < xs.length
  · refine .inr ⟨⟨xs, xs[i], hl i H q, by simp [lt]⟩, Pv (i + 1), fun H2 q2 => ⟨xs.length - (i + 1), by omega, rfl, lt, q2⟩, fun x H2 y => ?_⟩
    obtain ⟨e, y⟩ := y
    subst e
    exact hs i x _ (y xs (hl i _ q)) q
  · have e : i = xs.length := by omega
    subst e
    exact .inl ⟨⟨xs, hl _ H q, Nat.le_refl _⟩, hd H q⟩
theorem if_yes {c : Bool} {A B : Prop} (h : c = true) (a : A) : if c = true then A else B := by
  rw [h]
  exact a
theorem yes_if {σ : St} {H : Hp} {A B : Hp → Prop} (h : A H) : tYes σ H (fun b H3 => if b = true then A H3 else B H3) := h
/-- another object does not touch a tuple -/
theorem sqT_but {K : PySem.W.Frag} {H : Hp} {a D : Addr} {o : HO} {xs : List V} (h : SqT K H a xs) (nt : ∀ ys, ¬ Rd H D (.tup ys)) : SqT K (upd H D o) a xs := by
  rcases h with h | h
  · have ne : a ≠ D := fun e => nt xs (e ▸ h)
    refine .inl ?_
    rcases h with h | ⟨ob, h⟩
    · exact .inl (by rw [upd_ne ne]; exact h)
    · exact .inr ⟨ob, by rw [upd_ne ne]; exact h⟩
  · exact .inr h
theorem nt_lst {H : Hp} {D : Addr} {xs : List V} (h : H D = some (.lst xs)) (ys : List V) : ¬ Rd H D (.tup ys) := fun q => by
  rcases q with q | ⟨ob, q⟩
  · rw [h] at q
    cases q
  · rw [h] at q
    cases q
theorem nt_set {w : World} {H : Hp} {D : Addr} {S : Str → Bool} {n : Nat} (h : H D = some (SetZO w D S n)) (ys : List V) : ¬ Rd H D (.tup ys) := fun q => by
  rcases q with q | ⟨ob, q⟩
  · rw [h] at q
    cases q
  · rw [h] at q
    cases q
theorem cat_two {K : PySem.W.Frag} {σ : St} {H : Hp} {R : It → Hp → Prop} {i j : Nat} {b1 b2 : Addr} {xs ys : List V} (h1 : σ[i]? = some (some (.ref b1))) (h2 : σ[j]? = some (some (.ref b2))) (t1 : SqT K H b1 xs) (t2 : SqT K H b2 ys) (hz : xs.length + ys.length ≤ sizeLine)
    (k : ∀ t H3, Same H H3 → SqT K H3 t (xs ++ ys) → R (Itt K t) H3) : iTup K (tOp (rCatA K) (tVar i) (tVar j)) σ H R := by
  refine ⟨_, h1, _, h2, b1, b2, xs, ys, rfl, rfl, t1, t2, hz, fun e => ?_, fun _ e => ?_, fun _ _ p hp => ?_⟩
  · subst e
    exact ⟨b2, rfl, ⟨_, t2⟩, k b2 H (Same.refl H) t2⟩
  · subst e
    exact ⟨b1, rfl, ⟨_, t1⟩, k b1 H (Same.refl H) (by rw [List.append_nil]; exact t1)⟩
  · exact ⟨p, rfl, ⟨_, SqT.of upd_same⟩, k p _ (sameAdd hp) (SqT.of upd_same)⟩
theorem sl_two {K : PySem.W.Frag} {σ : St} {H : Hp} {R : It → Hp → Prop} {i : Nat} {b : Addr} {x y z : V} (h1 : σ[i]? = some (some (.ref b))) (t1 : SqT K H b [x, y, z]) (k : ∀ t H3, Same H H3 → SqT K H3 t [y, z] → R (Itt K t) H3) :
    iTup K (tSl (rSlA K) (tVar i) (tPart (tC (.int 1))) tNoPart) σ H R :=
  ⟨_, h1, 1, rfl, b, [x, y, z], rfl, t1, fun e => absurd e.1 (show ¬ (HT.sIx 3 0 (some 1) = 0) by decide), fun _ p hp => ⟨p, rfl, ⟨_, SqT.of upd_same⟩, k p _ (sameAdd hp) (SqT.of upd_same)⟩⟩
theorem rowsS_len : ∀ {cs : List PyData}, (∀ x ∈ cs, ClauseZ x) → (rowsS cs).length ≤ 60 * cs.length
  | [], _ => Nat.zero_le _
  | c :: cs, h => by
    have h1 := (h c List.mem_cons_self).rows.1
    have h2 := rowsS_len (cs := cs) fun x m => h x (List.mem_cons_of_mem _ m)
    show (rowsC c ++ rowsS cs).length ≤ _
    rw [List.length_append, List.length_cons]
    omega
theorem rowsS_rows {cs : List PyData} (h : ∀ x ∈ cs, ClauseZ x) : ∀ x ∈ rowsS cs, RowZ x := fun x m => by
  obtain ⟨c, mc, mx⟩ := List.mem_flatMap.mp m
  exact (h c mc).rows.2 x mx
theorem rowsS_next {cs : List PyData} {i : Nat} {d : PyData} (h : cs[i]? = some d) : rowsS (cs.take (i + 1)) = rowsS (cs.take i) ++ rowsC d := by
  unfold rowsS
  rw [List.take_add_one, h, List.flatMap_append]
  show _ ++ (rowsC d ++ []) = _
  rw [List.append_nil]
theorem RowZ.terms {d : PyData} (h : RowZ d) : ∀ x ∈ rowT d, x ∈ w_pool := by
  obtain ⟨a, b, c, rfl, _, hb, hc⟩ := h
  intro x m
  rcases List.mem_cons.mp (show x ∈ [b, c] from m) with rfl | m
  · exact hb
  · rw [List.mem_singleton.mp m]
    exact hc
/-- a further name among those seen -/
theorem seen_next {S : Str → Bool} {n : Nat} {zs ts : List Str} {z : Str} (hS : ∀ x, S x = true ↔ x ∈ zs) (nd : zs.Nodup) (ln : zs.length = n) (mem : ∀ x, x ∈ zs ↔ x ∈ ts ∧ x ≠ ("nil" : Str)) (hz : z ≠ ("nil" : Str)) :
    ∃ zs' : List Str, (∀ x, (S x || decide (x = z)) = true ↔ x ∈ zs') ∧ zs'.Nodup ∧ zs'.length = (if S z = true then n else n + 1) ∧ ∀ x, x ∈ zs' ↔ x ∈ ts ++ [z] ∧ x ≠ ("nil" : Str) := by
  by_cases h : S z = true
  · refine ⟨zs, fun x => ?_, nd, by rw [if_pos h]; exact ln, fun x => ?_⟩
    · rw [Bool.or_eq_true, decide_eq_true_eq]
      exact ⟨fun q => q.elim (hS x).mp fun q => (hS x).mp (by rw [q]; exact h), fun q => .inl ((hS x).mpr q)⟩
    · rw [mem x, List.mem_append, List.mem_singleton]
      refine ⟨fun q => ⟨.inl q.1, q.2⟩, fun q => ⟨q.1.elim id fun e => ?_, q.2⟩⟩
      rw [e]
      exact ((mem z).mp ((hS z).mp h)).1
  · have nz : z ∉ zs := fun q => h ((hS z).mpr q)
    refine ⟨zs ++ [z], fun x => ?_, ?_, by rw [if_neg h, List.length_append, ln]; rfl, fun x => ?_⟩
    · rw [Bool.or_eq_true, decide_eq_true_eq, List.mem_append, List.mem_singleton, hS x]
    · refine (List.perm_append_singleton z zs).nodup_iff.mpr (List.nodup_cons.mpr ⟨nz, nd⟩)
    · rw [List.mem_append, List.mem_append, List.mem_singleton, mem x]
      exact ⟨fun q => q.elim (fun q => ⟨.inl q.1, q.2⟩) fun e => ⟨.inr e, by rw [e]; exact hz⟩, fun q => q.1.elim (fun e => .inl ⟨e, q.2⟩) .inr⟩
theorem few {zs ts : List Str} (nd : zs.Nodup) (mem : ∀ x, x ∈ zs ↔ x ∈ ts ∧ x ≠ ("nil" : Str)) (hp : ∀ x ∈ ts, x ∈ w_pool) : zs.length ≤ 11 :=
  PySem.length_le_of_nodup_of_subset zs w_pool nd fun x m => hp x ((mem x).mp m).1
def spNames (K : PySem.W.Frag) : Sp := fun vs H Q _ => ∃ v d, vs = [v] ∧ Da K H v d ∧ SayZ d ∧ ∀ u xs H', Same H H' → Da K H' u (.tuple (xs.map PyData.str)) → IsN (sayT d) xs → Q u H'
section
variable {P : Program} {w : World} {K : PySem.W.Frag} {mg : Str → Option Value} {base : Heap}
theorem DS_names_in (T : Txt K mg) : DfS P w K mg base 1 "names_in" s_names_in ["saying"] (spNames K) := by
  obtain ⟨f, fd, S⟩ := T.d_names_in
  refine DfS.mk' (k := 0) S sc_names_in (fun vs H Q E h => ?_) (fun cdv A outer s H vs Q E hgd hr h => ?_)
  · obtain ⟨v, d, rfl, _⟩ := h
    rfl
  · obtain ⟨v, d, rfl, hd, hφ, k⟩ := h
    obtain ⟨cs, rfl, lc, hc⟩ := hφ
    have line5 : (5000 : Nat) ≤ sizeLine := by decide
    obtain ⟨a, xs, rfl, aT, aA⟩ := hd.tupI
    refine ⟨_, (pss_cons (ps_setLc2 (X := (cxOf CX0 P w K mg base ["saying", "triples", "looks", "parts", "triple", "term"] "names_in" (defScope s_names_in) f cdv A outer s H E).nox) (i := 1) (g := gTup K 2 (gCons (gName 2) (gCons (gName 3) gNil))) (g1 := gName 4) (wi1 := iTup K (tOp (rCatA K) (tVar 2) (tVar 3))) (te := tVar 4) (own := [("looks", 2), ("parts", 3), ("triple", 4)]) (vs1 := [4]) (tt := tYes) (tt1 := tYes) rfl sc_names_in.nd rfl rfl (sw_true rfl rfl rfl (by decide +kernel)) (pi_tup (pv 0))
        (blkOk_by (own := [("looks", 2), ("parts", 3), ("triple", 4)]) (N := ["saying", "triples", "looks", "parts", "triple", "term"]) (sc := defScope s_names_in) (by decide +kernel)) (by decide)
        (fun _ _ _ _ _ => pg_tup rfl (pgs_cons (pg_name (i := 2) sc_names_in.nd rfl (.inl rfl)) (pgs_cons (pg_name (i := 3) sc_names_in.nd rfl (.inl rfl)) pgs_nil))) (fun _ _ _ _ _ => pts_nil)
        (fun _ _ _ _ _ => pi_tup (pe_op op_catA (pv 2) (pv 3))) (fun _ _ _ _ _ => pg_name (i := 4) sc_names_in.nd rfl (.inl rfl)) (fun _ _ _ _ _ => pts_nil) (fun _ _ _ _ _ => pv 4))
      (pss_one (ps_ret (pe_callTy call_tuple_of (by rfl) T.b_tuple (by decide +kernel) (pa_cons (pe_callB (cr_sortZ rfl) (by rfl) T.b_sorted (by decide +kernel) (pa_cons
        (pe_sz (X := (cxOf CX0 P w K mg base ["saying", "triples", "looks", "parts", "triple", "term"] "names_in" (defScope s_names_in) f cdv A outer s H E).nox) (g := gName 4) (g1 := gName 5) (wi1 := iTup K (tSl (rSlA K) (tVar 4) (tPart (tC (.int 1))) tNoPart)) (te := tVar 5) (own := [("triple", 4), ("term", 5)]) (vs1 := [5]) (tt := tYes) rfl sc_names_in.nd (pi_list (pv 1)) (blkOk_by (own := [("triple", 4), ("term", 5)]) (N := ["saying", "triples", "looks", "parts", "triple", "term"]) (sc := defScope s_names_in) (by decide +kernel)) (by decide)
          (fun _ _ _ _ _ => pg_name (i := 4) sc_names_in.nd rfl (.inl rfl)) (fun _ _ _ _ _ => pts_nil) (fun _ _ _ _ _ => pi_tup (pe_slice sl_tupA (pv 4) (po_some pe_int) po_none)) (fun _ _ _ _ _ => pg_name (i := 5) sc_names_in.nd rfl (.inl rfl))
          (fun _ _ _ _ _ => (pts_one (pt_cmpR op_ne (pv 5) pe_str (nomark _)))) (fun _ _ _ _ _ => pv 5)) pa_nil)) pa_nil))))), ?_⟩
    dsimp only [gName]
    refine ⟨_, rfl, a, rfl, ⟨xs, aT⟩, fun D hD => ?_⟩
    refine two_tup (xs := xs) (fun i H2 => ∃ acc, Same H H2 ∧ H2 D = some (.lst acc) ∧ DaAll K H acc (rowsS (cs.take i))) _ ⟨[], sameAdd hD, upd_same, .nil⟩ (fun i H2 ⟨acc, s1, _⟩ => sameT s1 aT) ?_ ?_
    · rintro i x H2 hx ⟨acc, s1, h2, a2⟩
      have hi : i < 64 := by
        have q := (List.getElem?_eq_some_iff.mp hx).1
        have q2 := aA.length
        omega
      obtain ⟨d, hd1, dx⟩ := aA.get hx
      obtain ⟨ls, ps, rfl, l1, l2, r1, r2⟩ := hc d (List.mem_of_getElem? hd1)
      obtain ⟨b, zs, rfl, bT, bA⟩ := dx.tupI
      cases bA with
      | cons hy bA =>
        cases bA with
        | cons hz bA =>
          cases bA
          rename_i y z
          obtain ⟨b1, xs1, rfl, t1, a1⟩ := hy.tupI
          obtain ⟨b2, xs2, rfl, t2, a3⟩ := hz.tupI
          have m1 := a1.length
          have m3 := a3.length
          refine ⟨b, _, rfl, sameT s1 bT, rfl, _, _, rfl, _, _, rfl, rfl, rfl, yes_if ?_⟩
          refine cat_two (i := 2) (j := 3) (b1 := b1) (b2 := b2) rfl rfl (sameT s1 t1) (sameT s1 t2) (by omega) (fun t H3 s3 tT => ?_)
          have aR := a1.append a3
          have bnd : (rowsS (cs.take i)).length ≤ 60 * 64 := Nat.le_trans (rowsS_len fun x m => hc x (List.mem_of_mem_take m)) (by rw [List.length_take]; omega)
          refine two_tup (xs := xs1 ++ xs2) (fun j H4 => ∃ acc, Same H H4 ∧ SqT K H4 t (xs1 ++ xs2) ∧ H4 D = some (.lst acc) ∧ DaAll K H acc (rowsS (cs.take i) ++ (ls ++ ps).take j)) _ ⟨acc, s1.trans s3, tT, s3 _ _ h2, by rw [List.take_zero, List.append_nil]; exact a2⟩ (fun j H4 ⟨_, _, q, _⟩ => q) ?_ ?_
          · rintro j x H4 hx ⟨acc, s4, t4, h4, a4⟩
            obtain ⟨dr, hdr, ddr⟩ := aR.get hx
            have la := a4.length
            refine ⟨rfl, yes_if ?_⟩
            refine ⟨_, rfl, acc, h4, ?_, acc ++ [x], sameOut s4 hD, sqT_but t4 (nt_lst h4), upd_same, ?_⟩
            · rw [la, List.length_append, List.length_take, List.length_append]
              omega
            · rw [List.take_add_one, hdr, ← List.append_assoc]
              exact a4.append (.cons ddr .nil)
          · rintro H4 ⟨acc, s4, t4, h4, a4⟩
            refine ⟨acc, s4, h4, ?_⟩
            rw [rowsS_next hd1]
            rw [aR.length, List.take_length] at a4
            exact a4
    · rintro H2 ⟨acc, s1, h2, a2⟩
      rw [aA.length, List.take_length] at a2
      have rz := rowsS_rows hc
      have pool : ∀ (l : List PyData), (∀ x ∈ l, x ∈ rowsS cs) → ∀ x ∈ l.flatMap rowT, x ∈ w_pool := fun l hl x m => by
        obtain ⟨r, mr, mx⟩ := List.mem_flatMap.mp m
        exact (rz r (hl r mr)).terms x mx
      dsimp only
      refine ⟨_, rfl, D, rfl, ⟨acc, SqL.of h2⟩, fun Z hZ => ?_⟩
      have nDZ : D ≠ Z := fun e => by
        rw [← e, h2] at hZ
        cases hZ
      refine two_lst (xs := acc) (fun i H3 => ∃ S n zs, Same H H3 ∧ H3 D = some (.lst acc) ∧ H3 Z = some (SetZO w Z S n) ∧ (∀ x, S x = true ↔ x ∈ zs) ∧ zs.Nodup ∧ zs.length = n ∧ ∀ x, x ∈ zs ↔ x ∈ ((rowsS cs).take i).flatMap rowT ∧ x ≠ ("nil" : Str)) _
        ⟨_, _, [], s1.trans (sameAdd hZ), by rw [upd_ne nDZ]; exact h2, upd_same, fun x => by simp, List.nodup_nil, rfl, fun x => by simp⟩ (fun i H3 ⟨_, _, _, _, q, _⟩ => SqL.of q) ?_ ?_
      · rintro i x H3 hx ⟨S, n, zs, s3, h3, hZ3, hS, nd, ln, mem⟩
        obtain ⟨d, hd1, dx⟩ := a2.get hx
        obtain ⟨ra, rb, rc, rfl, _, pb, pc⟩ := rz d (List.mem_of_getElem? hd1)
        obtain ⟨r, ws, rfl, rT, rA⟩ := dx.tupI
        cases rA with
        | cons q1 rA =>
          cases rA with
          | cons q2 rA =>
            cases rA with
            | cons q3 rA =>
              cases rA
              cases q2.strI
              cases q3.strI
              have freeZ : H Z = none := by
                cases q : H Z with
                | none => rfl
                | some o =>
                  rw [s1 _ _ q] at hZ
                  cases hZ
              refine ⟨rfl, yes_if ?_⟩
              refine sl_two (i := 4) (b := r) rfl (sameT s3 rT) (fun t H4 s4 tT => ?_)
              refine two_tup (xs := [.str rb, .str rc]) (fun j H5 => ∃ S n zs, Same H H5 ∧ SqT K H5 t [.str rb, .str rc] ∧ H5 D = some (.lst acc) ∧ H5 Z = some (SetZO w Z S n) ∧ (∀ x, S x = true ↔ x ∈ zs) ∧ zs.Nodup ∧ zs.length = n ∧ ∀ x, x ∈ zs ↔ x ∈ ((rowsS cs).take i).flatMap rowT ++ [rb, rc].take j ∧ x ≠ ("nil" : Str)) _
                ⟨S, n, zs, s3.trans s4, tT, s4 _ _ h3, s4 _ _ hZ3, hS, nd, ln, by rw [List.take_zero, List.append_nil]; exact mem⟩ (fun j H5 ⟨_, _, _, _, q, _⟩ => q) ?_ ?_
              · rintro j x H5 hx ⟨S, n, zs, s5, t5, h5, hZ5, hS, nd, ln, mem⟩
                obtain ⟨z, hz, rfl⟩ : ∃ z, [rb, rc][j]? = some z ∧ x = V.str z := by
                  have q : ([rb, rc].map V.str)[j]? = some x := hx
                  rw [List.getElem?_map] at q
                  cases e : [rb, rc][j]? with
                  | none =>
                    rw [e] at q
                    cases q
                  | some z =>
                    rw [e] at q
                    exact ⟨z, rfl, (Option.some.inj q).symm⟩
                refine ⟨rfl, _, rfl, rfl, _, rfl, ?_⟩
                have zp : z ∈ ((rowsS cs).take i).flatMap rowT ++ [rb, rc].take (j + 1) := List.mem_append_right _ (by rw [List.take_add_one, hz]; exact List.mem_append_right _ (List.mem_singleton.mpr rfl))
                have tk : [rb, rc].take (j + 1) = [rb, rc].take j ++ [z] := by
                  rw [List.take_add_one, hz]
                  rfl
                by_cases en : z = ("nil" : Str)
                · rw [decide_eq_true (show V.str z = V.str "nil" by rw [en])]
                  refine if_no rfl ⟨S, n, zs, s5, t5, h5, hZ5, hS, nd, ln, fun x => ?_⟩
                  rw [mem x, tk, ← List.append_assoc, List.mem_append (t := [z]), List.mem_singleton]
                  exact ⟨fun q => ⟨.inl q.1, q.2⟩, fun q => ⟨q.1.elim id fun e => absurd (e.trans en) q.2, q.2⟩⟩
                · rw [decide_eq_false (show ¬ V.str z = V.str "nil" from fun e => en (V.str.inj e))]
                  refine if_yes rfl ?_
                  obtain ⟨zs2, k1, k2, k3, k4⟩ := seen_next hS nd ln mem en
                  have room : n ≤ 11 := by
                    rw [← ln]
                    refine few nd mem fun x m => ?_
                    rcases List.mem_append.mp m with m | m
                    · exact pool _ (fun y my => List.mem_of_mem_take my) x m
                    · rcases List.mem_cons.mp (List.mem_of_mem_take m) with rfl | m
                      · exact pb
                      · rw [List.mem_singleton.mp m]
                        exact pc
                  refine ⟨_, rfl, z, S, n, rfl, hZ5, by show n + 1 < 4096; omega, _, _, zs2, sameOut s5 freeZ, sqT_but t5 (nt_set hZ5), by rw [upd_ne nDZ]; exact h5, upd_same, k1, k2, k3, fun x => ?_⟩
                  rw [k4 x, tk, List.append_assoc]
              · rintro H5 ⟨S, n, zs, s5, t5, h5, hZ5, hS, nd, ln, mem⟩
                refine ⟨S, n, zs, s5, h5, hZ5, hS, nd, ln, fun x => ?_⟩
                rw [mem x, List.take_add_one, hd1, List.flatMap_append]
                exact Iff.rfl
      · rintro H3 ⟨S, n, zs, s3, h3, hZ3, hS, nd, ln, mem⟩
        rw [a2.length, List.take_length] at mem
        have ln2 := few nd mem (pool _ fun x m => m)
        refine ⟨Z, S, n, rfl, hZ3, by omega, fun ys p up once hm hl hp => ?_⟩
        refine ⟨p, _, rfl, .inl ⟨SqL.of upd_same, fun q hq => ?_⟩⟩
        refine k (.ref q) ys _ ((s3.trans (sameAdd hp)).trans (sameAdd hq)) (.tup (SqT.of upd_same) (da_strs ys)) ⟨up, once, fun x => ?_⟩
        rw [hm x, hS x, mem x]
        exact Iff.rfl
theorem D_names_in (T : Txt K mg) : Df P w K mg base 1 "names_in" ["saying"] (spNames K) := (DS_names_in T).df
end
end L2.Hx

/-! The law's own going through a saying. -/
namespace L2.Hx
open PySem PySem.Spec PyProof.Rows
/-- a dict of which only the keys are asked -/
def dOf (zs : List Str) : List (Key × V) := zs.map fun z => (Sum.inr z, V.bl true)
theorem put_dOf (zs : List Str) (z : Str) : ∃ zs' : List Str, putK (dOf zs) (Sum.inr z) (.bl true) = dOf zs' ∧ (zs.Nodup → zs'.Nodup) ∧ ∀ x, x ∈ zs' ↔ x ∈ zs ∨ x = z := by
  by_cases h : z ∈ zs
  · refine ⟨zs, ?_, id, fun x => ⟨.inl, fun q => q.elim id fun e => by rw [e]; exact h⟩⟩
    have e : ((dOf zs).any fun kv => decide (kv.1 = (Sum.inr z : Key))) = true := by
      rw [List.any_eq_true]
      exact ⟨(Sum.inr z, .bl true), List.mem_map.mpr ⟨z, h, rfl⟩, decide_eq_true rfl⟩
    unfold putK
    rw [if_pos e]
    unfold dOf
    rw [List.map_map]
    refine List.map_congr_left fun y _ => ?_
    show (if (Sum.inr y : Key) = Sum.inr z then _ else _) = _
    split
    · rfl
    · rfl
  · refine ⟨zs ++ [z], ?_, fun nd => (List.perm_append_singleton z zs).nodup_iff.mpr (List.nodup_cons.mpr ⟨h, nd⟩), fun x => by rw [List.mem_append, List.mem_singleton]⟩
    have e : ¬ ((dOf zs).any fun kv => decide (kv.1 = (Sum.inr z : Key))) = true := by
      rw [List.any_eq_true]
      rintro ⟨kv, m, q⟩
      obtain ⟨y, my, rfl⟩ := List.mem_map.mp m
      have q2 : (Sum.inr y : Key) = Sum.inr z := of_decide_eq_true q
      cases q2
      exact h my
    unfold putK
    rw [if_neg e]
    unfold dOf
    rw [List.map_append]
    rfl
theorem nt_dict {H : Hp} {D : Addr} {kvs : List (Key × V)} (h : H D = some (.dK kvs)) (ys : List V) : ¬ Rd H D (.tup ys) := fun q => by
  rcases q with q | ⟨ob, q⟩
  · rw [h] at q
    cases q
  · rw [h] at q
    cases q
section
variable {P : Program} {w : World} {K : PySem.W.Frag} {mg : Str → Option Value} {base : Heap}
theorem D_l_due (T : Txt K mg) : Df P w K mg base 1 "_law_due" ["saying"] (spNames K) := by
  obtain ⟨f, fd, S⟩ := T.d_l_due
  refine Df.mk' (k := 0) S sc_l_due (fun vs H Q E h => ?_) (fun cdv A outer s H vs Q E hgd hr h => ?_)
  · obtain ⟨v, d, rfl, _⟩ := h
    rfl
  · obtain ⟨v, d, rfl, hd, hφ, k⟩ := h
    obtain ⟨cs, rfl, lc, hc⟩ := hφ
    have line5 : (5000 : Nat) ≤ sizeLine := by decide
    have hu := hu_of hr
    obtain ⟨a, xs, rfl, aT, aA⟩ := hd.tupI
    refine ⟨_, (pss_cons (ps_set (i := 1) sc_l_due.nd rfl (.inl rfl) pe_dnewK)
      (pss_cons (ps_for PassesOwn.never rfl (pi_tup (pv 0)) (pg_tup rfl (pgs_cons (pg_name (i := 2) sc_l_due.nd rfl (.inl rfl)) (pgs_cons (pg_name (i := 3) sc_l_due.nd rfl (.inl rfl)) pgs_nil)))
      (pss_one (ps_for PassesOwn.never rfl (pi_tup (pe_op op_catA (pv 2) (pv 3))) (pg_tup rfl (pgs_cons (pg_name (i := 4) sc_l_due.nd rfl (.inl rfl)) (pgs_cons (pg_name (i := 5) sc_l_due.nd rfl (.inl rfl)) (pgs_cons (pg_name (i := 6) sc_l_due.nd rfl (.inl rfl)) pgs_nil))))
      (pss_cons (ps_dput hu (pv 1) (pv 5) pe_bl rfl)
      (pss_one (ps_dput hu (pv 1) (pv 6) pe_bl rfl))))))
      (pss_one (ps_ret (pe_callTy call_tuple_of (by rfl) T.b_tuple (by decide +kernel) (pa_cons (pe_callB cr_sortedS (by rfl) T.b_sorted (by decide +kernel) (pa_cons (pe_lock (pe_lc (own := [("name", 7)]) (g := gName 7) rfl sc_l_due.nd (pi_keys (pv 1)) (blkOk_by (own := [("name", 7)]) (N := ["saying", "seen", "looks", "parts", "word", "one", "other", "name"]) (sc := defScope s_l_due) (by decide +kernel)) (fun _ _ _ _ _ => pg_name (i := 7) sc_l_due.nd rfl (.inl rfl)) (fun _ _ _ _ _ => (pts_one (pt_cmpR op_ne (pv 7) pe_str (nomark _)))) (fun _ _ _ _ _ => (pv 7)))) pa_nil)) pa_nil)))))), ?_⟩
    refine fun D hD => ?_
    dsimp only [gName]
    have pool : ∀ (l : List PyData), (∀ x ∈ l, x ∈ rowsS cs) → ∀ x ∈ l.flatMap rowT, x ∈ w_pool := fun l hl x m => by
      obtain ⟨r, mr, mx⟩ := List.mem_flatMap.mp m
      exact (rowsS_rows hc r (hl r mr)).terms x mx
    refine ⟨_, rfl, a, rfl, ⟨xs, sameT (sameAdd hD) aT⟩, for_tup (K := K) (a := a) (xs := xs) (fun i σ H2 => ∃ o2 o3 o4 o5 o6 o7, σ = [some (.ref a), some (.ref D), o2, o3, o4, o5, o6, o7] ∧ ∃ zs, Same H H2 ∧ H2 D = some (.dK (dOf zs)) ∧ zs.Nodup ∧ ∀ x, x ∈ zs ↔ x ∈ (rowsS (cs.take i)).flatMap rowT)
      ⟨_, _, _, _, _, _, rfl, [], sameAdd hD, upd_same, List.nodup_nil, fun x => Iff.rfl⟩ (fun i σ H2 _ ⟨_, _, _, _, _, _, _, _, q, _⟩ => sameT q aT) ?_ ?_⟩
    · rintro i x σ H2 hx ⟨o2, o3, o4, o5, o6, o7, rfl, zs, s1, h2, nd, mem⟩
      obtain ⟨d, hd1, dx⟩ := aA.get hx
      obtain ⟨ls, ps, rfl, l1, l2, r1, r2⟩ := hc d (List.mem_of_getElem? hd1)
      have inS : ∀ r ∈ ls ++ ps, r ∈ rowsS cs := fun r m => List.mem_flatMap.mpr ⟨_, List.mem_of_getElem? hd1, m⟩
      obtain ⟨b, ws, rfl, bT, bA⟩ := dx.tupI
      cases bA with
      | cons hy bA =>
        cases bA with
        | cons hz bA =>
          cases bA
          rename_i y z
          obtain ⟨b1, xs1, rfl, t1, a1⟩ := hy.tupI
          obtain ⟨b2, xs2, rfl, t2, a3⟩ := hz.tupI
          have m1 := a1.length
          have m3 := a3.length
          have aR := a1.append a3
          refine ⟨b, _, rfl, sameT s1 bT, rfl, _, _, rfl, _, _, rfl, rfl, ?_⟩
          refine cat_two (i := 2) (j := 3) (b1 := b1) (b2 := b2) rfl rfl (sameT s1 t1) (sameT s1 t2) (by omega) (fun t H3 s3 tT => ?_)
          refine for_tup (K := K) (a := t) (xs := xs1 ++ xs2) (fun j σ H4 => ∃ o4 o5 o6 o7, σ = [some (.ref a), some (.ref D), some (.ref b1), some (.ref b2), o4, o5, o6, o7] ∧ ∃ zs, Same H H4 ∧ SqT K H4 t (xs1 ++ xs2) ∧ H4 D = some (.dK (dOf zs)) ∧ zs.Nodup ∧ ∀ x, x ∈ zs ↔ x ∈ (rowsS (cs.take i) ++ (ls ++ ps).take j).flatMap rowT)
            ⟨_, _, _, _, rfl, zs, s1.trans s3, tT, s3 _ _ h2, nd, by rw [List.take_zero, List.append_nil]; exact mem⟩ (fun j σ H4 _ ⟨_, _, _, _, _, _, _, q, _⟩ => q) ?_ ?_
          · rintro j x σ H4 hx ⟨o4, o5, o6, o7, rfl, zs, s4, t4, h4, nd, mem⟩
            obtain ⟨dr, hdr, ddr⟩ := aR.get hx
            obtain ⟨ra, rb, rc, rfl, _, pb, pc⟩ := rowsS_rows hc _ (inS _ (List.mem_of_getElem? hdr))
            obtain ⟨r, vs3, rfl, rT, rA⟩ := ddr.tupI
            cases rA with
            | cons q1 rA =>
              cases rA with
              | cons q2 rA =>
                cases rA with
                | cons q3 rA =>
                  cases rA
                  cases q2.strI
                  cases q3.strI
                  have inP : ∀ x ∈ zs, x ∈ w_pool := fun x m => pool _ (fun y my => by
                    rcases List.mem_append.mp my with my | my
                    · obtain ⟨c, mc, mr⟩ := List.mem_flatMap.mp my
                      exact List.mem_flatMap.mpr ⟨c, List.mem_of_mem_take mc, mr⟩
                    · exact inS _ (List.mem_of_mem_take my)) x ((mem x).mp m)
                  have lz : zs.length ≤ 11 := PySem.length_le_of_nodup_of_subset zs w_pool nd inP
                  obtain ⟨z1, e1, n1, i1⟩ := put_dOf zs rb
                  obtain ⟨z2, e2, n2, i2⟩ := put_dOf z1 rc
                  have l1' : z1.length ≤ 12 := by
                    have q := length_putK (dOf zs) (Sum.inr rb) (.bl true)
                    rw [e1] at q
                    simp only [dOf, List.length_map] at q
                    omega
                  refine ⟨r, _, rfl, sameT s4 rT, rfl, _, _, rfl, _, _, rfl, _, _, rfl, rfl, ?_⟩
                  refine ⟨_, rfl, _, rfl, D, _, rfl, DPut.k (k := Sum.inr rb) h4 (by simp only [dOf, List.length_map]; omega), ?_⟩
                  rw [e1]
                  refine ⟨_, rfl, _, rfl, D, _, rfl, DPut.k (k := Sum.inr rc) upd_same (by simp only [dOf, List.length_map]; omega), ?_⟩
                  rw [e2]
                  refine ⟨_, _, _, _, rfl, z2, sameOut (sameOut s4 hD) hD, sqT_but (sqT_but t4 (nt_dict h4)) (nt_dict upd_same), upd_same, n2 (n1 nd), fun x => ?_⟩
                  rw [i2 x, i1 x, mem x, List.take_add_one, hdr, ← List.append_assoc]
                  generalize rowsS (cs.take i) ++ (ls ++ ps).take j = l
                  rw [List.flatMap_append, List.mem_append]
                  show _ ↔ _ ∨ x ∈ [rb, rc]
                  rw [List.mem_cons, List.mem_singleton, or_assoc]
          · rintro σ H4 ⟨o4, o5, o6, o7, rfl, zs, s4, t4, h4, nd, mem⟩
            refine ⟨_, _, _, _, _, _, rfl, zs, s4, h4, nd, fun x => ?_⟩
            rw [rowsS_next hd1, mem x, aR.length, List.take_length]
            exact Iff.rfl
    · rintro σ H2 ⟨o2, o3, o4, o5, o6, o7, rfl, zs, s1, h2, nd, mem⟩
      rw [aA.length, List.take_length] at mem
      have lz : zs.length ≤ 11 := PySem.length_le_of_nodup_of_subset zs w_pool nd fun x m => pool _ (fun y my => my) x ((mem x).mp m)
      dsimp only
      refine ⟨D, .dK (dOf zs), h2, ?_, fun od => ?_⟩
      · trivial
      · refine ⟨_, rfl, D, od, rfl, .inl ⟨dOf zs, upd_same, fun L hL => ?_⟩⟩
        have nDL : D ≠ L := fun e => by
          rw [← e, upd_same] at hL
          cases hL
        have freeL : H L = none := by
          cases q : H L with
          | none => rfl
          | some o =>
            rw [upd_ne nDL.symm, s1 _ _ q] at hL
            cases hL
        have lD : (dOf zs).length = zs.length := List.length_map _
        refine lc_it (walk_keys (d := D) (o := od) (kvs := dOf zs)) (fun i H3 => Same H H3 ∧ H3 D = some (.frz od (.dK (dOf zs))) ∧ H3 L = some (.lst (((zs.take i).filter fun z => decide (z ≠ ("nil" : Str))).map V.str)))
          ⟨sameOut (sameOut s1 hD) freeL, by rw [upd_ne nDL]; exact upd_same, upd_same⟩ (fun i H3 _ q => q.2.1) ?_ ?_
        · rintro i x H3 H4 hi ⟨s3, h3, l3⟩ ⟨rfl, kk, vv, hk, rfl⟩
          obtain ⟨z, hz, rfl⟩ : ∃ z, zs[i]? = some z ∧ kk = Sum.inr z := by
            unfold dOf at hk
            rw [List.getElem?_map] at hk
            cases e : zs[i]? with
            | none =>
              rw [e] at hk
              cases hk
            | some z =>
              rw [e] at hk
              exact ⟨z, rfl, (congrArg Prod.fst (Option.some.inj hk)).symm⟩
          have tk : zs.take (i + 1) = zs.take i ++ [z] := by
            rw [List.take_add_one, hz]
            rfl
          refine ⟨rfl, _, rfl, rfl, _, rfl, ?_⟩
          by_cases en : z = ("nil" : Str)
          · rw [decide_eq_true (show kV (Sum.inr z) = V.str "nil" by rw [en]; rfl)]
            refine if_no rfl ⟨s3, h3, ?_⟩
            rw [tk, List.filter_append, List.filter_cons_of_neg (by simp [en]), List.filter_nil, List.append_nil]
            exact l3
          · rw [decide_eq_false (show ¬ kV (Sum.inr z) = V.str "nil" from fun e => en (V.str.inj e))]
            refine if_yes rfl ⟨_, rfl, _, l3, ?_, sameOut s3 freeL, by rw [upd_ne nDL]; exact h3, ?_⟩
            · rw [List.length_map]
              have q1 := List.length_filter_le (fun z => decide (z ≠ ("nil" : Str))) (zs.take i)
              rw [List.length_take] at q1
              omega
            · rw [upd_same, tk, List.filter_append, List.filter_cons_of_pos (by simp [en]), List.filter_nil, List.map_append]
              rfl
        · rintro H3 ⟨s3, h3, l3⟩
          rw [lD, List.take_length] at l3
          refine ⟨h3, L, zs.filter fun z => decide (z ≠ ("nil" : Str)), rfl, SqL.of (by rw [upd_ne nDL.symm]; exact l3), ?_, fun ys p perm up hp => ?_⟩
          · have q1 := List.length_filter_le (fun z => decide (z ≠ ("nil" : Str))) zs
            omega
          · refine ⟨p, _, rfl, .inl ⟨SqL.of upd_same, fun q hq => ?_⟩⟩
            refine k (.ref q) ys _ (((sameOut s3 hD).trans (sameAdd hp)).trans (sameAdd hq)) (.tup (SqT.of upd_same) (da_strs ys)) ⟨up, perm.nodup_iff.mpr (nd.filter _), fun x => ?_⟩
            rw [perm.mem_iff, List.mem_filter, decide_eq_true_eq, mem x]
            exact Iff.rfl
end
end L2.Hx

/-! Names told in two ways are the same. -/
namespace L2.Hx
open PySem PySem.Spec PyProof.Rows
def leZ (a b : Str) : Prop := a.cps.toList ≤ b.cps.toList
theorem rising_pw : ∀ (l : List Str) (p : Str), risingS p l = true → (p :: l).Pairwise leZ
  | [], p, _ => List.pairwise_singleton _ _
  | x :: r, p, h => by
    have h1 : (!ltCps x.cps.toList p.cps.toList && risingS x r) = true := h
    obtain ⟨a, b⟩ := Bool.and_eq_true_iff.mp h1
    have px : leZ p x := by
      rw [ltCps_eq] at a
      have a2 : ¬ x.cps.toList < p.cps.toList := by simpa using a
      exact List.not_lt.mp a2
    have ih := rising_pw r x b
    refine List.pairwise_cons.mpr ⟨fun y hy => ?_, ih⟩
    rcases List.mem_cons.mp hy with rfl | hy
    · exact px
    · exact List.le_trans px ((List.pairwise_cons.mp ih).1 y hy)
theorem sorted_pw : ∀ (l : List Str), sortedS l = true → l.Pairwise leZ
  | [], _ => List.Pairwise.nil
  | x :: r, h => rising_pw r x h
theorem leZ_anti {a b : Str} (h1 : leZ a b) (h2 : leZ b a) : a = b := by
  have e := List.le_antisymm h1 h2
  obtain ⟨x⟩ := a
  obtain ⟨y⟩ := b
  have e2 : x = y := Array.toList_inj.mp e
  rw [e2]
/-- ascending, each once, with the same members -/
theorem same_names {xs ys : List Str} (h1 : sortedS xs = true) (h2 : sortedS ys = true) (n1 : xs.Nodup) (n2 : ys.Nodup) (m : ∀ x, x ∈ xs ↔ x ∈ ys) : xs = ys :=
  List.Perm.eq_of_pairwise (le := leZ) (fun a b _ _ p q => leZ_anti p q) (sorted_pw xs h1) (sorted_pw ys h2) ((List.perm_ext_iff_of_nodup n1 n2).mpr m)
theorem IsN.uniq {ts xs ys : List Str} (a : IsN ts xs) (b : IsN ts ys) : xs = ys := same_names a.up b.up a.once b.once fun x => (a.mem x).trans (b.mem x).symm
def w_every : List Str := w_heads ++ w_pool
theorem every_ok : (w_every.all fun z => okB (.str z) && decide (siz (.str z) ≤ 100)) = true := by decide +kernel
theorem pool_okd {z : Str} (h : z ∈ w_pool) : Okd 0 100 (.str z) := words_okd every_ok (List.mem_append_right _ h)
theorem RowZ.okd {d : PyData} (h : RowZ d) : Okd 1 400 d := by
  obtain ⟨a, b, c, rfl, ha, hb, hc⟩ := h
  refine Okd.tup (k := 0) (n := 100) (m := 3) (fun z m => ?_) (Nat.le_refl 3)
  rcases List.mem_cons.mp m with rfl | m
  · exact words_okd every_ok (List.mem_append_left _ ha)
  · rcases List.mem_cons.mp m with rfl | m
    · exact pool_okd hb
    · rw [List.mem_singleton.mp m]
      exact pool_okd hc
theorem ClauseZ.okd {d : PyData} (h : ClauseZ d) : Okd 3 27000 d := by
  obtain ⟨ls, ps, rfl, l1, p1, l2, p2⟩ := h
  have o1 : Okd 2 13000 (.tuple ls) := Okd.tup (k := 1) (n := 400) (m := 30) (fun z m => (l2 z m).okd) l1
  have o2 : Okd 2 13000 (.tuple ps) := Okd.tup (k := 1) (n := 400) (m := 30) (fun z m => (p2 z m).okd) p1
  refine Okd.tup (k := 2) (n := 13000) (m := 2) (fun z m => ?_) (Nat.le_refl 2)
  rcases List.mem_cons.mp m with rfl | m
  · exact o1
  · rw [List.mem_singleton.mp m]
    exact o2
theorem SayZ.okd {d : PyData} (h : SayZ d) : Okd 4 2000000 d := by
  obtain ⟨cs, rfl, l, o⟩ := h
  exact Okd.tup (k := 3) (n := 27000) (m := 64) (fun z m => (o z m).okd) l
theorem SayZ.pool {d : PyData} (h : SayZ d) : ∀ x ∈ sayT d, x ∈ w_pool := by
  obtain ⟨cs, rfl, _, o⟩ := h
  intro x m
  obtain ⟨r, mr, mx⟩ := List.mem_flatMap.mp (show x ∈ (rowsS cs).flatMap rowT from m)
  exact (rowsS_rows o r mr).terms x mx
theorem IsN.okd {ts xs : List Str} (a : IsN ts xs) (hp : ∀ x ∈ ts, x ∈ w_pool) : Okd 1 2000 (.tuple (xs.map PyData.str)) := by
  refine Okd.tup (k := 0) (n := 100) (m := 11) (fun z m => ?_) (by rw [List.length_map]; exact few a.once a.mem hp)
  obtain ⟨y, my, rfl⟩ := List.mem_map.mp m
  exact pool_okd (hp y ((a.mem y).mp my).1)
theorem DaAll.strs {K : PySem.W.Frag} {G : Hp} : ∀ {vs : List V} {ys : List Str}, DaAll K G vs (ys.map PyData.str) → vs = ys.map V.str
  | [], [], _ => rfl
  | v :: vs, y :: ys, h => by
    cases h with
    | cons a b =>
      rw [a.strI, DaAll.strs b]
      rfl
def spRight (K : PySem.W.Frag) : Sp := fun vs H Q _ => ∃ v d b, vs = [v, .bl b] ∧ Da K H v d ∧ SayZ d ∧ ∀ H', Same H H' → Q (.bl true) H'
section
variable {P : Program} {w : World} {K : PySem.W.Frag} {mg : Str → Option Value} {base : Heap}
theorem D_l_is_right (T : Txt K mg) : Df P w K mg base 2 "_law_is_right" ["saying", "is_named"] (spRight K) := by
  have D_l_due := D_l_due (P := P) (w := w) (base := base) T
  have D_names_in := D_names_in (P := P) (w := w) (base := base) T
  have DK_names_in := (DS_names_in (P := P) (w := w) (base := base) T).kw (ks := ["saying"]) (g := fun us => us) fun _ _ _ _ _ _ ws hl => match ws, hl with | [_], _ => rfl
  obtain ⟨f, fd, S⟩ := T.d_l_is_right
  refine Df.mk' (k := 1) S sc_l_is_right (fun vs H Q E h => ?_) (fun cdv A outer s H vs Q E hgd hr h => ?_)
  · obtain ⟨v, d, b, rfl, _⟩ := h
    rfl
  · obtain ⟨v, d, b, rfl, hd, hφ, k⟩ := h
    have line5 : (5000 : Nat) ≤ sizeLine := by decide
    have pool := hφ.pool
    obtain ⟨s1, s2, s3⟩ := hφ.okd.shown (by decide) (by decide)
    refine ⟨_, (pss_cons (ps_par (i := 2) (j := 3) (by rfl) sc_l_is_right.nd rfl rfl (by decide) rfl rfl (pa_cons (pe_callB (call_repr hgd hr.units) (by rfl) T.b_repr (by decide +kernel) (pa_cons (pv 0) pa_nil)) (pa_cons (pe_callB (call_repr hgd hr.units) (by rfl) T.b_repr (by decide +kernel) (pa_cons (pe_d D_l_due hgd hr (pa_cons (pv 0) pa_nil)) pa_nil)) pa_nil)) (by rfl))
      (pss_cons (ps_set (i := 4) sc_l_is_right.nd rfl (.inl rfl) (pe_ifExp (pt_val (pv 1)) (pe_kwd DK_names_in hgd hr (pk_cons (pv 0) pk_nil)) (pe_d D_names_in hgd hr (pa_cons (pv 0) pa_nil))))
      (pss_cons (ps_if (PW.pt (pw_or (pt_cmpR op_ne (pe_callB (call_repr hgd hr.units) (by rfl) T.b_repr (by decide +kernel) (pa_cons (pv 4) pa_nil)) (pv 3) (nomark _)) (pw_or (pt_cmpR op_ne (pe_callB (call_repr hgd hr.units) (by rfl) T.b_repr (by decide +kernel) (pa_cons (pe_d D_names_in hgd hr (pa_cons (pv 0) pa_nil)) pa_nil)) (pv 3) (nomark _)) (pw_or1 (pt_cmpR op_ne (pe_callB (call_repr hgd hr.units) (by rfl) T.b_repr (by decide +kernel) (pa_cons (pv 0) pa_nil)) (pv 2) (nomark _)))))) (pss_one (ps_ret pe_bl)) pss_nil)
      (pss_cons (ps_set (i := 5) sc_l_is_right.nd rfl (.inl rfl) (pe_lst pa_nil))
      (pss_cons (ps_for PassesOwn.never rfl (pi_tup (pv 0)) (pg_name (i := 6) sc_l_is_right.nd rfl (.inl rfl))
      (pss_one (ps_set (i := 5) sc_l_is_right.nd rfl (.inl rfl) (pe_op op_cat (pv 5) (pe_callTy call_list_of (by rfl) T.b_list (by decide +kernel) (pa_cons (pe_d D_names_in hgd hr (pa_cons (pe_tup (pa_cons (pv 6) pa_nil)) pa_nil)) pa_nil))))))
      (pss_one (ps_ret (pe_cmpR op_eq (pe_callB (call_repr hgd hr.units) (by rfl) T.b_repr (by decide +kernel) (pa_cons (pe_callTy call_tuple_of (by rfl) T.b_tuple (by decide +kernel) (pa_cons (pe_callB (cr_sortZ rfl) (by rfl) T.b_sorted (by decide +kernel) (pa_cons (pe_callTy (cr_setOfZ rfl) (by rfl) T.b_set (by decide +kernel) (pa_cons (pv 5) pa_nil)) pa_nil)) pa_nil)) pa_nil)) (pv 3) (nomark _))))))))), ?_⟩
    refine ⟨_, rfl, v, d, H, rfl, Same.refl H, hd, s1, s2, s3, _, rfl, v, d, rfl, hd, hφ, fun u1 xs H1 q1 du1 n1 => ?_⟩
    obtain ⟨t1, t2, t3⟩ := (n1.okd pool).shown (by decide) (by decide)
    refine ⟨u1, .tuple (xs.map PyData.str), H1, rfl, Same.refl _, du1, t1, t2, t3, _, _, rfl, ?_⟩
    refine' behindP (I := fun u2 H2 => Same H H2 ∧ Da K H2 u2 (.tuple (xs.map PyData.str))) (fun fin => ?_) ?_
    rotate_left 1
    · refine ⟨_, rfl, _, rfl, ?_⟩
      refine iteB (fun _ => ?_) (fun _ => ?_)
      · refine ⟨_, rfl, rfl, v, d, rfl, hd.mono q1, hφ, fun u2 ys H2 q2 du2 n2 => ?_⟩
        rw [n2.uniq n1] at du2
        exact fin u2 H2 ⟨q1.trans q2, du2⟩
      · refine ⟨_, rfl, v, d, rfl, hd.mono q1, hφ, fun u2 ys H2 q2 du2 n2 => ?_⟩
        rw [n2.uniq n1] at du2
        exact fin u2 H2 ⟨q1.trans q2, du2⟩
    · rintro u2 H2 ⟨q2, du2⟩
      refine ⟨_, rfl, u2, _, H2, rfl, Same.refl _, du2, t1, t2, t3, _, rfl, rfl, _, rfl, if_no (by simp) ?_⟩
      refine ⟨_, rfl, v, d, rfl, hd.mono q2, hφ, fun u3 ys H3 q3 du3 n3 => ?_⟩
      rw [n3.uniq n1] at du3
      refine ⟨u3, _, H3, rfl, Same.refl _, du3, t1, t2, t3, _, rfl, rfl, _, rfl, if_no (by simp) ?_⟩
      refine ⟨_, rfl, v, d, H3, rfl, Same.refl _, hd.mono (q2.trans q3), s1, s2, s3, _, rfl, rfl, _, rfl, if_no (by simp) ?_⟩
      obtain ⟨cs, rfl, lc, hc⟩ := hφ
      obtain ⟨a, vs0, rfl, aT, aA⟩ := hd.tupI
      have q33 := q2.trans q3
      refine ⟨Nat.zero_le _, fun L0 hL0 => ?_⟩
      dsimp only [gName]
      refine ⟨_, rfl, a, rfl, ⟨vs0, sameT (q33.trans (sameAdd hL0)) aT⟩, for_tup (K := K) (a := a) (xs := vs0) (fun i σ H4 => ∃ o4 L o6, σ = [some (.ref a), some (.bl b), some (.str (PyData.shown (.tuple cs))), some (.str (PyData.shown (.tuple (xs.map PyData.str)))), o4, some (.ref L), o6] ∧ ∃ ws : List Str, Same H H4 ∧ H4 L = some (.lst (ws.map V.str)) ∧ ws.length ≤ 11 * i ∧ ∀ x, x ∈ ws ↔ x ∈ (rowsS (cs.take i)).flatMap rowT ∧ x ≠ ("nil" : Str))
        ⟨_, _, _, rfl, [], q33.trans (sameAdd hL0), upd_same, Nat.zero_le _, fun x => by simp [rowsS]⟩ (fun i σ H4 _ ⟨_, _, _, _, _, q, _⟩ => sameT q aT) ?_ ?_⟩
      · rintro i x σ H4 hx ⟨o4, L, o6, rfl, ws, s4, h4, lw, mem⟩
        have hi : i < 64 := by
          have q := (List.getElem?_eq_some_iff.mp hx).1
          have q2 := aA.length
          omega
        obtain ⟨dc, hd1, dx⟩ := aA.get hx
        have cz1 := hc dc (List.mem_of_getElem? hd1)
        have sz1 : SayZ (.tuple [dc]) := ⟨[dc], rfl, by show 1 ≤ 64; decide, fun x m => by rw [List.mem_singleton.mp m]; exact cz1⟩
        refine ⟨_, rfl, _, rfl, by show 1 ≤ sizeLine; decide, fun t ht => ⟨.ref t, .tuple [dc], rfl, .tup (SqT.of upd_same) (.cons (dx.mono (s4.trans (sameAdd ht))) .nil), sz1, fun u ys H5 q5 du5 n5 => ?_⟩⟩
        obtain ⟨p, vs, rfl, pT, pA⟩ := du5.tupI
        have ev := DaAll.strs pA
        subst ev
        have l5 := few n5.once n5.mem sz1.pool
        refine ⟨p, _, rfl, .inr pT, fun l hl => ⟨L, l, ws.map V.str, _, rfl, rfl, ?_, upd_same, ?_, fun c hc5 => ?_⟩⟩
        · have z := q5 _ _ (sameAdd ht _ _ h4)
          exact sameAdd hl _ _ z
        · rw [List.length_map, List.length_map]
          omega
        · refine ⟨_, c, _, rfl, ws ++ ys, ((((s4.trans (sameAdd ht)).trans q5).trans (sameAdd hl)).trans (sameAdd hc5)), by rw [upd_same, List.map_append], by rw [List.length_append]; omega, fun x => ?_⟩
          rw [List.mem_append, mem x, n5.mem x, rowsS_next hd1, List.flatMap_append, List.mem_append]
          have e : sayT (.tuple [dc]) = (rowsC dc).flatMap rowT := by
            show (rowsC dc ++ []).flatMap rowT = _
            rw [List.append_nil]
          rw [e]
          exact ⟨fun q => q.elim (fun q => ⟨.inl q.1, q.2⟩) fun q => ⟨.inr q.1, q.2⟩, fun q => q.1.elim (fun e => .inl ⟨e, q.2⟩) fun e => .inr ⟨e, q.2⟩⟩
      · rintro σ H4 ⟨o4, L, o6, rfl, ws, s4, h4, lw, mem⟩
        have la := aA.length
        rw [la] at lw
        rw [la, List.take_length] at mem
        refine ⟨_, rfl, L, ws, rfl, SqL.of h4, by show ws.length + 1 < 4096; omega, fun Z S n hZ mS hn => ⟨Z, S, n, rfl, upd_same, by omega, fun ys p up once my ln hp => ⟨p, _, rfl, .inl ⟨SqL.of upd_same, fun q hq => ?_⟩⟩⟩⟩
        have n6 : IsN (sayT (.tuple cs)) ys := ⟨up, once, fun x => by rw [my x, mS x, mem x]; exact Iff.rfl⟩
        have e := n6.uniq n1
        subst e
        refine ⟨.ref q, .tuple (ys.map PyData.str), _, rfl, Same.refl _, .tup (SqT.of upd_same) (da_strs ys), t1, t2, t3, _, rfl, rfl, ?_⟩
        rw [decide_eq_true rfl]
        exact k _ (((s4.trans (sameAdd hZ)).trans (sameAdd hp)).trans (sameAdd hq))
end
end L2.Hx

/-! The law's draws. -/
namespace L2.Hx
open PySem PySem.Spec PyProof.Rows
def TermZ (d : PyData) : Prop := ∃ z, d = .str z ∧ z ∈ w_pool
def HeadZ (d : PyData) : Prop := ∃ z, d = .str z ∧ z ∈ w_heads
def spClause (K : PySem.W.Frag) : Sp := fun vs H Q _ => ∃ (p l : Addr) (G : Hp) (v : V) (d : PyData) (a b : Int), vs = [.ref p, v, .int a, .int b] ∧ Wd p l G H ∧ Da K G v d ∧ LsP TermZ d ∧ 0 ≤ a ∧ a ≤ 30 ∧ 0 ≤ b ∧ b ≤ 30 ∧
  ∀ u e G2 H2, Ext p l G H G2 H2 → Da K G2 u e → ClauseZ e → Q u H2
/-- items in another order, or left out and doubled: a new list of as many -/
def spShuf (K : PySem.W.Frag) : Sp := fun vs H Q _ => ∃ (p l : Addr) (G : Hp) (a : Addr) (ws : List Str), vs = [.ref p, .ref a] ∧ Wd p l G H ∧ SqL K G a (ws.map V.str) ∧ ws.length ≤ 1000 ∧ (∀ x ∈ ws, x ∈ w_pool) ∧
  ∀ (r : Addr) (ys : List Str) (H' : Hp), Ext p l G H G H' → r ≠ p → r ≠ l → H' r = some (.lst (ys.map V.str)) → ys.length = ws.length → (∀ x ∈ ys, x ∈ w_pool) → Q (.ref r) H'
section
variable {p l : Addr} {σ : St} {G : Hp} {K : PySem.W.Frag}
theorem td_h {z : Str} (h : z ∈ w_heads) : TD K p l σ G (tC (.str z)) HeadZ := .flat (fun _ => .str z) ⟨z, rfl, h⟩
theorem eqv_nilS (ns : List Str) : PyData.eqv (.list (ns.map PyData.str)) (.list []) = decide (ns = []) := by
  cases ns <;> simp [PyData.eqv, PyData.eqvAll]
theorem dp_strs {H : Hp} : ∀ ns : List Str, DpAll K H (ns.map V.str) (ns.map PyData.str)
  | [] => .nil
  | n :: ns => .cons (.str n) (dp_strs ns)
theorem erase_strs : ∀ (ns : List Str) (j : Nat), (ns.map V.str).eraseIdx j = (ns.eraseIdx j).map V.str
  | [], _ => rfl
  | _ :: _, 0 => rfl
  | n :: ns, j + 1 => congrArg (V.str n :: ·) (erase_strs ns j)
theorem pool_strOk : ∀ x ∈ w_pool, PyData.strOk x = true := List.all_eq_true.mp (by decide +kernel)
theorem shaped_strs (ns : List Str) (hp : ∀ x ∈ ns, x ∈ w_pool) : SeqAt.shaped (.list (ns.map PyData.str)) = true := by
  have h1 : ∀ ns : List Str, (∀ x ∈ ns, x ∈ w_pool) → PyData.canLayAll0 (ns.map PyData.str) = true := fun ns => by
    induction ns with
    | nil => exact fun _ => rfl
    | cons n ns ih =>
      intro h
      simpa [PyData.canLayAll0, PyData.canLay0] using ⟨pool_strOk n (h n List.mem_cons_self), ih fun x m => h x (List.mem_cons_of_mem _ m)⟩
  have h2 : ∀ ns : List Str, PyData.depthAll (ns.map PyData.str) ≤ 1 := fun ns => by
    induction ns with
    | nil => simp [PyData.depthAll]
    | cons n ns ih =>
      simp only [List.map_cons, PyData.depthAll, PyData.depth]
      omega
  have a := h1 ns hp
  have b := h2 ns
  unfold SeqAt.shaped
  rw [Bool.and_eq_true]
  refine ⟨by simpa [PyData.canLay0] using a, decide_eq_true ?_⟩
  simp only [PyData.depth]
  omega
end
section
variable {P : Program} {w : World} {K : PySem.W.Frag} {mg : Str → Option Value} {base : Heap}
theorem D_l_look (T : Txt K mg) : Df P w K mg base 3 "_law_look" ["deck", "terms"] (spDrawn K (LsP TermZ) RowZ) := by
  have D_l_pick := D_pick (P := P) (w := w) (base := base) T
  obtain ⟨f, fd, S⟩ := T.d_l_look
  refine Df.mk' (k := 2) S sc_l_look (fun vs H Q E h => ?_) (fun cdv A outer s H vs Q E hgd hr h => ?_)
  · obtain ⟨p, l, G, v, d, rfl, _⟩ := h
    rfl
  · obtain ⟨p, l, G, v, d, rfl, W, hd, hψ, k⟩ := h
    refine ⟨_, (pss_one (ps_ret (pe_tup (pa_cons (pe_d D_l_pick hgd hr (pa_cons (pv 0) (pa_cons (pe_lst (pa_cons pe_str (pa_cons pe_str pa_nil))) pa_nil))) (pa_cons (pe_d D_l_pick hgd hr (pa_cons (pv 0) (pa_cons (pv 1) pa_nil))) (pa_cons (pe_d D_l_pick hgd hr (pa_cons (pv 0) (pa_cons (pv 1) pa_nil))) pa_nil)))))), ?_⟩
    refine TD.run (K := K) (p := p) (l := l) (G := G) (φ := RowZ) ?h W (fun u e G2 H2 x da f => k u e G2 H2 x da f)
    refine TD.imp (td_tupP (tds_consP (td_pick (ψ := HeadZ) (TD.imp (td_lstP (tds_consP (td_h (by decide +kernel)) (tds_consP (td_h (by decide +kernel)) tds_nilP)) ?c) ?d) rfl)
      (tds_consP (td_pick (td_var rfl hd hψ) rfl) (tds_consP (td_pick (td_var rfl hd hψ) rfl) tds_nilP))) ?e) ?f
    case c =>
      rintro ds ⟨d, r, rfl, _, d2, r2, rfl, _, rfl⟩
      show 2 ≤ sizeLine
      decide
    case d =>
      rintro d ⟨ds, rfl, d, r, rfl, h1, d2, r2, rfl, h2, rfl⟩
      refine ⟨_, rfl, by show 0 < 2; decide, by show 2 < 1000000; decide, fun x m => ?_⟩
      rcases List.mem_cons.mp m with rfl | m
      · exact h1
      · rw [List.mem_singleton.mp m]
        exact h2
    case e =>
      rintro ds ⟨d, r, rfl, _, d2, r2, rfl, _, d3, r3, rfl, _, rfl⟩
      show 3 ≤ sizeLine
      decide
    case f =>
      rintro d ⟨ds, rfl, d, r, rfl, ⟨a, rfl, ha⟩, d2, r2, rfl, ⟨b, rfl, hb⟩, d3, r3, rfl, ⟨c, rfl, hc⟩, rfl⟩
      exact ⟨a, b, c, rfl, ha, hb, hc⟩
theorem D_l_part (T : Txt K mg) : Df P w K mg base 3 "_law_part" ["deck", "terms"] (spDrawn K (LsP TermZ) RowZ) := by
  have D_l_pick := D_pick (P := P) (w := w) (base := base) T
  obtain ⟨f, fd, S⟩ := T.d_l_part
  refine Df.mk' (k := 2) S sc_l_part (fun vs H Q E h => ?_) (fun cdv A outer s H vs Q E hgd hr h => ?_)
  · obtain ⟨p, l, G, v, d, rfl, _⟩ := h
    rfl
  · obtain ⟨p, l, G, v, d, rfl, W, hd, hψ, k⟩ := h
    refine ⟨_, (pss_one (ps_ret (pe_tup (pa_cons (pe_d D_l_pick hgd hr (pa_cons (pv 0) (pa_cons (pe_lst (pa_cons pe_str (pa_cons pe_str (pa_cons pe_str pa_nil)))) pa_nil))) (pa_cons (pe_d D_l_pick hgd hr (pa_cons (pv 0) (pa_cons (pv 1) pa_nil))) (pa_cons (pe_d D_l_pick hgd hr (pa_cons (pv 0) (pa_cons (pv 1) pa_nil))) pa_nil)))))), ?_⟩
    refine TD.run (K := K) (p := p) (l := l) (G := G) (φ := RowZ) ?h W (fun u e G2 H2 x da f => k u e G2 H2 x da f)
    refine TD.imp (td_tupP (tds_consP (td_pick (ψ := HeadZ) (TD.imp (td_lstP (tds_consP (td_h (by decide +kernel)) (tds_consP (td_h (by decide +kernel)) (tds_consP (td_h (by decide +kernel)) tds_nilP))) ?c) ?d) rfl)
      (tds_consP (td_pick (td_var rfl hd hψ) rfl) (tds_consP (td_pick (td_var rfl hd hψ) rfl) tds_nilP))) ?e) ?f
    case c =>
      rintro ds ⟨d, r, rfl, _, d2, r2, rfl, _, d3, r3, rfl, _, rfl⟩
      show 3 ≤ sizeLine
      decide
    case d =>
      rintro d ⟨ds, rfl, d, r, rfl, h1, d2, r2, rfl, h2, d3, r3, rfl, h3, rfl⟩
      refine ⟨_, rfl, by show 0 < 3; decide, by show 3 < 1000000; decide, fun x m => ?_⟩
      rcases List.mem_cons.mp m with rfl | m
      · exact h1
      · rcases List.mem_cons.mp m with rfl | m
        · exact h2
        · rw [List.mem_singleton.mp m]
          exact h3
    case e =>
      rintro ds ⟨d, r, rfl, _, d2, r2, rfl, _, d3, r3, rfl, _, rfl⟩
      show 3 ≤ sizeLine
      decide
    case f =>
      rintro d ⟨ds, rfl, d, r, rfl, ⟨a, rfl, ha⟩, d2, r2, rfl, ⟨b, rfl, hb⟩, d3, r3, rfl, ⟨c, rfl, hc⟩, rfl⟩
      exact ⟨a, b, c, rfl, ha, hb, hc⟩
theorem tw_draw1 {p l : Addr} {σ : St} {G : Hp} {i j : Nat} {z : Int} (hd : σ[i]? = some (some (.ref p))) (hz : σ[j]? = some (some (.int z))) (h0 : 0 ≤ z) (h1 : z < 1000) :
    TW p l σ G (iRng1 (tCons (tCall spDraw [] E0 (tCons (tVar i) (tCons (tOp (rI0 fun i j => .int (i + j)) (tVar j) (tC (.int 1))) tNil))) tNil)) (fun N => (N : Int) ≤ z) := fun G1 H R W s k =>
  ⟨_, hd, _, hz, _, _, rfl, rfl, p, l, G1, z + 1, rfl, by omega, by omega, W, fun r H1 r0 r1 e => ⟨r, rfl, by omega, by omega, k _ _ _ (by omega) e⟩⟩
theorem D_l_clause (T : Txt K mg) : Df P w K mg base 4 "_law_clause" ["deck", "terms", "looks", "parts"] (spClause K) := by
  have D_l_draw := D_draw (P := P) (w := w) (base := base) T
  have D_l_look := D_l_look (P := P) (w := w) (base := base) T
  have D_l_part := D_l_part (P := P) (w := w) (base := base) T
  obtain ⟨f, fd, S⟩ := T.d_l_clause
  refine Df.mk' (k := 3) S sc_l_clause (fun vs H Q E h => ?_) (fun cdv A outer s H vs Q E hgd hr h => ?_)
  · obtain ⟨p, l, G, v, d, a, b, rfl, _⟩ := h
    rfl
  · obtain ⟨p, l, G, v, d, a, b, rfl, W, hd, hψ, a0, a1, b0, b1, k⟩ := h
    refine ⟨_, (pss_cons (ps_set (i := 4) sc_l_clause.nd rfl (.inl rfl) (pe_callTy call_tuple_of (by rfl) T.b_tuple (by decide +kernel) (pa_cons (pe_lc (own := [("turn", 5)]) (g := gName 5) (tt := tYes) rfl sc_l_clause.nd (pi_range1 rfl T.b_range (pa_cons (pe_d D_l_draw hgd hr (pa_cons (pv 0) (pa_cons (pe_op op_add (pv 2) pe_int) pa_nil))) pa_nil)) (blkOk_by (own := [("turn", 5)]) (N := ["deck", "terms", "looks", "parts", "first", "turn"]) (sc := defScope s_l_clause) (by decide +kernel)) (fun _ _ _ _ _ => pg_name (i := 5) sc_l_clause.nd rfl (.inl rfl)) (fun _ _ _ _ _ => pts_nil) (fun _ _ _ _ _ => (pe_d D_l_look hgd hr (pa_cons (pv 0) (pa_cons (pv 1) pa_nil))))) pa_nil)))
      (pss_one (ps_ret (pe_tup (pa_cons (pv 4) (pa_cons (pe_callTy call_tuple_of (by rfl) T.b_tuple (by decide +kernel) (pa_cons (pe_lc (own := [("turn", 5)]) (g := gName 5) (tt := tYes) rfl sc_l_clause.nd (pi_range1 rfl T.b_range (pa_cons (pe_d D_l_draw hgd hr (pa_cons (pv 0) (pa_cons (pe_op op_add (pv 3) pe_int) pa_nil))) pa_nil)) (blkOk_by (own := [("turn", 5)]) (N := ["deck", "terms", "looks", "parts", "first", "turn"]) (sc := defScope s_l_clause) (by decide +kernel)) (fun _ _ _ _ _ => pg_name (i := 5) sc_l_clause.nd rfl (.inl rfl)) (fun _ _ _ _ _ => pts_nil) (fun _ _ _ _ _ => (pe_d D_l_part hgd hr (pa_cons (pv 0) (pa_cons (pv 1) pa_nil))))) pa_nil)) pa_nil)))))), ?_⟩
    refine TD.asg (K := K) (p := p) (l := l) (G := G) (φ := fun e => ∃ ls, e = .tuple ls ∧ ls.length ≤ 30 ∧ ∀ x ∈ ls, RowZ x) ?h1 W (fun u e G2 H2 x da f => ?_)
    case h1 => exact TD.imp (td_tupleN (td_lc (M := 30) (tw_draw1 rfl rfl a0 (by omega)) (fun N hN => by omega) (by decide) (fun i => td_drawn rfl rfl hd hψ))) fun e ⟨ls, he, hl, hx⟩ => ⟨ls, he, by omega, hx⟩
    dsimp only
    refine TD.ret (K := K) (p := p) (l := l) (G := G2) (φ := ClauseZ) ?h2 x.w (fun u e G3 H3 x3 da3 f3 => ?k2)
    case k2 => exact k u e G3 H3 (x.trans W x3) da3 f3
    refine TD.imp (td_tupP (tds_consP (td_var (φ := fun e => ∃ ls, e = .tuple ls ∧ ls.length ≤ 30 ∧ ∀ x ∈ ls, RowZ x) rfl da f) (tds_consP (td_tupleN (td_lc (M := 30) (tw_draw1 rfl rfl b0 (by omega)) (fun N hN => by omega) (by decide) (fun i => td_drawn rfl rfl (hd.mono x.sub) hψ))) tds_nilP)) ?e) ?f
    case e =>
      rintro ds ⟨d, r, rfl, _, d2, r2, rfl, _, rfl⟩
      show 2 ≤ sizeLine
      decide
    case f =>
      rintro d ⟨ds, rfl, d, r, rfl, ⟨ls, rfl, l1, l2⟩, d2, r2, rfl, ⟨ps, rfl, p1, p2⟩, rfl⟩
      exact ⟨ls, ps, rfl, l1, by omega, l2, p2⟩
theorem D_l_shuffled (T : Txt K mg) : Df P w K mg base 2 "_law_shuffled" ["deck", "items"] (spShuf K) := by
  have D_l_draw := D_draw (P := P) (w := w) (base := base) T
  obtain ⟨f, fd, S⟩ := T.d_l_shuffled
  refine Df.mk' (k := 1) S sc_l_shuffled (fun vs H Q E h => ?_) (fun cdv A outer s H vs Q E hgd hr h => ?_)
  · obtain ⟨p, l, G, a, ws, rfl, _⟩ := h
    rfl
  · obtain ⟨p, l, G, a, ws, rfl, W, aL, lw, wp, k⟩ := h
    have line5 : (5000 : Nat) ≤ sizeLine := by decide
    refine ⟨_, (pss_cons (ps_par (i := 2) (j := 3) (by rfl) sc_l_shuffled.nd rfl rfl (by decide) rfl rfl (pa_cons (pe_callTy call_list_of (by rfl) T.b_list (by decide +kernel) (pa_cons (pv 1) pa_nil)) (pa_cons (pe_lst pa_nil) pa_nil)) (by rfl))
      (pss_cons (ps_while PassesOwn.never (pt_cmpR (op_neD hr.units) (pv 2) (pe_lst pa_nil) (nomark _)) (pss_one (ps_expr (pe_bm PySem.F.plainAttrs_list PySem.F.slot_list_append PySem.F.type_list_append mt_append (pv 3) (pa_cons (pe_bm PySem.F.plainAttrs_list PySem.F.slot_list_pop PySem.F.type_list_pop mt_popAt (pv 2) (pa_cons (pe_d D_l_draw hgd hr (pa_cons (pv 0) (pa_cons (pe_callB call_len_seq (by rfl) T.b_len (by decide +kernel) (pa_cons (pv 2) pa_nil)) pa_nil))) pa_nil)) pa_nil)))))
      (pss_one (ps_ret (pv 3))))), ?_⟩
    refine ⟨_, rfl, a, ws.map V.str, rfl, .inl (W.same.seq aL), fun q hq => ⟨Nat.zero_le _, fun r hr' => ⟨_, _, rfl, ?_⟩⟩⟩
    have nqr : q ≠ r := fun e => by
      rw [← e, upd_same] at hr'
      cases hr'
    have e1 := W.tmp (o := .lst (ws.map V.str)) hq
    have e2 := e1.w.tmp (o := .lst []) hr'
    have qp := W.np hq
    have ql := W.nl hq
    have rp := e1.w.np hr'
    have rl := e1.w.nl hr'
    have gq : G q = none := W.same.free hq
    have gr : G r = none := e1.w.same.free hr'
    have E2 := e1.trans W e2
    have q2 : (upd (upd H q (.lst (ws.map V.str))) r (.lst [])) q = some (.lst (ws.map V.str)) := by rw [upd_ne nqr, upd_same]
    have r2 : (upd (upd H q (.lst (ws.map V.str))) r (.lst [])) r = some (.lst (([] : List Str).map V.str)) := upd_same
    generalize upd (upd H q (.lst (ws.map V.str))) r (.lst []) = H2 at E2 q2 r2 ⊢
    refine ⟨fun m σ H3 => σ = [some (.ref p), some (.ref a), some (.ref q), some (.ref r)] ∧ ∃ xs ys : List Str, m = xs.length ∧ xs.length + ys.length = ws.length ∧ (∀ x ∈ xs, x ∈ w_pool) ∧ (∀ x ∈ ys, x ∈ w_pool) ∧ Ext p l G H G H3 ∧ H3 q = some (.lst (xs.map V.str)) ∧ H3 r = some (.lst (ys.map V.str)),
      ⟨ws.length, rfl, ws, [], rfl, by rw [List.length_nil]; rfl, wp, fun x m => absurd m List.not_mem_nil, E2, q2, r2⟩, ?_⟩
    rintro m σ H3 ⟨rfl, xs, ys, rfl, lxy, px, py, E3, q3, r3⟩
    refine ⟨_, rfl, Nat.zero_le _, fun t ht => ?_⟩
    have nqt : q ≠ t := fun e => by
      rw [← e, q3] at ht
      cases ht
    have nrt : r ≠ t := fun e => by
      rw [← e, r3] at ht
      cases ht
    have E4 := E3.trans W (E3.w.tmp (o := .lst []) ht)
    have q4 : (upd H3 t (.lst [])) q = some (.lst (xs.map V.str)) := by rw [upd_ne nqt]; exact q3
    have r4 : (upd H3 t (.lst [])) r = some (.lst (ys.map V.str)) := by rw [upd_ne nrt]; exact r3
    refine ⟨.list (xs.map PyData.str), .list [], .lst (SqL.of q4) (dp_strs xs), .lst (SqL.of upd_same) .nil, shaped_strs xs px, rfl, _, rfl, ?_⟩
    rw [eqv_nilS]
    generalize upd H3 t (.lst []) = H4 at E4 q4 r4 ⊢
    refine iteNot (fun hn => ?_) (fun hn => ?_)
    · have ne : xs ≠ [] := of_decide_eq_false hn
      have pos : 0 < xs.length := List.length_pos_iff.mpr ne
      refine ⟨fun σ H5 => σ = [some (.ref p), some (.ref a), some (.ref q), some (.ref r)] ∧ ∃ xs2 ys2 : List Str, xs2.length < xs.length ∧ xs2.length + ys2.length = ws.length ∧ (∀ x ∈ xs2, x ∈ w_pool) ∧ (∀ x ∈ ys2, x ∈ w_pool) ∧ Ext p l G H G H5 ∧ H5 q = some (.lst (xs2.map V.str)) ∧ H5 r = some (.lst (ys2.map V.str)),
        fun σ H5 ⟨e, xs2, ys2, lt, h⟩ => ⟨xs2.length, lt, e, xs2, ys2, rfl, h⟩, ?_⟩
      refine ⟨_, rfl, .inl ⟨rfl, _, SqL.of r4⟩, _, rfl, .inl ⟨rfl, _, SqL.of q4⟩, _, rfl, _, rfl, q, xs.map V.str, rfl, .inl (SqL.of q4), p, l, G, _, rfl, by rw [List.length_map]; omega, by rw [List.length_map]; omega, E4.w, fun d H5 d0 d1 e5 => ?_⟩
      rw [List.length_map] at d1
      have dn : d.toNat < xs.length := by omega
      have q5 := e5.keep _ _ qp ql q4
      have r5 := e5.keep _ _ rp rl r4
      refine ⟨q, xs.map V.str, d, d.toNat, .str xs[d.toNat], rfl, rfl, q5, by omega, by omega, ?_, by rw [List.getElem?_map, List.getElem?_eq_getElem dn]; rfl, ?_⟩
      · rw [List.length_map]
        have d2 : ¬ d < 0 := by omega
        simp [seqIndex?, d2, d0, d1]
      · have E5 := (E4.trans W e5)
        have W6 := E5.w.own (o := .lst ((xs.map V.str).eraseIdx d.toNat)) qp ql gq
        refine ⟨r, ys.map V.str, _, rfl, rfl, by rw [upd_ne nqr.symm]; exact r5, by rw [List.length_map]; omega, rfl, xs.eraseIdx d.toNat, ys ++ [xs[d.toNat]], ?_, ?_, fun x m => px x (List.mem_of_mem_eraseIdx m), fun x m => ?_, ?_, ?_, ?_⟩
        · rw [List.length_eraseIdx_of_lt dn]
          omega
        · rw [List.length_eraseIdx_of_lt dn, List.length_append, List.length_singleton]
          omega
        · rcases List.mem_append.mp m with m | m
          · exact py x m
          · rw [List.mem_singleton.mp m]
            exact px _ (List.getElem_mem dn)
        · refine ⟨W6.own rp rl gr, Same.refl G, fun b o n1 n2 hb => ?_, fun b o hb g => g⟩
          have nbq : b ≠ q := ne_of_none hb hq
          have nbr : b ≠ r := ne_of_none hb (by
            cases z : H r with
            | none => rfl
            | some o2 =>
              rw [upd_ne nqr.symm, z] at hr'
              cases hr')
          rw [upd_ne nbr, upd_ne nbq]
          exact E5.keep b o n1 n2 hb
        · rw [upd_ne nqr, upd_same, erase_strs]
        · rw [upd_same, List.map_append]
          rfl
    · have ne : xs = [] := of_decide_eq_true hn
      subst ne
      exact ⟨_, rfl, k r ys H4 E4 rp rl r4 (by simpa using lxy) py⟩
end
end L2.Hx

/-! The law of names. -/
namespace L2.Hx
open PySem PySem.Spec PyProof.Rows
def spLaw (K : PySem.W.Frag) : Sp := fun vs H Q _ => ∃ (a : Addr) (ns : List Int), vs = [.ref a] ∧ SqL K H a (ns.map V.int) ∧ ns.length ≤ 63 ∧ ∀ H', Q (.bl true) H'
/-- a tuple of at most m such -/
def TpP (ψ : PyData → Prop) (m : Nat) (d : PyData) : Prop := ∃ ds, d = .tuple ds ∧ ds.length ≤ m ∧ ∀ x ∈ ds, ψ x
section
variable {K : PySem.W.Frag} {p l : Addr} {σ : St} {G : Hp} {ψ : PyData → Prop} {ta tb : TE}
theorem td_repP {c : Int} (ha : TD K p l σ G ta (fun e => ∃ x, e = .tuple [x] ∧ ψ x)) (h2 : 2 ≤ c := by decide) (h3 : c ≤ 1000 := by decide) : TD K p l σ G (tOp (rRepT K) ta (tC (.int c))) (TpP ψ c.toNat) := fun G1 H Q W s k =>
  ha G1 H _ W s fun v d G2 H2 e da f => by
    obtain ⟨x, rfl, o1⟩ := f
    obtain ⟨a, xs, rfl, t1, a1⟩ := da.tupI
    have l1 : xs.length = 1 := a1.length
    refine ⟨a, c, xs, rfl, rfl, sameT e.w.same t1, fun z => ?_, h2, h3, by omega, fun q hq => ?_⟩
    · rw [z] at l1
      cases l1
    · have e4 := e.w.put (o := .tup (List.replicate c.toNat xs).flatten) hq
      refine k _ _ _ _ (e.trans W e4) (.tup (SqT.of upd_same) ((DaAll.flat a1 c.toNat).mono e4.sub)) ⟨_, rfl, ?_, fun z mz => ?_⟩
      · rw [PyProof.Rows.lm_len_rep_flat]
        show c.toNat * 1 ≤ c.toNat
        omega
      · obtain ⟨r, hr, mz⟩ := List.mem_flatten.mp mz
        rw [(List.mem_replicate.mp hr).2] at mz
        rw [List.mem_singleton.mp mz]
        exact o1
theorem td_catP {m n : Nat} (ha : TD K p l σ G ta (TpP ψ m)) (hb : TD K p l σ G tb (TpP ψ n)) (hz : m + n ≤ sizeLine := by decide) : TD K p l σ G (tOp (rCatA K) ta tb) (TpP ψ (m + n)) := fun G1 H Q W s k =>
  ha G1 H _ W s fun v d G2 H2 e da f => hb G2 H2 _ e.w (s.trans e.sub) fun u d2 G3 H3 e3 da3 f3 => by
    obtain ⟨ds, rfl, l1, o1⟩ := f
    obtain ⟨es, rfl, l2, o2⟩ := f3
    obtain ⟨a, xs, rfl, t1, a1⟩ := da.tupI
    obtain ⟨b, ys, rfl, t2, a2⟩ := da3.tupI
    have E := e.trans W e3
    refine ⟨a, b, xs, ys, rfl, rfl, sameT (e3.sub.trans e3.w.same) t1, sameT e3.w.same t2, by rw [a1.length, a2.length]; omega, fun _ => ?_, fun _ _ => ?_, fun _ _ c hc => ?_⟩
    · exact k _ _ _ _ E da3 ⟨es, rfl, by omega, o2⟩
    · exact k _ _ _ _ E (da.mono e3.sub) ⟨ds, rfl, by omega, o1⟩
    · have e4 := e3.w.put (o := .tup (xs ++ ys)) hc
      refine k _ _ _ _ (E.trans W e4) (.tup (SqT.of upd_same) ((a1.mono (e3.sub.trans e4.sub)).append (a2.mono e4.sub))) ⟨ds ++ es, rfl, by rw [List.length_append]; omega, fun x mx => ?_⟩
      exact (List.mem_append.mp mx).elim (o1 x) (o2 x)
theorem td_oneP (h : TD K p l σ G ta ψ) : TD K p l σ G (tTup (tCons ta tNil)) (fun e => ∃ x, e = .tuple [x] ∧ ψ x) :=
  (td_tupP (tds_consP h tds_nilP) (by
    rintro ds ⟨d, r, rfl, _, rfl⟩
    show 1 ≤ sizeLine
    decide)).imp (by
    rintro e ⟨ds, rfl, d, r, rfl, h, rfl⟩
    exact ⟨d, rfl, h⟩)
/-- ((), ()) -/
theorem td_bare : TD K p l σ G (tTup (tCons (tTup tNil) (tCons (tTup tNil) tNil))) ClauseZ :=
  (td_tupP (tds_consP (td_tup0 (k := 0) (n := 0)) (tds_consP (td_tup0 (k := 0) (n := 0)) tds_nilP)) (by
    rintro ds ⟨d, r, rfl, _, d2, r2, rfl, _, rfl⟩
    show 2 ≤ sizeLine
    decide)).imp (by
    rintro e ⟨ds, rfl, d, r, rfl, ⟨x1, rfl, h1, _⟩, d2, r2, rfl, ⟨x2, rfl, h2, _⟩, rfl⟩
    cases x1 with
    | nil =>
      cases x2 with
      | nil => exact ⟨[], [], rfl, by decide, by decide, fun x m => absurd m List.not_mem_nil, fun x m => absurd m List.not_mem_nil⟩
      | cons y ys => cases h2
    | cons y ys => cases h1)
theorem say_of {m : Nat} (h : TD K p l σ G ta (TpP ClauseZ m)) (hm : m ≤ 64 := by decide) : TD K p l σ G ta SayZ := h.imp fun d ⟨ds, e, l1, o⟩ => ⟨ds, e, Nat.le_trans l1 hm, o⟩
theorem say_one (h : TD K p l σ G ta ClauseZ) : TD K p l σ G (tTup (tCons ta tNil)) SayZ := (td_oneP h).imp fun d ⟨x, e, o⟩ => ⟨[x], e, by show 1 ≤ 64; decide, fun y m => by rw [List.mem_singleton.mp m]; exact o⟩
theorem right_run {H : Hp} {Q : VK} (ha : TD K p l σ G ta SayZ) (hb : ∀ (H : Hp) (Q : VK), (∀ b, Q (.bl b) H) → tb σ H Q) (W : Wd p l G H) (k : ∀ G2 H2, Ext p l G H G2 H2 → Q (.bl true) H2) :
    tCall (spRight K) [] E0 (tCons ta (tCons tb tNil)) σ H Q :=
  ha G H _ W (Same.refl G) fun v d G2 H2 e da f => hb H2 _ fun b => ⟨v, d, b, rfl, da.mono e.w.same, f, fun H3 s3 => k G2 H3 (e.trans W (e.w.still s3))⟩
theorem right_bad {H : Hp} {D : Ends} (ha : TD K p l σ G ta SayZ) (hb : ∀ (H : Hp) (Q : VK), (∀ b, Q (.bl b) H) → tb σ H Q) (W : Wd p l G H) (k : ∀ G2 H2, Ext p l G H G2 H2 → D.nx σ H2) :
    tIfS (tNot (tB (tCall (spRight K) [] E0 (tCons ta (tCons tb tNil))))) (tRet (tC (.bl false))) tNext D σ H :=
  right_run ha hb W fun G2 H2 e => ⟨true, rfl, k G2 H2 e⟩
theorem right_or {tc td : TE} {H : Hp} {D : Ends} (ha : TD K p l σ G ta SayZ) (hb : ∀ (H : Hp) (Q : VK), (∀ b, Q (.bl b) H) → tb σ H Q) (hc : TD K p l σ G tc SayZ) (hd : ∀ (H : Hp) (Q : VK), (∀ b, Q (.bl b) H) → td σ H Q)
    (W : Wd p l G H) (k : ∀ G2 H2, Ext p l G H G2 H2 → D.nx σ H2) :
    tIfS (tOr (tNot (tB (tCall (spRight K) [] E0 (tCons ta (tCons tb tNil))))) (tNot (tB (tCall (spRight K) [] E0 (tCons tc (tCons td tNil)))))) (tRet (tC (.bl false))) tNext D σ H :=
  right_run ha hb W fun G2 H2 e => ⟨true, rfl, hc G2 H2 _ e.w e.sub fun v d G3 H3 e3 da f => hd H3 _ fun b => ⟨v, d, b, rfl, da.mono e3.w.same, f, fun H4 s4 => ⟨true, rfl, k G3 H4 ((e.trans W e3).trans W (e3.w.still s4))⟩⟩⟩
theorem td_clauseZ {i j : Nat} {v : V} {d : PyData} (hd : σ[i]? = some (some (.ref p))) (hv : σ[j]? = some (some v)) (da : Da K G v d) (hψ : LsP TermZ d) :
    TD K p l σ G (tCall (spClause K) [] E0 (tCons (tVar i) (tCons (tVar j) (tCons (tC (.int 3)) (tCons (tC (.int 3)) tNil))))) ClauseZ := fun G1 H Q W s kk =>
  ⟨_, hd, _, hv, p, l, G1, v, d, 3, 3, rfl, W, da.mono s, hψ, by decide, by decide, by decide, by decide, kk⟩
end
theorem six {x : V} (h : x ∈ [V.int 1, .int 1, .int 2, .int 3, .int 6, .int 12]) : ∃ m : Int, x = .int m ∧ 1 ≤ m ∧ m ≤ 12 := by
  simp only [List.mem_cons, List.not_mem_nil, or_false] at h
  rcases h with rfl | rfl | rfl | rfl | rfl | rfl
  all_goals exact ⟨_, rfl, by decide, by decide⟩
theorem head_strs (ys : List Str) (z : Int) (h0 : 0 ≤ z) : cutV (ys.map V.str) none (some (1 + z)) = (ys.take (1 + z).toNat).map V.str := by
  have h1 : ¬ (1 + z < 0) := by omega
  unfold cutV
  simp only [HT.sIx, List.length_map, h1, if_false, List.drop_zero, Nat.sub_zero, List.map_take]
  rw [← List.map_take, ← List.map_take]
  congr 1
  rw [← List.length_map (f := V.str) (as := ys)]
  simp [List.take_eq_take_iff]
theorem lsP_strs {ys : List Str} (hp : ∀ x ∈ ys, x ∈ w_pool) (h0 : 0 < ys.length) (h1 : ys.length < 1000000) : LsP TermZ (.list (ys.map PyData.str)) :=
  ⟨_, rfl, by rw [List.length_map]; exact h0, by rw [List.length_map]; exact h1, fun x m => by
    obtain ⟨z, mz, rfl⟩ := List.mem_map.mp m
    exact ⟨z, rfl, hp z mz⟩⟩
section
variable {P : Program} {w : World} {K : PySem.W.Frag} {mg : Str → Option Value} {base : Heap}
theorem D_law (T : Txt K mg) : DfS P w K mg base 5 "law" s_law ["script"] (spLaw K) := by
  have D_l_deck := D_deck (P := P) (w := w) (base := base) T
  have D_l_draw := D_draw (P := P) (w := w) (base := base) T
  have D_l_pick := D_pick (P := P) (w := w) (base := base) T
  have D_l_shuffled := D_l_shuffled (P := P) (w := w) (base := base) T
  have D_l_look := D_l_look (P := P) (w := w) (base := base) T
  have D_l_part := D_l_part (P := P) (w := w) (base := base) T
  have D_l_clause := D_l_clause (P := P) (w := w) (base := base) T
  have D_l_is_right := D_l_is_right (P := P) (w := w) (base := base) T
  obtain ⟨f, fd, S⟩ := T.d_law
  refine DfS.mk' (k := 4) S sc_law (fun vs H Q E h => ?_) (fun cdv A outer s H vs Q E hgd hr h => ?_)
  · obtain ⟨a, ns, rfl, _⟩ := h
    rfl
  · obtain ⟨a, ns, rfl, hS, hz, k⟩ := h
    refine ⟨_, (pss_cons (ps_set (i := 1) sc_law.nd rfl (.inr rfl) (pe_d D_l_deck hgd hr (pa_cons (pv 0) pa_nil)))
      (pss_cons (ps_set (i := 2) sc_law.nd rfl (.inr rfl) (pe_lst (pa_cons pe_str (pa_cons pe_str (pa_cons pe_str (pa_cons pe_str (pa_cons pe_str (pa_cons pe_str (pa_cons pe_str (pa_cons pe_str (pa_cons pe_str (pa_cons pe_str (pa_cons pe_str pa_nil)))))))))))))
      (pss_cons (ps_for PassesOwn.never rfl (pi_range1 rfl T.b_range (pa_cons pe_int pa_nil)) (pg_name (i := 3) sc_law.nd rfl (.inl rfl))
      (pss_cons (ps_set (i := 4) sc_law.nd rfl (.inr rfl) (pe_slice sl_list (pe_d D_l_shuffled hgd hr (pa_cons (pv 1) (pa_cons (pv 2) pa_nil))) po_none (po_some (pe_op op_add pe_int (pe_d D_l_draw hgd hr (pa_cons (pv 1) (pa_cons pe_int pa_nil)))))))
      (pss_cons (ps_set (i := 5) sc_law.nd rfl (.inl rfl) (pe_d D_l_pick hgd hr (pa_cons (pv 1) (pa_cons (pe_lst (pa_cons pe_int (pa_cons pe_int (pa_cons pe_int (pa_cons pe_int (pa_cons pe_int (pa_cons pe_int pa_nil))))))) pa_nil))))
      (pss_cons (ps_set (i := 6) sc_law.nd rfl (.inl rfl) (pe_callTy call_tuple_of (by rfl) T.b_tuple (by decide +kernel) (pa_cons (pe_lc (own := [("spot", 7)]) (g := gName 7) (tt := tYes) rfl sc_law.nd (pi_range1 rfl T.b_range (pa_cons (pv 5) pa_nil)) (blkOk_by (own := [("spot", 7)]) (N := ["script", "deck", "pool", "turn", "terms", "many", "saying", "spot", "wide"]) (sc := defScope s_law) (by decide +kernel)) (fun _ _ _ _ _ => pg_name (i := 7) sc_law.nd rfl (.inl rfl)) (fun _ _ _ _ _ => pts_nil) (fun _ _ _ _ _ => (pe_d D_l_clause hgd hr (pa_cons (pv 1) (pa_cons (pv 4) (pa_cons pe_int (pa_cons pe_int pa_nil))))))) pa_nil)))
      (pss_one (ps_if (pt_not (pt_val (pe_d D_l_is_right hgd hr (pa_cons (pv 6) (pa_cons (pe_cmpR op_eq (pe_op op_mod (pv 3) pe_int) pe_int (nomark _)) pa_nil))))) (pss_one (ps_ret pe_bl)) pss_nil))))))
      (pss_cons (ps_set (i := 8) sc_law.nd rfl (.inl rfl) (pe_tup (pa_cons (pe_callTy call_tuple_of (by rfl) T.b_tuple (by decide +kernel) (pa_cons (pe_lc (own := [("spot", 7)]) (g := gName 7) (tt := tYes) rfl sc_law.nd (pi_range1 rfl T.b_range (pa_cons pe_int pa_nil)) (blkOk_by (own := [("spot", 7)]) (N := ["script", "deck", "pool", "turn", "terms", "many", "saying", "spot", "wide"]) (sc := defScope s_law) (by decide +kernel)) (fun _ _ _ _ _ => pg_name (i := 7) sc_law.nd rfl (.inl rfl)) (fun _ _ _ _ _ => pts_nil) (fun _ _ _ _ _ => (pe_d D_l_look hgd hr (pa_cons (pv 1) (pa_cons (pv 2) pa_nil))))) pa_nil)) (pa_cons (pe_callTy call_tuple_of (by rfl) T.b_tuple (by decide +kernel) (pa_cons (pe_lc (own := [("spot", 7)]) (g := gName 7) (tt := tYes) rfl sc_law.nd (pi_range1 rfl T.b_range (pa_cons pe_int pa_nil)) (blkOk_by (own := [("spot", 7)]) (N := ["script", "deck", "pool", "turn", "terms", "many", "saying", "spot", "wide"]) (sc := defScope s_law) (by decide +kernel)) (fun _ _ _ _ _ => pg_name (i := 7) sc_law.nd rfl (.inl rfl)) (fun _ _ _ _ _ => pts_nil) (fun _ _ _ _ _ => (pe_d D_l_part hgd hr (pa_cons (pv 1) (pa_cons (pv 2) pa_nil))))) pa_nil)) pa_nil))))
      (pss_cons (ps_if (PW.pt (pw_or (pt_not (pt_val (pe_d D_l_is_right hgd hr (pa_cons (pe_tup (pa_cons (pv 8) pa_nil)) (pa_cons pe_bl pa_nil))))) (pw_or1 (pt_not (pt_val (pe_d D_l_is_right hgd hr (pa_cons (pe_op op_repT (pe_tup (pa_cons (pe_tup (pa_cons (pe_tup pa_nil) (pa_cons (pe_tup pa_nil) pa_nil))) pa_nil)) pe_int) (pa_cons pe_bl pa_nil)))))))) (pss_one (ps_ret pe_bl)) pss_nil)
      (pss_cons (ps_if (pt_not (pt_val (pe_d D_l_is_right hgd hr (pa_cons (pe_op op_catA (pe_op op_repT (pe_tup (pa_cons (pe_tup (pa_cons (pe_tup pa_nil) (pa_cons (pe_tup pa_nil) pa_nil))) pa_nil)) pe_int) (pe_tup (pa_cons (pv 8) pa_nil))) (pa_cons pe_bl pa_nil))))) (pss_one (ps_ret pe_bl)) pss_nil)
      (pss_one (ps_ret (pe_or (pe_cmpR op_gt (pe_d D_l_draw hgd hr (pa_cons (pv 1) (pa_cons pe_int pa_nil))) pe_int (nomark _)) (pe_one (pe_d D_l_is_right hgd hr (pa_cons (pe_op op_repT (pe_tup (pa_cons (pv 8) pa_nil)) pe_int) (pa_cons pe_bl pa_nil))))))))))))), ?_⟩
    refine ⟨_, rfl, a, ns, rfl, hS, hz, fun p l H1 W1 => ?_⟩
    dsimp only [gName]
    refine ⟨by show 11 ≤ sizeLine; decide, fun q hq => ?_⟩
    dsimp only [gName]
    have E0' := W1.put (o := .lst (w_pool.map V.str)) hq
    have dT : Da K (upd H q (.lst (w_pool.map V.str))) (.ref q) (.list (w_pool.map PyData.str)) := .lst upd_same (da_strs _)
    have gq : (upd H q (.lst (w_pool.map V.str))) q = some (.lst (w_pool.map V.str)) := upd_same
    have W0 : Wd p l (upd H q (.lst (w_pool.map V.str))) (upd H1 q (.lst (w_pool.map V.str))) := E0'.w
    generalize upd H q (.lst (w_pool.map V.str)) = G0 at dT W0 gq
    refine ⟨14, rfl, by decide, by decide, for_range (lo := 0) (n := 14) (fun i σ H2 => ∃ o3 o4 o5 o6 o7 o8, σ = [some (.ref a), some (.ref p), some (.ref q), o3, o4, o5, o6, o7, o8] ∧ ∃ G2, Wd p l G2 H2 ∧ Same G0 G2)
      ⟨_, _, _, _, _, _, rfl, G0, W0, Same.refl _⟩ ?_ ?_⟩
    · rintro i σ H2 hi ⟨o3, o4, o5, o6, o7, o8, rfl, G2, W2, s2⟩
      dsimp only [gName, List.set]
      refine ⟨_, rfl, _, rfl, p, l, G2, q, w_pool, rfl, W2, SqL.of (s2 _ _ gq), by decide, fun x m => m, fun r ys H3 e3 rp rl r3 ly py => ?_⟩
      refine ⟨_, rfl, p, l, G2, 9, rfl, by decide, by decide, e3.w, fun z H4 z0 z1 e4 => ⟨_, _, rfl, rfl, _, rfl, r, ys.map V.str, rfl, SqL.of (e4.keep _ _ rp rl r3), fun t ht => ?_⟩⟩
      rw [head_strs ys z z0]
      have e5 := e4.w.put (o := .lst ((ys.take (1 + z).toNat).map V.str)) ht
      have E5 := (e3.trans W2 e4).trans W2 e5
      have dt : Da K (upd G2 t (.lst ((ys.take (1 + z).toNat).map V.str))) (.ref t) (.list ((ys.take (1 + z).toNat).map PyData.str)) := .lst upd_same (da_strs _)
      have ht2 : LsP TermZ (.list ((ys.take (1 + z).toNat).map PyData.str)) := by
        have ly2 : ys.length = 11 := ly
        refine lsP_strs (fun x m => py x (List.mem_of_mem_take m)) ?_ ?_
        · rw [List.length_take]
          omega
        · rw [List.length_take]
          omega
      dsimp only [gName, List.set]
      refine ⟨_, rfl, by show 6 ≤ sizeLine; decide, fun q1 h1 => ?_⟩
      have e6 := E5.w.tmp (o := .lst [V.int 1, .int 1, .int 2, .int 3, .int 6, .int 12]) h1
      refine ⟨p, l, _, q1, _, rfl, e6.w, upd_same, E5.w.np h1, E5.w.nl h1, by decide, by decide, fun m0 H7 mm e7 => ?_⟩
      obtain ⟨m, rfl, m1, m5⟩ := six mm
      have E7 := (E5.trans W2 e6).trans W2 e7
      dsimp only [gName, List.set]
      refine TD.asg (K := K) (p := p) (l := l) (φ := SayZ) ?h1 E7.w (fun v d G8 H8 e8 da f => ?k1)
      case h1 => exact TD.imp (td_tupleN (ν := fun N => (N : Int) = m) (φ := ClauseZ) (td_lc (M := 12) (tw_var rfl (by omega) (by omega)) (fun N hN => by omega) (by decide) fun i => td_clauseZ rfl rfl dt ht2)) fun d ⟨ds, e, ln, o⟩ => ⟨ds, e, by omega, o⟩
      dsimp only [gName, List.set]
      refine right_bad (G := G8) (td_var rfl da f) (fun H Q hb => ⟨_, rfl, _, _, rfl, rfl, by show (0 : Int) < 5; decide, rfl, hb _⟩) e8.w (fun G9 H9 e9 => ?_)
      exact ⟨_, _, _, _, _, _, rfl, G9, e9.w, ((s2.trans E7.sub).trans e8.sub).trans e9.sub⟩
    · rintro σ H2 ⟨o3, o4, o5, o6, o7, o8, rfl, G2, W2, s2⟩
      have dT2 := dT.mono s2
      have hT2 : LsP TermZ (.list (w_pool.map PyData.str)) := lsP_strs (fun x m => m) (by decide) (by decide)
      dsimp only
      refine TD.asg (K := K) (p := p) (l := l) (G := G2) (φ := ClauseZ) ?h2 W2 (fun v d G3 H3 e3 da f => ?k2)
      case h2 =>
        refine TD.imp (td_tupP (tds_consP (td_tupleN (td_lc (M := 30) (tw_int (by decide) (by decide)) (fun N hN => by omega) (by decide) fun i => td_drawn rfl rfl dT2 hT2))
          (tds_consP (td_tupleN (td_lc (M := 30) (tw_int (by decide) (by decide)) (fun N hN => by omega) (by decide) fun i => td_drawn rfl rfl dT2 hT2)) tds_nilP)) ?e) ?f
        case e =>
          rintro ds ⟨d, r, rfl, _, d2, r2, rfl, _, rfl⟩
          show 2 ≤ sizeLine
          decide
        case f =>
          rintro d ⟨ds, rfl, d, r, rfl, ⟨ls, rfl, l1, l2⟩, d2, r2, rfl, ⟨ps, rfl, p1, p2⟩, rfl⟩
          exact ⟨ls, ps, rfl, by omega, by omega, l2, p2⟩
      dsimp only [gName, List.set]
      have wv : ∀ {G : Hp}, Same G3 G → TD K p l [some (.ref a), some (.ref p), some (.ref q), o3, o4, o5, o6, o7, some v] G (tVar 8) ClauseZ := fun s => td_var rfl (da.mono s) f
      refine right_or (G := G3) (say_one (wv (Same.refl _))) (fun H Q hb => hb _) (say_of (td_repP (td_oneP td_bare))) (fun H Q hb => hb _) e3.w (fun G4 H4 e4 => ?_)
      dsimp only
      refine right_bad (G := G4) (say_of (td_catP (td_repP (td_oneP td_bare)) ((td_oneP (wv e4.sub)).imp fun d ⟨x, e, o⟩ => (⟨[x], e, Nat.le_refl 1, fun y m => by rw [List.mem_singleton.mp m]; exact o⟩ : TpP ClauseZ 1 d)))) (fun H Q hb => hb _) e4.w (fun G5 H5 e5 => ?_)
      dsimp only
      refine ⟨_, rfl, p, l, G5, 12, rfl, by decide, by decide, e5.w, fun z H6 z0 z1 e6 => ⟨_, _, rfl, rfl, _, rfl, ?_⟩⟩
      refine iteB (fun _ => ?_) (fun _ => ?_)
      · exact k _
      · exact right_run (G := G5) (say_of (td_repP (td_oneP (wv (e4.sub.trans e5.sub))))) (fun H Q hb => hb _) e6.w fun G7 H7 e7 => k _
end
end L2.Hx

/-! The end: the row from the promise of its def. -/
namespace L2.Hx
open PySem PySem.Spec PyProof.Rows
section
variable {P : Program} {w : World} {K : PySem.W.Frag} {mg mb : Str → Option Value} {k : Nat} {f a : Addr} {fd : FuncData} {x : Str} {sp : Sp} {t0 : Shared} {us0 : List Value} {ns : List Int}
/-- what stands ahead of the call of the def -/
structure Ahead (K : PySem.W.Frag) (mg mb : Str → Option Value) (t0 : Shared) (a : Addr) (us0 : List Value) (ns : List Int) : Prop where
  kin : K.In t0.heap
  nsG : t0.heap.Ns mainGlobals mg
  nsB : t0.heap.Ns builtinsNs mb
  bb : ∀ y : Str, y ≠ "__name__" → mb y = bootBuiltins y
  lim : t0.heap.NoLimit
  gens : t0.gens = #[]
  obj : t0.heap.get? a = some { cls := .type "list", data := .seq us0.toArray }
  are : IntsAre us0 ns
  len : ns.length ≤ sizeLine
/-- what stands behind it -/
abbrev Done (t0 : Shared) : Result → Shared → Prop := fun r z => r = .ok (.ret (.bool true)) ∧ OldK t0.heap z.heap ∧ z.os = t0.os ∧ AllBare z.gens
/-- from a heap in which nothing but the script may be tracked -/
theorem Ahead.from_ {H : Hp} (Z : Ahead K mg mb t0 a us0 ns) (room : Room k callerA) (F : ∀ base : Heap, K.In base → base.Ns mainGlobals mg → FnG P w K mg base CX0 k f fd [x] sp) (bind : ∀ (s : Shared) (u : Value), BindsTo s fd ⟨[u], []⟩ [(x, u)])
    (hO : Only H) (prom : sp [.ref a] H (fun v _ => v = .bl true) fun _ _ _ => False) (ok0 : HOk P w H t0.heap) (alone : ∀ b, H b ≠ none → b = a) (notK : H a ≠ none → K.lookup a = none) :
    codeAny (model P w) callerA (.call (.ref f) ⟨[.ref a], []⟩) (Done t0) t0 := by
  have free : ∀ {b : Addr} {o : Obj} {es : Array DictEntry} {n : Nat}, t0.heap.get? b = some o → o.data = .dict es n → H b = none := fun {b o es n} e d => by
    rcases hO b with q | ⟨o2, xs, q⟩
    · exact q
    · have ea := alone b (by rw [q]; exact Option.some_ne_none _)
      rw [ea, Z.obj] at e
      cases e
      cases d
  have ns1 : ∀ {b : Addr} {m : Str → Option Value}, t0.heap.Ns b m → (hidT t0.heap H).Ns b m := fun {b m} z => by
    obtain ⟨o, es, n, e, d, r⟩ := z
    exact ⟨o, es, n, hidT_get e (free e d), d, r⟩
  have kin1 : K.In (hidT t0.heap H) := fun b o e => by
    refine hidT_get (Z.kin b o e) ?_
    rcases hO b with q | ⟨o2, xs, q⟩
    · exact q
    · have nn : H b ≠ none := by
        rw [q]
        exact Option.some_ne_none _
      have ea := alone b nn
      rw [ea] at nn e
      rw [notK nn] at e
      cases e
  have lim1 : (hidT t0.heap H).NoLimit := by
    obtain ⟨m, z1, z2⟩ := Z.lim
    exact ⟨m, ns1 z1, z2⟩
  have env : Env0 P w K mg (hidT t0.heap H) callerA [] t0 H :=
    ⟨rfl, ⟨kin1, ns1 Z.nsG, ⟨mb, ns1 Z.nsB, Z.bb⟩, lim1⟩, fun b o e => of_hidT e, Nat.le_of_eq (hidT_size _ _), trivial, fun b z => absurd (show b ∈ ([] : List Addr) from z) List.not_mem_nil, ok0, .of_eq Z.gens⟩
  refine codeAny_mono ((F _ kin1 (ns1 Z.nsG)).go callerA [] t0 H ⟨[.ref a], []⟩ [.ref a] [.ref a] _ _ rfl room env (bind t0 (.ref a)) (.cons rfl .nil) prom) fun r z h => ?_
  match r, h with
  | .ok (.ret u), h =>
    obtain ⟨v, H1, e1, e2, e3, e4, e5, e6⟩ := h
    have ev : v = .bl true := e6
    rw [ev] at e5
    have eu : u = Value.bool true := e5
    rw [eu]
    refine ⟨rfl, OldK.of_keep fun b o e => ?_, e1, e2⟩
    rcases hO b with q | ⟨o2, xs, q⟩
    · exact e3.keep b o e q (fun m => absurd (show b ∈ ([] : List Addr) from m) List.not_mem_nil) (by simp)
    · have q1 := e3.frzs b o2 _ q
      have g0 := (ok0 b _ q).1
      have g1 := (e4 b _ q1).1
      rw [e] at g0
      cases g0
      exact g1
theorem Ahead.call (Z : Ahead K mg mb t0 a us0 ns) (room : Room k callerA) (F : ∀ base : Heap, K.In base → base.Ns mainGlobals mg → FnG P w K mg base CX0 k f fd [x] sp) (bind : ∀ (s : Shared) (u : Value), BindsTo s fd ⟨[u], []⟩ [(x, u)])
    (prom : ∀ H : Hp, SqL K H a (ns.map V.int) → sp [.ref a] H (fun v _ => v = .bl true) fun _ _ _ => False) : codeAny (model P w) callerA (.call (.ref f) ⟨[.ref a], []⟩) (Done t0) t0 := by
  have vals := vals_ints Z.are
  have lens := Z.are.length
  cases own : K.lookup a with
  | some o =>
    have eo := Z.kin a o own
    rw [Z.obj] at eo
    cases eo
    refine Z.from_ (H := fun _ => none) room F bind (fun _ => .inl rfl) (prom _ (.inr ⟨_, us0.toArray, _, own, rfl, rfl, rfl, ?_, vals⟩)) (fun b u q => nomatch q) (fun b q => absurd rfl q) (fun q => absurd rfl q)
    rw [List.size_toArray, lens]
    exact Z.len
  | none =>
    refine Z.from_ (H := fun b => if b = a then some (.frz { cls := .type "list", data := .seq us0.toArray } (.lst (ns.map V.int))) else none) room F bind (fun b => ?_) (prom _ (.inl (.inr ⟨_, if_pos rfl⟩))) (fun b u q => ?_) (fun b q => ?_) (fun _ => own)
    · by_cases e : b = a
      · exact .inr ⟨_, _, if_pos e⟩
      · exact .inl (if_neg e)
    · by_cases e : b = a
      · have q1 := (if_pos e).symm.trans q
        cases q1
        rw [e]
        exact ⟨Z.obj, by rw [List.length_map]; exact Z.len, us0, _, vals, Z.obj⟩
      · have q1 := (if_neg e).symm.trans q
        cases q1
    · by_cases e : b = a
      · exact e
      · exact absurd (if_neg e) q
end
/-- the row's walk -/
theorem walkG {l : PySem.W.OpenLaw} {n k : Nat} {q : Program} {loose : List Str} {XP : (Str → Option Value) → Heap → Prop} {YP : World → Heap → Prop} {d : DefRec} {K : Params → PySem.W.Frag} {sp : PySem.W.Frag → Sp} {x : Str}
    (hn : l.most = some n) (hz : n ≤ sizeLine) (nodef : d.params.defaults = []) (room : Room k callerA) (hY : ∀ (w : World) (h : Heap), YP w h → (K w.params).In h)
    (F : ∀ (w : World) (mg : Str → Option Value) (f : Addr) (h : Heap), (K w.params).In h → h.Ns mainGlobals mg → mg d.name = some (.ref f) →
      ∃ fd : FuncData, (∀ (s : Shared) (u : Value), BindsTo s fd ⟨[u], []⟩ [(x, u)]) ∧ ∀ base : Heap, FnG l.prog w (K w.params) mg base CX0 k f fd [x] (sp (K w.params)))
    (prom : ∀ (K : PySem.W.Frag) (H : Hp) (a : Addr) (ns : List Int), ns.length ≤ n → SqL K H a (ns.map V.int) → sp K [.ref a] H (fun v _ => v = .bl true) fun _ _ _ => False) :
    PySem.W.WalkO q loose XP YP l.row.toRowW d [] (fun f vs => PySem.call f vs) := by
  refine Att.attach_call hn nodef fun w s0 t0 mg mb f o pm cd doc a us0 ns G Y _ _ _ here obj are len gens => ?_
  have kin := hY w _ Y
  obtain ⟨fd, b, FF⟩ := F w mg f _ kin G.T.g here
  have Z : Ahead (K w.params) mg mb t0 a us0 ns := ⟨kin, G.T.g, G.T.b, G.T.builtins, G.T.nolimit, gens, obj, are, Nat.le_trans len hz⟩
  exact Z.call room (fun base _ _ => FF base) b fun H hS => prom _ H a ns len hS
/-- a def of the top, where it stands -/
theorem src_of {K : PySem.W.Frag} {mg : Str → Option Value} {h : Heap} {x : Str} {st : Stmt} {ps : List Str} {f : Addr} {oc kV doc pm cdv ct : Value} {od an : Option Addr} {osl : Array (Option Value)} (X : K.In h) (G : h.Ns mainGlobals mg)
    (e1 : PySem.W.nsIn K mainGlobals x = some (some (.ref f))) (e2 : K.lookup f = some ⟨oc, od, .func (PySem.W.fnOf x x (defArgs st) (defBody st) (defScope st) .none kV doc pm an cdv ct), osl⟩) (e3 : PySem.W.codeIn K cdv x = true) (e4 : PySem.W.keepIn K (.ref f) = true)
    (hb : ∀ (kV doc pm : Value) (an : Option Addr) (cdv ct : Value) (us : List Value), us.length = ps.length → bindArgs (PySem.W.fnOf x x (defArgs st) (defBody st) (defScope st) .none kV doc pm an cdv ct) ⟨us, []⟩ = pure (ps.zip us)) : ∃ f fd, Src K mg x st ps f fd :=
  ⟨f, _, fun_mk e2 e3 e4, PySem.W.mg_of X G e1, (fun_mk e2 e3 e4).binds hb⟩
/-- a tuple of texts of the top -/
theorem tup_of {K : PySem.W.Frag} {mg : Str → Option Value} {h : Heap} {x : Str} {a : Addr} {ws : List Str} {o : Obj} {its : Array Value} {n : Nat} (X : K.In h) (G : h.Ns mainGlobals mg) (e1 : PySem.W.nsIn K mainGlobals x = some (some (.ref a))) (e2 : K.lookup a = some o)
    (e3 : o.cls = .type "tuple" ∧ o.data = .seq its n ∧ its.size ≤ sizeLine ∧ Vals (ws.map V.str) its.toList) : ∃ a, mg x = some (.ref a) ∧ ∀ H, SqT K H a (ws.map V.str) :=
  ⟨a, PySem.W.mg_of X G e1, fun H => .inr ⟨o, its, n, e2, e3.1, e3.2.1, e3.2.2.1, e3.2.2.2⟩⟩
theorem da_walk {l : PySem.W.OpenLaw} {q : Program} {loose : List Str} {XP : (Str → Option Value) → Heap → Prop} {YP : World → Heap → Prop} {d : DefRec} {K : Params → PySem.W.Frag} (hn : l.most = some 63) (nodef : d.params.defaults = []) (nm : d.name = "law")
    (hY : ∀ (w : World) (h : Heap), YP w h → (K w.params).In h) (F : ∀ (w : World) (mg : Str → Option Value) (h : Heap), (K w.params).In h → h.Ns mainGlobals mg → Txt (K w.params) mg) : PySem.W.WalkO q loose XP YP l.row.toRowW d [] (fun f vs => PySem.call f vs) :=
  walkG (n := 63) (k := 5) (x := "script") (sp := spLaw) hn (by decide) nodef ⟨rfl, by decide, by decide⟩ hY (fun w mg f h kin G here => by
    have T := F w mg h kin G
    obtain ⟨f0, fd0, S0⟩ := T.d_law
    have e := S0.at_.symm.trans (nm ▸ here)
    cases e
    refine ⟨fd0, fun s u => ?_, fun base => ?_⟩
    · obtain ⟨oc, od, kV, doc, pm, an, cdv, ct, osl, rfl, _⟩ := S0.fn.ex
      exact .of_eq rfl
    · obtain ⟨f1, fd1, R, S1⟩ := D_law (P := l.prog) (w := w) (base := base) T
      have e1 := S1.at_.symm.trans S0.at_
      cases e1
      have e2 : fd1 = fd0 := by
        obtain ⟨oc, od, kV, doc, pm, an, cdv, ct, osl, rfl, lk, _⟩ := S0.fn.ex
        obtain ⟨oc', od', kV', doc', pm', an', cdv', ct', osl', rfl, lk', _⟩ := S1.fn.ex
        rw [lk] at lk'
        cases lk'
        rfl
      rw [← e2]
      exact R) fun K H a ns hl hS => ⟨a, ns, rfl, hS, hl, fun _ => rfl⟩
end L2.Hx

open PySem PySem.W PyProof.Rows in
set_option maxRecDepth 100000 in
set_option maxHeartbeats 0 in
theorem PySem.Challenge.cw_heldapart_k02_names_in_sayings_holds : PySem.Challenge.rw_heldapart_k02_names_in_sayings.Holds := by
  w_on; o_law; k_head; (case hw => w_witness2)
  k_fill
  refine L2.Hx.da_walk (l := PySem.Challenge.rw_heldapart_k02_names_in_sayings) rfl rfl rfl (fun w h Y => PySem.W.kIn_of Y) ?F
  case F =>
    intro w mg h KX G
    have b_abs : mg "abs" = none := by
      refine PySem.W.mg_none_of KX G ?_
      k_is
    have b_int : mg "int" = none := by
      refine PySem.W.mg_none_of KX G ?_
      k_is
    have b_len : mg "len" = none := by
      refine PySem.W.mg_none_of KX G ?_
      k_is
    have b_list : mg "list" = none := by
      refine PySem.W.mg_none_of KX G ?_
      k_is
    have b_range : mg "range" = none := by
      refine PySem.W.mg_none_of KX G ?_
      k_is
    have b_repr : mg "repr" = none := by
      refine PySem.W.mg_none_of KX G ?_
      k_is
    have b_set : mg "set" = none := by
      refine PySem.W.mg_none_of KX G ?_
      k_is
    have b_sorted : mg "sorted" = none := by
      refine PySem.W.mg_none_of KX G ?_
      k_is
    have b_tuple : mg "tuple" = none := by
      refine PySem.W.mg_none_of KX G ?_
      k_is
    have d_names_in : ∃ f fd, L2.Hx.Src (L2.KOf KX) mg "names_in" L2.Hx.s_names_in ["saying"] f fd := by
      dsimp only [L2.KOf]
      refine' L2.Hx.src_of KX G ?e1_0 ?e2_0 ?e3_0 ?e4_0 (fun _ _ _ _ _ _ us hl => match us, hl with | [_], _ => rfl)
      (case e1_0 => k_is)
      (case e2_0 => k_is)
      (case e3_0 => k_is)
      (case e4_0 => k_is)
    have d_l_deck : ∃ f fd, L2.Hx.Src (L2.KOf KX) mg "_law_deck" L2.Hx.s_l_deck ["script"] f fd := by
      dsimp only [L2.KOf]
      refine' L2.Hx.src_of KX G ?e1_1 ?e2_1 ?e3_1 ?e4_1 (fun _ _ _ _ _ _ us hl => match us, hl with | [_], _ => rfl)
      (case e1_1 => k_is)
      (case e2_1 => k_is)
      (case e3_1 => k_is)
      (case e4_1 => k_is)
    have d_l_draw : ∃ f fd, L2.Hx.Src (L2.KOf KX) mg "_law_draw" L2.Hx.s_l_draw ["deck", "many"] f fd := by
      dsimp only [L2.KOf]
      refine' L2.Hx.src_of KX G ?e1_2 ?e2_2 ?e3_2 ?e4_2 (fun _ _ _ _ _ _ us hl => match us, hl with | [_, _], _ => rfl)
      (case e1_2 => k_is)
      (case e2_2 => k_is)
      (case e3_2 => k_is)
      (case e4_2 => k_is)
    have d_l_pick : ∃ f fd, L2.Hx.Src (L2.KOf KX) mg "_law_pick" L2.Hx.s_l_pick ["deck", "items"] f fd := by
      dsimp only [L2.KOf]
      refine' L2.Hx.src_of KX G ?e1_3 ?e2_3 ?e3_3 ?e4_3 (fun _ _ _ _ _ _ us hl => match us, hl with | [_, _], _ => rfl)
      (case e1_3 => k_is)
      (case e2_3 => k_is)
      (case e3_3 => k_is)
      (case e4_3 => k_is)
    have d_l_shuffled : ∃ f fd, L2.Hx.Src (L2.KOf KX) mg "_law_shuffled" L2.Hx.s_l_shuffled ["deck", "items"] f fd := by
      dsimp only [L2.KOf]
      refine' L2.Hx.src_of KX G ?e1_4 ?e2_4 ?e3_4 ?e4_4 (fun _ _ _ _ _ _ us hl => match us, hl with | [_, _], _ => rfl)
      (case e1_4 => k_is)
      (case e2_4 => k_is)
      (case e3_4 => k_is)
      (case e4_4 => k_is)
    have d_l_look : ∃ f fd, L2.Hx.Src (L2.KOf KX) mg "_law_look" L2.Hx.s_l_look ["deck", "terms"] f fd := by
      dsimp only [L2.KOf]
      refine' L2.Hx.src_of KX G ?e1_5 ?e2_5 ?e3_5 ?e4_5 (fun _ _ _ _ _ _ us hl => match us, hl with | [_, _], _ => rfl)
      (case e1_5 => k_is)
      (case e2_5 => k_is)
      (case e3_5 => k_is)
      (case e4_5 => k_is)
    have d_l_part : ∃ f fd, L2.Hx.Src (L2.KOf KX) mg "_law_part" L2.Hx.s_l_part ["deck", "terms"] f fd := by
      dsimp only [L2.KOf]
      refine' L2.Hx.src_of KX G ?e1_6 ?e2_6 ?e3_6 ?e4_6 (fun _ _ _ _ _ _ us hl => match us, hl with | [_, _], _ => rfl)
      (case e1_6 => k_is)
      (case e2_6 => k_is)
      (case e3_6 => k_is)
      (case e4_6 => k_is)
    have d_l_clause : ∃ f fd, L2.Hx.Src (L2.KOf KX) mg "_law_clause" L2.Hx.s_l_clause ["deck", "terms", "looks", "parts"] f fd := by
      dsimp only [L2.KOf]
      refine' L2.Hx.src_of KX G ?e1_7 ?e2_7 ?e3_7 ?e4_7 (fun _ _ _ _ _ _ us hl => match us, hl with | [_, _, _, _], _ => rfl)
      (case e1_7 => k_is)
      (case e2_7 => k_is)
      (case e3_7 => k_is)
      (case e4_7 => k_is)
    have d_l_due : ∃ f fd, L2.Hx.Src (L2.KOf KX) mg "_law_due" L2.Hx.s_l_due ["saying"] f fd := by
      dsimp only [L2.KOf]
      refine' L2.Hx.src_of KX G ?e1_8 ?e2_8 ?e3_8 ?e4_8 (fun _ _ _ _ _ _ us hl => match us, hl with | [_], _ => rfl)
      (case e1_8 => k_is)
      (case e2_8 => k_is)
      (case e3_8 => k_is)
      (case e4_8 => k_is)
    have d_l_is_right : ∃ f fd, L2.Hx.Src (L2.KOf KX) mg "_law_is_right" L2.Hx.s_l_is_right ["saying", "is_named"] f fd := by
      dsimp only [L2.KOf]
      refine' L2.Hx.src_of KX G ?e1_9 ?e2_9 ?e3_9 ?e4_9 (fun _ _ _ _ _ _ us hl => match us, hl with | [_, _], _ => rfl)
      (case e1_9 => k_is)
      (case e2_9 => k_is)
      (case e3_9 => k_is)
      (case e4_9 => k_is)
    have d_law : ∃ f fd, L2.Hx.Src (L2.KOf KX) mg "law" L2.Hx.s_law ["script"] f fd := by
      dsimp only [L2.KOf]
      refine' L2.Hx.src_of KX G ?e1_10 ?e2_10 ?e3_10 ?e4_10 (fun _ _ _ _ _ _ us hl => match us, hl with | [_], _ => rfl)
      (case e1_10 => k_is)
      (case e2_10 => k_is)
      (case e3_10 => k_is)
      (case e4_10 => k_is)
    exact ⟨b_abs, b_int, b_len, b_list, b_range, b_repr, b_set, b_sorted, b_tuple, d_names_in, d_l_deck, d_l_draw, d_l_pick, d_l_shuffled, d_l_look, d_l_part, d_l_clause, d_l_due, d_l_is_right, d_law⟩

